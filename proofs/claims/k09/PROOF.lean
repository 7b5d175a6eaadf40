import PyProof.Rows.All
import Wide.All
import OpenK.AllK
import Wide.FinOn
import Lean
import PyProof.EqAt
import PyProof.EqKinds
import PyProof.TupleCall
import PySem.Challenge.RW_pointpurse_k09_deeds_written
set_option bootstrap.genMatcherCode false
set_option genSizeOf false
set_option genInjectivity false
set_option compiler.extract_closed false
set_option Elab.async false
set_option linter.all false
set_option maxRecDepth 100000
namespace _L2
open PySem PySem.Spec PyProof.Rows
noncomputable abbrev Key := Sum Int Str
noncomputable def keyIs : Key → Value → Bool
  | .inl k, v => Value.isInt k v
  | .inr x, v => Value.isStrOf x v
noncomputable def keyH (w : World) : Key → Int
  | .inl k => hashInt k
  | .inr x => hashStr w x
theorem keyIs_shape : ∀ {k : Key} {v : Value}, keyIs k v = true → (∃ i t, k = Sum.inl i ∧ v = Value.int i t) ∨ (∃ x t, k = Sum.inr x ∧ v = Value.str x t)
  | .inl i, v, h => by
    obtain ⟨t, e⟩ := Value.isInt_shape (k := i) (v := v) h
    exact .inl ⟨i, t, rfl, e⟩
  | .inr x, v, h => by
    obtain ⟨t, e⟩ := Value.isStrOf_shape (x := x) (v := v) h
    exact .inr ⟨x, t, rfl, e⟩
theorem keyIs_int (i : Int) (t : Tok) : keyIs (.inl i) (.int i t) = true := by simp [keyIs, Value.isInt]
theorem keyIs_str (x : Str) (t : Tok) : keyIs (.inr x) (.str x t) = true := by simp [keyIs, Value.isStrOf]
theorem key_ll (a b : Int) : decide ((Sum.inl a : Key) = Sum.inl b) = (a == b) := by
  by_cases e : a = b
  · subst e; simp
  · have h : ¬ (Sum.inl a : Key) = Sum.inl b := fun q => e (Sum.inl.inj q)
    rw [decide_eq_false h]
    exact (beq_eq_false_iff_ne.mpr e).symm
theorem key_rr (a b : Str) : decide ((Sum.inr a : Key) = Sum.inr b) = decide (a = b) := by
  by_cases e : a = b
  · subst e; simp
  · have h : ¬ (Sum.inr a : Key) = Sum.inr b := fun q => e (Sum.inr.inj q)
    rw [decide_eq_false h, decide_eq_false e]
theorem key_lr (a : Int) (b : Str) : decide ((Sum.inl a : Key) = Sum.inr b) = false := decide_eq_false (fun q => nomatch q)
theorem key_rl (a : Str) (b : Int) : decide ((Sum.inr a : Key) = Sum.inl b) = false := decide_eq_false (fun q => nomatch q)
noncomputable def mixKind (prog : Program) (w : World) : PySem.KeyKind prog w Key where
  is := keyIs
  hash := keyH w
  inj := fun v a b ha hb => by
    rcases keyIs_shape ha with ⟨i, t, rfl, rfl⟩ | ⟨x, t, rfl, rfl⟩
    · rcases keyIs_shape hb with ⟨j, u, rfl, e⟩ | ⟨y, u, rfl, e⟩
      · injection e with e1 _; rw [e1]
      · exact nomatch e
    · rcases keyIs_shape hb with ⟨j, u, rfl, e⟩ | ⟨y, u, rfl, e⟩
      · exact nomatch e
      · injection e with e1 _; rw [e1]
  byValue := fun k v h => by
    rcases keyIs_shape h with ⟨i, t, rfl, rfl⟩ | ⟨x, t, rfl, rfl⟩ <;> rfl
  pyHash := fun hv h => by
    rcases keyIs_shape hv with ⟨i, t, rfl, rfl⟩ | ⟨x, t, rfl, rfl⟩
    · exact wpAny_pyHash_int h
    · exact wpAny_pyHash_str h
  eqBool := fun hu hv h => by
    rcases keyIs_shape hu with ⟨i, t, rfl, rfl⟩ | ⟨x, t, rfl, rfl⟩
    · rcases keyIs_shape hv with ⟨j, u, rfl, rfl⟩ | ⟨y, u, rfl, rfl⟩
      · rw [key_ll] at h; exact wpAny_eqBool_int h
      · rw [key_lr] at h; exact SeqAt.EqAt.int_str i t y u _ _ _ _ h
    · rcases keyIs_shape hv with ⟨j, u, rfl, rfl⟩ | ⟨y, u, rfl, rfl⟩
      · rw [key_rl] at h; exact SeqAt.EqAt.str_int x t j u _ _ _ _ h
      · rw [key_rr] at h; exact wpAny_eqBool_str h
  «strs» := fun k x t v h => by
    rcases keyIs_shape h with ⟨i, u, rfl, e⟩ | ⟨y, u, rfl, e⟩
    · exact nomatch e
    · injection e with e1 _
      subst e1
      cases v <;> rfl
theorem mixKind_int (prog : Program) (w : World) (i : Int) (t : Tok) : (mixKind prog w).is (.inl i) (.int i t) = true := keyIs_int i t
theorem mixKind_str (prog : Program) (w : World) (x : Str) (t : Tok) : (mixKind prog w).is (.inr x) (.str x t) = true := keyIs_str x t
end _L2
namespace _L2
open PySem PySem.Spec PyProof.Rows
set_option genInjectivity true in
inductive V where
  | non | bl (b : Bool) | int (i : Int) | str (x : Str) | byt (b : Array UInt8) | flt (b : UInt64) | ref (a : Addr) | ty (n : String)
  deriving DecidableEq
noncomputable def RelV : V → Value → Prop
  | .non, u => u = Value.none
  | .bl b, u => u = Value.bool b
  | .int i, u => ∃ t, u = Value.int i t
  | .str x, u => ∃ t, u = Value.str x t
  | .byt b, u => ∃ t, u = Value.bytes b t
  | .flt b, u => ∃ t, u = Value.float b t
  | .ref a, u => u = Value.ref a
  | .ty n, u => u = Value.type n
noncomputable abbrev Vals : List V → List Value → Prop := Paired RelV
theorem Vals.length {xs : List V} {us : List Value} (r : Vals xs us) : xs.length = us.length := Paired.length r
theorem Vals.get : ∀ {xs : List V} {us : List Value} {i : Nat} {x : V}, Vals xs us → xs[i]? = some x → ∃ u, us[i]? = some u ∧ RelV x u
  | _, _, _, _, .nil, e => by simp at e
  | _, _, 0, _, .cons r _, e => by simp at e; subst e; exact ⟨_, rfl, r⟩
  | _, _, i + 1, x, .cons _ t, e => by
    obtain ⟨u, h1, h2⟩ := Vals.get (i := i) (x := x) t (by simpa using e)
    exact ⟨u, by simpa using h1, h2⟩
theorem Vals.set {x : V} {u : Value} (r : RelV x u) : ∀ {xs : List V} {us : List Value} (i : Nat), Vals xs us → Vals (xs.set i x) (us.set i u)
  | _, _, _, .nil => .nil
  | _, _, 0, .cons _ t => .cons r t
  | _, _, i + 1, .cons q t => .cons q (Vals.set r i t)
theorem Vals.append : ∀ {xs ys : List V} {us ws : List Value}, Vals xs us → Vals ys ws → Vals (xs ++ ys) (us ++ ws)
  | _, _, _, _, .nil, s => s
  | _, _, _, _, .cons r t, s => .cons r (Vals.append t s)
theorem Vals.take : ∀ {xs : List V} {us : List Value} (n : Nat), Vals xs us → Vals (xs.take n) (us.take n)
  | _, _, 0, _ => .nil
  | _, _, _ + 1, .nil => .nil
  | _, _, n + 1, .cons r t => .cons r (Vals.take n t)
theorem Vals.drop : ∀ {xs : List V} {us : List Value} (n : Nat), Vals xs us → Vals (xs.drop n) (us.drop n)
  | _, _, 0, r => r
  | _, _, _ + 1, .nil => .nil
  | _, _, n + 1, .cons _ t => Vals.drop n t
theorem Vals.none_of : ∀ {xs : List V} {us : List Value} {i : Nat}, Vals xs us → xs[i]? = none → us[i]? = none := fun {xs us i} r e => by
  have h1 := r.length
  have h2 : xs.length ≤ i := List.getElem?_eq_none_iff.mp e
  exact List.getElem?_eq_none_iff.mpr (by omega)
noncomputable def RelO : Option V → Option Value → Prop
  | some v, some u => RelV v u
  | none, none => True
  | _, _ => False
noncomputable def KV {κ : Type} : List (κ × V) → List (κ × Value) → Prop := Paired fun (p : κ × V) (q : κ × Value) => p.1 = q.1 ∧ RelV p.2 q.2
noncomputable def kV : Key → V
  | .inl i => .int i
  | .inr x => .str x
set_option genInjectivity true in
inductive HO where
  | lst (xs : List V)
  | tup (xs : List V)
  | dK (kvs : List (Key × V)) | dT (kvs : List (List Key × V))
  | set (S : Int → Bool) (n : Nat)
  | ins (C dx : Addr) (fs : List (Str × V))
  | own (x : Addr)
  | xd (fs : List (Str × V))
  | met (f x : Addr)
  | rng (lo hi : Int)
  | frz (o : Obj) (u : HO)
  | tbl (ps : Array Value)
  | ext (φ : Heap → Prop)
noncomputable abbrev Hp := Addr → Option HO
noncomputable def upd (H : Hp) (a : Addr) (o : HO) : Hp := fun b => if b = a then some o else H b
theorem upd_same {H : Hp} {a : Addr} {o : HO} : upd H a o a = some o := by unfold upd; rw [if_pos rfl]
theorem upd_ne {H : Hp} {a b : Addr} {o : HO} (h : b ≠ a) : upd H a o b = H b := by unfold upd; rw [if_neg h]
theorem ne_of_none {H : Hp} {a b : Addr} {o : HO} (h : H a = some o) (h' : H b = none) : a ≠ b := by
  intro e; subst e; rw [h] at h'; cases h'
section
variable (P : Program) (w : World)
noncomputable def ObjOk (H : Hp) (h : Heap) (a : Addr) : HO → Prop
  | .lst xs => xs.length ≤ sizeLine ∧ ∃ (its : List Value) (n : Nat), Vals xs its ∧ h.get? a = some { cls := .type "list", data := .seq its.toArray n }
  | .tup xs => xs.length ≤ sizeLine ∧ ∃ its : List Value, Vals xs its ∧ IsTup h a its.toArray
  | .dK kvs => kvs.length ≤ sizeLine ∧ (a == sysModules) = false ∧ ∃ vs, KV kvs vs ∧ h.DictOf (mixKind P w) a vs
  | .dT kvs => kvs.length ≤ sizeLine ∧ (a == sysModules) = false ∧ ∃ xs : List (List Key × Addr × Value),
      Paired (fun (p : List Key × V) (q : List Key × Addr × Value) => p.1 = q.1 ∧ H q.2.1 = some (.tup (p.1.map kV)) ∧ RelV p.2 q.2.2) kvs xs ∧
      ∃ o es ep, h.get? a = some o ∧ o.ExactDict ∧ o.data = .dict es ep ∧ es.toList = xs.map (entryOfKey (tupleKind (mixKind P w))) ∧ (xs.map (·.1)).Nodup
  | .set S n => h.SetOf (intKind P w) a S n
  | .ins C dx fs => H dx = some (.own a) ∧ fs.length ≤ 1000 ∧ dx ≠ a ∧ h.get? a = some (PySem.W.instObj C dx) ∧
      ∃ mA, h.Ns1 dx mA ∧ (∀ f, RelO (fs.lookup f) (mA f)) ∧ PySem.Within mA (fs.map (·.1))
  | .own _ => ∃ o, h.get? a = some o
  | .xd fs => ∃ mA, h.Ns1 a mA ∧ ∀ f, RelO (fs.lookup f) (mA f)
  | .rng lo hi => ∃ t u v, h.get? a = some { cls := .type "range", data := .fields #[.int lo t, .int hi u, .int 1 v] }
  | .frz o u => h.get? a = some o ∧ ObjOk H h a u
  | .tbl ps => h.get? a = some { cls := .none, data := .fields ps }
  | .met f x => h.get? a = some (PySem.W.methodObj (.ref f) (.ref x))
  | .ext φ => φ h ∧ (∃ o, h.get? a = some o) ∧ ∀ h1 h2 : Heap, φ h1 → (∀ o, h1.get? a = some o → h2.get? a = some o) → φ h2
noncomputable def HOk (H : Hp) (h : Heap) : Prop := ∀ a o, H a = some o → ObjOk P w H h a o
end
section
variable {P : Program} {w : World} {H H' : Hp} {h h' : Heap} {a : Addr} {o : HO}
theorem ObjOk.lt (x : ObjOk P w H h a o) : a < h.objs.size := by
  cases o with
  | lst xs => obtain ⟨_, _, _, _, e⟩ := x; exact Heap.lt_size e
  | tup xs => obtain ⟨_, _, _, p⟩ := x; exact p.lt
  | dK kvs => obtain ⟨_, _, _, _, o, _, _, e, _⟩ := x; exact Heap.lt_size e
  | dT kvs => obtain ⟨_, _, _, _, o, _, _, e, _⟩ := x; exact Heap.lt_size e
  | set S n => obtain ⟨o, _, _, _, e, _⟩ := x; exact Heap.lt_size e
  | ins C dx fs => obtain ⟨_, _, _, e, _⟩ := x; exact Heap.lt_size e
  | own y => obtain ⟨_, e⟩ := x; exact Heap.lt_size e
  | xd fs => obtain ⟨_, ⟨_, _, _, e, _⟩, _⟩ := x; exact Heap.lt_size e
  | rng lo hi => obtain ⟨_, _, _, e⟩ := x; exact Heap.lt_size e
  | frz ob u => obtain ⟨e, _⟩ := x; exact Heap.lt_size e
  | tbl ps => exact Heap.lt_size (show h.get? a = some _ from x)
  | met f y => exact Heap.lt_size (show h.get? a = some _ from x)
  | ext φ => obtain ⟨_, ⟨_, e⟩, _⟩ := x; exact Heap.lt_size e
theorem Paired.mapP {α β : Type} {F G : α → β → Prop} : ∀ {l₁ : List α} {l₂ : List β}, Paired F l₁ l₂ → (∀ a b, F a b → G a b) → Paired G l₁ l₂
  | _, _, .nil, _ => .nil
  | _, _, .cons r t, f => .cons (f _ _ r) (Paired.mapP t f)
theorem ObjOk.stay (x : ObjOk P w H h a o) (k : ∀ b u, (b = a ∨ H b = some (.own a)) → h.get? b = some u → h'.get? b = some u)
    (ho : ∀ b, H b = some (.own a) → H' b = some (.own a)) (ht : ∀ b xs, H b = some (.tup xs) → H' b = some (.tup xs)) : ObjOk P w H' h' a o := by
  induction o with
  | lst xs => obtain ⟨z, its, n, r, e⟩ := x; exact ⟨z, its, n, r, k _ _ (.inl rfl) e⟩
  | tup xs => obtain ⟨z, its, r, ob, e, c⟩ := x; exact ⟨z, its, r, ob, k _ _ (.inl rfl) e, c⟩
  | dK kvs => obtain ⟨z, y, vs, r, ob, es, ep, e, c⟩ := x; exact ⟨z, y, vs, r, ob, es, ep, k _ _ (.inl rfl) e, c⟩
  | dT kvs =>
    obtain ⟨z, y, xs, r, ob, es, ep, e, c⟩ := x
    exact ⟨z, y, xs, Paired.mapP r fun p q z => ⟨z.1, ht _ _ z.2.1, z.2.2⟩, ob, es, ep, k _ _ (.inl rfl) e, c⟩
  | set S n => obtain ⟨ob, es, ep, t, e, c⟩ := x; exact ⟨ob, es, ep, t, k _ _ (.inl rfl) e, c⟩
  | ins C dx fs =>
    obtain ⟨d, z, ne, e, mA, ⟨od, es, ep, e2, c⟩, r⟩ := x
    exact ⟨ho _ d, z, ne, k _ _ (.inl rfl) e, mA, ⟨od, es, ep, k _ _ (.inr d) e2, c⟩, r⟩
  | own y => obtain ⟨ob, e⟩ := x; exact ⟨ob, k _ _ (.inl rfl) e⟩
  | xd fs => obtain ⟨mA, ⟨od, es, ep, e, c⟩, r⟩ := x; exact ⟨mA, ⟨od, es, ep, k _ _ (.inl rfl) e, c⟩, r⟩
  | rng lo hi => obtain ⟨t, u, v, e⟩ := x; exact ⟨t, u, v, k _ _ (.inl rfl) e⟩
  | frz ob u ih => obtain ⟨e, q⟩ := x; exact ⟨k _ _ (.inl rfl) e, ih q⟩
  | tbl ps =>
    have e : h.get? a = some { cls := .none, data := .fields ps } := x
    show h'.get? a = some { cls := .none, data := .fields ps }
    exact k a _ (.inl rfl) e
  | met f y =>
    have e : h.get? a = some (PySem.W.methodObj (.ref f) (.ref y)) := x
    show h'.get? a = some (PySem.W.methodObj (.ref f) (.ref y))
    exact k a _ (.inl rfl) e
  | ext φ => obtain ⟨p, ⟨o, e⟩, st⟩ := x; exact ⟨st _ _ p fun o q => k _ _ (.inl rfl) q, ⟨o, k _ _ (.inl rfl) e⟩, st⟩
theorem HOk.lt (x : HOk P w H h) (e : H a = some o) : a < h.objs.size := (x a o e).lt
theorem HOk.fresh (x : HOk P w H h) (e : h.objs.size ≤ a) : H a = none := by
  cases q : H a with
  | none => rfl
  | some u => exact absurd (Nat.lt_of_lt_of_le (x.lt q) e) (Nat.lt_irrefl _)
theorem HOk.kept (x : HOk P w H h) (k : ∀ b u, h.get? b = some u → h'.get? b = some u) : HOk P w H h' := fun a o e =>
  (x a o e).stay (fun b u _ q => k b u q) (fun _ q => q) fun _ _ q => q
theorem HOk.laid (x : HOk P w H h) (k : ∀ b u, h.get? b = some u → h'.get? b = some u) (hp : h.objs.size ≤ a) (new : ObjOk P w (upd H a o) h' a o) : HOk P w (upd H a o) h' := fun b u e => by
  have hn := x.fresh hp
  by_cases hb : b = a
  · subst hb; rw [upd_same] at e; cases e; exact new
  · rw [upd_ne hb] at e
    exact (x b u e).stay (fun c v _ q => k c v q) (fun c q => by rw [upd_ne (ne_of_none q hn)]; exact q) fun c xs q => by rw [upd_ne (ne_of_none q hn)]; exact q
end
noncomputable def Rd (H : Hp) (a : Addr) (u : HO) : Prop := H a = some u ∨ ∃ o, H a = some (.frz o u)
theorem Rd.of {H : Hp} {a : Addr} {u : HO} (h : H a = some u) : Rd H a u := .inl h
theorem Rd.ok {P : Program} {w : World} {H : Hp} {h : Heap} {a : Addr} {u : HO} (r : Rd H a u) (x : HOk P w H h) : ObjOk P w H h a u := by
  rcases r with r | ⟨o, r⟩
  · exact x a u r
  · obtain ⟨_, q⟩ := x a _ r
    exact q
noncomputable def Mut : Option HO → Prop
  | some (.lst _) => True
  | some (.dK _) => True
  | some (.dT _) => True
  | some (.set _ _) => True
  | some (.ins _ _ _) => True
  | some (.ext _) => True
  | _ => False
section
variable {P : Program} {w : World} {H : Hp} {h h' : Heap} {x e : Addr} {o' : HO}
theorem HOk.write (ok : HOk P w H h) (mu : Mut (H x)) (he : e = x ∨ H e = some (.own x)) (k : ∀ b u, b ≠ e → h.get? b = some u → h'.get? b = some u) (heo : ∃ u, h'.get? e = some u)
    (new : ObjOk P w (upd H x o') h' x o') : HOk P w (upd H x o') h' := fun b u q => by
  have nown : ∀ c y, H c = some (.own y) → c ≠ x := fun c y r z => by subst z; rw [r] at mu; exact mu
  have ntup : ∀ c xs, H c = some (.tup xs) → c ≠ x := fun c xs r z => by subst z; rw [r] at mu; exact mu
  by_cases hb : b = x
  · subst hb; rw [upd_same] at q; cases q; exact new
  · rw [upd_ne hb] at q
    by_cases hbe : b = e
    · have q' : H b = some (.own x) := by
        rcases he with z | z
        · exact absurd (hbe.trans z) hb
        · rw [hbe]; exact z
      rw [q] at q'; cases q'
      obtain ⟨v, hv⟩ := heo
      exact ⟨v, by rw [hbe]; exact hv⟩
    · refine (ok b u q).stay (fun c v hc r => k c v ?_ r) (fun c r => by rw [upd_ne (nown c b r)]; exact r) fun c xs r => by rw [upd_ne (ntup c xs r)]; exact r
      rcases hc with rfl | hc
      · exact hbe
      · rintro rfl
        rcases he with z | z
        · exact nown c b hc z
        · rw [hc] at z; cases z; exact hb rfl
end
structure Un (fs ex : List Addr) (H H' : Hp) (h h' : Heap) : Prop where
  keep : ∀ b o, h.get? b = some o → H b = none → b ∉ fs → b ∉ ex → h'.get? b = some o
  slot : ∀ b o, h.get? b = some o → H b = none → b ∈ fs → b ∉ ex → ∃ sl, h'.get? b = some { o with slots := sl }
  free : ∀ b o, h.get? b = some o → H b = none → b ∉ ex → H' b = none
  there : ∀ b o, h.get? b = some o → b ∉ ex → ∃ o', h'.get? b = some o'
  tups : ∀ b xs, H b = some (.tup xs) → H' b = some (.tup xs)
  frzs : ∀ b o u, H b = some (.frz o u) → H' b = some (.frz o u)
  tbls : ∀ b ps, H b = some (.tbl ps) → ∃ more, H' b = some (.tbl (ps ++ more))
section
variable {fs fs' ex ex' : List Addr} {H H1 H2 : Hp} {h h1 h2 h' : Heap} {a x e : Addr} {o : HO}
theorem Un.any (u : Un fs ex H H1 h h1) {b : Addr} {ob : Obj} (q : h.get? b = some ob) (n : H b = none) (hx : b ∉ ex) : ∃ sl, h1.get? b = some { ob with slots := sl } := by
  by_cases hb : b ∈ fs
  · exact u.slot b ob q n hb hx
  · exact ⟨ob.slots, u.keep b ob q n hb hx⟩
theorem Un.trans (a : Un fs ex H H1 h h1) (b : Un fs ex H1 H2 h1 h2) : Un fs ex H H2 h h2 where
  keep := fun c ob q n hc hx => b.keep c ob (a.keep c ob q n hc hx) (a.free c ob q n hx) hc hx
  slot := fun c ob q n hc hx => by
    obtain ⟨sl, e1⟩ := a.slot c ob q n hc hx
    obtain ⟨sl', e2⟩ := b.slot c _ e1 (a.free c ob q n hx) hc hx
    exact ⟨sl', e2⟩
  free := fun c ob q n hx => by
    obtain ⟨o', e1⟩ := a.there c ob q hx
    exact b.free c o' e1 (a.free c ob q n hx) hx
  there := fun c ob q hx => by
    obtain ⟨o', e1⟩ := a.there c ob q hx
    exact b.there c o' e1 hx
  tups := fun c xs q => b.tups c xs (a.tups c xs q)
  frzs := fun c ob xs q => b.frzs c ob xs (a.frzs c ob xs q)
  tbls := fun c ps q => by
    obtain ⟨m1, e1⟩ := a.tbls c ps q
    obtain ⟨m2, e2⟩ := b.tbls c _ e1
    exact ⟨m1 ++ m2, by rw [e2, Array.append_assoc]⟩
theorem Un.kept (k : ∀ b u, h.get? b = some u → h'.get? b = some u) : Un fs ex H H h h' :=
  ⟨fun b ob q _ _ _ => k b ob q, fun b ob q _ _ _ => ⟨ob.slots, k b ob q⟩, fun _ _ _ n _ => n, fun b ob q _ => ⟨ob, k b ob q⟩, fun _ _ q => q, fun _ _ _ q => q, fun _ ps q => ⟨#[], by rw [q]; simp⟩⟩
theorem Un.refl : Un fs ex H H h h := Un.kept fun _ _ q => q
theorem Un.laid (k : ∀ b u, h.get? b = some u → h'.get? b = some u) (hp : h.objs.size ≤ a) (hn : H a = none) : Un fs ex H (upd H a o) h h' where
  keep := fun b u q _ _ _ => k b u q
  slot := fun b u q _ _ _ => ⟨u.slots, k b u q⟩
  free := fun b u q n _ => by rw [upd_ne (Nat.ne_of_lt (Nat.lt_of_lt_of_le (Heap.lt_size q) hp))]; exact n
  there := fun b u q _ => ⟨u, k b u q⟩
  tups := fun b xs q => by rw [upd_ne (ne_of_none q hn)]; exact q
  frzs := fun b u xs q => by rw [upd_ne (ne_of_none q hn)]; exact q
  tbls := fun b ps q => ⟨#[], by rw [upd_ne (ne_of_none q hn), q]; simp⟩
theorem Un.write (mu : Mut (H x)) (he : e = x ∨ H e = some (.own x)) (k : ∀ b u, b ≠ e → h.get? b = some u → h'.get? b = some u) (heo : ∃ u, h'.get? e = some u) : Un fs ex H (upd H x o) h h' := by
  have hx : ∀ b, H b = none → b ≠ x := fun b n z => by subst z; rw [n] at mu; exact mu
  have hb : ∀ b, H b = none → b ≠ e := fun b n z => by
    subst z
    rcases he with r | r
    · exact hx b n r
    · rw [n] at r; cases r
  have hm : ∀ b u, H b = some u → ¬ Mut (some u) → b ≠ x := fun b u q nm z => by subst z; rw [q] at mu; exact nm mu
  refine ⟨fun b u q n _ _ => k b u (hb b n) q, fun b u q n _ _ => ⟨u.slots, k b u (hb b n) q⟩, fun b u q n _ => by rw [upd_ne (hx b n)]; exact n, fun b u q _ => ?_,
    fun b xs q => by rw [upd_ne (hm b _ q fun z => z)]; exact q, fun b u xs q => by rw [upd_ne (hm b _ q fun z => z)]; exact q, fun b ps q => ⟨#[], by rw [upd_ne (hm b _ q fun z => z), q]; simp⟩⟩
  by_cases hbe : b = e
  · subst hbe; exact heo
  · exact ⟨u, k b u hbe q⟩
theorem Un.mono (u : Un fs ex H H1 h h1) (hs : ∀ b ∈ fs, b ∈ fs') (hx : ∀ b ∈ ex, b ∈ ex') : Un fs' ex' H H1 h h1 :=
  ⟨fun b ob q n hb he => u.keep b ob q n (fun z => hb (hs b z)) fun z => he (hx b z), fun _ _ q n _ he => u.any q n fun z => he (hx _ z), fun b ob q n he => u.free b ob q n fun z => he (hx b z), fun b ob q he => u.there b ob q fun z => he (hx b z), u.tups, u.frzs, u.tbls⟩
end
noncomputable def trk (h : Heap) (H : Hp) : List Addr := (List.range h.objs.size).filter fun a => (H a).isSome
noncomputable def hidT (h : Heap) (H : Hp) : Heap := PySem.W.hideAll h (trk h H)
theorem hidT_size (h : Heap) (H : Hp) : (hidT h H).objs.size = h.objs.size := PySem.W.hideAll_size _ _
theorem hidT_get {h : Heap} {H : Hp} {b : Addr} {o : Obj} (e : h.get? b = some o) (n : H b = none) : (hidT h H).get? b = some o :=
  PySem.W.hideAll_get _ e fun hm => by
    have q : (H b).isSome = true := (List.mem_filter.mp hm).2
    rw [n] at q; simp at q
theorem of_hidT {h : Heap} {H : Hp} {b : Addr} {o : Obj} (e : (hidT h H).get? b = some o) : h.get? b = some o ∧ H b = none := by
  have e' : h.get? b = some o := PySem.W.of_hideAll (trk h H) e
  refine ⟨e', ?_⟩
  cases q : H b with
  | none => rfl
  | some x =>
    have hm : b ∈ trk h H := List.mem_filter.mpr ⟨List.mem_range.mpr (Heap.lt_size e'), by simp [q]⟩
    have z : (hidT h H).get? b = none := PySem.W.hideAll_none (trk h H) hm
    rw [z] at e; cases e
noncomputable def allNews (g h : Heap) (L : Addr) : List (Addr × Obj) := (List.range h.objs.size).filterMap fun a => if a = L ∨ (g.get? a).isSome = true then none else (h.get? a).map fun o => (a, o)
noncomputable def rest (g h : Heap) (L d : Addr) : List (Addr × Obj) := (allNews g h L).filter fun p => decide (p.1 ≠ d)
end _L2
namespace _L2
open PySem PySem.Spec PyProof.Rows
structure Mod (K : PySem.W.Frag) (mg : Str → Option Value) (base : Heap) : Prop where
  kin : K.In base
  glob : base.Ns mainGlobals mg
  blt : ∃ mb, base.Ns builtinsNs mb ∧ ∀ x : Str, x ≠ "__name__" → mb x = bootBuiltins x
  nolimit : base.NoLimit
structure Cx where
  prog : Program
  w : World
  K : PySem.W.Frag
  mg : Str → Option Value
  base : Heap
  A : Around
  N : List Str
  s₀ : Shared
  H₀ : Hp
  env : Env
  outer : List Env
  stack : List Env
  ex : List Addr
  fn : Str → Bool
  calm : Bool
  pn : List (Addr × Obj)
  xe : Value → Shared → Prop
noncomputable def frs (l : List Env) : List Addr := l.filterMap (·.frame)
noncomputable abbrev Cx.fs (X : Cx) : List Addr := frs X.outer
noncomputable def Vis (sc : Scope) (x : Str) : Prop := sc.names.lookup x = some .local ∨ sc.names.lookup x = some .cell ∨ sc.names.lookup x = some .free
noncomputable def Loc (sc : Scope) (x : Str) : Prop := sc.names.lookup x = some .local ∨ sc.names.lookup x = some .cell
noncomputable def Look (env : Env) (h : Heap) (m : Str → Option Value) (x : Str) (u : Value) : Prop :=
  (env.kindOf x = some .local ∧ m x = some u) ∨ ((env.kindOf x = some .cell ∨ env.kindOf x = some .free) ∧ ∃ c, env.cells.lookup x = some c ∧ h.IsCell c (some u))
structure Cx.Ok (X : Cx) : Prop where
  mod : Mod X.K X.mg X.base
  kind : X.env.scope.kind = .function
  glob : X.env.globals = mainGlobals
  blt : X.env.builtins = builtinsNs
  above : X.s₀.heap.objs.size ≤ X.env.locals
  inj : ∀ x y c, X.env.cells.lookup x = some c → X.env.cells.lookup y = some c → x = y
  has : ∀ x, (X.env.kindOf x = some .cell ∨ X.env.kindOf x = some .free) → ∃ c, X.env.cells.lookup x = some c
  cab : ∀ x c, X.fn x = true → X.env.cells.lookup x = some c → X.s₀.heap.objs.size ≤ c
  hd : X.calm = true → X.A.handled = none
  frames : X.A.frames = some X.stack
  stk : X.stack = X.outer ∨ (X.stack = X.env :: X.outer ∧ X.env.frame = some X.env.locals)
  exf : ∀ b ∈ X.ex, b ≠ X.env.locals ∧ ∀ x c, X.env.cells.lookup x = some c → c ≠ b
  bs : ∀ b o, X.base.get? b = some o → X.s₀.heap.get? b = some o ∧ X.H₀ b = none
  bsz : X.base.objs.size ≤ X.s₀.heap.objs.size
  noex : ∀ b o, X.base.get? b = some o → b ∉ X.ex
  exfs : ∀ b ∈ X.ex, b ∉ X.fs
  funs : X.s₀.heap.FunFrames X.base X.outer
  frf : ∀ b ∈ X.fs, X.H₀ b = none
structure Inv (X : Cx) (pins : List (Addr × Obj)) (σ : List (Option V)) (H : Hp) (s : Shared) : Prop where
  ok : X.Ok
  os : s.os = X.s₀.os
  bare : AllBare s.gens
  base : Un X.fs X.ex X.H₀ H X.s₀.heap s.heap
  loc : ∃ m, s.heap.Ns X.env.locals m ∧ ∀ (i : Nat) (x : Str) (v : V), X.N[i]? = some x → σ[i]? = some (some v) → Vis X.env.scope x → ∃ u, RelV v u ∧ Look X.env s.heap m x u
  cell : ∀ x c, X.env.cells.lookup x = some c → ∃ v, s.heap.IsCell c v
  free : H X.env.locals = none
  freeC : ∀ x c, X.env.cells.lookup x = some c → H c = none
  pin : ∀ p ∈ X.pn ++ pins, s.heap.get? p.1 = some p.2 ∧ H p.1 = none ∧ p.1 ≠ X.env.locals ∧ p.1 ∉ X.fs ∧ ∀ v, p.2.data ≠ .cell v
  hok : HOk X.prog X.w H s.heap
  len : σ.length = X.N.length
section
variable {X : Cx} {pins : List (Addr × Obj)} {σ : List (Option V)} {H H' : Hp} {s : Shared} {h' : Heap}
theorem Cx.Ok.nofr (ok : X.Ok) {b : Addr} {o : Obj} (e : X.base.get? b = some o) : b ∉ X.fs := fun hb => by
  have := (ok.funs.mem hb).1
  rw [e] at this; cases this
theorem Inv.bs (I : Inv X pins σ H s) : ∀ b o, X.base.get? b = some o → s.heap.get? b = some o ∧ H b = none := fun b o e =>
  ⟨I.base.keep b o (I.ok.bs b o e).1 (I.ok.bs b o e).2 (I.ok.nofr e) (I.ok.noex b o e), I.base.free b o (I.ok.bs b o e).1 (I.ok.bs b o e).2 (I.ok.noex b o e)⟩
theorem Inv.bk (I : Inv X pins σ H s) : ∀ b o, X.base.get? b = some o → s.heap.get? b = some o := fun b o e => (I.bs b o e).1
theorem Inv.mod (I : Inv X pins σ H s) : Mod X.K X.mg X.base := I.ok.mod
theorem Inv.kIn (I : Inv X pins σ H s) : X.K.In s.heap := I.ok.mod.kin.keeps I.bk
theorem Inv.nolimit (I : Inv X pins σ H s) : s.heap.NoLimit := I.ok.mod.nolimit.keeps I.bk
theorem Inv.fr (I : Inv X pins σ H s) : ∃ m, Fr X.base X.env.locals s.heap m :=
  let ⟨m, hn, _⟩ := I.loc
  ⟨m, hn, I.bk, Nat.le_trans I.ok.bsz I.ok.above⟩
theorem Inv.lt (I : Inv X pins σ H s) : X.env.locals < s.heap.objs.size := let ⟨_, hn, _⟩ := I.loc; hn.lt
theorem Inv.sz (I : Inv X pins σ H s) : X.s₀.heap.objs.size ≤ s.heap.objs.size := Nat.le_trans I.ok.above (Nat.le_of_lt I.lt)
theorem Inv.nofs (I : Inv X pins σ H s) {a : Addr} (h : s.heap.objs.size ≤ a) : a ∉ X.fs := fun hb => by
  obtain ⟨_, o, ho, _⟩ := I.ok.funs.mem hb
  exact absurd (Nat.lt_of_lt_of_le (Heap.lt_size ho) (Nat.le_trans I.sz h)) (Nat.lt_irrefl _)
theorem Inv.cne (I : Inv X pins σ H s) : ∀ x c, X.env.cells.lookup x = some c → c ≠ X.env.locals := fun x c e z => by
  obtain ⟨v, o, ho, hd⟩ := I.cell x c e
  obtain ⟨m, ⟨o', es, ep, ho', hd', _⟩, _⟩ := I.loc
  rw [z, ho'] at ho; cases ho; rw [hd'] at hd; cases hd
theorem Inv.funs (I : Inv X pins σ H s) : s.heap.FunFrames X.base X.outer := by
  have all : ∀ (l : List Env), (∀ b ∈ frs l, b ∈ X.fs) → X.s₀.heap.FunFrames X.base l → s.heap.FunFrames X.base l := by
    intro l
    induction l with
    | nil => intro _ _; trivial
    | cons env r ih =>
      intro hs hl
      obtain ⟨hk, ⟨L, o, hf, hn, ho, hd⟩, hr⟩ := hl
      have hL : L ∈ X.fs := hs L (by unfold frs; rw [List.filterMap_cons, hf]; exact List.mem_cons_self)
      obtain ⟨sl, e⟩ := I.base.slot L o ho (I.ok.frf L hL) hL fun z => I.ok.exfs L z hL
      exact ⟨hk, ⟨L, _, hf, hn, e, hd⟩, ih (fun b hb => hs b (by unfold frs; rw [List.filterMap_cons, hf]; exact List.mem_cons_of_mem _ hb)) hr⟩
  exact all X.outer (fun _ hb => hb) I.ok.funs
theorem Inv.stack (I : Inv X pins σ H s) : s.heap.FunFrames X.base X.stack := by
  rcases I.ok.stk with e | ⟨e, hf⟩
  · rw [e]; exact I.funs
  · rw [e]
    obtain ⟨m, hn, _⟩ := I.loc
    refine .cons (by rw [I.ok.kind]; decide) hf hn ?_ I.funs
    exact Heap.get?_none_of_le (Nat.le_trans I.ok.bsz I.ok.above)
theorem Inv.stkSub (I : Inv X pins σ H s) : ∀ b ∈ frs X.stack, b ∈ X.env.locals :: X.fs := fun b hb => by
  rcases I.ok.stk with e | ⟨e, hf⟩
  · rw [e] at hb; exact List.mem_cons_of_mem _ hb
  · rw [e] at hb
    unfold frs at hb
    rw [List.filterMap_cons, hf] at hb
    exact hb
theorem Inv.stkFree (I : Inv X pins σ H s) : ∀ b ∈ frs X.stack, H b = none := fun b hb => by
  rcases List.mem_cons.mp (I.stkSub b hb) with e | hb
  · rw [e]; exact I.free
  · obtain ⟨_, o, ho, _⟩ := I.ok.funs.mem hb
    exact I.base.free b o ho (I.ok.frf b hb) fun z => I.ok.exfs b z hb
theorem Inv.step {g' : Array GenState} {t' : Nat} {d' : Drawn} {ch : List Addr} (I : Inv X pins σ H s)
    (hch : ∀ b ∈ ch, (b ∈ X.ex ∨ X.s₀.heap.objs.size ≤ b) ∧ b ≠ X.env.locals ∧ (∀ x c, X.env.cells.lookup x = some c → c ≠ b) ∧ ∀ p ∈ X.pn ++ pins, p.1 ≠ b)
    (keep : ∀ b o, b ≠ X.env.locals → b ∉ X.fs → b ∉ ch → s.heap.get? b = some o → H b = none → h'.get? b = some o)
    (slot : ∀ b o, b ≠ X.env.locals → b ∈ X.fs → b ∉ ch → s.heap.get? b = some o → H b = none → ∃ sl, h'.get? b = some { o with slots := sl }) (free : ∀ b o, b ∉ ch → s.heap.get? b = some o → H b = none → H' b = none)
    (there : ∀ b o, b ∉ ch → s.heap.get? b = some o → ∃ o', h'.get? b = some o')
    (tups : ∀ b xs, H b = some (.tup xs) → H' b = some (.tup xs)) (frzs : ∀ b o u, H b = some (.frz o u) → H' b = some (.frz o u)) (tbls : ∀ b ps, H b = some (.tbl ps) → ∃ more, H' b = some (.tbl (ps ++ more)))
    (ns : ∀ m, s.heap.Ns X.env.locals m → h'.Ns X.env.locals m) (hok : HOk X.prog X.w H' h') (hg : AllBare g') :
    Inv X pins σ H' { s with heap := h', gens := g', drawn := d', toks := t' } := by
  have neL : ∀ b o, X.s₀.heap.get? b = some o → b ≠ X.env.locals := fun b o e => Nat.ne_of_lt (Nat.lt_of_lt_of_le (Heap.lt_size e) I.ok.above)
  have neC : ∀ b o, X.s₀.heap.get? b = some o → b ∉ X.ex → b ∉ ch := fun b o e hx hb => by
    rcases (hch b hb).1 with z | z
    · exact hx z
    · exact absurd (Nat.lt_of_lt_of_le (Heap.lt_size e) z) (Nat.lt_irrefl _)
  have cellK : ∀ x c, X.env.cells.lookup x = some c → ∀ v, s.heap.IsCell c v → h'.IsCell c v := fun x c e v ⟨o, ho, hd⟩ => by
    have nch : c ∉ ch := fun z => (hch c z).2.2.1 x c e rfl
    by_cases hc : c ∈ X.fs
    · obtain ⟨sl, q⟩ := slot c o (I.cne x c e) hc nch ho (I.freeC x c e)
      exact ⟨_, q, hd⟩
    · exact ⟨o, keep c o (I.cne x c e) hc nch ho (I.freeC x c e), hd⟩
  refine ⟨I.ok, I.os, hg, ⟨fun b o e n hb hx => ?_, fun b o e n hb hx => ?_, fun b o e n hx => ?_, fun b o e hx => ?_, fun b xs e => tups b xs (I.base.tups b xs e), fun b o xs e => frzs b o xs (I.base.frzs b o xs e), fun b ps e => ?_⟩, ?_, fun x c e => ?_, ?_, fun x c e => ?_, fun p hp => ?_, hok, I.len⟩
  · exact keep b o (neL b o e) hb (neC b o e hx) (I.base.keep b o e n hb hx) (I.base.free b o e n hx)
  · obtain ⟨sl, e1⟩ := I.base.slot b o e n hb hx
    obtain ⟨sl', e2⟩ := slot b _ (neL b o e) hb (neC b o e hx) e1 (I.base.free b o e n hx)
    exact ⟨sl', e2⟩
  · obtain ⟨o', e1⟩ := I.base.there b o e hx
    exact free b o' (neC b o e hx) e1 (I.base.free b o e n hx)
  · obtain ⟨o', e1⟩ := I.base.there b o e hx
    exact there b o' (neC b o e hx) e1
  · obtain ⟨m1, e1⟩ := I.base.tbls b ps e
    obtain ⟨m2, e2⟩ := tbls b _ e1
    exact ⟨m1 ++ m2, by rw [e2, Array.append_assoc]⟩
  · obtain ⟨m, hn, hl⟩ := I.loc
    refine ⟨m, ns m hn, fun i x v e1 e2 e3 => ?_⟩
    obtain ⟨u, r, l⟩ := hl i x v e1 e2 e3
    refine ⟨u, r, ?_⟩
    rcases l with l | ⟨k, c, e, z⟩
    · exact .inl l
    · exact .inr ⟨k, c, e, cellK x c e _ z⟩
  · obtain ⟨v, z⟩ := I.cell x c e
    exact ⟨v, cellK x c e v z⟩
  · obtain ⟨m, ⟨o, _, _, ho, _⟩, _⟩ := I.loc
    exact free _ o (fun z => (hch _ z).2.1 rfl) ho I.free
  · obtain ⟨v, o, ho, hd⟩ := I.cell x c e
    exact free c o (fun z => (hch c z).2.2.1 x c e rfl) ho (I.freeC x c e)
  · obtain ⟨e, n, ne, nf, d⟩ := I.pin p hp
    have nch : p.1 ∉ ch := fun z => (hch p.1 z).2.2.2 p hp rfl
    exact ⟨keep p.1 p.2 ne nf nch e n, free p.1 p.2 nch e n, ne, nf, d⟩
theorem Inv.un {t' : Nat} (I : Inv X pins σ H s) (u : Un X.fs [] H H' s.heap h') (hok : HOk X.prog X.w H' h') : Inv X pins σ H' { s with heap := h', toks := t' } := by
  obtain ⟨m, ⟨o, es, ep, ho, r⟩, _⟩ := id I.loc
  obtain ⟨sl, hL⟩ := u.any ho I.free (by simp)
  exact I.step (g' := s.gens) (d' := s.drawn) (ch := []) (fun _ z => nomatch z) (fun b o _ hb _ e n => u.keep b o e n hb (by simp)) (fun b o _ hb _ e n => u.slot b o e n hb (by simp)) (fun b o _ e n => u.free b o e n (by simp)) (fun b o _ e => u.there b o e (by simp)) u.tups u.frzs u.tbls (fun m' hm => by
    obtain ⟨o', es', ep', ho', r'⟩ := hm
    rw [ho] at ho'; cases ho'
    exact ⟨_, es', ep', hL, r'⟩) hok I.bare
theorem Inv.call {g' : Array GenState} {t' : Nat} {d' : Drawn} {ch : List Addr} (I : Inv X pins σ H s) (u : Un (frs X.stack) ch H H' s.heap h') (hok : HOk X.prog X.w H' h') (hg : AllBare g')
    (hch : ∀ b ∈ ch, (b ∈ X.ex ∨ X.s₀.heap.objs.size ≤ b) ∧ b ≠ X.env.locals ∧ (∀ x c, X.env.cells.lookup x = some c → c ≠ b) ∧ ∀ p ∈ X.pn ++ pins, p.1 ≠ b) :
    Inv X pins σ H' { s with heap := h', gens := g', drawn := d', toks := t' } := by
  obtain ⟨m, ⟨o, es, ep, ho, r⟩, _⟩ := id I.loc
  obtain ⟨sl, hL⟩ := u.any ho I.free fun z => (hch _ z).2.1 rfl
  exact I.step (ch := ch) hch (fun b o hL hb hc e n => u.keep b o e n (fun z => (List.mem_cons.mp (I.stkSub b z)).elim hL hb) hc) (fun b o _ _ hc e n => u.any e n hc) (fun b o hc e n => u.free b o e n hc) (fun b o hc e => u.there b o e hc) u.tups u.frzs u.tbls (fun m' hm => by
    obtain ⟨o', es', ep', ho', r'⟩ := hm
    rw [ho] at ho'; cases ho'
    exact ⟨_, es', ep', hL, r'⟩) hok hg
theorem Inv.turned {t' : Nat} {it : Addr} (I : Inv X pins σ H s) (k : ∀ b o, b ≠ it → s.heap.get? b = some o → h'.get? b = some o) (hn : H it = none) (hL : it ≠ X.env.locals)
    (h1 : it ∈ X.ex ∨ X.s₀.heap.objs.size ≤ it) (h2 : ∀ x c, X.env.cells.lookup x = some c → c ≠ it) (h3 : ∀ p ∈ X.pn ++ pins, p.1 ≠ it) : Inv X pins σ H { s with heap := h', toks := t' } := by
  have nit : ∀ b u, H b = some u → b ≠ it := fun b u e z => by rw [z, hn] at e; cases e
  refine I.step (g' := s.gens) (d' := s.drawn) (ch := [it]) (fun b hb => ?_) (fun b o _ _ hc e _ => k b o (fun z => hc (by simp [z])) e) (fun b o _ _ hc e _ => ⟨o.slots, k b o (fun z => hc (by simp [z])) e⟩) (fun _ _ _ _ n => n)
    (fun b o hc e => ⟨o, k b o (fun z => hc (by simp [z])) e⟩) (fun _ _ e => e) (fun _ _ _ e => e) (fun b ps e => ⟨#[], by rw [e]; simp⟩) (fun m hm => ?_) (fun b u e => ?_) I.bare
  · have e : b = it := by simpa using hb
    subst e
    exact ⟨h1, hL, h2, h3⟩
  · obtain ⟨o, es, ep, ho, r⟩ := hm
    exact ⟨o, es, ep, k _ o (Ne.symm hL) ho, r⟩
  · refine (I.hok b u e).stay (fun c v hc q => k c v ?_ q) (fun _ q => q) fun _ _ q => q
    rcases hc with z | z
    · rw [z]; exact nit b u e
    · exact nit c _ z
theorem Inv.tok (I : Inv X pins σ H s) (t : Nat) : Inv X pins σ H { s with toks := t } := I.un (h' := s.heap) (t' := t) Un.refl I.hok
theorem Inv.kept {t' : Nat} (I : Inv X pins σ H s) (k : ∀ b u, s.heap.get? b = some u → h'.get? b = some u) : Inv X pins σ H { s with heap := h', toks := t' } := I.un (Un.kept k) (I.hok.kept k)
theorem Inv.laid {a : Addr} {o : HO} {t' : Nat} (I : Inv X pins σ H s) (k : ∀ b u, s.heap.get? b = some u → h'.get? b = some u) (hp : s.heap.objs.size ≤ a) (new : ObjOk X.prog X.w (upd H a o) h' a o) :
    Inv X pins σ (upd H a o) { s with heap := h', toks := t' } := I.un (Un.laid k hp (I.hok.fresh hp)) (I.hok.laid k hp new)
theorem Inv.write {x e : Addr} {o : HO} {t' : Nat} (I : Inv X pins σ H s) (mu : Mut (H x)) (he : e = x ∨ H e = some (.own x)) (k : ∀ b u, b ≠ e → s.heap.get? b = some u → h'.get? b = some u) (heo : ∃ u, h'.get? e = some u)
    (new : ObjOk X.prog X.w (upd H x o) h' x o) : Inv X pins σ (upd H x o) { s with heap := h', toks := t' } := I.un (Un.write mu he k heo) (I.hok.write mu he k heo new)
theorem Inv.weak {σ' : List (Option V)} (I : Inv X pins σ H s) (hl : σ'.length = σ.length) (w : ∀ (i : Nat) v, σ'[i]? = some (some v) → σ[i]? = some (some v)) : Inv X pins σ' H s :=
  ⟨I.ok, I.os, I.bare, I.base, let ⟨m, hn, hl'⟩ := I.loc; ⟨m, hn, fun i x v e1 e2 e3 => hl' i x v e1 (w i v e2) e3⟩, I.cell, I.free, I.freeC, I.pin, I.hok, hl.trans I.len⟩
theorem Inv.pins_of {pins' : List (Addr × Obj)} (I : Inv X pins σ H s) (h : ∀ p ∈ pins', s.heap.get? p.1 = some p.2 ∧ H p.1 = none ∧ p.1 ≠ X.env.locals ∧ p.1 ∉ X.fs ∧ ∀ v, p.2.data ≠ .cell v) : Inv X pins' σ H s :=
  ⟨I.ok, I.os, I.bare, I.base, I.loc, I.cell, I.free, I.freeC, fun p hp => (List.mem_append.mp hp).elim (fun z => I.pin p (List.mem_append_left _ z)) (h p), I.hok, I.len⟩
theorem nodup_ix {N : List Str} (hN : N.Nodup) {i j : Nat} {x : Str} (a : N[i]? = some x) (b : N[j]? = some x) : i = j := by
  obtain ⟨h1, e1⟩ := List.getElem?_eq_some_iff.mp a
  obtain ⟨h2, e2⟩ := List.getElem?_eq_some_iff.mp b
  exact (List.getElem_inj hN).mp (e1.trans e2.symm)
theorem store_ok2 {M : Model} {A : Around} {E : Value → Shared → Prop} {i : Nat} {x : Str} {v : V} {u : Value} {Q : Unit → Shared → Prop} (I : Inv X pins σ H s) (hN : X.N.Nodup) (hi : X.N[i]? = some x) (hx : Loc X.env.scope x) (r : RelV v u)
    (h : ∀ s', Inv X pins (σ.set i (some v)) H s' → (∃ a, Heap.SameBut a s.heap s'.heap ∧ (a = X.env.locals ∨ X.env.cells.lookup x = some a)) → Q () s') (hf : X.fn x = true ∨ X.env.scope.names.lookup x = some .local := by first | exact .inl rfl | exact .inr rfl | assumption) : wpAny M A (storeName X.env x u) Q E s := by
  obtain ⟨m, hn, hl⟩ := id I.loc
  have hcls : (X.env.scope.kind == .class || (X.env.scope.kind == .module && X.env.locals != X.env.globals)) = false := by rw [I.ok.kind]; rfl
  have hiσ : i < σ.length := by rw [I.len]; exact (List.getElem?_eq_some_iff.mp hi).1
  have cne := I.cne
  have tracked : ∀ {a : Addr} {h' : Heap}, (∃ o, s.heap.get? a = some o ∧ H a = none) → Heap.SameBut a s.heap h' → HOk X.prog X.w H h' := fun {a h'} ha hs b ob e => by
    obtain ⟨_, _, hfree⟩ := ha
    refine (I.hok b ob e).stay (fun c w' hc q => (hs.2 c ?_).trans q) (fun _ q => q) fun _ _ q => q
    rintro rfl
    rcases hc with rfl | hc
    · rw [hfree] at e; cases e
    · rw [hfree] at hc; cases hc
  rcases hx with hk | hk
  · refine wpAny_storeName_local hk hn (fun h' hn' hs => ?_) hcls
    obtain ⟨oL, _, _, hoL, _⟩ := id hn
    refine h _ ⟨I.ok, I.os, I.bare, ⟨fun b o e n hb hx => ?_, fun b o e n hb hx => ?_, I.base.free, fun b o e hx => ?_, I.base.tups, I.base.frzs, I.base.tbls⟩, ⟨_, hn', fun j y v' e1 e2 e3 => ?_⟩, fun y c e => ?_, I.free, I.freeC, fun p hp => ?_, tracked ⟨oL, hoL, I.free⟩ hs, by simpa using I.len⟩ ⟨_, hs, .inl rfl⟩
    · exact (hs.2 b (Nat.ne_of_lt (Nat.lt_of_lt_of_le (Heap.lt_size e) I.ok.above))).trans (I.base.keep b o e n hb hx)
    · obtain ⟨sl, e1⟩ := I.base.slot b o e n hb hx
      exact ⟨sl, (hs.2 b (Nat.ne_of_lt (Nat.lt_of_lt_of_le (Heap.lt_size e) I.ok.above))).trans e1⟩
    · obtain ⟨o', e1⟩ := I.base.there b o e hx
      exact ⟨o', (hs.2 b (Nat.ne_of_lt (Nat.lt_of_lt_of_le (Heap.lt_size e) I.ok.above))).trans e1⟩
    · by_cases hj : j = i
      · subst hj
        rw [hi] at e1; cases e1
        rw [List.getElem?_set_self hiσ] at e2
        cases e2
        exact ⟨u, r, .inl ⟨hk, by simp⟩⟩
      · rw [List.getElem?_set_ne (Ne.symm hj)] at e2
        obtain ⟨u', r', q⟩ := hl j y v' e1 e2 e3
        refine ⟨u', r', ?_⟩
        rcases q with ⟨k, e⟩ | ⟨k, c, e, z⟩
        · refine .inl ⟨k, ?_⟩
          have : y ≠ x := fun e => hj (nodup_ix hN e1 (e ▸ hi))
          simp [this, e]
        · exact .inr ⟨k, c, e, z.sameBut hs (cne y c e)⟩
    · obtain ⟨w', z⟩ := I.cell y c e
      exact ⟨w', z.sameBut hs (cne y c e)⟩
    · obtain ⟨e, n, ne, nf, d⟩ := I.pin p hp
      exact ⟨(hs.2 p.1 ne).trans e, n, ne, nf, d⟩
  · have hfn : X.fn x = true := by
      rcases hf with z | z
      · exact z
      · rw [z] at hk; cases hk
    obtain ⟨c, hc⟩ := I.ok.has x (.inl hk)
    obtain ⟨w', z⟩ := I.cell x c hc
    refine wpAny_storeName_cell I.ok.kind hk hc z (fun h' hc' hs => ?_)
    obtain ⟨oc, hoc, hocd⟩ := id z
    refine h { s with heap := h' } ⟨I.ok, I.os, I.bare, ⟨fun b o e n hb hx => ?_, fun b o e n hb hx => ?_, I.base.free, fun b o e hx => ?_, I.base.tups, I.base.frzs, I.base.tbls⟩, ⟨m, hn.sameBut hs (Ne.symm (cne x c hc)), fun j y v' e1 e2 e3 => ?_⟩, fun y c' e => ?_, I.free, I.freeC, fun p hp => ?_, tracked ⟨oc, hoc, I.freeC x c hc⟩ hs, by simpa using I.len⟩ ⟨c, hs, .inr hc⟩
    · exact (hs.2 b (Nat.ne_of_lt (Nat.lt_of_lt_of_le (Heap.lt_size e) (I.ok.cab x c hfn hc)))).trans (I.base.keep b o e n hb hx)
    · obtain ⟨sl, e1⟩ := I.base.slot b o e n hb hx
      exact ⟨sl, (hs.2 b (Nat.ne_of_lt (Nat.lt_of_lt_of_le (Heap.lt_size e) (I.ok.cab x c hfn hc)))).trans e1⟩
    · obtain ⟨o', e1⟩ := I.base.there b o e hx
      exact ⟨o', (hs.2 b (Nat.ne_of_lt (Nat.lt_of_lt_of_le (Heap.lt_size e) (I.ok.cab x c hfn hc)))).trans e1⟩
    · by_cases hj : j = i
      · subst hj
        rw [hi] at e1; cases e1
        rw [List.getElem?_set_self hiσ] at e2
        cases e2
        exact ⟨u, r, .inr ⟨.inl hk, c, hc, hc'⟩⟩
      · rw [List.getElem?_set_ne (Ne.symm hj)] at e2
        obtain ⟨u', r', q⟩ := hl j y v' e1 e2 e3
        refine ⟨u', r', ?_⟩
        rcases q with q | ⟨k, c', e, z'⟩
        · exact .inl q
        · refine .inr ⟨k, c', e, z'.sameBut hs ?_⟩
          rintro rfl
          exact hj (nodup_ix hN e1 (I.ok.inj _ _ _ e hc ▸ hi))
    · by_cases hcc : c' = c
      · subst hcc; exact ⟨_, hc'⟩
      · obtain ⟨w2, z2⟩ := I.cell y c' e
        exact ⟨w2, z2.sameBut hs hcc⟩
    · obtain ⟨e, n, ne, nf, d⟩ := I.pin p hp
      refine ⟨(hs.2 p.1 ?_).trans e, n, ne, nf, d⟩
      intro q
      rw [q, hoc] at e
      have q' : oc = p.2 := Option.some.inj e
      exact d w' (by rw [← q']; exact hocd)
theorem store_ok {M : Model} {A : Around} {E : Value → Shared → Prop} {i : Nat} {x : Str} {v : V} {u : Value} {Q : Unit → Shared → Prop} (I : Inv X pins σ H s) (hN : X.N.Nodup) (hi : X.N[i]? = some x) (hx : Loc X.env.scope x) (r : RelV v u)
    (h : ∀ s', Inv X pins (σ.set i (some v)) H s' → Q () s') (hf : X.fn x = true ∨ X.env.scope.names.lookup x = some .local := by first | exact .inl rfl | exact .inr rfl | assumption) : wpAny M A (storeName X.env x u) Q E s :=
  store_ok2 I hN hi hx r (fun s' I' _ => h s' I') hf
theorem Inv.call' {s' : Shared} {ch : List Addr} (I : Inv X pins σ H s) (ho : s'.os = s.os) (u : Un (frs X.stack) ch H H' s.heap s'.heap) (hok : HOk X.prog X.w H' s'.heap) (hg : AllBare s'.gens)
    (hch : ∀ b ∈ ch, (b ∈ X.ex ∨ X.s₀.heap.objs.size ≤ b) ∧ b ≠ X.env.locals ∧ (∀ x c, X.env.cells.lookup x = some c → c ≠ b) ∧ ∀ p ∈ X.pn ++ pins, p.1 ≠ b) : Inv X pins σ H' s' := by
  obtain ⟨h', g', d', t', o'⟩ := s'
  have e : o' = s.os := ho
  subst e
  exact I.call (g' := g') (t' := t') (d' := d') u hok hg hch
end
noncomputable abbrev XK := Value → Option Addr → Hp → Prop
noncomputable abbrev St := List (Option V)
noncomputable abbrev VK := V → Hp → Prop
noncomputable abbrev TE := St → Hp → VK → Prop
noncomputable abbrev TT := St → Hp → (Bool → Hp → Prop) → Prop
noncomputable abbrev TA := St → Hp → (List V → Hp → Prop) → Prop
structure Ends where
  nx : St → Hp → Prop
  rt : VK
  bk : St → Hp → Prop := fun _ _ => False
  ct : St → Hp → Prop := fun _ _ => False
noncomputable abbrev TS := Ends → St → Hp → Prop
noncomputable def EP (X : Cx) (pins : List (Addr × Obj)) (σ : St) (Q : VK) (u : Value) (s' : Shared) : Prop := ∃ v H', Inv X pins σ H' s' ∧ RelV v u ∧ Q v H'
noncomputable def TP (X : Cx) (pins : List (Addr × Obj)) (σ : St) (Q : Bool → Hp → Prop) (b : Bool) (s' : Shared) : Prop := ∃ H', Inv X pins σ H' s' ∧ Q b H'
noncomputable def AP (X : Cx) (pins : List (Addr × Obj)) (σ : St) (Q : List V → Hp → Prop) (us : List Value) (s' : Shared) : Prop := ∃ vs H', Inv X pins σ H' s' ∧ Vals vs us ∧ Q vs H'
noncomputable def SP (X : Cx) (pins : List (Addr × Obj)) (D : Ends) (f : Flow) (s' : Shared) : Prop :=
  match f with
  | .next => ∃ σ' H', Inv X pins σ' H' s' ∧ D.nx σ' H'
  | .brk => ∃ σ' H', Inv X pins σ' H' s' ∧ D.bk σ' H'
  | .cont => ∃ σ' H', Inv X pins σ' H' s' ∧ D.ct σ' H'
  | .ret u => ∃ v σ' H', Inv X pins σ' H' s' ∧ RelV v u ∧ D.rt v H'
noncomputable def PE (X : Cx) (e : Expr) (t : TE) : Prop :=
  ∀ (pins : List (Addr × Obj)) (s : Shared) (σ : St) (H : Hp) (Q : VK), Inv X pins σ H s → t σ H Q → wpAny (model X.prog X.w) X.A (eval e X.env) (EP X pins σ Q) X.xe s
noncomputable def PT (X : Cx) (e : Expr) (t : TT) : Prop :=
  ∀ (pins : List (Addr × Obj)) (s : Shared) (σ : St) (H : Hp) (Q : Bool → Hp → Prop), Inv X pins σ H s → t σ H Q → wpAny (model X.prog X.w) X.A (isTrue e X.env (eval e X.env)) (TP X pins σ Q) X.xe s
noncomputable def PW (X : Cx) (e : Expr) (t : TT) : Prop :=
  ∀ (whole : Sem Value) (pins : List (Addr × Obj)) (s : Shared) (σ : St) (H : Hp) (Q : Bool → Hp → Prop), Inv X pins σ H s → t σ H Q → wpAny (model X.prog X.w) X.A (isTrue e X.env whole) (TP X pins σ Q) X.xe s
theorem PW.pt {X : Cx} {e : Expr} {t : TT} (h : PW X e t) : PT X e t := h _
noncomputable def PA (X : Cx) (es : List Expr) (t : TA) : Prop :=
  ∀ (pos : Pos) (pins : List (Addr × Obj)) (s : Shared) (σ : St) (H : Hp) (Q : List V → Hp → Prop), Inv X pins σ H s → t σ H Q → wpAny (model X.prog X.w) X.A (spliced (backTo pos (starEach es X.env))) (AP X pins σ Q) X.xe s
noncomputable def PS (X : Cx) (st : Stmt) (t : TS) : Prop :=
  ∀ (pins : List (Addr × Obj)) (s : Shared) (σ : St) (H : Hp) (D : Ends), Inv X pins σ H s → t D σ H → wpAny (model X.prog X.w) X.A (exec st X.env) (SP X pins D) X.xe s
noncomputable def PSs (X : Cx) (st : List Stmt) (t : TS) : Prop :=
  ∀ (pins : List (Addr × Obj)) (s : Shared) (σ : St) (H : Hp) (D : Ends), Inv X pins σ H s → t D σ H → wpAny (model X.prog X.w) X.A (execs st X.env) (SP X pins D) X.xe s
theorem thn {α : Type} {t : Sem α} {Q Q' : α → Shared → Prop} {M : Model} {A : Around} {E : Value → Shared → Prop} {s : Shared} (h : wpAny M A t Q E s) (hQ : ∀ a s, Q a s → Q' a s) : wpAny M A t Q' E s := wpAny_mono h hQ fun _ _ x => x
end _L2
namespace _L2
open PySem PySem.Spec PyProof.Rows
section
variable {X : Cx}
theorem bin {a b : Expr} {ta tb : TE} (ha : PE X a ta) (hb : PE X b tb) {pins : List (Addr × Obj)} {s : Shared} {σ : St} {H : Hp} {R : V → V → Hp → Prop} (I : Inv X pins σ H s) (h : ta σ H fun x H1 => tb σ H1 fun y H2 => R x y H2)
    {α : Type} {Q : α → Shared → Prop} {f : Value → Value → Sem α}
    (hf : ∀ v u s2 x y H2, Inv X pins σ H2 s2 → RelV x v → RelV y u → R x y H2 → wpAny (model X.prog X.w) X.A (f v u) Q X.xe s2) :
    wpAny (model X.prog X.w) X.A (eval a X.env) (fun v s₁ => wpAny (model X.prog X.w) X.A (eval b X.env) (fun u s₂ => wpAny (model X.prog X.w) X.A (f v u) Q X.xe s₂) X.xe s₁) X.xe s := by
  refine thn (ha pins s σ H _ I h) fun v s1 ⟨x, H1, I1, r1, q1⟩ => ?_
  refine thn (hb pins s1 σ H1 _ I1 q1) fun u s2 ⟨y, H2, I2, r2, q2⟩ => ?_
  exact hf v u s2 x y H2 I2 r1 r2 q2
noncomputable def tVar (i : Nat) : TE := fun σ H Q => ∃ v, σ[i]? = some (some v) ∧ Q v H
noncomputable def tC (v : V) : TE := fun _ H Q => Q v H
theorem pe_var {i : Nat} {x : Str} {pos : Pos} (hN : X.N[i]? = some x) (hv : Vis X.env.scope x) (hd : (x == ("__debug__" : Str)) = false := by decide) (hcd : (x == ("__classdict__" : Str)) = false := by decide) : PE X (.Name x pos) (tVar i) := by
  intro pins s σ H Q I h
  obtain ⟨v, e, h⟩ := h
  obtain ⟨m, hn, hl⟩ := I.loc
  obtain ⟨u, r, l⟩ := hl i x v hN e hv
  have fin : EP X pins σ Q u s := ⟨v, H, I, r, h⟩
  rcases l with ⟨hk, hm⟩ | ⟨hk, c, hc, hcell⟩
  · exact wpAny_Name (wpAny_loadName_local I.ok.kind hk hn hm fin) hd
  · rcases hk with hk | hk
    · exact wpAny_Name (wpAny_loadName_cell I.ok.kind hk hc hcell fin) hd
    · exact wpAny_Name (wpAny_loadName_free I.ok.kind hk hc hcell fin hcd) hd
theorem pe_int {i j pos} : PE X (.Constant (.int i) j pos) (tC (.int i)) := fun _ _ _ H _ I h => wpAny_Constant_int ⟨.int i, H, I.tok _, ⟨_, rfl⟩, h⟩
theorem pe_bl {b j pos} : PE X (.Constant (.bool b) j pos) (tC (.bl b)) := fun _ _ _ H _ I h => Constant_bool ⟨.bl b, H, I, rfl, h⟩
theorem pe_non {j pos} : PE X (.Constant .none j pos) (tC .non) := fun _ _ _ H _ I h => Constant_none ⟨.non, H, I, rfl, h⟩
theorem pe_str {x j pos} : PE X (.Constant (.str x) j pos) (tC (.str x)) := fun _ _ _ H _ I h => Calls.Constant_str ⟨.str x, H, I.tok _, ⟨_, rfl⟩, h⟩
noncomputable def Gl (X : Cx) (x : Str) : Prop := X.env.kindOf x = some .globalImplicit
theorem ld_glob {E : Value → Shared → Prop} {pins : List (Addr × Obj)} {s : Shared} {σ : St} {H : Hp} {x : Str} {u : Value} {pos : Pos} {Q : Value → Shared → Prop} (I : Inv X pins σ H s) (hg : Gl X x) (hm : X.mg x = some u) (h : Q u s)
    (hd : (x == ("__debug__" : Str)) = false := by decide) : wpAny (model X.prog X.w) X.A (eval (.Name x pos) X.env) Q E s :=
  Calls.Name_function_global I.ok.kind hg (Calls.loadGlobal_global (by rw [I.ok.glob]; exact I.mod.glob.keeps I.bk) hm h) hd
theorem ld_blt {E : Value → Shared → Prop} {pins : List (Addr × Obj)} {s : Shared} {σ : St} {H : Hp} {x : Str} {u : Value} {pos : Pos} {Q : Value → Shared → Prop} (I : Inv X pins σ H s) (hg : Gl X x) (hm : X.mg x = none) (hv : bootBuiltins x = some u) (h : Q u s)
    (hn : x ≠ "__name__" := by decide) (hd : (x == ("__debug__" : Str)) = false := by decide) : wpAny (model X.prog X.w) X.A (eval (.Name x pos) X.env) Q E s := by
  obtain ⟨mb, h1, h2⟩ := I.mod.blt
  exact Calls.Name_function_global I.ok.kind hg (Calls.loadGlobal_builtin (by rw [I.ok.glob]; exact I.mod.glob.keeps I.bk) hm (by rw [I.ok.blt]; exact h1.keeps I.bk) ((h2 x hn).trans hv) h) hd
theorem pe_glob {x : Str} {v : V} {u : Value} {pos : Pos} (hg : Gl X x) (hm : X.mg x = some u) (r : RelV v u) (hd : (x == ("__debug__" : Str)) = false := by decide) : PE X (.Name x pos) (tC v) :=
  fun _ _ _ H _ I h => ld_glob I hg hm ⟨v, H, I, r, h⟩ hd
theorem pe_bltn {x : Str} {v : V} {u : Value} {pos : Pos} (hg : Gl X x) (hm : X.mg x = none) (hv : bootBuiltins x = some u) (r : RelV v u) (hn : x ≠ "__name__" := by decide) (hd : (x == ("__debug__" : Str)) = false := by decide) : PE X (.Name x pos) (tC v) :=
  fun _ _ _ H _ I h => ld_blt I hg hm hv ⟨v, H, I, r, h⟩ hn hd
variable {a b : Expr} {ta tb : TE} {pos : Pos}
noncomputable def tB (t : TE) : TT := fun σ H Q => t σ H fun x H1 => ∃ c, x = .bl c ∧ Q c H1
variable {tA tB' : TT} {rest : List Expr}
noncomputable def tAnd (t u : TT) : TT := fun σ H Q => t σ H fun c H1 => if c = true then u σ H1 Q else Q false H1
noncomputable def tOr (t u : TT) : TT := fun σ H Q => t σ H fun c H1 => if c = true then Q true H1 else u σ H1 Q
noncomputable def tNot (t : TT) : TT := fun σ H Q => t σ H fun c H1 => Q (!c) H1
theorem pw_and1 (ha : PT X a tA) : PW X (.BoolOp .And [a] pos) tA := by
  intro wh pins s σ H Q I h
  refine isTrue_and (thn (ha pins s σ H Q I h) fun c s1 e => ?_)
  cases c with
  | true => exact isTrue_and_nil e
  | false => exact e
theorem pw_or1 (ha : PT X a tA) : PW X (.BoolOp .Or [a] pos) tA := by
  intro wh pins s σ H Q I h
  refine isTrue_or (thn (ha pins s σ H Q I h) fun c s1 e => ?_)
  cases c with
  | false => exact isTrue_or_nil e
  | true => exact e
theorem pw_and (ha : PT X a tA) (hb : PW X (.BoolOp .And (b :: rest) pos) tB') : PW X (.BoolOp .And (a :: b :: rest) pos) (tAnd tA tB') := by
  intro wh pins s σ H Q I h
  refine isTrue_and (thn (ha pins s σ H _ I h) fun c s1 ⟨H1, I1, q1⟩ => ?_)
  cases c with
  | true => exact hb wh pins s1 σ H1 Q I1 q1
  | false => exact ⟨H1, I1, q1⟩
theorem pw_or (ha : PT X a tA) (hb : PW X (.BoolOp .Or (b :: rest) pos) tB') : PW X (.BoolOp .Or (a :: b :: rest) pos) (tOr tA tB') := by
  intro wh pins s σ H Q I h
  refine isTrue_or (thn (ha pins s σ H _ I h) fun c s1 ⟨H1, I1, q1⟩ => ?_)
  cases c with
  | true => exact ⟨H1, I1, q1⟩
  | false => exact hb wh pins s1 σ H1 Q I1 q1
theorem pt_not (ha : PT X a tA) : PT X (.UnaryOp .Not a pos) (tNot tA) := by
  intro pins s σ H Q I h
  exact isTrue_not (ha pins s σ H (fun c H1 => Q (!c) H1) I h)
noncomputable def tAndV (ta tb : TE) : TE := fun σ H Q => ta σ H fun x H1 => ∃ c, x = .bl c ∧ if c = true then tb σ H1 Q else Q (.bl false) H1
noncomputable def tOrV (ta tb : TE) : TE := fun σ H Q => ta σ H fun x H1 => ∃ c, x = .bl c ∧ if c = true then Q (.bl true) H1 else tb σ H1 Q
noncomputable def tNotV (ta : TE) : TE := fun σ H Q => ta σ H fun x H1 => ∃ c, x = .bl c ∧ Q (.bl (!c)) H1
theorem pe_one {op} {t : TE} (h : PE X a t) : PE X (.BoolOp op [a] pos) t := fun pins s σ H Q I hw => BoolOp_one (h pins s σ H Q I hw)
theorem pe_and (ha : PE X a ta) (hb : PE X (.BoolOp .And (b :: rest) pos) tb) : PE X (.BoolOp .And (a :: b :: rest) pos) (tAndV ta tb) := by
  intro pins s σ H Q I h
  refine BoolOp_and (thn (ha pins s σ H _ I h) fun v s1 ⟨x, H1, I1, r1, q1⟩ => ?_)
  obtain ⟨c, rfl, q1⟩ := q1
  cases r1
  refine wpAny_truthy_bool ?_
  cases c with
  | true => exact hb pins s1 σ H1 Q I1 q1
  | false => exact ⟨.bl false, H1, I1, rfl, q1⟩
theorem pe_or (ha : PE X a ta) (hb : PE X (.BoolOp .Or (b :: rest) pos) tb) : PE X (.BoolOp .Or (a :: b :: rest) pos) (tOrV ta tb) := by
  intro pins s σ H Q I h
  refine BoolOp_or (thn (ha pins s σ H _ I h) fun v s1 ⟨x, H1, I1, r1, q1⟩ => ?_)
  obtain ⟨c, rfl, q1⟩ := q1
  cases r1
  refine wpAny_truthy_bool ?_
  cases c with
  | false => exact hb pins s1 σ H1 Q I1 q1
  | true => exact ⟨.bl true, H1, I1, rfl, q1⟩
theorem pe_not (ha : PE X a ta) : PE X (.UnaryOp .Not a pos) (tNotV ta) := by
  intro pins s σ H Q I h
  refine UnaryOp_ (thn (ha pins s σ H _ I h) fun v s1 ⟨x, H1, I1, r1, q1⟩ => ?_)
  obtain ⟨c, rfl, q1⟩ := q1
  cases r1
  exact not_of (wpAny_truthy_bool ⟨.bl (!c), H1, I1, rfl, q1⟩)
noncomputable def tIf (t : TT) (ta tb : TE) : TE := fun σ H Q => t σ H fun c H1 => if c = true then ta σ H1 Q else tb σ H1 Q
theorem pe_ifExp {c : Expr} (hc : PT X c tA) (ha : PE X a ta) (hb : PE X b tb) : PE X (.IfExp c a b pos) (tIf tA ta tb) := by
  intro pins s σ H Q I h
  refine wpAny_IfExp (thn (hc pins s σ H _ I h) fun d s1 ⟨H1, I1, q1⟩ => ?_)
  cases d with
  | true => exact ha pins s1 σ H1 Q I1 q1
  | false => exact hb pins s1 σ H1 Q I1 q1
end
end _L2
namespace _L2
open PySem PySem.Spec PyProof.Rows
noncomputable def SqL (K : PySem.W.Frag) (H : Hp) (a : Addr) (xs : List V) : Prop :=
  Rd H a (.lst xs) ∨
    ∃ (o : Obj) (its : Array Value) (n : Nat), K.lookup a = some o ∧ o.cls = .type "list" ∧ o.dict = none ∧ o.data = .seq its n ∧ its.size ≤ sizeLine ∧ Vals xs its.toList
noncomputable def SqT (K : PySem.W.Frag) (H : Hp) (a : Addr) (xs : List V) : Prop :=
  Rd H a (.tup xs) ∨
    ∃ (o : Obj) (its : Array Value) (n : Nat), K.lookup a = some o ∧ o.cls = .type "tuple" ∧ o.data = .seq its n ∧ its.size ≤ sizeLine ∧ Vals xs its.toList
noncomputable def absV : Value → Option V
  | .none => some .non
  | .bool b => some (.bl b)
  | .int i _ => some (.int i)
  | .str x _ => some (.str x)
  | .bytes b _ => some (.byt b)
  | .float b _ => some (.flt b)
  | .ref a => some (.ref a)
  | .type n => some (.ty n)
  | _ => none
theorem RelV.abs {x : V} {u : Value} (r : RelV x u) : absV u = some x := by
  cases x with
  | non => cases r; rfl
  | bl _ => cases r; rfl
  | int _ => obtain ⟨t, rfl⟩ := r; rfl
  | str _ => obtain ⟨t, rfl⟩ := r; rfl
  | byt _ => obtain ⟨t, rfl⟩ := r; rfl
  | flt _ => obtain ⟨t, rfl⟩ := r; rfl
  | ref _ => cases r; rfl
  | ty _ => cases r; rfl
theorem RelV.inj {x y : V} {u : Value} (r : RelV x u) (q : RelV y u) : x = y := Option.some.inj (r.abs.symm.trans q.abs)
theorem Vals.inj {xs ys : List V} {us : List Value} (h : Vals xs us) (k : Vals ys us) : xs = ys := by
  induction h generalizing ys with
  | nil => cases k; rfl
  | cons r t ih =>
    cases k with
    | cons r' t' => rw [r.inj r', ih t']
section
variable {X : Cx} {pins : List (Addr × Obj)} {σ : St} {H : Hp} {s : Shared} {a : Addr} {xs ys : List V}
theorem SqL.of {K : PySem.W.Frag} (h : H a = some (.lst xs)) : SqL K H a xs := .inl (.inl h)
theorem SqT.of {K : PySem.W.Frag} (h : H a = some (.tup xs)) : SqT K H a xs := .inl (.inl h)
theorem Inv.list (I : Inv X pins σ H s) (h : SqL X.K H a xs) : ∃ its : List Value, Vals xs its ∧ PlainL s.heap a its.toArray ∧ xs.length ≤ sizeLine := by
  rcases h with h | ⟨o, its, n, hk, hc, hd, hs, hz, r⟩
  · obtain ⟨z, its, n, r, e⟩ := h.ok I.hok
    exact ⟨its, r, ⟨_, n, e, rfl, rfl, rfl⟩, z⟩
  · refine ⟨its.toList, r, ⟨o, n, I.kIn a o hk, hc, hd, by simpa using hs⟩, ?_⟩
    have e := r.length
    simp only [Array.length_toList] at e
    omega
theorem Inv.tuple (I : Inv X pins σ H s) (h : SqT X.K H a xs) : ∃ its : List Value, Vals xs its ∧ IsTup s.heap a its.toArray ∧ xs.length ≤ sizeLine := by
  rcases h with h | ⟨o, its, n, hk, hc, hs, hz, r⟩
  · obtain ⟨z, its, r, p⟩ := h.ok I.hok
    exact ⟨its, r, p, z⟩
  · refine ⟨its.toList, r, ⟨o, I.kIn a o hk, hc, n, by simpa using hs⟩, ?_⟩
    have e := r.length
    simp only [Array.length_toList] at e
    omega
theorem Inv.list_inj (I : Inv X pins σ H s) (h : SqL X.K H a xs) (h' : SqL X.K H a ys) : xs = ys := by
  obtain ⟨its, r, ⟨o, n, e, _, _, d⟩, _⟩ := I.list h
  obtain ⟨its', r', ⟨o', n', e', _, _, d'⟩, _⟩ := I.list h'
  rw [e] at e'; cases e'
  rw [d] at d'
  injection d' with d1 _
  have : its = its' := by simpa using congrArg Array.toList d1
  subst this
  exact r.inj r'
theorem Inv.tuple_inj (I : Inv X pins σ H s) (h : SqT X.K H a xs) (h' : SqT X.K H a ys) : xs = ys := by
  obtain ⟨its, r, ⟨o, e, _, n, d⟩, _⟩ := I.tuple h
  obtain ⟨its', r', ⟨o', e', _, n', d'⟩, _⟩ := I.tuple h'
  rw [e] at e'; cases e'
  rw [d] at d'
  injection d' with d1 _
  have : its = its' := by simpa using congrArg Array.toList d1
  subst this
  exact r.inj r'
end
noncomputable abbrev Cx.wish (X : Cx) (E : Value → Shared → Prop) : Cx := { X with xe := E }
noncomputable abbrev Cx.nox (X : Cx) : Cx := X.wish fun _ _ => False
theorem Cx.Ok.wish {X : Cx} (ok : X.Ok) (E : Value → Shared → Prop) : (X.wish E).Ok :=
  ⟨ok.mod, ok.kind, ok.glob, ok.blt, ok.above, ok.inj, ok.has, ok.cab, ok.hd, ok.frames, ok.stk, ok.exf, ok.bs, ok.bsz, ok.noex, ok.exfs, ok.funs, ok.frf⟩
theorem Cx.Ok.unwish {X : Cx} {E : Value → Shared → Prop} (ok : (X.wish E).Ok) : X.Ok :=
  ⟨ok.mod, ok.kind, ok.glob, ok.blt, ok.above, ok.inj, ok.has, ok.cab, ok.hd, ok.frames, ok.stk, ok.exf, ok.bs, ok.bsz, ok.noex, ok.exfs, ok.funs, ok.frf⟩
section
variable {X : Cx} {pins : List (Addr × Obj)} {σ : St} {H : Hp} {s : Shared} {E : Value → Shared → Prop}
theorem Inv.wish (I : Inv X pins σ H s) (E : Value → Shared → Prop) : Inv (X.wish E) pins σ H s := ⟨I.ok.wish E, I.os, I.bare, I.base, I.loc, I.cell, I.free, I.freeC, I.pin, I.hok, I.len⟩
theorem Inv.unwish (I : Inv (X.wish E) pins σ H s) : Inv X pins σ H s := ⟨I.ok.unwish, I.os, I.bare, I.base, I.loc, I.cell, I.free, I.freeC, I.pin, I.hok, I.len⟩
theorem SP.unwish {D : Ends} {f : Flow} {s' : Shared} (h : SP (X.wish E) pins D f s') : SP X pins D f s' := by
  cases f with
  | next => obtain ⟨σ', H', I, q⟩ := h; exact ⟨σ', H', I.unwish, q⟩
  | brk => obtain ⟨σ', H', I, q⟩ := h; exact ⟨σ', H', I.unwish, q⟩
  | cont => obtain ⟨σ', H', I, q⟩ := h; exact ⟨σ', H', I.unwish, q⟩
  | ret u => obtain ⟨v, σ', H', I, r, q⟩ := h; exact ⟨v, σ', H', I.unwish, r, q⟩
theorem PE.nox {e : Expr} {t : TE} (h : PE X.nox e t) : PE X e t := fun pins s σ H Q I hw =>
  wpAny_mono (h pins s σ H Q (I.wish _) hw) (fun _ _ ⟨v, H', I', r, q⟩ => ⟨v, H', I'.unwish, r, q⟩) fun _ _ z => False.elim z
theorem PT.nox {e : Expr} {t : TT} (h : PT X.nox e t) : PT X e t := fun pins s σ H Q I hw =>
  wpAny_mono (h pins s σ H Q (I.wish _) hw) (fun _ _ ⟨H', I', q⟩ => ⟨H', I'.unwish, q⟩) fun _ _ z => False.elim z
theorem PSs.nox {st : List Stmt} {t : TS} (h : PSs X.nox st t) : PSs X st t := fun pins s σ H D I hw =>
  wpAny_mono (h pins s σ H D (I.wish _) hw) (fun _ _ q => q.unwish) fun _ _ z => False.elim z
end
section
variable {X : Cx} {st : Stmt} {rest : List Stmt} {t u : TS} {e : Expr} {te : TE} {pos : Pos}
noncomputable def tNext : TS := fun D σ H => D.nx σ H
noncomputable def tSeq (t u : TS) : TS := fun D σ H => t { D with nx := u D } σ H
theorem pss_nil : PSs X [] tNext := fun _ _ σ H _ I h => wpAny_execs_nil ⟨σ, H, I, h⟩
theorem pss_cons (h1 : PS X st t) (h2 : PSs X rest u) : PSs X (st :: rest) (tSeq t u) := by
  intro pins s σ H D I h
  refine wpAny_execs_cons (thn (h1 pins s σ H { D with nx := u D } I h) fun f s1 q => ?_)
  cases f with
  | next =>
    obtain ⟨σ', H', I', q⟩ := q
    exact h2 pins s1 σ' H' D I' q
  | ret v => exact q
  | brk => exact q
  | cont => exact q
theorem ps_pass : PS X (.Pass pos) tNext := fun _ _ σ H _ I h => wpAny_Pass ⟨σ, H, I, h⟩
theorem Inv.quiet {pins : List (Addr × Obj)} {σ : St} {H : Hp} {s : Shared} (I : Inv X pins σ H s) : interactive X.env = false := by simp [interactive, I.ok.kind]
noncomputable def tDrop (te : TE) : TS := fun D σ H => te σ H fun _ H1 => D.nx σ H1
theorem ps_expr (he : PE X e te) (hs : swapsWith e none pos.line X.env = pure false := by rfl) : PS X (.Expr e pos) (tDrop te) := by
  intro pins s σ H D I h
  exact wpAny_Expr_any (thn (he pins s σ H _ I h) fun v s1 ⟨x, H1, I1, r1, q1⟩ => ⟨σ, H1, I1, q1⟩) I.quiet hs
noncomputable def tRet (te : TE) : TS := fun D σ H => te σ H D.rt
theorem ps_ret (he : PE X e te) : PS X (.Return (some e) pos) (tRet te) := by
  intro pins s σ H D I h
  exact wpAny_Return_some (thn (he pins s σ H _ I h) fun v s1 ⟨x, H1, I1, r1, q1⟩ => ⟨x, σ, H1, I1, r1, q1⟩)
noncomputable def tRetN : TS := fun D _ H => D.rt .non H
theorem ps_retN : PS X (.Return none pos) tRetN := fun _ _ σ H _ I h => wpAny_Return_none ⟨.non, σ, H, I, rfl, h⟩
noncomputable def tIfS (c : TT) (t u : TS) : TS := fun D σ H => c σ H fun b H1 => if b = true then t D σ H1 else u D σ H1
theorem ps_if {c : Expr} {a b : List Stmt} {tc : TT} (hc : PT X c tc) (ha : PSs X a t) (hb : PSs X b u) : PS X (.If c a b pos) (tIfS tc t u) := by
  intro pins s σ H D I h
  refine wpAny_If (thn (hc pins s σ H _ I h) fun d s1 ⟨H1, I1, q1⟩ => ?_)
  cases d with
  | true => exact ha pins s1 σ H1 D I1 q1
  | false => exact hb pins s1 σ H1 D I1 q1
noncomputable def tNever : TS := fun _ _ _ => False
theorem ps_never : PS X st tNever := fun _ _ _ _ _ _ h => h.elim
end
noncomputable abbrev TG := V → St → Hp → (St → Hp → Prop) → Prop
noncomputable abbrev TGs := List V → St → Hp → (St → Hp → Prop) → Prop
noncomputable def PG (X : Cx) (target : Expr) (t : TG) : Prop :=
  ∀ (pins : List (Addr × Obj)) (s : Shared) (σ : St) (H : Hp) (v : V) (u : Value) (Q : St → Hp → Prop), Inv X pins σ H s → RelV v u → t v σ H Q →
    wpAny (model X.prog X.w) X.A (assign target X.env u) (fun _ s' => ∃ σ' H', Inv X pins σ' H' s' ∧ Q σ' H') X.xe s
noncomputable def PGs (X : Cx) (ts : List Expr) (t : TGs) : Prop :=
  ∀ (pins : List (Addr × Obj)) (s : Shared) (σ : St) (H : Hp) (vs : List V) (us : List Value) (Q : St → Hp → Prop), Inv X pins σ H s → Vals vs us → t vs σ H Q →
    wpAny (model X.prog X.w) X.A (assignInOrder ((assignEach ts X.env).map (·.2)) us) (fun _ s' => ∃ σ' H', Inv X pins σ' H' s' ∧ Q σ' H') X.xe s
noncomputable abbrev TSet := V → V → V → Hp → (Hp → Prop) → Prop
noncomputable def PSet (X : Cx) (t : TSet) : Prop :=
  ∀ (pins : List (Addr × Obj)) (s : Shared) (σ : St) (H : Hp) (o i v : V) (ov iv u : Value) (Q : Hp → Prop), Inv X pins σ H s → RelV o ov → RelV i iv → RelV v u → t o i v H Q →
    wpAny (model X.prog X.w) X.A (setItem ov iv u) (fun _ s' => ∃ H', Inv X pins σ H' s' ∧ Q H') X.xe s
section
variable {X : Cx} {pos : Pos}
noncomputable def gName (i : Nat) : TG := fun v σ H Q => Q (σ.set i (some v)) H
theorem pg_name {i : Nat} {x : Str} (hN : X.N.Nodup) (hi : X.N[i]? = some x) (hx : Loc X.env.scope x) (hf : X.fn x = true ∨ X.env.scope.names.lookup x = some .local := by first | exact .inl rfl | exact .inr rfl | assumption) : PG X (.Name x pos) (gName i) := by
  intro pins s σ H v u Q I r h
  exact wpAny_assign_Name (store_ok I hN hi hx r (fun s' I' => ⟨_, H, I', h⟩) hf)
noncomputable def gNil : TGs := fun vs σ H Q => vs = [] ∧ Q σ H
noncomputable def gCons (t : TG) (u : TGs) : TGs := fun vs σ H Q => ∃ v r, vs = v :: r ∧ t v σ H fun σ' H' => u r σ' H' Q
theorem pgs_nil : PGs X [] gNil := by
  intro pins s σ H vs us Q I r h
  obtain ⟨e, h⟩ := h
  subst e
  cases r
  exact assignInOrder_nil ⟨σ, H, I, h⟩
theorem pgs_cons {e : Expr} {es : List Expr} {t : TG} {u : TGs} (h1 : PG X e t) (h2 : PGs X es u)
    (hs : (assignEach (e :: es) X.env).map (·.2) = assign e X.env :: (assignEach es X.env).map (·.2) := by rfl) : PGs X (e :: es) (gCons t u) := by
  intro pins s σ H vs us Q I r h
  obtain ⟨v, vr, e1, h⟩ := h
  subst e1
  cases r with
  | cons r rr =>
    rw [hs]
    refine assignInOrder_cons (thn (h1 pins s σ H _ _ _ I r h) fun _ s1 ⟨σ1, H1, I1, q1⟩ => ?_)
    exact h2 pins s1 σ1 H1 _ _ Q I1 rr q1
noncomputable def gTup (K : PySem.W.Frag) (n : Nat) (t : TGs) : TG := fun v σ H Q => ∃ a xs, v = .ref a ∧ SqT K H a xs ∧ xs.length = n ∧ t xs σ H Q
theorem pg_tup {es : List Expr} {k : Nat} {t : TGs} {n : Nat} (hc : X.calm = true) (h : PGs X es t)
    (hn : (assignEach es X.env).length = n := by rfl) (hst : (assignEach es X.env).findIdx? (·.1) = none := by rfl) : PG X (.Tuple es k pos) (gTup X.K n t) := by
  intro pins s σ H v u Q I r hw
  obtain ⟨a, xs, e1, hq, hl, hw⟩ := hw
  subst e1
  cases r
  obtain ⟨its, rv, ht, hz⟩ := I.tuple hq
  refine assign_Tuple_tuple (I.ok.hd hc) ht (by simp [hn, ← hl, rv.length]) hst fun h' hx => ?_
  have I1 : Inv X pins σ H { s with heap := h' } := I.kept (t' := s.toks) fun b o e => hx b o (Nat.ne_of_lt (Heap.lt_size e)) e
  exact h pins _ σ H xs _ Q I1 (by simpa using rv) hw
noncomputable def tAsg (te : TE) (g : TG) : TS := fun D σ H => te σ H fun x H1 => g x σ H1 D.nx
theorem ps_asg {tg e : Expr} {te : TE} {g : TG} (he : PE X e te) (hg : PG X tg g) (hs : swapsWithSole [tg] e pos.line X.env = pure false := by rfl) (hw : swappedStores [tg] e X.env = pure none := by rfl)
    (h1 : (assignEach [tg] X.env).map (·.2) = [assign tg X.env] := by rfl) : PS X (.Assign [tg] e pos) (tAsg te g) := by
  intro pins s σ H D I h
  refine wpAny_Assign_stores (thn (he pins s σ H _ I h) fun v s1 ⟨x, H1, I1, r1, q1⟩ => ?_) hs hw
  rw [h1]
  exact thn (hg pins s1 σ H1 x v _ I1 r1 q1) fun _ s2 q => q
theorem ps_set {i : Nat} {x : Str} {e : Expr} {te : TE} {pos' : Pos} (hN : X.N.Nodup) (hi : X.N[i]? = some x) (hx : Loc X.env.scope x) (he : PE X e te) (hs : swapsWith e (some (.Name x pos')) pos.line X.env = pure false := by rfl) (hf : X.fn x = true ∨ X.env.scope.names.lookup x = some .local := by first | exact .inl rfl | exact .inr rfl | assumption) :
    PS X (.Assign [.Name x pos'] e pos) (tAsg te (gName i)) := by
  intro pins s σ H D I h
  refine wpAny_Assign_Name (thn (he pins s σ H _ I h) fun v s1 ⟨y, H1, I1, r1, q1⟩ => ?_) hs
  exact store_ok I1 hN hi hx r1 (fun s2 I2 => ⟨_, H1, I2, q1⟩) hf
end
section
variable {X : Cx} {pos : Pos}
end
structure It where
  go : Nat → Hp → Prop
  yld : Nat → Hp → V → Hp → Prop
  stop : Nat → Hp → Prop
noncomputable def FpOk (X : Cx) (pins : List (Addr × Obj)) (H : Hp) (b : Addr) : Prop :=
  H b = none ∧ b ≠ X.env.locals ∧ b ∉ X.fs ∧ (b ∈ X.ex ∨ X.s₀.heap.objs.size ≤ b) ∧ (∀ x c, X.env.cells.lookup x = some c → c ≠ b) ∧ ∀ p ∈ X.pn ++ pins, p.1 ≠ b
theorem Inv.fpOk {X : Cx} {pins : List (Addr × Obj)} {σ : St} {H H' : Hp} {s : Shared} {b : Addr} (I : Inv X pins σ H s) (hb : s.heap.objs.size ≤ b) (hn : H' b = none) : FpOk X pins H' b := by
  refine ⟨hn, Nat.ne_of_gt (Nat.lt_of_lt_of_le I.lt hb), I.nofs hb, .inr (Nat.le_trans I.sz hb), fun x c e z => ?_, fun p hp z => ?_⟩
  · obtain ⟨v, q⟩ := I.cell x c e
    exact absurd (Nat.lt_of_lt_of_le q.lt (by rw [z]; exact hb)) (Nat.lt_irrefl _)
  · exact absurd (Nat.lt_of_lt_of_le (Heap.lt_size (I.pin p hp).1) (by rw [z]; exact hb)) (Nat.lt_irrefl _)
structure Turn (P : Program) (w : World) (K : PySem.W.Frag) (tg : Expr) (J : It) (fp : List Addr) (it : Addr) (tn : Nat → Heap → Prop) : Prop where
  mem : it ∈ fp
  obj : ∀ i h, tn i h → ∀ b ∈ fp, ∃ o, h.get? b = some o ∧ ∀ v, o.data ≠ .cell v
  keep : ∀ i h h', tn i h → (∀ b ∈ fp, ∀ o, h.get? b = some o → h'.get? b = some o) → tn i h'
  item : ∀ (X : Cx), X.prog = P → X.w = w → X.K = K → X.calm = true → ∀ (i : Nat) (pins : List (Addr × Obj)) (s : Shared) (σ : St) (H : Hp) (E : Value → Shared → Prop), Inv X pins σ H s → (∀ b ∈ fp, FpOk X pins H b) → tn i s.heap → J.go i H →
    wpAny (model P w) X.A (pyNext (.ref it)) (fun r s1 => ∃ u, r = some u ∧
      wpAny (model P w) X.A (letOwnedTupleGo tg (.ref it) u) (fun _ s2 => ∃ x H', Inv X pins σ H' s2 ∧ RelV x u ∧ J.yld i H x H' ∧ tn (i + 1) s2.heap ∧ ∀ b ∈ fp, H' b = none) E s1) E s
  done : ∀ (X : Cx), X.prog = P → X.w = w → X.K = K → X.calm = true → ∀ (i : Nat) (pins : List (Addr × Obj)) (s : Shared) (σ : St) (H : Hp) (E : Value → Shared → Prop), Inv X pins σ H s → (∀ b ∈ fp, FpOk X pins H b) → tn i s.heap → J.stop i H →
    wpAny (model P w) X.A (pyNext (.ref it)) (fun r s1 => r = none ∧ Inv X pins σ H s1) E s
  self : ∀ (A : Around) (i : Nat) (s : Shared) (Q : Value → Shared → Prop) (E : Value → Shared → Prop), tn i s.heap → Q (.ref it) s → wpAny (model P w) A (pyIter (.ref it)) Q E s
noncomputable abbrev TI := St → Hp → (It → Hp → Prop) → Prop
noncomputable def PIE (X : Cx) (pins : List (Addr × Obj)) (σ : St) (tg : Expr) (R : It → Hp → Prop) (itv : Value) (s2 : Shared) : Prop :=
  ∃ (it : Addr) (fp : List Addr) (tn : Nat → Heap → Prop) (J : It) (H' : Hp), itv = .ref it ∧ Inv X pins σ H' s2 ∧ Turn X.prog X.w X.K tg J fp it tn ∧ tn 0 s2.heap ∧ (∀ b ∈ fp, FpOk X pins H' b) ∧ R J H'
noncomputable def PI (X : Cx) (tg iter : Expr) (wi : TI) : Prop :=
  ∀ (pins : List (Addr × Obj)) (s : Shared) (σ : St) (H : Hp) (R : It → Hp → Prop), Inv X pins σ H s → wi σ H R →
    wpAny (model X.prog X.w) X.A (eval iter X.env) (fun v s1 => wpAny (model X.prog X.w) X.A (pyIter v) (PIE X pins σ tg R) X.xe s1) X.xe s
theorem go_of {M : Model} {A : Around} {E : Value → Shared → Prop} {s : Shared} {tg : Expr} {it : Addr} {u : Value} {o : Obj} {n : String} {vs : Array Value} {Q : Unit → Shared → Prop} (ho : s.heap.get? it = some o) (hc : o.cls = .type n) (hd : o.data = .fields vs)
    (hn : ["enumerate", "zip", "dict_itemiterator", "dict_reverseitemiterator", "odict_iterator", "itertools.zip_longest", "itertools.pairwise"].contains n = false) (hQ : Q () s) : wpAny M A (letOwnedTupleGo tg (.ref it) u) Q E s := by
  unfold letOwnedTupleGo
  cases tg <;> first
    | exact wpAny_pure hQ
    | (cases u <;> first
        | exact wpAny_pure hQ
        | (refine wpAny_bind (wpAny_load ho ?_)
           rw [hc, hd]
           show wpAny M A (if (["enumerate", "zip", "dict_itemiterator", "dict_reverseitemiterator", "odict_iterator", "itertools.zip_longest", "itertools.pairwise"].contains n && vs[0]? == some (rawInt _)) = true then _ else _) Q E s
           rw [if_neg (by intro h; rw [hn, Bool.false_and] at h; cases h)]
           exact wpAny_pure hQ))
noncomputable def Itl (K : PySem.W.Frag) (a : Addr) : It :=
  ⟨fun i H => ∃ xs x, SqL K H a xs ∧ xs[i]? = some x, fun i H x H' => H' = H ∧ ∀ xs, SqL K H a xs → xs[i]? = some x, fun i H => ∃ xs, SqL K H a xs ∧ xs.length ≤ i⟩
noncomputable def Itt (K : PySem.W.Frag) (a : Addr) : It :=
  ⟨fun i H => ∃ xs x, SqT K H a xs ∧ xs[i]? = some x, fun i H x H' => H' = H ∧ ∀ xs, SqT K H a xs → xs[i]? = some x, fun i H => ∃ xs, SqT K H a xs ∧ xs.length ≤ i⟩
noncomputable def Itr (lo : Int) (n : Nat) : It := ⟨fun i _ => i < n, fun i H x H' => H' = H ∧ x = .int (lo + i), fun i _ => n ≤ i⟩
theorem turn_list {P : Program} {w : World} {K : PySem.W.Frag} {tg : Expr} (a it : Addr) : Turn P w K tg (Itl K a) [it] it (fun i h => h.IsListIter it a i) where
  mem := by simp
  obj := fun i h st b hb => by
    have e : b = it := by simpa using hb
    subst e
    obtain ⟨o, e, c, d⟩ := st
    exact ⟨o, e, fun v z => by rw [d] at z; cases z⟩
  keep := fun i h h' st k => st.at fun o e => k it (by simp) o e
  item := by
    intro X hP hw hK hc i pins s σ H E I hf st hg
    subst hP hw hK
    obtain ⟨xs, x, hq, hx⟩ := hg
    obtain ⟨its, rv, p, hz⟩ := I.list hq
    obtain ⟨u, hu, ru⟩ := rv.get hx
    obtain ⟨f0, f1, f2, f3, f4, f5⟩ := hf it (by simp)
    refine wpAny_pyNext_list_item st p.isList (x := u) (by simpa using hu) fun h' st' sb => ?_
    have I1 : Inv X pins σ H { s with heap := h' } := I.turned (t' := s.toks) (fun b o hb e => (sb.2 b hb).trans e) f0 f1 f3 f4 f5
    obtain ⟨o, e, c, d⟩ := id st'
    exact ⟨u, rfl, go_of (s := { s with heap := h' }) e c d (by decide) ⟨x, H, I1, ru, ⟨rfl, fun ys hy => by rw [I.list_inj hy hq]; exact hx⟩, st', fun b hb => (hf b hb).1⟩⟩
  done := by
    intro X hP hw hK hc i pins s σ H E I hf st hg
    subst hP hw hK
    obtain ⟨xs, hq, hx⟩ := hg
    obtain ⟨its, rv, p, hz⟩ := I.list hq
    obtain ⟨f0, f1, f2, f3, f4, f5⟩ := hf it (by simp)
    have hl := rv.length
    exact wpAny_pyNext_list_end (I.ok.hd hc) st p.isList (by simp; omega) fun h' eb => ⟨rfl, I.turned (t' := s.toks) (fun b o hb e => eb b o hb e) f0 f1 f3 f4 f5⟩
  self := fun _ _ _ _ _ st h => wpAny_pyIter_listiter st h
theorem turn_tuple {P : Program} {w : World} {K : PySem.W.Frag} {tg : Expr} (a it : Addr) : Turn P w K tg (Itt K a) [it] it (fun i h => h.IsTupleIter it a i) where
  mem := by simp
  obj := fun i h st b hb => by
    have e : b = it := by simpa using hb
    subst e
    obtain ⟨o, e, c, d⟩ := st
    exact ⟨o, e, fun v z => by rw [d] at z; cases z⟩
  keep := fun i h h' st k => st.at fun o e => k it (by simp) o e
  item := by
    intro X hP hw hK hc i pins s σ H E I hf st hg
    subst hP hw hK
    obtain ⟨xs, x, hq, hx⟩ := hg
    obtain ⟨its, rv, p, hz⟩ := I.tuple hq
    obtain ⟨u, hu, ru⟩ := rv.get hx
    obtain ⟨f0, f1, f2, f3, f4, f5⟩ := hf it (by simp)
    refine wpAny_pyNext_tuple_item st (show s.heap.IsTuple a its.toArray from p) (x := u) (by simpa using hu) fun h' st' sb => ?_
    have I1 : Inv X pins σ H { s with heap := h' } := I.turned (t' := s.toks) (fun b o hb e => (sb.2 b hb).trans e) f0 f1 f3 f4 f5
    obtain ⟨o, e, c, d⟩ := id st'
    exact ⟨u, rfl, go_of (s := { s with heap := h' }) e c d (by decide) ⟨x, H, I1, ru, ⟨rfl, fun ys hy => by rw [I.tuple_inj hy hq]; exact hx⟩, st', fun b hb => (hf b hb).1⟩⟩
  done := by
    intro X hP hw hK hc i pins s σ H E I hf st hg
    subst hP hw hK
    obtain ⟨xs, hq, hx⟩ := hg
    obtain ⟨its, rv, p, hz⟩ := I.tuple hq
    obtain ⟨f0, f1, f2, f3, f4, f5⟩ := hf it (by simp)
    have hl := rv.length
    exact wpAny_pyNext_tuple_end (I.ok.hd hc) st (show s.heap.IsTuple a its.toArray from p) (by simp; omega) fun h' eb => ⟨rfl, I.turned (t' := s.toks) (fun b o hb e => eb b o hb e) f0 f1 f3 f4 f5⟩
  self := fun _ _ _ _ _ st h => wpAny_pyIter_tupleiter st h
theorem turn_range {P : Program} {w : World} {K : PySem.W.Frag} {tg : Expr} (it : Addr) (lo : Int) (n : Nat) : Turn P w K tg (Itr lo n) [it] it (fun i h => IsRangeIter h it (lo + (i : Nat) * 1) ((n : Int) - (i : Nat)) 1) where
  mem := by simp
  obj := fun i h st b hb => by
    have e : b = it := by simpa using hb
    subst e
    exact ⟨_, st, fun v z => by
      have z' : Data.fields _ = Data.cell v := z
      cases z'⟩
  keep := fun i h h' st k => k it (by simp) _ st
  item := by
    intro X hP hw hK hc i pins s σ H E I hf st hg
    subst hP hw hK
    obtain ⟨f0, f1, f2, f3, f4, f5⟩ := hf it (by simp)
    have W := Walks.range (prog := X.prog) (w := X.w) (I.ok.hd hc) it lo 1 n
    refine W.item i s _ _ hg st fun v h' tk hv st' kk => ?_
    obtain ⟨t, rfl⟩ := hv
    have I1 : Inv X pins σ H { s with heap := h', toks := tk } := I.turned (fun b o hb e => kk b o (by simpa using hb) e) f0 f1 f3 f4 f5
    refine ⟨_, rfl, go_of (s := { s with heap := h', toks := tk }) (n := "range_iterator") st' rfl rfl (by decide) ⟨.int (lo + i), H, I1, ⟨t, ?_⟩, ⟨rfl, rfl⟩, st', fun b hb => (hf b hb).1⟩⟩
    rw [Int.mul_one]
  done := by
    intro X hP hw hK hc i pins s σ H E I hf st hg
    subst hP hw hK
    obtain ⟨f0, f1, f2, f3, f4, f5⟩ := hf it (by simp)
    exact wpAny_pyNext_range_end (I.ok.hd hc) st (by have : n ≤ i := hg; omega) fun h' eb => ⟨rfl, I.turned (t' := s.toks) (fun b o hb e => eb b o hb e) f0 f1 f3 f4 f5⟩
  self := fun _ _ _ _ _ st h => wpAny_pyIter_rangeiter st h
end _L2
namespace _L2
open PySem PySem.Spec PyProof.Rows
section
variable {X : Cx} {tg : Expr}
theorem range_it {pins : List (Addr × Obj)} {σ : St} {H : Hp} {s : Shared} {R : It → Hp → Prop} {E : Value → Shared → Prop} {lo hi : Int} {t u v : Tok} {tk : Nat} (I : Inv X pins σ H s) (h1 : -(2 ^ 62) ≤ lo) (h2 : lo < 2 ^ 62) (h3 : -(2 ^ 62) ≤ hi) (h4 : hi < 2 ^ 62)
    (q : R (Itr lo (hi - lo).toNat) H) : wpAny (model X.prog X.w) X.A (pyIter (.ref s.heap.objs.size)) (PIE X pins σ tg R) E { s with heap := s.heap.push { cls := .type "range", data := .fields #[.int lo t, .int hi u, .int 1 v] }, toks := tk } := by
  refine wpAny_pyIter_range (IsRange.new ..) (small_one h1 h2 h3 h4) ?_
  have I1 : Inv X pins σ H { s with heap := s.heap.push { cls := .type "range", data := .fields #[.int lo t, .int hi u, .int 1 v] }, toks := tk } := I.kept fun b o e => Heap.get?_push_of_some _ e
  refine ⟨(s.heap.push { cls := .type "range", data := .fields #[.int lo t, .int hi u, .int 1 v] }).objs.size, [(s.heap.push { cls := .type "range", data := .fields #[.int lo t, .int hi u, .int 1 v] }).objs.size], _, _, H, rfl,
    I1.kept (t' := tk) fun b o e => Heap.get?_push_of_some _ e, turn_range _ lo (hi - lo).toNat, ?_, fun b hb => ?_, q⟩
  · have e1 : lo + ((0 : Nat) : Int) * 1 = lo := by simp
    have e2 : (((hi - lo).toNat : Nat) : Int) - ((0 : Nat) : Int) = Builtin.Range.rangeSize lo hi 1 := by rw [rangeSize_one]; split <;> omega
    show IsRangeIter _ _ (lo + ((0 : Nat) : Int) * 1) ((((hi - lo).toNat : Nat) : Int) - ((0 : Nat) : Int)) 1
    rw [e1, e2]
    exact Heap.get?_push_size _ rfl
  · have e : b = (s.heap.push { cls := .type "range", data := .fields #[.int lo t, .int hi u, .int 1 v] }).objs.size := by simpa using hb
    subst e
    exact I1.fpOk (Nat.le_refl _) (I1.hok.fresh (Nat.le_refl _))
noncomputable def iRng1 (ta : TA) : TI := fun σ H R => ta σ H fun vs H1 => ∃ j : Int, vs = [.int j] ∧ -(2 ^ 62) ≤ j ∧ j < 2 ^ 62 ∧ R (Itr 0 j.toNat) H1
theorem pi_range1 {a : Expr} {ta : TA} {p pos : Pos} (hg : Gl X "range") (hm : X.mg "range" = none) (ha : PA X [a] ta) (hs : starEach [a] X.env = [(false, eval a X.env)] := by rfl) : PI X tg (.Call (.Name "range" p) [a] [] pos) (iRng1 ta) := by
  intro pins s σ H R I h
  refine Call_ (ld_blt I hg hm boot_range (PyProof.Rows.callWith_type1 (thn (ha pos pins s σ H _ I h) fun us s1 ⟨vs, H1, I1, r1, q1⟩ => ?_) hs rfl))
  obtain ⟨j, e, q1, q2, q⟩ := q1
  subst e
  cases r1 with
  | cons r rr =>
    cases rr
    obtain ⟨t, rfl⟩ := r
    exact call_range_1 (range_it I1 (by omega) (by omega) q1 q2 (by simpa using q))
noncomputable def tFor (wi : TI) (g : TG) (tb : TS) : TS := fun D σ H => wi σ H fun J H1 => ∃ W : Nat → Nat → St → Hp → Prop, (∃ m, W 0 m σ H1) ∧ ∀ i m σ H, W i m σ H →
  (J.stop i H ∧ D.nx σ H) ∨ (J.go i H ∧ ∃ N : St → Hp → Prop, (∀ σ' H', N σ' H' → ∃ m', m' < m ∧ W (i + 1) m' σ' H') ∧ ∀ x H', J.yld i H x H' → g x σ H' fun σ2 H2 => tb { D with nx := N, ct := N, bk := D.nx } σ2 H2)
noncomputable def pinsAt (fp : List Addr) (h : Heap) : List (Addr × Obj) := fp.filterMap fun b => (h.get? b).map fun o => (b, o)
theorem mem_pinsAt {fp : List Addr} {h : Heap} {b : Addr} {o : Obj} (hb : b ∈ fp) (e : h.get? b = some o) : (b, o) ∈ pinsAt fp h := List.mem_filterMap.mpr ⟨b, hb, by rw [e]; rfl⟩
theorem of_pinsAt {fp : List Addr} {h : Heap} {p : Addr × Obj} (hp : p ∈ pinsAt fp h) : p.1 ∈ fp ∧ h.get? p.1 = some p.2 := by
  obtain ⟨b, hb, e⟩ := List.mem_filterMap.mp hp
  cases q : h.get? b with
  | none => rw [q] at e; cases e
  | some o =>
    rw [q] at e
    have e' : (b, o) = p := Option.some.inj e
    subst e'
    exact ⟨hb, q⟩
theorem Inv.pinned {pins : List (Addr × Obj)} {σ : St} {H : Hp} {s : Shared} {fp : List Addr} (I : Inv X pins σ H s) (hf : ∀ b ∈ fp, FpOk X pins H b) (ho : ∀ b ∈ fp, ∃ o, s.heap.get? b = some o ∧ ∀ v, o.data ≠ .cell v) : Inv X (pins ++ pinsAt fp s.heap) σ H s :=
  I.pins_of fun p hp => (List.mem_append.mp hp).elim (fun z => I.pin p (List.mem_append_right _ z)) fun z => by
    obtain ⟨hb, e⟩ := of_pinsAt z
    obtain ⟨f0, f1, f2, _⟩ := hf p.1 hb
    obtain ⟨o, e', d⟩ := ho p.1 hb
    rw [e] at e'; cases e'
    exact ⟨e, f0, f1, f2, d⟩
theorem Inv.unpinned {pins pl : List (Addr × Obj)} {σ : St} {H : Hp} {s : Shared} (I : Inv X (pins ++ pl) σ H s) : Inv X pins σ H s := I.pins_of fun p hp => I.pin p (List.mem_append_right _ (List.mem_append_left _ hp))
theorem ps_for {iter : Expr} {body : List Stmt} {wi : TI} {g : TG} {tb : TS} {pos : Pos} (hp : PassesOwn (model X.prog X.w) X.A X.env X.xe) (hc : X.calm = true) (hi : PI X tg iter wi) (hg : PG X tg g) (hb : PSs X body tb)
    (hs : ∀ x, foldedSetIterable iter X.env x = pure x := by intro _; rfl) : PS X (.For tg iter body [] pos) (tFor wi g tb) := by
  intro pins s σ H D I h
  refine wpAny_For (thn (hi pins s σ H _ I h) fun v s1 h1 => thn h1 fun itv s2 h2 => ?_) hs
  obtain ⟨it, fp, tn, J, H2, e, I2, T, st2, f2, W, ⟨m0, w0⟩, turn⟩ := h2
  subst e
  have stat : ∀ {H' : Hp}, (∀ b ∈ fp, H' b = none) → ∀ b ∈ fp, FpOk X pins H' b := fun hn b hb => ⟨hn b hb, (f2 b hb).2⟩
  refine codeAny_forLoop_any (fun n s' => ∃ i σ' H', Inv X pins σ' H' s' ∧ tn i s'.heap ∧ (∀ b ∈ fp, H' b = none) ∧ W i n σ' H') ?_ m0 ⟨0, σ, H2, I2, st2, fun b hb => (f2 b hb).1, w0⟩
  rintro n s3 ⟨i, σ3, H3, I3, st3, fr3, w3⟩
  rcases turn i n σ3 H3 w3 with ⟨stop, qn⟩ | ⟨go, N, hN, step⟩
  · refine wpAny_passesOwn hp (thn (T.done X rfl rfl rfl hc i pins s3 σ3 H3 X.xe I3 (stat fr3) st3 stop) fun r s4 ⟨hr, I4⟩ => ?_)
    subst hr
    exact wpAny_execs_nil ⟨σ3, H3, I4, qn⟩
  · refine wpAny_passesOwn hp (thn (T.item X rfl rfl rfl hc i pins s3 σ3 H3 X.xe I3 (stat fr3) st3 go) fun r s4 ⟨u, hr, h4⟩ => ?_)
    subst hr
    refine wpAny_passesOwn hp (thn h4 fun _ s5 ⟨x, H5, I5, r5, y5, st5, fr5⟩ => ?_)
    have I5' := I5.pinned (stat fr5) (T.obj _ _ st5)
    refine wpAny_passesOwn hp (thn (hg _ s5 σ3 H5 x u _ I5' r5 (step x H5 y5)) fun _ s6 ⟨σ6, H6, I6, q6⟩ => ?_)
    refine wpAny_passesOwn hp (thn (hb _ s6 σ6 H6 _ I6 q6) fun f s7 q7 => ?_)
    have again : ∀ {σ7 : St} {H7 : Hp}, Inv X (pins ++ pinsAt fp s5.heap) σ7 H7 s7 → N σ7 H7 → ∃ m, m < n ∧ ∃ i σ' H', Inv X pins σ' H' s7 ∧ tn i s7.heap ∧ (∀ b ∈ fp, H' b = none) ∧ W i m σ' H' := fun {σ7 H7} I7 n7 => by
      obtain ⟨m', hm, w7⟩ := hN σ7 H7 n7
      refine ⟨m', hm, i + 1, σ7, H7, I7.unpinned, T.keep _ _ _ st5 fun b hb o e => (I7.pin (b, o) (List.mem_append_right _ (List.mem_append_right _ (mem_pinsAt hb e)))).1, fun b hb => ?_, w7⟩
      obtain ⟨o, e, d⟩ := T.obj _ _ st5 b hb
      exact (I7.pin (b, o) (List.mem_append_right _ (List.mem_append_right _ (mem_pinsAt hb e)))).2.1
    cases f with
    | next => obtain ⟨σ7, H7, I7, n7⟩ := q7; exact again I7 n7
    | cont => obtain ⟨σ7, H7, I7, n7⟩ := q7; exact again I7 n7
    | brk => obtain ⟨σ7, H7, I7, q7⟩ := q7; exact ⟨σ7, H7, I7.unpinned, q7⟩
    | ret v => obtain ⟨x7, σ7, H7, I7, r7, q7⟩ := q7; exact ⟨x7, σ7, H7, I7.unpinned, r7, q7⟩
end
end _L2
namespace _L2
open PySem PySem.Spec PyProof.Rows
noncomputable abbrev R2 := V → V → Hp → VK → Prop
noncomputable def OpR (X : Cx) (f : Value → Value → Sem Value) (r : R2) : Prop :=
  ∀ (pins : List (Addr × Obj)) (s : Shared) (σ : St) (H : Hp) (x y : V) (v u : Value) (Q : VK), Inv X pins σ H s → RelV x v → RelV y u → r x y H Q →
    wpAny (model X.prog X.w) X.A (f v u) (EP X pins σ Q) X.xe s
noncomputable def CallR (X : Cx) (f : Value) (r : List V → Hp → VK → Prop) : Prop :=
  ∀ (pins : List (Addr × Obj)) (s : Shared) (σ : St) (H : Hp) (xs : List V) (us : List Value) (Q : VK), Inv X pins σ H s → Vals xs us → r xs H Q →
    wpAny (model X.prog X.w) X.A (call f us) (EP X pins σ Q) X.xe s
noncomputable def TruR (X : Cx) (r : V → Hp → (Bool → Hp → Prop) → Prop) : Prop :=
  ∀ (pins : List (Addr × Obj)) (s : Shared) (σ : St) (H : Hp) (x : V) (v : Value) (Q : Bool → Hp → Prop), Inv X pins σ H s → RelV x v → r x H Q →
    wpAny (model X.prog X.w) X.A (truthy v) (TP X pins σ Q) X.xe s
noncomputable def tOp (r : R2) (ta tb : TE) : TE := fun σ H Q => ta σ H fun x H1 => tb σ H1 fun y H2 => r x y H2 Q
noncomputable def rI (C : Int → Int → Prop) (g : Int → Int → V) : R2 := fun x y H Q => ∃ i j, x = .int i ∧ y = .int j ∧ C i j ∧ Q (g i j) H
noncomputable def rI0 (g : Int → Int → V) : R2 := fun x y H Q => ∃ i j, x = .int i ∧ y = .int j ∧ Q (g i j) H
section
variable {X : Cx} {a b c : Expr} {ta tb tc : TE} {pos : Pos}
theorem binT (ha : PE X a ta) (hb : PE X b tb) {pins : List (Addr × Obj)} {s : Shared} {σ : St} {H : Hp} {R : V → V → Hp → Prop} (I : Inv X pins σ H s)
    (h : ta σ H fun x H1 => tb σ H1 fun y H2 => R x y H2) {Q : Value → Shared → Prop} {f : Value → Value → Sem Value}
    (hf : ∀ v u s2 x y H2, Inv X pins σ H2 s2 → RelV x v → RelV y u → R x y H2 → wpAny (model X.prog X.w) X.A (f v u) Q X.xe s2) :
    wpAny (model X.prog X.w) X.A (eval a X.env) (fun v s₁ => wpAny (model X.prog X.w) X.A (eval b X.env) (fun u s₂ => wpAny (model X.prog X.w) X.A (f v u) Q X.xe s₂) X.xe s₁) X.xe s := by
  refine thn (ha pins s σ H _ I h) fun v s1 ⟨x, H1, I1, r1, q1⟩ => ?_
  refine thn (hb pins s1 σ H1 _ I1 q1) fun u s2 ⟨y, H2, I2, r2, q2⟩ => ?_
  exact hf v u s2 x y H2 I2 r1 r2 q2
theorem pe_op {op : Operator} {r : R2} (ho : OpR X (binaryOp op) r) (ha : PE X a ta) (hb : PE X b tb) : PE X (.BinOp a op b pos) (tOp r ta tb) := by
  intro pins s σ H Q I h
  exact wpAny_BinOp (binT ha hb I h fun v u s2 x y H2 I2 rx ry q => ho pins s2 σ H2 x y v u Q I2 rx ry q)
theorem opI {f : Value → Value → Sem Value} {C : Int → Int → Prop} {g : Int → Int → Int}
    (rule : ∀ (i j : Int) (t u : Tok) (s : Shared) (Q : Value → Shared → Prop) (E : Value → Shared → Prop), C i j → Q (.int (g i j) s.toks) { s with toks := s.toks + 1 } → wpAny (model X.prog X.w) X.A (f (.int i t) (.int j u)) Q E s) :
    OpR X f (rI C fun i j => .int (g i j)) := by
  intro pins s σ H x y v u Q I rx ry h
  obtain ⟨i, j, rfl, rfl, hc, q⟩ := h
  obtain ⟨t, rfl⟩ := rx
  obtain ⟨t', rfl⟩ := ry
  exact rule i j t t' s _ _ hc ⟨.int (g i j), H, I.tok _, ⟨_, rfl⟩, q⟩
theorem opI0 {f : Value → Value → Sem Value} {g : Int → Int → Int}
    (rule : ∀ (i j : Int) (t u : Tok) (s : Shared) (Q : Value → Shared → Prop) (E : Value → Shared → Prop), Q (.int (g i j) s.toks) { s with toks := s.toks + 1 } → wpAny (model X.prog X.w) X.A (f (.int i t) (.int j u)) Q E s) :
    OpR X f (rI0 fun i j => .int (g i j)) := by
  intro pins s σ H x y v u Q I rx ry h
  obtain ⟨i, j, rfl, rfl, q⟩ := h
  obtain ⟨t, rfl⟩ := rx
  obtain ⟨t', rfl⟩ := ry
  exact rule i j t t' s _ _ ⟨.int (g i j), H, I.tok _, ⟨_, rfl⟩, q⟩
theorem opB0 {f : Value → Value → Sem Value} {g : Int → Int → Bool}
    (rule : ∀ (i j : Int) (t u : Tok) (s : Shared) (Q : Value → Shared → Prop) (E : Value → Shared → Prop), Q (.bool (g i j)) s → wpAny (model X.prog X.w) X.A (f (.int i t) (.int j u)) Q E s) :
    OpR X f (rI0 fun i j => .bl (g i j)) := by
  intro pins s σ H x y v u Q I rx ry h
  obtain ⟨i, j, rfl, rfl, q⟩ := h
  obtain ⟨t, rfl⟩ := rx
  obtain ⟨t', rfl⟩ := ry
  exact rule i j t t' s _ _ ⟨.bl (g i j), H, I, rfl, q⟩
noncomputable def CPow (i j : Int) : Prop := 0 ≤ j ∧ j ≤ 1000000 ∧ i.natAbs < 2 ^ 64
noncomputable def CMul (i j : Int) : Prop := (-(2 ^ 64) < i ∧ i < 2 ^ 64) ∨ (-(2 ^ 64) < j ∧ j < 2 ^ 64)
theorem CMul.ok {i j : Int} (h : CMul i j) : IntMulOk i j := by
  rcases h with ⟨h1, h2⟩ | ⟨h1, h2⟩
  · exact .of_left (intBits_le_64 h1 h2)
  · exact .of_right (intBits_le_64 h1 h2)
theorem op_add : OpR X (binaryOp .Add) (rI0 fun i j => .int (i + j)) := opI0 fun _ _ _ _ _ _ _ q => add_int q
theorem op_sub : OpR X (binaryOp .Sub) (rI0 fun i j => .int (i - j)) := opI0 fun _ _ _ _ _ _ _ q => sub_int q
theorem op_mul : OpR X (binaryOp .Mult) (rI CMul fun i j => .int (i * j)) := opI fun _ _ _ _ _ _ _ hc q => mul_int q hc.ok
theorem op_mod : OpR X (binaryOp .Mod) (rI (fun _ j => 0 < j) fun i j => .int (i % j)) := opI fun i j _ _ _ _ _ hc q => by
  have h1 : (0 : Int) < j := hc
  exact mod_int' (by omega) (by rw [Int.fmod_eq_emod_of_nonneg i (by omega)]; exact q)
theorem op_pow : OpR X (binaryOp .Pow) (rI CPow fun i j => .int (i ^ j.toNat)) := opI fun _ _ _ _ _ _ _ hc q => pow_int_small hc.1 hc.2.1 hc.2.2 q
end
noncomputable def scal : V → V → Bool
  | .non, .non => true | .non, .int _ => true | .int _, .non => true | .non, .bl _ => true | .bl _, .non => true | .non, .str _ => true | .str _, .non => true
  | .int _, .int _ => true | .bl _, .bl _ => true | .str _, .str _ => true | .byt _, .byt _ => true
  | .int _, .str _ => true | .str _, .int _ => true | .bl _, .str _ => true | .str _, .bl _ => true
  | _, _ => false
noncomputable def rEq : R2 := fun x y H Q => scal x y = true ∧ Q (.bl (decide (x = y))) H
noncomputable def rNe : R2 := fun x y H Q => scal x y = true ∧ Q (.bl (!decide (x = y))) H
theorem dec_int {i j : Int} : decide (V.int i = V.int j) = (i == j) := by
  rw [Bool.eq_iff_iff]
  simp
theorem dec_bl {i j : Bool} : decide (V.bl i = V.bl j) = (i == j) := by
  rw [Bool.eq_iff_iff]
  simp
theorem dec_str {i j : Str} : decide (V.str i = V.str j) = (i == j) := by
  rw [Bool.eq_iff_iff]
  simp
theorem dec_byt {i j : Array UInt8} : decide (V.byt i = V.byt j) = (i.toList == j.toList) := by
  rw [Bool.eq_iff_iff]
  cases i
  cases j
  simp
section
variable {X : Cx} {a b c : Expr} {ta tb tc : TE} {pos : Pos}
theorem fin_bl {pins : List (Addr × Obj)} {σ : St} {H : Hp} {s : Shared} {Q : VK} {k k' : Bool} (I : Inv X pins σ H s) (q : Q (.bl k) H) (e : k = k') : EP X pins σ Q (.bool k') s := by
  subst e
  exact ⟨.bl k, H, I, rfl, q⟩
theorem op_eq : OpR X (compareOp .Eq) rEq := by
  intro pins s σ H x y v u Q I rx ry h
  obtain ⟨hs, q⟩ := h
  cases x with
  | non =>
    cases rx
    cases y with
    | non => cases ry; exact PySem.EqNone.eq_none_none (fin_bl I q (by simp))
    | bl j => cases ry; exact PySem.EqNone.eq_none_bool (fin_bl I q (by simp))
    | int j => obtain ⟨t', rfl⟩ := ry; exact PySem.EqNone.eq_none_int (fin_bl I q (by simp))
    | str j => obtain ⟨t', rfl⟩ := ry; exact PySem.EqNone.eq_none_str (fin_bl I q (by simp))
    | _ => exact absurd (show false = true from hs) Bool.false_ne_true
  | bl i =>
    cases rx
    cases y with
    | non => cases ry; exact PySem.EqNone.eq_bool_none (fin_bl I q (by simp))
    | bl j => cases ry; exact eq_bool (fin_bl I q dec_bl)
    | str j => obtain ⟨t', rfl⟩ := ry; exact PySem.EqMixed.eq_bool_str (fin_bl I q (by simp))
    | _ => exact absurd (show false = true from hs) Bool.false_ne_true
  | int i =>
    obtain ⟨t, rfl⟩ := rx
    cases y with
    | non => cases ry; exact PySem.EqNone.eq_int_none (fin_bl I q (by simp))
    | int j => obtain ⟨t', rfl⟩ := ry; exact eq_int (fin_bl I q dec_int)
    | str j => obtain ⟨t', rfl⟩ := ry; exact PySem.EqMixed.eq_int_str (fin_bl I q (by simp))
    | _ => exact absurd (show false = true from hs) Bool.false_ne_true
  | str i =>
    obtain ⟨t, rfl⟩ := rx
    cases y with
    | non => cases ry; exact PySem.EqNone.eq_str_none (fin_bl I q (by simp))
    | bl j => cases ry; exact PySem.EqMixed.eq_str_bool (fin_bl I q (by simp))
    | int j => obtain ⟨t', rfl⟩ := ry; exact PySem.EqMixed.eq_str_int (fin_bl I q (by simp))
    | str j => obtain ⟨t', rfl⟩ := ry; exact eq_str (fin_bl I q dec_str)
    | _ => exact absurd (show false = true from hs) Bool.false_ne_true
  | byt i =>
    obtain ⟨t, rfl⟩ := rx
    cases y with
    | byt j => obtain ⟨t', rfl⟩ := ry; exact PySem.W.eq_bytes (fin_bl I q dec_byt)
    | _ => exact absurd (show false = true from hs) Bool.false_ne_true
  | _ => cases y <;> exact absurd (show false = true from hs) Bool.false_ne_true
theorem op_ne : OpR X (compareOp .NotEq) rNe := by
  intro pins s σ H x y v u Q I rx ry h
  obtain ⟨hs, q⟩ := h
  cases x with
  | non =>
    cases rx
    cases y with
    | non => cases ry; exact PySem.EqNone.ne_none_none (fin_bl I q (by simp))
    | bl j => cases ry; exact PySem.EqNone.ne_none_bool (fin_bl I q (by simp))
    | int j => obtain ⟨t', rfl⟩ := ry; exact PySem.EqNone.ne_none_int (fin_bl I q (by simp))
    | str j => obtain ⟨t', rfl⟩ := ry; exact PySem.EqNone.ne_none_str (fin_bl I q (by simp))
    | _ => exact absurd (show false = true from hs) Bool.false_ne_true
  | bl i =>
    cases rx
    cases y with
    | non => cases ry; exact PySem.EqNone.ne_bool_none (fin_bl I q (by simp))
    | bl j => cases ry; exact ne_bool (fin_bl I q (congrArg not dec_bl))
    | str j => obtain ⟨t', rfl⟩ := ry; exact PySem.EqMixed.ne_bool_str (fin_bl I q (by simp))
    | _ => exact absurd (show false = true from hs) Bool.false_ne_true
  | int i =>
    obtain ⟨t, rfl⟩ := rx
    cases y with
    | non => cases ry; exact PySem.EqNone.ne_int_none (fin_bl I q (by simp))
    | int j => obtain ⟨t', rfl⟩ := ry; exact ne_int (fin_bl I q (congrArg not dec_int))
    | str j => obtain ⟨t', rfl⟩ := ry; exact PySem.EqMixed.ne_int_str (fin_bl I q (by simp))
    | _ => exact absurd (show false = true from hs) Bool.false_ne_true
  | str i =>
    obtain ⟨t, rfl⟩ := rx
    cases y with
    | non => cases ry; exact PySem.EqNone.ne_str_none (fin_bl I q (by simp))
    | bl j => cases ry; exact PySem.EqMixed.ne_str_bool (fin_bl I q (by simp))
    | int j => obtain ⟨t', rfl⟩ := ry; exact PySem.EqMixed.ne_str_int (fin_bl I q (by simp))
    | str j => obtain ⟨t', rfl⟩ := ry; exact ne_str (fin_bl I q (congrArg not dec_str))
    | _ => exact absurd (show false = true from hs) Bool.false_ne_true
  | byt i =>
    obtain ⟨t, rfl⟩ := rx
    cases y with
    | byt j => obtain ⟨t', rfl⟩ := ry; exact PySem.W.ne_bytes (fin_bl I q (congrArg not dec_byt))
    | _ => exact absurd (show false = true from hs) Bool.false_ne_true
  | _ => cases y <;> exact absurd (show false = true from hs) Bool.false_ne_true
theorem op_lt : OpR X (compareOp .Lt) (rI0 fun i j => .bl (decide (i < j))) := opB0 fun _ _ _ _ _ _ _ q => lt_int q
theorem op_le : OpR X (compareOp .LtE) (rI0 fun i j => .bl (decide (i ≤ j))) := opB0 fun _ _ _ _ _ _ _ q => le_int q
theorem op_gt : OpR X (compareOp .Gt) (rI0 fun i j => .bl (decide (j < i))) := opB0 fun _ _ _ _ _ _ _ q => gt_int q
theorem op_ge : OpR X (compareOp .GtE) (rI0 fun i j => .bl (decide (j ≤ i))) := opB0 fun _ _ _ _ _ _ _ q => ge_int q
theorem OpR.or {f : Value → Value → Sem Value} {r r' : R2} (h : OpR X f r) (h' : OpR X f r') : OpR X f (fun x y H Q => r x y H Q ∨ r' x y H Q) := by
  intro pins s σ H x y v u Q I rx ry q
  rcases q with q | q
  · exact h pins s σ H x y v u Q I rx ry q
  · exact h' pins s σ H x y v u Q I rx ry q
theorem nomark (b : Expr) {op : CmpOp} (h : op ≠ .In := by decide) (h2 : op ≠ .NotIn := by decide) : behindInMarks op b = false := by
  have e1 : (op == CmpOp.In) = false := by cases op <;> first | rfl | exact absurd rfl h
  have e2 : (op == CmpOp.NotIn) = false := by cases op <;> first | rfl | exact absurd rfl h2
  cases b <;> simp [behindInMarks, e1, e2]
theorem pe_cmpR {op : CmpOp} {r : R2} (ho : OpR X (compareOp op) r) (ha : PE X a ta) (hb : PE X b tb) (hm : behindInMarks op b = false) : PE X (.Compare a [op] [b] pos) (tOp r ta tb) := by
  intro pins s σ H Q I h
  exact wpAny_Compare1 (binT ha hb I h fun v u s2 x y H2 I2 rx ry q => ho pins s2 σ H2 x y v u Q I2 rx ry q) hm
noncomputable def tTest (t : TE) : TT := fun σ H Q => t σ H fun x H' => ∃ k, x = .bl k ∧ Q k H'
theorem pt_cmpR {op : CmpOp} {r : R2} (ho : OpR X (compareOp op) r) (ha : PE X a ta) (hb : PE X b tb) (hm : behindInMarks op b = false) : PT X (.Compare a [op] [b] pos) (tTest (tOp r ta tb)) := by
  intro pins s σ H Q I h
  refine wpAny_isTrue_Compare1 (thn (ha pins s σ H _ I h) fun v s1 ⟨x, H1, I1, r1, q1⟩ => thn (hb pins s1 σ H1 _ I1 q1) fun u s2 ⟨y, H2, I2, r2, q2⟩ =>
    thn (ho pins s2 σ H2 x y v u _ I2 r1 r2 q2) fun c s3 ⟨z, H3, I3, r3, k, e, q3⟩ => ?_) hm
  subst e
  cases r3
  exact wpAny_truthy_bool ⟨H3, I3, q3⟩
noncomputable def tChain (r r' : R2) (ta tb tc : TE) : TE := fun σ H Q => ta σ H fun x H1 => tb σ H1 fun y H2 => r x y H2 fun z H3 => ∃ k, z = .bl k ∧
  (if k = true then tc σ H3 fun w' H4 => r' y w' H4 Q else Q (.bl false) H3)
theorem pe_chain {op op' : CmpOp} {r r' : R2} (ho : OpR X (compareOp op) r) (ho' : OpR X (compareOp op') r') (ha : PE X a ta) (hb : PE X b tb) (hc : PE X c tc)
    (hm : lastMarks [op, op'] [b, c] = false := by with_unfolding_all rfl) : PE X (.Compare a [op, op'] [b, c] pos) (tChain r r' ta tb tc) := by
  intro pins s σ H Q I h
  refine Compare_chain (thn (ha pins s σ H _ I h) fun v s1 ⟨x, H1, I1, r1, q1⟩ => chain_link (thn (hb pins s1 σ H1 _ I1 q1) fun u s2 ⟨y, H2, I2, r2, q2⟩ =>
    thn (ho pins s2 σ H2 x y v u _ I2 r1 r2 q2) fun d s3 ⟨z, H3, I3, r3, k, e, q3⟩ => ?_)) hm
  subst e
  cases r3
  refine wpAny_truthy_bool ?_
  cases k with
  | false => exact ite_ff ⟨.bl false, H3, I3, rfl, q3⟩
  | true => exact ite_tt (chain_last (thn (hc pins s3 σ H3 _ I3 q3) fun w' s4 ⟨z', H4, I4, r4, q4⟩ => ho' pins s4 σ H4 y z' u w' Q I4 r2 r4 q4))
theorem pt_chain {op op' : CmpOp} {r r' : R2} (ho : OpR X (compareOp op) r) (ho' : OpR X (compareOp op') r') (ha : PE X a ta) (hb : PE X b tb) (hc : PE X c tc)
    (hm : lastMarks [op, op'] [b, c] = false := by with_unfolding_all rfl) : PT X (.Compare a [op, op'] [b, c] pos) (tTest (tChain r r' ta tb tc)) := by
  intro pins s σ H Q I h
  refine isTrue_chain (thn (ha pins s σ H _ I h) fun v s1 ⟨x, H1, I1, r1, q1⟩ => test_link (thn (hb pins s1 σ H1 _ I1 q1) fun u s2 ⟨y, H2, I2, r2, q2⟩ =>
    thn (ho pins s2 σ H2 x y v u _ I2 r1 r2 q2) fun d s3 ⟨z, H3, I3, r3, k, e, q3⟩ => ?_)) hm
  subst e
  cases r3
  refine wpAny_truthy_bool ?_
  cases k with
  | false =>
    obtain ⟨k', e', q'⟩ := q3
    cases e'
    exact ite_ff ⟨H3, I3, q'⟩
  | true =>
    refine ite_tt (test_last (thn (hc pins s3 σ H3 _ I3 q3) fun w' s4 ⟨z', H4, I4, r4, q4⟩ => thn (ho' pins s4 σ H4 y z' u w' _ I4 r2 r4 q4) fun d' s5 ⟨z2, H5, I5, r5, k2, e2, q5⟩ => ?_))
    subst e2
    cases r5
    exact wpAny_truthy_bool ⟨H5, I5, q5⟩
noncomputable def TruV (K : PySem.W.Frag) (x : V) (H : Hp) (k : Bool) : Prop :=
  match x with
  | .non => k = false
  | .bl b => k = b
  | .int i => k = (i != 0)
  | .str y => y.length ≤ sizeLine ∧ k = ((y.length : Int) != 0)
  | .byt y => y.size ≤ sizeLine ∧ k = ((y.size : Int) != 0)
  | .ref p => (∃ xs, SqL K H p xs ∧ k = !xs.isEmpty) ∨ (∃ xs, SqT K H p xs ∧ k = !xs.isEmpty) ∨ ∃ kvs, H p = some (.dK kvs) ∧ k = !kvs.isEmpty
  | _ => False
theorem isEmpty_kv {κ : Type} {kvs : List (κ × V)} {vs : List (κ × Value)} (r : KV kvs vs) : (!vs.isEmpty) = !kvs.isEmpty := by
  cases r <;> rfl
theorem isEmpty_of {xs : List V} {its : List Value} (r : Vals xs its) : (!its.toArray.isEmpty) = !xs.isEmpty := by
  cases r <;> simp
theorem line63 : (sizeLine : Nat) < 2 ^ 63 := by rw [sizeLine_eq]; decide
theorem tru_ok : TruR X (fun x H Q => ∃ k, TruV X.K x H k ∧ Q k H) := by
  intro pins s σ H x v Q I rx h
  obtain ⟨k, e, q⟩ := h
  have hl := line63
  have hs : sizeLine = 16777216 := sizeLine_eq
  cases x with
  | non =>
    cases rx
    have e' : k = false := e
    subst e'
    exact truthy_none ⟨H, I, q⟩
  | bl b =>
    cases rx
    have e' : k = b := e
    subst e'
    exact wpAny_truthy_bool ⟨H, I, q⟩
  | int i =>
    obtain ⟨t, rfl⟩ := rx
    have e' : k = (i != 0) := e
    subst e'
    exact PySem.P.truthy_int ⟨H, I, q⟩
  | str y =>
    obtain ⟨t, rfl⟩ := rx
    obtain ⟨hy, e'⟩ : y.length ≤ sizeLine ∧ k = ((y.length : Int) != 0) := e
    subst e'
    exact PySem.P.truthy_str (by omega) ⟨H, I.tok _, q⟩
  | byt y =>
    obtain ⟨t, rfl⟩ := rx
    obtain ⟨hy, e'⟩ : y.size ≤ sizeLine ∧ k = ((y.size : Int) != 0) := e
    subst e'
    exact PySem.W.truthy_bytes (by omega) ⟨H, I.tok _, q⟩
  | ref p =>
    cases rx
    have e' : (∃ xs, SqL X.K H p xs ∧ k = !xs.isEmpty) ∨ (∃ xs, SqT X.K H p xs ∧ k = !xs.isEmpty) ∨ ∃ kvs, H p = some (.dK kvs) ∧ k = !kvs.isEmpty := e
    rcases e' with ⟨xs, hx, e'⟩ | ⟨xs, hx, e'⟩ | ⟨kvs, hx, e'⟩
    · subst e'
      obtain ⟨its, r, pl, hz⟩ := I.list hx
      have hlen := r.length
      exact wpAny_truthy_list pl.isList (by simp only [List.size_toArray]; omega) ⟨H, I.tok _, by rw [isEmpty_of r]; exact q⟩
    · subst e'
      obtain ⟨its, r, pl, hz⟩ := I.tuple hx
      have hlen := r.length
      exact truthy_tuple pl (by simp only [List.size_toArray]; omega) ⟨H, I.tok _, by rw [isEmpty_of r]; exact q⟩
    · subst e'
      obtain ⟨hz, hS, vs, r, m⟩ : kvs.length ≤ sizeLine ∧ (p == sysModules) = false ∧ ∃ vs, KV kvs vs ∧ s.heap.DictOf (mixKind X.prog X.w) p vs := I.hok p _ hx
      have hlen : kvs.length = vs.length := Paired.length r
      exact wpAny_truthy_dict hS m (by omega) ⟨H, I.tok _, by rw [isEmpty_kv r]; exact q⟩
  | _ => exact (show False from e).elim
theorem pt_truth (ha : PE X a ta) (he : ∀ whole, isTrue a X.env whole = (do let v ← whole; standAt a.pos; holding [v] (truthy v))) :
    PT X a (fun σ H Q => ta σ H fun x H' => ∃ k, TruV X.K x H' k ∧ Q k H') := by
  intro pins s σ H Q I h
  exact isTrue_plain (thn (ha pins s σ H _ I h) fun v s1 ⟨x, H1, I1, r1, q1⟩ => tru_ok pins s1 σ H1 x v Q I1 r1 q1) (he _)
theorem op_add_str : OpR X (binaryOp .Add) (fun x y H Q => ∃ i j, x = .str i ∧ y = .str j ∧ i.length + j.length ≤ sizeLine ∧ Q (.str (i ++ j)) H) := by
  intro pins s σ H x y v u Q I rx ry h
  obtain ⟨i, j, rfl, rfl, hz, q⟩ := h
  obtain ⟨t, rfl⟩ := rx
  obtain ⟨t', rfl⟩ := ry
  exact add_str (fun t' tk => ⟨.str (i ++ j), H, I.tok _, ⟨_, rfl⟩, q⟩) hz
theorem vals1 {x : V} {us : List Value} (r : Vals [x] us) : ∃ u, us = [u] ∧ RelV x u := by
  cases r with
  | cons r1 r2 => cases r2; exact ⟨_, rfl, r1⟩
theorem vals2 {x y : V} {us : List Value} (r : Vals [x, y] us) : ∃ u w', us = [u, w'] ∧ RelV x u ∧ RelV y w' := by
  cases r with
  | cons r1 r2 =>
    cases r2 with
    | cons r3 r4 => cases r4; exact ⟨_, _, rfl, r1, r3⟩
theorem call_max2 (hc : X.calm = true) : CallR X (.builtin "max") (fun xs H Q => ∃ i j, xs = [.int i, .int j] ∧ Q (.int (if j > i then j else i)) H) := by
  intro pins s σ H xs us Q I r h
  obtain ⟨i, j, rfl, q⟩ := h
  obtain ⟨u, w', rfl, ⟨t, rfl⟩, ⟨t', rfl⟩⟩ := vals2 r
  refine max_two_ints (I.ok.hd hc) fun h' tk k => ⟨_, H, I.kept k, ?_, q⟩
  by_cases hj : j > i
  · rw [if_pos hj, if_pos hj]; exact ⟨_, rfl⟩
  · rw [if_neg hj, if_neg hj]; exact ⟨_, rfl⟩
theorem call_min2 (hc : X.calm = true) : CallR X (.builtin "min") (fun xs H Q => ∃ i j, xs = [.int i, .int j] ∧ Q (.int (if j < i then j else i)) H) := by
  intro pins s σ H xs us Q I r h
  obtain ⟨i, j, rfl, q⟩ := h
  obtain ⟨u, w', rfl, ⟨t, rfl⟩, ⟨t', rfl⟩⟩ := vals2 r
  refine min_two_ints (I.ok.hd hc) fun h' tk k => ⟨_, H, I.kept k, ?_, q⟩
  by_cases hj : j < i
  · rw [if_pos hj, if_pos hj]; exact ⟨_, rfl⟩
  · rw [if_neg hj, if_neg hj]; exact ⟨_, rfl⟩
theorem call_int1 : CallR X (.type "int") (fun xs H Q => (∃ i, xs = [.int i] ∧ Q (.int i) H) ∨ ∃ k, xs = [.bl k] ∧ Q (.int (if k then 1 else 0)) H) := by
  intro pins s σ H xs us Q I r h
  rcases h with ⟨i, rfl, q⟩ | ⟨k, rfl, q⟩
  · obtain ⟨u, rfl, t, rfl⟩ := vals1 r
    exact call_int_int ⟨.int i, H, I, ⟨_, rfl⟩, q⟩
  · obtain ⟨u, rfl, r1⟩ := vals1 r
    cases r1
    exact call_int_bool ⟨.int (if k then 1 else 0), H, I.tok _, ⟨_, rfl⟩, q⟩
theorem call_str_int : CallR X (.type "str") (fun xs H Q => ∃ i, xs = [.int i] ∧ i.natAbs.log2 < 1920 ∧ Q (.str (toString i)) H) := by
  intro pins s σ H xs us Q I r h
  obtain ⟨i, rfl, hz, q⟩ := h
  obtain ⟨u, rfl, t, rfl⟩ := vals1 r
  exact PySem.P.str_of_int hz ⟨.str _, H, I.tok _, ⟨_, rfl⟩, q⟩
end
end _L2
namespace _L2
open PySem PySem.Spec PyProof.Rows
structure ObjM (h : Heap) (x dx C : Addr) (mA : Str → Option Value) : Prop where
  obj : h.get? x = some (PySem.W.instObj C dx)
  ns : h.Ns1 dx mA
  ne : dx ≠ x
theorem lookIn_ns {h : Heap} {dx : Addr} {mA : Str → Option Value} (n : h.Ns1 dx mA) : ∃ od, h.get? dx = some od ∧ ∀ name, PySem.W.lookIn name od = some (mA name) := by
  obtain ⟨o, es, ep, ho, hd, hk, _, hm⟩ := n
  refine ⟨o, ho, fun name => ?_⟩
  have e := hm name
  unfold nsFind findBy at e
  rw [← Array.find?_toList] at e
  unfold PySem.W.lookIn
  rw [hd]
  dsimp only
  split
  · rename_i y q
    rw [q] at e
    exact congrArg some e
  · rename_i q
    rw [q] at e
    have a : es.toList.any (·.refKey) = false := by
      rw [List.any_eq_false]
      intro y hy
      obtain ⟨z, t, hkey⟩ := hk y (Array.mem_toList_iff.mp hy)
      simp [DictEntry.refKey, hkey]
    have a' : ¬ es.toList.any (·.refKey) = true := by rw [a]; exact Bool.false_ne_true
    rw [if_neg a']
    exact congrArg some e
theorem ObjM.look {h : Heap} {x dx C : Addr} {mA : Str → Option Value} (I : ObjM h x dx C mA) : ∃ od, PySem.W.InstAt h x (PySem.W.instObj C dx) C (some od) ∧ ∀ name, PySem.W.lookIn name od = some (mA name) :=
  let ⟨od, ho, hl⟩ := lookIn_ns I.ns
  ⟨od, ⟨I.obj, rfl, rfl, ho⟩, hl⟩
section
variable {prog : Program} {w : World} {A : Around} {E : Value → Shared → Prop} {s : Shared} {K : PySem.W.Frag} {x dx C f : Addr} {mA : Str → Option Value} {name : Str} {v : Value}
end
theorem RelO.some_of {v : V} {o : Option Value} (r : RelO (some v) o) : ∃ u, o = some u ∧ RelV v u := by
  cases o with
  | none => exact (show False from r).elim
  | some u => exact ⟨u, rfl, r⟩
theorem RelO.none_of {o : Option Value} (r : RelO none o) : o = none := by
  cases o with
  | none => rfl
  | some u => exact (show False from r).elim
section
variable {P : Program} {w : World} {H H' : Hp} {h h' : Heap} {a C dx : Addr} {fs fs' : List (Str × V)}
theorem ins_get (hok : HOk P w H h) (e : H a = some (.ins C dx fs)) : ∃ mA, ObjM h a dx C mA ∧ (∀ f, RelO (fs.lookup f) (mA f)) ∧ PySem.Within mA (fs.map (·.1)) ∧ fs.length ≤ 1000 ∧ H dx = some (.own a) := by
  obtain ⟨d, z, ne, ob, mA, n, r, q⟩ := (show ObjOk P w H h a (.ins C dx fs) from hok a _ e)
  exact ⟨mA, ⟨ob, n, ne⟩, r, q, z, d⟩
end
structure Cls (K : PySem.W.Frag) (C : Addr) : Prop where
  pg : PySem.W.plainGet K C Str.empty = true
  hd : PySem.W.hasDictIn K C = true
  po : PySem.W.plainOver K C = true
  sa : PySem.W.findIn K (.ref C) "__setattr__" = some (some (.builtin "object.__setattr__"))
theorem Cls.get {K : PySem.W.Frag} {C : Addr} (c : Cls K C) (f : Str) : PySem.W.plainGet K C f = true := c.pg
structure Con (K : PySem.W.Frag) (C : Addr) (f : Str) (v : V) (u : Value) : Prop where
  at_ : PySem.W.findIn K (.ref C) f = some (some u)
  rel : RelV v u
  get : PySem.W.specialIn K u "__get__" = some none
  cp : PySem.W.copiedNames.contains f = false
structure Meth (K : PySem.W.Frag) (C : Addr) (m : Str) (f : Addr) : Prop where
  at_ : PySem.W.findIn K (.ref C) m = some (some (.ref f))
  fn : PySem.W.isFn K (.ref f) = true
  kp : PySem.W.keepIn K (.ref f) = true
section
variable {X : Cx} {pins : List (Addr × Obj)} {σ : St} {H : Hp} {s : Shared} {a C dx : Addr} {fs : List (Str × V)} {f : Str} {v : V} {A : Around} {E : Value → Shared → Prop}
theorem Inv.made (I : Inv X pins σ H s) : Inv X pins σ (upd (upd H s.heap.objs.size (.own (s.heap.objs.size + 1))) (s.heap.objs.size + 1) (.ins C s.heap.objs.size []))
    { s with heap := (s.heap.push PySem.W.emptyDict).push (PySem.W.instObj C s.heap.objs.size) } := by
  have e1 : (s.heap.push PySem.W.emptyDict).get? s.heap.objs.size = some PySem.W.emptyDict := Heap.get?_push_size s.heap rfl
  have e2 : ((s.heap.push PySem.W.emptyDict).push (PySem.W.instObj C s.heap.objs.size)).get? (s.heap.objs.size + 1) = some (PySem.W.instObj C s.heap.objs.size) := by
    have := Heap.get?_push_size (s.heap.push PySem.W.emptyDict) (o := PySem.W.instObj C s.heap.objs.size) rfl
    rwa [Heap.size_push] at this
  have e3 : (s.heap.push PySem.W.emptyDict).Ns s.heap.objs.size (fun _ => none) := ⟨PySem.W.emptyDict, #[], _, e1, rfl, (fun e he => absurd he (by simp)), fun _ => rfl⟩
  have I1 := I.laid (a := s.heap.objs.size) (o := .own (s.heap.objs.size + 1)) (h' := s.heap.push PySem.W.emptyDict) (t' := s.toks) (fun b u q => Heap.get?_push_of_some _ q) (Nat.le_refl _) ⟨_, e1⟩
  refine I1.laid (a := s.heap.objs.size + 1) (o := .ins C s.heap.objs.size []) (t' := s.toks) (fun b u q => Heap.get?_push_of_some _ q) (Nat.le_of_eq (Heap.size_push _ _)) ?_
  have ne : s.heap.objs.size ≠ s.heap.objs.size + 1 := Nat.ne_of_lt (Nat.lt_succ_self _)
  refine ⟨by rw [upd_ne ne, upd_same], Nat.zero_le _, ne, e2, fun _ => none, (Heap.Ns1.of_empty e3).at fun o q => Heap.get?_push_of_some _ q, fun _ => True.intro, fun y hy => absurd rfl hy⟩
end
section
variable {X : Cx} {o e value : Expr} {f : Str} {pos pos' tpos : Pos} {ta tv : TE}
end
section
variable {X : Cx} {pins : List (Addr × Obj)} {σ : St} {H : Hp} {s : Shared} {A : Around} {E : Value → Shared → Prop} {Q : Value → Shared → Prop} {c : Value} {b : Bool}
inductive TyOf (K : PySem.W.Frag) (H : Hp) : V → Value → Prop where
  | non : TyOf K H .non (.type "NoneType")
  | bl (x : Bool) : TyOf K H (.bl x) (.type "bool")
  | int (i : Int) : TyOf K H (.int i) (.type "int")
  | str (x : Str) : TyOf K H (.str x) (.type "str")
  | flt (x : UInt64) : TyOf K H (.flt x) (.type "float")
  | lst {a : Addr} {xs : List V} (e : H a = some (.lst xs)) : TyOf K H (.ref a) (.type "list")
  | frz {a : Addr} {o : Obj} {xs : List V} (e : H a = some (.frz o (.lst xs))) : TyOf K H (.ref a) (.type "list")
  | tup {a : Addr} {xs : List V} (e : H a = some (.tup xs)) : TyOf K H (.ref a) (.type "tuple")
  | dK {a : Addr} {kvs : List (Key × V)} (e : H a = some (.dK kvs)) : TyOf K H (.ref a) (.type "dict")
  | dT {a : Addr} {kvs : List (List Key × V)} (e : H a = some (.dT kvs)) : TyOf K H (.ref a) (.type "dict")
  | ins {a C dx : Addr} {fs : List (Str × V)} (e : H a = some (.ins C dx fs)) (cl : Cls K C) (ha : PySem.W.findIn K (.ref C) "__class__" = some (some (.builtin "object.__class__")))
      (hn : PySem.W.specialIn K (.builtin "object.__class__") "__get__" = some (some (.builtin "getset_descriptor.__get__"))) (htk : PySem.W.takesIn K (.builtin "object.__class__") = some true)
      (hm : PySem.W.mroIn K C (.type "object") = some true) : TyOf K H (.ref a) (.ref C)
theorem isinst_ok {x : V} {u t : Value} (I : Inv X pins σ H s) (rx : RelV x u) (ty : TyOf X.K H x t) (e : PySem.W.kitOne X.K t c = some b) (h : ∀ tk, Q (.bool b) { s with toks := tk }) :
    wpAny (model X.prog X.w) A (call (.builtin "isinstance") [u, c]) Q E s := by
  cases ty with
  | non => cases (show u = Value.none from rx); exact PySem.W.kia_one PySem.W.kitx_none I.kIn True.intro e (fun z => nomatch z) h
  | bl y => cases (show u = Value.bool y from rx); exact PySem.W.kia_one PySem.W.kitx_bool I.kIn True.intro e (fun z => nomatch z) h
  | int i => obtain ⟨t, q⟩ := (show ∃ t, u = Value.int i t from rx); cases q; exact PySem.W.kia_one PySem.W.kitx_int I.kIn True.intro e (fun z => nomatch z) h
  | str y => obtain ⟨t, q⟩ := (show ∃ t, u = Value.str y t from rx); cases q; exact PySem.W.kia_one PySem.W.kitx_str I.kIn True.intro e (fun z => nomatch z) h
  | flt y => obtain ⟨t, q⟩ := (show ∃ t, u = Value.float y t from rx); cases q; exact PySem.W.kia_one PySem.W.kitx_float I.kIn True.intro e (fun z => nomatch z) h
  | @lst a xs ea =>
    cases (show u = Value.ref a from rx)
    obtain ⟨_, _, n, _, h1⟩ := (show ObjOk X.prog X.w H s.heap a (.lst xs) from I.hok a _ ea)
    exact PySem.W.kia_one PySem.W.kitx_list I.kIn ⟨_, h1, rfl⟩ e (fun z => nomatch z) h
  | @frz a ob xs ea =>
    cases (show u = Value.ref a from rx)
    obtain ⟨_, _, _, n, _, h1⟩ := (show ObjOk X.prog X.w H s.heap a (.frz ob (.lst xs)) from I.hok a _ ea)
    exact PySem.W.kia_one PySem.W.kitx_list I.kIn ⟨_, h1, rfl⟩ e (fun z => nomatch z) h
  | @tup a xs ea =>
    cases (show u = Value.ref a from rx)
    obtain ⟨_, _, _, p⟩ := (show ObjOk X.prog X.w H s.heap a (.tup xs) from I.hok a _ ea)
    obtain ⟨o, h1, h2, _⟩ := p
    exact PySem.W.kia_one PySem.W.kitx_tuple I.kIn ⟨o, h1, h2⟩ e (fun z => nomatch z) h
  | @dK a kvs ea =>
    cases (show u = Value.ref a from rx)
    obtain ⟨_, _, vs, _, p⟩ := (show ObjOk X.prog X.w H s.heap a (.dK kvs) from I.hok a _ ea)
    obtain ⟨o, es, ep, h1, h2, _⟩ := p
    exact PySem.W.kia_one PySem.W.kitx_dict I.kIn ⟨o, h1, h2.1⟩ e (fun z => nomatch z) h
  | @dT a kvs ea =>
    cases (show u = Value.ref a from rx)
    obtain ⟨_, _, xs, _, o, es, ep, h1, h2, _⟩ := (show ObjOk X.prog X.w H s.heap a (.dT kvs) from I.hok a _ ea)
    exact PySem.W.kia_one PySem.W.kitx_dict I.kIn ⟨o, h1, h2.1⟩ e (fun z => nomatch z) h
  | @ins a C dx fs ea cl ha hn htk hm =>
    cases (show u = Value.ref a from rx)
    obtain ⟨mA, O, _⟩ := ins_get I.hok ea
    obtain ⟨od, J, _⟩ := O.look
    exact PySem.W.kia_one (PySem.W.kitx_own (cl.get _) cl.hd ha hn htk hm) I.kIn J e (fun z => nomatch z) h
end
end _L2
namespace _L2
open PySem PySem.Spec PyProof.Rows
structure Room (k : Nat) (A : Around) : Prop where
  hd : A.handled = none
  dp : A.depth + 3 * k + 5 < recursionLimit
  un : A.units + 16 * k + 200 < cLine
theorem Room.mono {j k : Nat} {A : Around} (r : Room k A) (h : j ≤ k) : Room j A := ⟨r.hd, by have := r.dp; omega, by have := r.un; omega⟩
theorem Room.deeper {k : Nat} {A : Around} (r : Room (k + 1) A) (env : Env) : Room k (A.deeper env) :=
  ⟨r.hd, by have := r.dp; show A.depth + 1 + 3 * k + 5 < _; omega, by have := r.un; show A.units + 3 + 16 * k + 200 < _; omega⟩
theorem Room.in1 {k : Nat} {A : Around} (r : Room (k + 1) A) : Room k A.in1 :=
  ⟨r.hd, by have := r.dp; show A.depth + 3 * k + 5 < _; omega, by have := r.un; show A.units + 1 + 16 * k + 200 < _; omega⟩
theorem Room.depth {k : Nat} {A : Around} (r : Room k A) : A.depth < recursionLimit := by have := r.dp; omega
theorem Room.units {k : Nat} {A : Around} (r : Room k A) : A.units + 64 < cLine := by have := r.un; omega
noncomputable def tNil : TA := fun _ H Q => Q [] H
noncomputable def tCons (ta : TE) (tr : TA) : TA := fun σ H Q => ta σ H fun x H1 => tr σ H1 fun xs H2 => Q (x :: xs) H2
section
variable {X : Cx} {e : Expr} {es : List Expr} {te : TE} {t : TA} {pos : Pos}
theorem pa_nil : PA X [] tNil := fun _ _ _ _ H Q I h => Calls.spliced_nil ⟨[], H, I, .nil, h⟩
theorem pa_cons (ha : PE X e te) (hr : PA X es t) (hs : starEach (e :: es) X.env = (false, eval e X.env) :: starEach es X.env := by rfl) : PA X (e :: es) (tCons te t) := by
  intro pos pins s σ H Q I h
  rw [hs]
  show wpAny _ _ (spliced ((false, eval e X.env) :: backTo pos (starEach es X.env))) _ _ s
  refine Calls.spliced_cons (thn (ha pins s σ H _ I h) fun u s1 ⟨x, H1, I1, r1, q1⟩ => ?_)
  exact thn (hr pos pins s1 σ H1 _ I1 q1) fun us s2 ⟨xs, H2, I2, r2, q2⟩ => ⟨x :: xs, H2, I2, .cons r1 r2, q2⟩
noncomputable def tTup (t : TA) : TE := fun σ H Q => t σ H fun xs H1 => xs.length ≤ sizeLine ∧ ∀ p, H1 p = none → Q (.ref p) (upd H1 p (.tup xs))
noncomputable def tLst (t : TA) : TE := fun σ H Q => t σ H fun xs H1 => xs.length ≤ sizeLine ∧ ∀ p, H1 p = none → Q (.ref p) (upd H1 p (.lst xs))
theorem pe_tup {x1} (h : PA X es t) : PE X (.Tuple es x1 pos) (tTup t) := by
  intro pins s σ H Q I hq
  refine wpAny_Tuple_spliced (thn (h pos pins s σ H _ I hq) fun us s1 ⟨xs, H1, I1, r, z, q⟩ => ⟨by rw [← r.length]; exact z, ?_⟩)
  have hf : H1 s1.heap.objs.size = none := I1.hok.fresh (Nat.le_refl _)
  refine ⟨.ref s1.heap.objs.size, upd H1 s1.heap.objs.size (.tup xs), I1.laid (t' := s1.toks) (fun b u e => Heap.get?_push_of_some _ e) (Nat.le_refl _) ?_, rfl, q _ hf⟩
  exact ⟨z, us, r, ⟨_, Heap.get?_push_size _ rfl, rfl, _, rfl⟩⟩
theorem pe_lst (h : PA X es t) : PE X (.List es pos) (tLst t) := by
  intro pins s σ H Q I hq
  refine wpAny_List_spliced (thn (h pos pins s σ H _ I hq) fun us s1 ⟨xs, H1, I1, r, z, q⟩ => ⟨by rw [← r.length]; exact z, ?_⟩)
  have hf : H1 s1.heap.objs.size = none := I1.hok.fresh (Nat.le_refl _)
  refine ⟨.ref s1.heap.objs.size, upd H1 s1.heap.objs.size (.lst xs), I1.laid (t' := s1.toks) (fun b u e => Heap.get?_push_of_some _ e) (Nat.le_refl _) ?_, rfl, q _ hf⟩
  exact ⟨z, us, 0, r, Heap.get?_push_size _ rfl⟩
end
noncomputable abbrev Sp := List V → Hp → VK → XK → Prop
noncomputable abbrev CXT := List Env → Hp → Shared → XK → Value → Shared → Prop
structure Env0 (P : Program) (w : World) (K : PySem.W.Frag) (mg : Str → Option Value) (base : Heap) (A : Around) (outer : List Env) (s : Shared) (H : Hp) : Prop where
  frames : A.frames = some outer
  mod : Mod K mg base
  bs : ∀ b o, base.get? b = some o → s.heap.get? b = some o ∧ H b = none
  bsz : base.objs.size ≤ s.heap.objs.size
  funs : s.heap.FunFrames base outer
  frf : ∀ b ∈ frs outer, H b = none
  hok : HOk P w H s.heap
  bare : AllBare s.gens
noncomputable def CE (outer : List Env) (P : Program) (w : World) (H : Hp) (s : Shared) (Q : VK) (u : Value) (s' : Shared) : Prop :=
  ∃ v H', s'.os = s.os ∧ AllBare s'.gens ∧ Un (frs outer) [] H H' s.heap s'.heap ∧ HOk P w H' s'.heap ∧ RelV v u ∧ Q v H'
noncomputable def CR (CX : CXT) (outer : List Env) (P : Program) (w : World) (H : Hp) (s : Shared) (Q : VK) (E : XK) (r : Result) (s' : Shared) : Prop :=
  match r with
  | .ok (.ret u) => CE outer P w H s Q u s'
  | .ok _ => False
  | .error e => CX outer H s E e s'
structure FnOk (P : Program) (w : World) (K : PySem.W.Frag) (mg : Str → Option Value) (base : Heap) (CX : CXT) (k : Nat) (f : Addr) (fd : FuncData) (ps : List Str) (sp : Sp) : Prop where
  len : ∀ vs H Q E, sp vs H Q E → vs.length = ps.length
  run : ∀ (A : Around) (outer : List Env) (s : Shared) (H : Hp) (args : Args) (us : List Value) (vs : List V) (Q : VK) (E : XK), Room k A → Env0 P w K mg base A outer s H → BindsTo s fd args (ps.zip us) → Vals vs us → sp vs H Q E →
    codeAny (model P w) A (.call (.ref f) args) (CR CX outer P w H s Q E) s
theorem FnOk.mono {P : Program} {w : World} {K : PySem.W.Frag} {mg : Str → Option Value} {base : Heap} {CX : CXT} {j k : Nat} {f : Addr} {fd : FuncData} {ps : List Str} {sp : Sp} (F : FnOk P w K mg base CX j f fd ps sp) (h : j ≤ k) :
    FnOk P w K mg base CX k f fd ps sp := ⟨F.len, fun A outer s H args us vs Q E hr => F.run A outer s H args us vs Q E (hr.mono h)⟩
theorem FnOk.imp {P : Program} {w : World} {K : PySem.W.Frag} {mg : Str → Option Value} {base : Heap} {CX : CXT} {k : Nat} {f : Addr} {fd : FuncData} {ps : List Str} {sp sp' : Sp} (F : FnOk P w K mg base CX k f fd ps sp)
    (h : ∀ vs H Q E, sp' vs H Q E → sp vs H Q E) : FnOk P w K mg base CX k f fd ps sp' :=
  ⟨fun vs H Q E q => F.len vs H Q E (h _ _ _ _ q), fun A outer s H args us vs Q E hr he hb hv hs => F.run A outer s H args us vs Q E hr he hb hv (h _ _ _ _ hs)⟩
theorem Env0.in1 {P : Program} {w : World} {K : PySem.W.Frag} {mg : Str → Option Value} {base : Heap} {A : Around} {outer : List Env} {s : Shared} {H : Hp} (e : Env0 P w K mg base A outer s H) :
    Env0 P w K mg base A.in1 outer s H := ⟨e.frames, e.mod, e.bs, e.bsz, e.funs, e.frf, e.hok, e.bare⟩
section
variable {X : Cx} {pins : List (Addr × Obj)} {σ : St} {H : Hp} {s s' : Shared}
theorem Inv.env0 (I : Inv X pins σ H s) : Env0 X.prog X.w X.K X.mg X.base X.A X.stack s H :=
  ⟨I.ok.frames, I.ok.mod, I.bs, Nat.le_trans I.ok.bsz I.sz, I.stack, I.stkFree, I.hok, I.bare⟩
theorem Inv.after {Q : VK} {u : Value} (I : Inv X pins σ H s) (h : CE X.stack X.prog X.w H s Q u s') : EP X pins σ Q u s' := by
  obtain ⟨v, H', os, bare, un, hok, r, q⟩ := h
  obtain ⟨hh, g, d, t, os'⟩ := s'
  obtain rfl : os' = s.os := os
  exact ⟨v, H', I.call (h' := hh) (g' := g) (d' := d) (t' := t) (ch := []) un hok bare (fun b z => absurd z (by simp)), r, q⟩
end
noncomputable def tCall (sp : Sp) (dvs : List V) (E : XK) (t : TA) : TE := fun σ H Q => t σ H fun vs H1 => sp (vs ++ dvs) H1 Q E
noncomputable def Binds (K : PySem.W.Frag) (fd : FuncData) (ps : List Str) (ds : List Value) : Prop :=
  ∀ (s : Shared) (us : List Value), K.In s.heap → (us ++ ds).length = ps.length → BindsTo s fd ⟨us, []⟩ (ps.zip (us ++ ds))
theorem Binds.all {K : PySem.W.Frag} {fd : FuncData} {ps : List Str} (h : ∀ us : List Value, us.length = ps.length → bindArgs fd ⟨us, []⟩ = pure (ps.zip us)) : Binds K fd ps [] := fun s us _ hl => by
  rw [List.append_nil] at hl ⊢
  exact .of_eq (h us hl)
noncomputable def Passes (CX : CXT) (X : Cx) (E : XK) : Prop := ∀ (pins : List (Addr × Obj)) (σ : St) (H : Hp) (s : Shared) (e : Value) (s' : Shared), Inv X pins σ H s → CX X.stack H s E e s' → X.xe e s'
section
variable {X : Cx} {CX : CXT} {k : Nat} {f C : Addr} {fd : FuncData} {ps : List Str} {sp : Sp} {dvs : List V} {ds : List Value} {E : XK} {x m : Str} {p pos apos : Pos} {e o : Expr} {es : List Expr} {ta : TE} {t : TA}
theorem run_fn {pins : List (Addr × Obj)} {σ : St} {H : Hp} {s : Shared} {Q : VK} {us : List Value} {vs : List V} (F : FnOk X.prog X.w X.K X.mg X.base CX k f fd ps sp) (hr : Room k X.A) (hb : Binds X.K fd ps ds) (hd : Vals dvs ds) (hx : Passes CX X E)
    (I : Inv X pins σ H s) (r : Vals vs us) (h : sp (vs ++ dvs) H Q E) : wpAny (model X.prog X.w) X.A (call (.ref f) us) (EP X pins σ Q) X.xe s := by
  have r2 : Vals (vs ++ dvs) (us ++ ds) := r.append hd
  have hl : (us ++ ds).length = ps.length := by rw [← r2.length]; exact F.len _ _ _ _ h
  refine wpAny_call (codeAny_mono (F.run X.A X.stack s H ⟨us, []⟩ (us ++ ds) (vs ++ dvs) Q E hr I.env0 (hb s us I.kIn hl) r2 h) fun r s' hq => ?_)
  cases r with
  | error e => exact hx pins σ H s e s' I hq
  | ok fl =>
    cases fl with
    | ret u => exact I.after hq
    | next => exact False.elim hq
    | brk => exact False.elim hq
    | cont => exact False.elim hq
theorem pe_call (F : FnOk X.prog X.w X.K X.mg X.base CX k f fd ps sp) (hr : Room k X.A) (hg : Gl X x) (hm : X.mg x = some (.ref f)) (hk : PySem.W.keepIn X.K (.ref f) = true) (hb : Binds X.K fd ps ds) (hd : Vals dvs ds) (hx : Passes CX X E)
    (ha : PA X (e :: es) t) (hdb : (x == ("__debug__" : Str)) = false := by decide) (he : starEach (e :: es) X.env = (false, eval e X.env) :: starEach es X.env := by rfl) (hpl : (backTo pos (starEach es X.env)).any (·.1) = false := by rfl) :
    PE X (.Call (.Name x p) (e :: es) [] pos) (tCall sp dvs E t) := by
  intro pins s σ H Q I h
  refine wpAny_Call_Name_kw (ld_glob I hg hm ?_ hdb)
  refine PySem.W.callWith_K (h₀ := X.base) I.ok.mod.kin hk (thn (ha pos pins s σ H _ I h) fun us s1 ⟨vs, H1, I1, r, q⟩ => ⟨I1.kIn, ?_⟩) he hpl
  exact run_fn F hr hb hd hx I1 r q
structure Mk (K : PySem.W.Frag) (C f : Addr) : Prop where
  makes : PySem.W.makesIn K C = true
  init : PySem.W.findIn K (.ref C) "__init__" = some (some (.ref f))
  fn : PySem.W.isFn K (.ref f) = true
  kp : PySem.W.keepIn K (.ref C) = true
end
section
variable {X : Cx} {CX : CXT} {k : Nat} {f C : Addr} {fd : FuncData} {ps ks : List Str} {sp : Sp} {E : XK} {x m : Str} {p pos apos kpos : Pos} {e o : Expr} {es : List Expr} {kws : List Keyword} {te ta : TE} {t tk : TA} {nm : Option Str}
structure KBinds (K : PySem.W.Frag) (fd : FuncData) (ps ks : List Str) (g : List Value → List Value → List Value) (gV : List V → List V → List V) : Prop where
  to : ∀ (s : Shared) (us ws : List Value), K.In s.heap → (g us ws).length = ps.length → BindsTo s fd ⟨us, ks.zip ws⟩ (ps.zip (g us ws))
  rel : ∀ {vs : List V} {us : List Value} {zs : List V} {ws : List Value}, Vals vs us → Vals zs ws → Vals (gV vs zs) (g us ws)
variable {g : List Value → List Value → List Value} {gV : List V → List V → List V}
end
structure FnScope (N P : List Str) (sc : Scope) : Prop where
  kind : sc.kind = .function
  co : sc.isCoroutine = false
  gen : sc.isGenerator = false
  nd : N.Nodup
  pre : N.take P.length = P
  par : ∀ x ∈ P, sc.names.lookup x = some .local ∨ sc.names.lookup x = some .cell
  nofree : ∀ y ∈ sc.names, y.2 ≠ .free
theorem bindL_out {kindOf : Str → Option NameKind} {x : Str} : ∀ {binds : List (Str × Value)} {m : Str → Option Value}, (∀ v, (x, v) ∉ binds) → bindL kindOf binds m x = m x
  | [], _, _ => rfl
  | (n, v) :: r, m, h => by
    unfold bindL
    rw [bindL_out fun w hw => h w (List.mem_cons_of_mem _ hw)]
    split
    · have : x ≠ n := by rintro rfl; exact h v List.mem_cons_self
      simp [this]
    · rfl
theorem bindC_out {kindOf : Str → Option NameKind} {x : Str} : ∀ {binds : List (Str × Value)} {m : Str → Option Value}, (∀ v, (x, v) ∉ binds) → bindC kindOf binds m x = m x
  | [], _, _ => rfl
  | (n, v) :: r, m, h => by
    unfold bindC
    rw [bindC_out fun w hw => h w (List.mem_cons_of_mem _ hw)]
    split
    · rfl
    · have : x ≠ n := by rintro rfl; exact h v List.mem_cons_self
      simp [this]
theorem bindL_get {kindOf : Str → Option NameKind} {x : Str} {v : Value} : ∀ {P : List Str} {vs : List Value} {i : Nat} {m : Str → Option Value}, P.Nodup → P[i]? = some x → vs[i]? = some v → kindOf x = some .local →
    bindL kindOf (P.zip vs) m x = some v
  | [], _, _, _, _, h, _, _ => by simp at h
  | _ :: _, [], _, _, _, _, h, _ => by simp at h
  | p :: P, w :: vs, 0, m, nd, h1, h2, hk => by
    simp at h1 h2; subst h1; subst h2
    show bindL kindOf ((p, w) :: P.zip vs) m p = _
    unfold bindL
    rw [bindL_out fun v hv => (List.nodup_cons.mp nd).1 (List.of_mem_zip hv).1, if_pos hk]
    simp
  | p :: P, w :: vs, i + 1, m, nd, h1, h2, hk => by
    show bindL kindOf ((p, w) :: P.zip vs) m x = _
    unfold bindL
    exact bindL_get (i := i) (List.nodup_cons.mp nd).2 (by simpa using h1) (by simpa using h2) hk
theorem bindC_get {kindOf : Str → Option NameKind} {x : Str} {v : Value} : ∀ {P : List Str} {vs : List Value} {i : Nat} {m : Str → Option Value}, P.Nodup → P[i]? = some x → vs[i]? = some v → kindOf x ≠ some .local →
    bindC kindOf (P.zip vs) m x = some v
  | [], _, _, _, _, h, _, _ => by simp at h
  | _ :: _, [], _, _, _, _, h, _ => by simp at h
  | p :: P, w :: vs, 0, m, nd, h1, h2, hk => by
    simp at h1 h2; subst h1; subst h2
    show bindC kindOf ((p, w) :: P.zip vs) m p = _
    unfold bindC
    rw [bindC_out fun v hv => (List.nodup_cons.mp nd).1 (List.of_mem_zip hv).1, if_neg hk]
    simp
  | p :: P, w :: vs, i + 1, m, nd, h1, h2, hk => by
    show bindC kindOf ((p, w) :: P.zip vs) m x = _
    unfold bindC
    exact bindC_get (i := i) (List.nodup_cons.mp nd).2 (by simpa using h1) (by simpa using h2) hk
noncomputable def start (N : List Str) (vs : List V) : St := vs.map some ++ List.replicate (N.length - vs.length) none
noncomputable def cxOf (CX : CXT) (P : Program) (w : World) (K : PySem.W.Frag) (mg : Str → Option Value) (base : Heap) (N : List Str) (qual : Str) (scope : Scope) (f : Addr) (cd : Value) (A : Around) (outer : List Env) (s : Shared) (H : Hp) (E : XK) : Cx where
  prog := P
  w := w
  K := K
  mg := mg
  base := base
  A := A.deeper (envOfC qual scope s.heap.objs.size f cd)
  N := N
  s₀ := s
  H₀ := H
  env := envOfC qual scope s.heap.objs.size f cd
  outer := outer
  stack := envOfC qual scope s.heap.objs.size f cd :: outer
  ex := []
  calm := true
  fn := fun _ => true
  pn := []
  xe := fun e s' => wpAny (model P w) (A.deeper (envOfC qual scope s.heap.objs.size f cd)) (leaving (envOfC qual scope s.heap.objs.size f cd) e) (fun _ s'' => CX outer H s E e s'') (fun e' s'' => CX outer H s E e' s'') s'
theorem cell_has {sc : Scope} {n : Nat} {x : Str} (h : sc.names.lookup x = some .cell) : ∃ c, (cellsFrom n sc.names []).lookup x = some c := by
  have q := PySem.W.cellsFrom_some sc.names n [] (.inl h)
  exact Option.isSome_iff_exists.mp q
theorem inv_start {CX : CXT} {P : Program} {w : World} {K : PySem.W.Frag} {mg : Str → Option Value} {base : Heap} {N ps : List Str} {qual : Str} {scope : Scope} {f : Addr} {cd : Value} {A : Around} {outer : List Env} {s s1 : Shared} {H : Hp} {E : XK} {us : List Value} {vs : List V}
    (S : FnScope N ps scope) (hd : A.handled = none) (e0 : Env0 P w K mg base A outer s H) (hl : vs.length = ps.length) (r : Vals vs us)
    (x : InCallC s s.heap.objs.size (bindL (envOfC qual scope s.heap.objs.size f cd).kindOf (ps.zip us) fun _ => none) (cellsFrom (s.heap.objs.size + 1) scope.names []) (bindC (envOfC qual scope s.heap.objs.size f cd).kindOf (ps.zip us) fun _ => none) s1) :
    Inv (cxOf CX P w K mg base N qual scope f cd A outer s H E) [] (start N vs) H s1 := by
  have hpl : ps.length ≤ N.length := by have := congrArg List.length S.pre; rw [List.length_take] at this; omega
  obtain ⟨h1, tk, rfl, hk⟩ := x.done
  have noA : ∀ b : Addr, b ∉ (cxOf CX P w K mg base N qual scope f cd A outer s H E).ex := fun b z => absurd (show b ∈ ([] : List Addr) from z) (by simp)
  refine ⟨⟨e0.mod, S.kind, rfl, rfl, Nat.le_refl _, fun y z c h1 h2 => ?_, fun y hy => ?_, fun y c _ h => ?_, fun _ => hd, Around.frames_deeper e0.frames, .inr ⟨rfl, rfl⟩, fun b z => absurd z (noA b), e0.bs, e0.bsz, fun b _ _ => noA b, fun b z => absurd z (noA b), e0.funs, e0.frf⟩,
    rfl, e0.bare, Un.kept hk, ⟨_, x.toInCall.ns, fun i y v h1 h2 h3 => ?_⟩, fun y c h => ⟨_, x.cell y c h⟩, e0.hok.fresh (Nat.le_refl _), fun y c h => ?_, fun p hp => absurd (show p ∈ ([] : List (Addr × Obj)) from hp) (by simp), e0.hok.kept hk, ?_⟩
  · exact name_of_addr x.apart (PySem.mem_of_lookup h1) (PySem.mem_of_lookup h2)
  · have hy : scope.names.lookup y = some .cell ∨ scope.names.lookup y = some .free := hy
    rcases hy with hy | hy
    · exact cell_has hy
    · exact absurd rfl (S.nofree _ (PySem.mem_of_lookup hy))
  · exact Nat.le_of_lt (x.above y c (PySem.mem_of_lookup h))
  · have hi : i < vs.length := by
      unfold start at h2
      by_cases hi : i < vs.length
      · exact hi
      · rw [List.getElem?_append_right (by simpa using hi)] at h2
        rw [List.getElem?_replicate] at h2
        split at h2 <;> cases h2
    have ha : vs[i]? = some v := by
      unfold start at h2
      rw [List.getElem?_append_left (by simpa using hi), List.getElem?_map] at h2
      cases e : vs[i]? with
      | none => rw [e] at h2; cases h2
      | some a => rw [e] at h2; cases h2; rfl
    obtain ⟨u, hu, rv⟩ := r.get ha
    have hp : ps[i]? = some y := by
      rw [← S.pre, List.getElem?_take_of_lt (by omega)]; exact h1
    have ndP : ps.Nodup := by rw [← S.pre]; exact S.nd.sublist (List.take_sublist _ _)
    refine ⟨u, rv, ?_⟩
    rcases S.par y (List.mem_of_getElem? hp) with k | k
    · exact .inl ⟨k, bindL_get ndP hp hu k⟩
    · obtain ⟨c, e⟩ := cell_has (n := s.heap.objs.size + 1) k
      refine .inr ⟨.inl k, c, e, ?_⟩
      have q := x.cell y c e
      rw [bindC_get ndP hp hu (by show scope.names.lookup y ≠ _; rw [k]; decide)] at q
      exact q
  · exact e0.hok.fresh (Nat.le_of_lt (x.above y c (PySem.mem_of_lookup h)))
  · unfold start
    show _ = N.length
    rw [List.length_append, List.length_map, List.length_replicate]
    omega
theorem fn_of {CX : CXT} {P : Program} {w : World} {K : PySem.W.Frag} {mg : Str → Option Value} {base : Heap} {k : Nat} {f : Addr} {name qual : Str} {params : Arguments} {body : List Stmt} {scope : Scope} {dV kV doc pm cdv ct oc : Value} {an od : Option Addr}
    {osl : Array (Option Value)} {N ps : List Str} {sp : Sp} (lk : K.lookup f = some ⟨oc, od, .func (PySem.W.fnOf name qual params body scope dV kV doc pm an cdv ct), osl⟩) (hcd : PySem.W.codeIn K cdv qual = true) (S : FnScope N ps scope)
    (len : ∀ vs H Q E, sp vs H Q E → vs.length = ps.length)
    (hbody : ∀ (A : Around) (outer : List Env) (s : Shared) (H : Hp) (vs : List V) (Q : VK) (E : XK), Room k (A.deeper (envOfC qual scope s.heap.objs.size f cdv)) → sp vs H Q E →
      ∃ t, PSs (cxOf CX P w K mg base N qual scope f cdv A outer s H E) body t ∧ t { nx := fun _ H' => Q .non H', rt := Q } (start N vs) H) :
    FnOk P w K mg base CX (k + 1) f (PySem.W.fnOf name qual params body scope dV kV doc pm an cdv ct) ps sp := by
  refine ⟨len, fun A outer s H args us vs Q E hr e0 hb r hsp => ?_⟩
  have hl := len _ _ _ _ hsp
  have KX : K.In s.heap := e0.mod.kin.keeps fun b o e => (e0.bs b o e).1
  have lim : s.heap.NoLimit := e0.mod.nolimit.keeps fun b o e => (e0.bs b o e).1
  have hkind : ∀ y ∈ ps.zip us, scope.names.lookup y.1 = some .local ∨ (scope.names.lookup y.1 = some .cell ∧ ((cellsFrom (s.heap.objs.size + 1) scope.names []).lookup y.1).isSome = true) := fun ⟨n, v⟩ hy => by
    rcases S.par n (List.of_mem_zip hy).1 with q | q
    · exact .inl q
    · exact .inr ⟨q, PySem.W.cellsFrom_some _ _ _ (.inl q)⟩
  refine codeAny_call_function hr.depth (KX _ _ lk) rfl S.co S.gen rfl (PySem.W.codeRec_of KX hcd) (hb _ _ _ _ ?_)
  refine wpAny_newFunctionEnv_cells S.kind hkind fun env he s1 x => ?_
  subst he
  refine ⟨lim.keeps x.toInCall.keep, codeAny_func ?_⟩
  obtain ⟨t, ht, hq⟩ := hbody A outer s H vs Q E (hr.deeper _) hsp
  have I : Inv (cxOf CX P w K mg base N qual scope f cdv A outer s H E) [] (start N vs) H s1 := inv_start S hr.hd e0 hl r x
  refine wpAny_mono (ht [] s1 (start N vs) H _ I hq) (fun fl s' hs => ?_) fun e s' hs => hs
  have fin : ∀ {σ' : St} {H' : Hp} {v : V} {u : Value}, Inv (cxOf CX P w K mg base N qual scope f cdv A outer s H E) [] σ' H' s' → RelV v u → Q v H' → CE outer P w H s Q u s' :=
    fun {σ' H' v u} J rv q => ⟨v, H', J.os, J.bare, J.base, J.hok, rv, q⟩
  cases fl with
  | ret u =>
    obtain ⟨v, σ', H', J, rv, q⟩ := hs
    exact fin J rv q
  | next =>
    obtain ⟨σ', H', J, q⟩ := hs
    exact fin (v := V.non) (u := Value.none) J rfl q
  | brk =>
    obtain ⟨_, _, _, q⟩ := hs
    exact False.elim q
  | cont =>
    obtain ⟨_, _, _, q⟩ := hs
    exact False.elim q
end _L2
namespace _L2
open PySem PySem.Spec PyProof.Rows
section
variable {X : Cx} {x : Str} {p pos : Pos} {e : Expr} {es : List Expr} {t : TA} {id T : String} {r : List V → Hp → VK → Prop}
noncomputable def tCB (r : List V → Hp → VK → Prop) (t : TA) : TE := fun σ H Q => t σ H fun vs H1 => r vs H1 Q
theorem pe_callB (hc : CallR X (.builtin id) r) (hg : Gl X x) (hm : X.mg x = none) (hv : bootBuiltins x = some (.builtin id)) (ha : PA X (e :: es) t) (hn : x ≠ "__name__" := by decide) (hdb : (x == ("__debug__" : Str)) = false := by decide)
    (he : starEach (e :: es) X.env = (false, eval e X.env) :: starEach es X.env := by rfl) (hpl : (backTo pos (starEach es X.env)).any (·.1) = false := by rfl) : PE X (.Call (.Name x p) (e :: es) [] pos) (tCB r t) := by
  intro pins s σ H Q I h
  refine wpAny_Call_Name_kw (ld_blt I hg hm hv ?_ hn hdb)
  exact PyProof.Rows.callWith_builtin1 (thn (ha pos pins s σ H _ I h) fun us s1 ⟨vs, H1, I1, r1, q1⟩ => hc pins s1 σ H1 vs us Q I1 r1 q1) he hpl
theorem pe_callTy (hc : CallR X (.type T) r) (hg : Gl X x) (hm : X.mg x = none) (hv : bootBuiltins x = some (.type T)) (ha : PA X (e :: es) t) (hn : x ≠ "__name__" := by decide) (hdb : (x == ("__debug__" : Str)) = false := by decide)
    (he : starEach (e :: es) X.env = (false, eval e X.env) :: starEach es X.env := by rfl) (hpl : (backTo pos (starEach es X.env)).any (·.1) = false := by rfl) : PE X (.Call (.Name x p) (e :: es) [] pos) (tCB r t) := by
  intro pins s σ H Q I h
  refine wpAny_Call_Name_kw (ld_blt I hg hm hv ?_ hn hdb)
  exact PyProof.Rows.callWith_type1 (thn (ha pos pins s σ H _ I h) fun us s1 ⟨vs, H1, I1, r1, q1⟩ => hc pins s1 σ H1 vs us Q I1 r1 q1) he hpl
end
end _L2
namespace HT
open PySem PyProof.Rows
section
open PySem.SeqAt
open PySem.AutoSeq1 (wpAny_loadPart')
open PySem.MeetsSeq PySem.MeetsSeq2 PySem.MeetsSeq3
end
section
variable {prog : Program} {w : World} {A : Around} {E : Value → Shared → Prop} {s : Shared}
noncomputable def sIx (n d : Nat) : Option Int → Nat
  | none => d
  | some v => if v < 0 then (v + (n : Int)).toNat else min v.toNat n
theorem sIx_none (n d : Nat) : sIx n d none = d := rfl
theorem sIx_nat (n d k : Nat) : sIx n d (some (k : Int)) = min k n := by
  show (if (k : Int) < 0 then ((k : Int) + (n : Int)).toNat else min (k : Int).toNat n) = min k n
  rw [if_neg (by omega), Int.toNat_natCast]
theorem sIx_le (n d : Nat) (hd : d ≤ n) (o : Option Int) : sIx n d o ≤ n := by
  cases o with
  | none => exact hd
  | some v =>
    show (if v < 0 then (v + (n : Int)).toNat else min v.toNat n) ≤ n
    by_cases hv : v < 0
    · rw [if_pos hv]; omega
    · rw [if_neg hv]; exact Nat.min_le_right _ _
theorem clip_eq (v : Int) (n d : Nat) : (if v < 0 then max (v + (n : Int)) 0 else min v (n : Int)) = ((sIx n d (some v) : Nat) : Int) := by
  show (if v < 0 then max (v + (n : Int)) 0 else min v (n : Int)) = (((if v < 0 then (v + (n : Int)).toNat else min v.toNat n) : Nat) : Int)
  by_cases hv : v < 0
  · simp only [if_pos hv]; omega
  · simp only [if_neg hv]; omega
theorem adjust_gen (lo hi : Option Int) (n : Nat) : Builtin.Slice.sliceAdjust lo hi 1 (n : Int) = (((sIx n 0 lo : Nat) : Int), ((sIx n n hi : Nat) : Int)) := by
  have h1 : ¬ ((1 : Int) < 0) := by omega
  unfold Builtin.Slice.sliceAdjust
  simp only [h1, if_false]
  refine Prod.ext ?_ ?_
  · cases lo with
    | none => rfl
    | some v => exact clip_eq v n 0
  · cases hi with
    | none => rfl
    | some v => exact clip_eq v n n
theorem places_gen (i j : Nat) : Builtin.Slice.slicePlaces (i : Int) (j : Int) 1 = j - i := by
  unfold Builtin.Slice.slicePlaces
  have h1 : (1 : Int) > 0 := by omega
  simp only [h1, if_true, Int.ediv_one]
  split <;> omega
theorem slicePart_ {v : Value} {o : Option Int} {Q : Option Int → Shared → Prop} (p : IsPart v o) (h : Q o s) : wpAny (model prog w) A (Builtin.Slice.slicePartIndex v) Q E s := by
  cases p with
  | none => exact slicePart_none h
  | int i t => exact slicePart_int h
theorem sliceApplied_gen {sl : Addr} {vl vu : Value} {lo hi : Option Int} {n : Nat} {Q : Int × Int × Nat → Shared → Prop} (hs : s.heap.IsSliceOf sl vl vu .none) (pl : IsPart vl lo) (pu : IsPart vu hi)
    (h : Q (((sIx n 0 lo : Nat) : Int), 1, sIx n n hi - sIx n 0 lo) s) : wpAny (model prog w) A (Builtin.Slice.sliceApplied (.ref sl) (pure (n : Int))) Q E s := by
  obtain ⟨os, hos, hcs, hds⟩ := id hs
  unfold Builtin.Slice.sliceApplied Builtin.Slice.sliceFields
  refine wpAny_bind (wpAny_bind (wpAny_field hos hds (x := vl) rfl (wpAny_bind (wpAny_field hos hds (x := vu) rfl (wpAny_bind (wpAny_field hos hds (x := .none) rfl (wpAny_pure ?_)))))))
  refine wpAny_bind (slicePart_none ?_)
  show wpAny _ _ (if ((1 : Int) == 0) = true then _ else _) _ _ s
  rw [if_neg (by decide)]
  refine wpAny_bind (slicePart_ pl (wpAny_bind (slicePart_ pu (wpAny_bind (wpAny_pure ?_)))))
  show wpAny _ _ (match Builtin.Slice.sliceAdjust lo hi 1 (n : Int) with | (lo, hi) => pure (lo, (1 : Int), Builtin.Slice.slicePlaces lo hi 1)) _ _ s
  rw [adjust_gen lo hi n]
  show wpAny _ _ (pure (((sIx n 0 lo : Nat) : Int), (1 : Int), Builtin.Slice.slicePlaces ((sIx n 0 lo : Nat) : Int) ((sIx n n hi : Nat) : Int) 1)) _ _ s
  rw [places_gen]
  exact wpAny_pure h
theorem pick_gen (xs : Array Value) (i k : Nat) : ((List.range k).filterMap fun (m : Nat) => xs[((i : Int) + (m : Int) * 1).toNat]?).toArray = ((xs.toList.drop i).take k).toArray := by
  have e : (fun (m : Nat) => xs[((i : Int) + (m : Int) * 1).toNat]?) = fun m => xs[i + m]? := by
    funext m
    have : ((i : Int) + (m : Int) * 1).toNat = i + m := by omega
    rw [this]
  rw [e]
  have := pick_run xs i k
  rw [List.filterMap_map] at this
  have e2 : ((fun x => xs[x]?) ∘ fun x => i + x) = fun m => xs[i + m]? := rfl
  rw [e2] at this
  rw [this]
theorem getItem_tuple_cut {t sl : Addr} {items : Array Value} {vl vu : Value} {lo hi : Option Int} {Q : Value → Shared → Prop} (ht : IsTup s.heap t items) (hs : s.heap.IsSliceOf sl vl vu .none) (pl : IsPart vl lo) (pu : IsPart vu hi)
    (hw : ¬ (sIx items.size 0 lo = 0 ∧ sIx items.size items.size hi = items.size))
    (h : Q (.ref s.heap.objs.size) { s with heap := s.heap.push { cls := .type "tuple", data := .seq ((items.toList.drop (sIx items.size 0 lo)).take (sIx items.size items.size hi - sIx items.size 0 lo)).toArray } })
    (hsz : items.size ≤ sizeLine) : wpAny (model prog w) A (getItem (.ref t) (.ref sl)) Q E s := by
  have htake : sizeOk (.seq ((items.toList.drop (sIx items.size 0 lo)).take (sIx items.size items.size hi - sIx items.size 0 lo)).toArray) := by
    show ((items.toList.drop (sIx items.size 0 lo)).take (sIx items.size items.size hi - sIx items.size 0 lo)).toArray.size ≤ sizeLine
    rw [List.size_toArray, List.length_take, List.length_drop, Array.length_toList]
    omega
  have hj : sIx items.size items.size hi ≤ items.size := sIx_le _ _ (Nat.le_refl _) hi
  obtain ⟨os, hos, hcs, hds⟩ := id hs
  have hTs : s.TypeIs (.ref sl) "slice" := ⟨os, hos, hcs⟩
  unfold getItem
  try with_reducible refine wpAny_holding ?_
  first | refine wpAny_bind (wpAny_pure ?_) | skip
  refine wpAny_bind (wpAny_sequenceKey ht.typeIs (by decide) ?_)
  refine wpAny_bind (wpAny_callSpecial?_slot (name := Str.ofString "__getitem__") ht.typeIs PyProof.Rows.slot_tuple_getitem
    (wpAny_call_entry PyProof.Rows.slot_tuple_getitem ht.typeIs entry_tuple_getitem ?_ (args_tuple_getitem _ _)))
  show wpAny _ _ (Builtin.Tuple.tupleItemsOf (.ref t) >>= _) _ _ s
  refine wpAny_bind (tupleItemsOf_ ht ?_)
  refine wpAny_bind (wpAny_typeOf hTs ?_)
  rw [if_pos (by decide)]
  refine wpAny_bind (sliceApplied_gen hs pl pu ?_)
  have hno : ¬ ((((sIx items.size 0 lo : Nat) : Int) == 0 && (1 : Int) == 1 && (sIx items.size items.size hi - sIx items.size 0 lo) == items.size) = true) := by
    intro q
    rw [Bool.and_eq_true, Bool.and_eq_true] at q
    have q1 : ((sIx items.size 0 lo : Nat) : Int) = 0 := eq_of_beq q.1.1
    have q2 : sIx items.size items.size hi - sIx items.size 0 lo = items.size := eq_of_beq q.2
    exact hw ⟨by omega, by omega⟩
  show wpAny _ _ (if (((sIx items.size 0 lo : Nat) : Int) == 0 && (1 : Int) == 1 && (sIx items.size items.size hi - sIx items.size 0 lo) == items.size) = true then _ else _) _ _ s
  rw [if_neg hno, pick_gen]
  first
    | exact wpAny_bind (m := Builtin.Tuple.tupleExact _) (wpAny_newObj_type (wpAny_pure ⟨_, rfl, wpAny_pure h⟩) htake)
    | exact wpAny_bind (m := Builtin.Tuple.tupleExact _) (wpAny_newObj_type (wpAny_bind (wpAny_pure (wpAny_pure ⟨_, rfl, wpAny_pure h⟩))) htake)
    | exact wpAny_bind (wpAny_bind (m := Builtin.Tuple.tupleExact _) (wpAny_newObj_type (wpAny_pure (wpAny_pure ⟨_, rfl, wpAny_pure h⟩)) htake))
    | exact wpAny_bind (wpAny_bind (m := Builtin.Tuple.tupleExact _) (wpAny_newObj_type (wpAny_pure ⟨_, rfl, wpAny_pure h⟩) htake))
end
end HT
namespace _L2
open PySem PySem.Spec PyProof.Rows
noncomputable abbrev TO := St → Hp → (Option Int → Hp → Prop) → Prop
noncomputable def PO (X : Cx) (e : Option Expr) (t : TO) : Prop :=
  ∀ (pins : List (Addr × Obj)) (s : Shared) (σ : St) (H : Hp) (Q : Option Int → Hp → Prop), Inv X pins σ H s → t σ H Q →
    wpAny (model X.prog X.w) X.A (evalPart e X.env) (fun u s' => ∃ o H', Inv X pins σ H' s' ∧ IsPart u o ∧ Q o H') X.xe s
noncomputable def tNoPart : TO := fun _ H Q => Q none H
noncomputable def tPart (t : TE) : TO := fun σ H Q => t σ H fun x H1 => ∃ i, x = .int i ∧ Q (some i) H1
section
variable {X : Cx} {e : Expr} {te : TE} {lo hi : Option Expr} {tl th : TO} {pos p2 : Pos}
theorem po_none : PO X none tNoPart := by
  intro pins s σ H Q I h
  rw [evalPart_none]
  exact wpAny_pure ⟨none, H, I, .none, h⟩
theorem po_some (h : PE X e te) : PO X (some e) (tPart te) := by
  intro pins s σ H Q I hw
  rw [evalPart_some]
  refine thn (h pins s σ H _ I hw) fun u s1 ⟨x, H1, I1, r1, q1⟩ => ?_
  obtain ⟨i, rfl, q⟩ := q1
  obtain ⟨t, rfl⟩ := r1
  exact ⟨some i, H1, I1, .int i t, q⟩
noncomputable def SlR (X : Cx) (r : V → Option Int → Option Int → Hp → VK → Prop) : Prop :=
  ∀ (pins : List (Addr × Obj)) (s : Shared) (σ : St) (H : Hp) (x : V) (v vl vu : Value) (lo hi : Option Int) (sl : Addr) (Q : VK), Inv X pins σ H s → RelV x v → s.heap.IsSliceOf sl vl vu .none → IsPart vl lo → IsPart vu hi → r x lo hi H Q →
    ∃ T id, typeLookup (.type T) "__getitem__" = pure (some (.builtin id)) ∧ s.TypeIs v T ∧ wpAny (model X.prog X.w) X.A (getItem v (.ref sl)) (EP X pins σ Q) X.xe s
theorem SlR.or {r r' : V → Option Int → Option Int → Hp → VK → Prop} (h : SlR X r) (h' : SlR X r') : SlR X (fun x lo hi H Q => r x lo hi H Q ∨ r' x lo hi H Q) := by
  intro pins s σ H x v vl vu lo hi sl Q I rx hs pl pu q
  rcases q with q | q
  · exact h pins s σ H x v vl vu lo hi sl Q I rx hs pl pu q
  · exact h' pins s σ H x v vl vu lo hi sl Q I rx hs pl pu q
noncomputable def tSl (r : V → Option Int → Option Int → Hp → VK → Prop) (te : TE) (tl th : TO) : TE := fun σ H Q => te σ H fun x H1 => tl σ H1 fun l H2 => th σ H2 fun u H3 => r x l u H3 Q
theorem pe_slice {r : V → Option Int → Option Int → Hp → VK → Prop} (hr : SlR X r) (he : PE X e te) (hl : PO X lo tl) (hu : PO X hi th) : PE X (.Subscript e (.Slice lo hi none p2) pos) (tSl r te tl th) := by
  intro pins s σ H Q I h
  refine Subscript_ (thn (he pins s σ H _ I h) fun v s1 ⟨x, H1, I1, r1, q1⟩ => ?_)
  refine wpAny_Slice (thn (hl pins s1 σ H1 _ I1 q1) fun vl s2 ⟨l, H2, I2, pl, q2⟩ => thn (hu pins s2 σ H2 _ I2 q2) fun vu s3 ⟨u, H3, I3, pu, q3⟩ => ?_)
  rw [evalPart_none]
  refine wpAny_pure ?_
  have I4 : Inv X pins σ H3 { s3 with heap := s3.heap.push { cls := .type "slice", data := .fields #[vl, vu, .none] } } := I3.kept (t' := s3.toks) fun b ob q => Heap.get?_push_of_some _ q
  obtain ⟨T, id, hT, ht, hg⟩ := hr pins { s3 with heap := s3.heap.push { cls := .type "slice", data := .fields #[vl, vu, .none] } } σ H3 x v vl vu l u s3.heap.objs.size Q I4 r1 (Heap.IsSliceOf.new ..) pl pu q3
  show wpAny (model X.prog X.w) X.A (subscriptTail e (.Slice lo hi none p2) v (.ref s3.heap.objs.size)) (EP X pins σ Q) X.xe { s3 with heap := s3.heap.push { cls := .type "slice", data := .fields #[vl, vu, .none] } }
  exact tail_any (ops := [.ref s3.heap.objs.size, v]) ht hT hg (by with_unfolding_all rfl)
noncomputable def cutV (xs : List V) (lo hi : Option Int) : List V := (xs.drop (HT.sIx xs.length 0 lo)).take (HT.sIx xs.length xs.length hi - HT.sIx xs.length 0 lo)
theorem cutV_length (xs : List V) (lo hi : Option Int) : (cutV xs lo hi).length ≤ xs.length := by
  unfold cutV
  rw [List.length_take, List.length_drop]
  omega
noncomputable def rSlT (K : PySem.W.Frag) : V → Option Int → Option Int → Hp → VK → Prop := fun x lo hi H Q => ∃ a xs, x = .ref a ∧ SqT K H a xs ∧
  ¬ (HT.sIx xs.length 0 lo = 0 ∧ HT.sIx xs.length xs.length hi = xs.length) ∧ ∀ p, H p = none → Q (.ref p) (upd H p (.tup (cutV xs lo hi)))
theorem sl_tup : SlR X (rSlT X.K) := by
  intro pins s σ H x v vl vu lo hi sl Q I rx hs pl pu h
  obtain ⟨a, xs, rfl, hx, hw, q⟩ := h
  cases rx
  obtain ⟨its, r, ht, hz⟩ := I.tuple hx
  have hlen : its.toArray.size = xs.length := by rw [List.size_toArray]; exact r.length.symm
  refine ⟨"tuple", _, PyProof.Rows.slot_tuple_getitem.lookup, ht.typeIs, ?_⟩
  refine HT.getItem_tuple_cut ht hs pl pu (by rw [hlen]; exact hw) ?_ (by rw [hlen]; exact hz)
  rw [hlen]
  refine ⟨.ref s.heap.objs.size, _, I.laid (t' := s.toks) (o := .tup (cutV xs lo hi)) (fun b ob q => Heap.get?_push_of_some _ q) (Nat.le_refl _) ?_, rfl, q _ (I.hok.fresh (Nat.le_refl _))⟩
  exact ⟨Nat.le_trans (cutV_length xs lo hi) hz, _, (r.drop (HT.sIx xs.length 0 lo)).take (HT.sIx xs.length xs.length hi - HT.sIx xs.length 0 lo), IsTup.new _ _⟩
end
end _L2
namespace _L2
open PySem PySem.Spec PyProof.Rows
noncomputable def ixN (n : Nat) (i : Int) : Option Nat := if 0 ≤ i then (if i < n then some i.toNat else none) else if -(n : Int) ≤ i then some (i + n).toNat else none
noncomputable def atI {α : Type} (xs : List α) (i : Int) : Option α := (ixN xs.length i).bind fun j => xs[j]?
theorem ixN_seq {n : Nat} {i : Int} {j : Nat} (h : ixN n i = some j) : seqIndex? i n = some j ∧ j < n ∧ -(n : Int) ≤ i ∧ i < n := by
  unfold ixN at h
  by_cases h0 : 0 ≤ i
  · rw [if_pos h0] at h
    by_cases h1 : i < n
    · rw [if_pos h1] at h
      have e : i.toNat = j := Option.some.inj h
      exact ⟨by rw [seqIndex_of h0 h1, e], by omega, by omega, h1⟩
    · rw [if_neg h1] at h; cases h
  · rw [if_neg h0] at h
    by_cases h1 : -(n : Int) ≤ i
    · rw [if_pos h1] at h
      have e : (i + n).toNat = j := Option.some.inj h
      exact ⟨by rw [seqIndex_neg (by omega) h1, e], by omega, h1, by omega⟩
    · rw [if_neg h1] at h; cases h
theorem atI_get {α : Type} {xs : List α} {i : Int} {v : α} (h : atI xs i = some v) : ∃ j, seqIndex? i xs.length = some j ∧ xs[j]? = some v ∧ j < xs.length ∧ -(xs.length : Int) ≤ i ∧ i < xs.length := by
  unfold atI at h
  cases e : ixN xs.length i with
  | none => rw [e] at h; cases h
  | some j =>
    rw [e] at h
    obtain ⟨h1, h2, h3, h4⟩ := ixN_seq e
    exact ⟨j, h1, h, h2, h3, h4⟩
theorem atI_nat {α : Type} {xs : List α} {j : Nat} {v : α} (h : xs[j]? = some v) : atI xs (j : Int) = some v := by
  have hj : j < xs.length := (List.getElem?_eq_some_iff.mp h).1
  have e : ixN xs.length (j : Int) = some j := by
    unfold ixN
    rw [if_pos (by omega), if_pos (by omega)]; simp
  unfold atI; rw [e]; exact h
noncomputable def PlainIx (b : Expr) : Prop := ∀ o i, subscripted b false o i = operate [o, i] (getItem o i)
noncomputable def IxR (X : Cx) (r : R2) : Prop :=
  ∀ (value slice : Expr) (pins : List (Addr × Obj)) (s : Shared) (σ : St) (H : Hp) (x y : V) (v u : Value) (Q : VK), Inv X pins σ H s → RelV x v → RelV y u → r x y H Q →
    subscripted slice false v u = operate [v, u] (getItem v u) → wpAny (model X.prog X.w) X.A (subscriptTail value slice v u) (EP X pins σ Q) X.xe s
noncomputable def MtR (X : Cx) (id : String) (r : V → List V → Hp → VK → Prop) : Prop :=
  ∀ (pins : List (Addr × Obj)) (s : Shared) (σ : St) (H : Hp) (x : V) (xs : List V) (v : Value) (us : List Value) (Q : VK), Inv X pins σ H s → RelV x v → Vals xs us → r x xs H Q →
    wpAny (model X.prog X.w) X.A (call (.builtin id) (v :: us)) (EP X pins σ Q) X.xe s
section
variable {X : Cx} {a b : Expr} {ta tb : TE} {pos : Pos}
theorem IxR.or {r r' : R2} (h : IxR X r) (h' : IxR X r') : IxR X (fun x y H Q => r x y H Q ∨ r' x y H Q) := by
  intro value slice pins s σ H x y v u Q I rx ry q hs
  rcases q with q | q
  · exact h value slice pins s σ H x y v u Q I rx ry q hs
  · exact h' value slice pins s σ H x y v u Q I rx ry q hs
theorem MtR.or {id : String} {r r' : V → List V → Hp → VK → Prop} (h : MtR X id r) (h' : MtR X id r') : MtR X id (fun x xs H Q => r x xs H Q ∨ r' x xs H Q) := by
  intro pins s σ H x xs v us Q I rx rs q
  rcases q with q | q
  · exact h pins s σ H x xs v us Q I rx rs q
  · exact h' pins s σ H x xs v us Q I rx rs q
theorem pe_ix {r : R2} (hr : IxR X r) (ha : PE X a ta) (hb : PE X b tb) (hs : PlainIx b) : PE X (.Subscript a b pos) (tOp r ta tb) := by
  intro pins s σ H Q I h
  exact Subscript_ (binT ha hb I h fun v u s2 x y H2 I2 rx ry q => hr a b pins s2 σ H2 x y v u Q I2 rx ry q (hs _ _))
noncomputable def rIxL (K : PySem.W.Frag) : R2 := fun x y H Q => ∃ p xs i v, x = .ref p ∧ y = .int i ∧ SqL K H p xs ∧ atI xs i = some v ∧ Q v H
noncomputable def rIxT (K : PySem.W.Frag) : R2 := fun x y H Q => ∃ p xs i v, x = .ref p ∧ y = .int i ∧ SqT K H p xs ∧ atI xs i = some v ∧ Q v H
noncomputable def rIxS : R2 := fun x y H Q => ∃ z i c, x = .str z ∧ y = .int i ∧ z.length ≤ sizeLine ∧ atI z.cps.toList i = some c ∧ Q (.str ⟨#[c]⟩) H
theorem ix_list : IxR X (rIxL X.K) := by
  intro value slice pins s σ H x y v u Q I rx ry h hs
  obtain ⟨p, xs, i, z, rfl, rfl, hq, he, q⟩ := h
  cases rx
  obtain ⟨t, rfl⟩ := ry
  obtain ⟨its, r, pl, hz⟩ := I.list hq
  obtain ⟨j, h1, h2, h3, h4, h5⟩ := atI_get he
  obtain ⟨w, ew, rw'⟩ := r.get h2
  have hl := r.length
  have hn := line63
  have fin : EP X pins σ Q w s := ⟨z, H, I, rw', q⟩
  by_cases h0 : 0 ≤ i
  · have hj : i.toNat = j := by
      rw [seqIndex_of h0 h5] at h1
      exact Option.some.inj h1
    exact item_listR pl.isList h0 (by omega) (by rw [hj]; simpa using ew) fin hs
  · have hj : (i + (its.toArray.size : Int)).toNat = j := by
      rw [seqIndex_neg (by omega) h4] at h1
      rw [List.size_toArray, ← hl]
      exact Option.some.inj h1
    exact subscriptTail_builtinR (x := w) pl.isList.typeIs slot_list_getitem.lookup
      (wpAny_getItem_list_neg (Q := fun r s' => r = w ∧ EP X pins σ Q r s') pl.isList (by omega) (by rw [List.size_toArray] <;> omega) (by omega) (by rw [hj]; simpa using ew) ⟨rfl, fin⟩) hs
theorem ix_tup : IxR X (rIxT X.K) := by
  intro value slice pins s σ H x y v u Q I rx ry h hs
  obtain ⟨p, xs, i, z, rfl, rfl, hq, he, q⟩ := h
  cases rx
  obtain ⟨t, rfl⟩ := ry
  obtain ⟨its, r, pl, hz⟩ := I.tuple hq
  obtain ⟨j, h1, h2, h3, h4, h5⟩ := atI_get he
  obtain ⟨w, ew, rw'⟩ := r.get h2
  have hl := r.length
  have hn := line63
  have fin : EP X pins σ Q w s := ⟨z, H, I, rw', q⟩
  exact subscriptTail_builtinR (x := w) pl.typeIs slot_tuple_getitem.lookup
    (getItem_tuple (j := j) (Q := fun r s' => r = w ∧ EP X pins σ Q r s') pl (by omega) (by omega) (by rw [List.size_toArray, ← hl]; exact h1) (by simpa using ew) ⟨rfl, fin⟩) hs
theorem ix_str : IxR X rIxS := by
  intro value slice pins s σ H x y v u Q I rx ry h hs
  obtain ⟨z, i, c, rfl, rfl, hz, he, q⟩ := h
  obtain ⟨t, rfl⟩ := rx
  obtain ⟨t', rfl⟩ := ry
  obtain ⟨j, h1, h2, h3, h4, h5⟩ := atI_get he
  have hl : z.cps.toList.length = z.length := by simp [Str.length]
  rw [hl] at h1 h4 h5
  have hn := line63
  exact tail_any (typeIs_str s z t) slot_str_getitem.lookup (getItem_str (c := c) (by
    have e1 : decide (i < -(2 ^ 63 : Int)) = false := decide_eq_false (by omega)
    have e2 : decide (i ≥ 2 ^ 63) = false := decide_eq_false (by omega)
    rw [e1, e2, Bool.or_false]) (by rw [h1]; simpa using h2) ⟨.str ⟨#[c]⟩, H, I.tok _, ⟨_, rfl⟩, q⟩) hs
noncomputable def rIx (K : PySem.W.Frag) : R2 := fun x y H Q => rIxL K x y H Q ∨ rIxT K x y H Q ∨ rIxS x y H Q
theorem ix_seq : IxR X (rIx X.K) := ix_list.or (ix_tup.or ix_str)
theorem Inv.lst {pins : List (Addr × Obj)} {σ : St} {H : Hp} {s : Shared} {p : Addr} {xs : List V} (I : Inv X pins σ H s) (h : H p = some (.lst xs)) :
    ∃ (its : List Value) (n : Nat), Vals xs its ∧ s.heap.get? p = some { cls := .type "list", data := .seq its.toArray n } ∧ xs.length ≤ sizeLine := by
  obtain ⟨z, its, n, r, e⟩ := I.hok p _ h
  exact ⟨its, n, r, e, z⟩
theorem slice_bounds (lo hi : Option Int) (n : Nat) : (sliceBounds lo hi none n).1 = ((HT.sIx n 0 lo : Nat) : Int) ∧ (sliceBounds lo hi none n).2.1 = ((HT.sIx n n hi : Nat) : Int) ∧ (sliceBounds lo hi none n).2.2 = 1 := by
  refine ⟨?_, ?_, rfl⟩
  · cases lo with
    | none => simp [sliceBounds, HT.sIx]
    | some i =>
      simp only [sliceBounds, HT.sIx, Option.getD_none, show (1 : Int) > 0 by decide, if_true]
      by_cases h : i < 0
      · simp only [h, if_true] <;> omega
      · simp only [h, if_false] <;> omega
  · cases hi with
    | none => simp [sliceBounds, HT.sIx]
    | some i =>
      simp only [sliceBounds, HT.sIx, Option.getD_none, show (1 : Int) > 0 by decide, if_true]
      by_cases h : i < 0
      · simp only [h, if_true] <;> omega
      · simp only [h, if_false] <;> omega
theorem slicePick_cut (its : List Value) (lo hi : Option Int) : slicePick its.toArray lo hi none = ((its.drop (HT.sIx its.length 0 lo)).take (HT.sIx its.length its.length hi - HT.sIx its.length 0 lo)).toArray := by
  obtain ⟨h1, h2, h3⟩ := slice_bounds lo hi its.toArray.size
  unfold slicePick
  rw [h1, h2, h3]
  simp only [sliceRange_one, pick_run, List.size_toArray] <;> rfl
noncomputable def rSlL (K : PySem.W.Frag) : V → Option Int → Option Int → Hp → VK → Prop := fun x lo hi H Q => ∃ a xs, x = .ref a ∧ SqL K H a xs ∧ ∀ p, H p = none → Q (.ref p) (upd H p (.lst (cutV xs lo hi)))
theorem sl_list : SlR X (rSlL X.K) := by
  intro pins s σ H x v vl vu lo hi sl Q I rx hs pl pu h
  obtain ⟨a, xs, rfl, hx, q⟩ := h
  cases rx
  obtain ⟨its, r, ht, hz⟩ := I.list hx
  have hlen := r.length
  refine ⟨"list", _, slot_list_getitem.lookup, ht.isList.typeIs, ?_⟩
  refine wpAny_getItem_list_slice ht.isList hs pl pu .none (by simp) ?_ (by rw [List.size_toArray] <;> omega)
  rw [slicePick_cut, ← hlen]
  refine ⟨.ref s.heap.objs.size, _, I.laid (t' := s.toks) (o := .lst (cutV xs lo hi)) (fun b ob q => Heap.get?_push_of_some _ q) (Nat.le_refl _) ?_, rfl, q _ (I.hok.fresh (Nat.le_refl _))⟩
  exact ⟨Nat.le_trans (cutV_length xs lo hi) hz, _, 0, (r.drop (HT.sIx xs.length 0 lo)).take (HT.sIx xs.length xs.length hi - HT.sIx xs.length 0 lo), Heap.get?_push_size _ rfl⟩
noncomputable def flatV : V → Bool
  | .non => true
  | .bl _ => true
  | .int _ => true
  | .str _ => true
  | _ => false
noncomputable def eqV : V → V → Bool
  | .non, .non => true
  | .bl a, .bl b => a == b
  | .bl a, .int b => (if a then 1 else 0) == b
  | .int a, .bl b => a == (if b then 1 else 0)
  | .int a, .int b => a == b
  | .str a, .str b => a == b
  | _, _ => false
theorem eqAt_V {A : Around} {s : Shared} {y x : V} {u v : Value} (ry : RelV y u) (rx : RelV x v) (fy : flatV y = true) (fx : flatV x = true) : SeqAt.EqAt A s u v (eqV y x) := by
  cases y with
  | non =>
    cases ry
    cases x with
    | non => cases rx; exact SeqAt.EqAt.same _
    | bl b => cases rx; exact SeqAt.EqAt.none_bool b
    | int b => obtain ⟨t, rfl⟩ := rx; exact SeqAt.EqAt.none_int b t
    | str b => obtain ⟨t, rfl⟩ := rx; exact SeqAt.EqAt.none_str b t
    | _ => exact absurd (show false = true from fx) Bool.false_ne_true
  | bl a =>
    cases ry
    cases x with
    | non => cases rx; exact SeqAt.EqAt.bool_none a
    | bl b => cases rx; exact SeqAt.EqAt.bool_bool a b
    | int b => obtain ⟨t, rfl⟩ := rx; exact SeqAt.EqAt.bool_int a b t
    | str b => obtain ⟨t, rfl⟩ := rx; exact SeqAt.EqAt.bool_str a b t
    | _ => exact absurd (show false = true from fx) Bool.false_ne_true
  | int a =>
    obtain ⟨t', rfl⟩ := ry
    cases x with
    | non => cases rx; exact SeqAt.EqAt.int_none a t'
    | bl b => cases rx; exact SeqAt.EqAt.int_bool a t' b
    | int b => obtain ⟨t, rfl⟩ := rx; exact SeqAt.EqAt.int_int a t' b t
    | str b => obtain ⟨t, rfl⟩ := rx; exact SeqAt.EqAt.int_str a t' b t
    | _ => exact absurd (show false = true from fx) Bool.false_ne_true
  | str a =>
    obtain ⟨t', rfl⟩ := ry
    cases x with
    | non => cases rx; exact SeqAt.EqAt.str_none a t'
    | bl b => cases rx; exact SeqAt.EqAt.str_bool a t' b
    | int b => obtain ⟨t, rfl⟩ := rx; exact SeqAt.EqAt.str_int a t' b t
    | str b => obtain ⟨t, rfl⟩ := rx; exact SeqAt.EqAt.str_str a t' b t
    | _ => exact absurd (show false = true from fx) Bool.false_ne_true
  | _ => exact absurd (show false = true from fy) Bool.false_ne_true
noncomputable def eqU (x : V) (u : Value) : Bool := match u with
  | .none => eqV .non x
  | .bool b => eqV (.bl b) x
  | .int i _ => eqV (.int i) x
  | .str z _ => eqV (.str z) x
  | _ => false
theorem eqU_of {x y : V} {u : Value} (r : RelV y u) (f : flatV y = true) : eqU x u = eqV y x := by
  cases y with
  | non => cases r; rfl
  | bl b => cases r; rfl
  | int i => obtain ⟨t, rfl⟩ := r; rfl
  | str z => obtain ⟨t, rfl⟩ := r; rfl
  | _ => exact absurd (show false = true from f) Bool.false_ne_true
theorem any_eqU {x : V} : ∀ {xs : List V} {us : List Value}, Vals xs us → xs.all flatV = true → us.any (eqU x) = xs.any fun y => eqV y x
  | _, _, .nil, _ => rfl
  | y :: xs, u :: us, .cons r t, f => by
    rw [List.all_cons, Bool.and_eq_true] at f
    rw [List.any_cons, List.any_cons, eqU_of r f.1, any_eqU t f.2]
theorem mem_eqAt {A : Around} {s : Shared} {x : V} {v : Value} (rx : RelV x v) (fx : flatV x = true) : ∀ {xs : List V} {us : List Value}, Vals xs us → xs.all flatV = true → ∀ u ∈ us, SeqAt.EqAt A s u v (eqU x u)
  | _, _, .nil, _ => fun u hu => by cases hu
  | y :: xs, u :: us, .cons r t, f => fun u' hu => by
    rw [List.all_cons, Bool.and_eq_true] at f
    rcases List.mem_cons.mp hu with rfl | hu
    · rw [eqU_of r f.1]; exact eqAt_V r rx f.1 fx
    · exact mem_eqAt rx fx t f.2 u' hu
noncomputable def inV (x : V) (xs : List V) : Bool := xs.any fun y => eqV y x
noncomputable def rIn (K : PySem.W.Frag) (neg : Bool) : R2 := fun x y H Q => ∃ p xs, y = .ref p ∧ (SqL K H p xs ∨ SqT K H p xs) ∧ flatV x = true ∧ xs.all flatV = true ∧ Q (.bl (if neg then !inV x xs else inV x xs)) H
theorem op_in_seq : OpR X (compareOp .In) (rIn X.K false) := by
  intro pins s σ H x y v u Q I rx ry h
  obtain ⟨p, xs, rfl, hq, fx, fs, q⟩ := h
  cases ry
  rcases hq with hq | hq
  · obtain ⟨its, r, pl, hz⟩ := I.list hq
    refine SeqAt.in_listAt (eqU x) pl.isList (fun w hw => mem_eqAt rx fx r fs w (by simpa using hw)) ⟨.bl _, H, I, rfl, ?_⟩
    rw [show its.toArray.any (eqU x) = its.any (eqU x) by simp, any_eqU r fs]
    exact q
  · obtain ⟨its, r, pl, hz⟩ := I.tuple hq
    refine SeqAt.in_tupleAt (eqU x) pl (fun w hw => mem_eqAt rx fx r fs w (by simpa using hw)) ⟨.bl _, H, I, rfl, ?_⟩
    rw [show its.toArray.any (eqU x) = its.any (eqU x) by simp, any_eqU r fs]
    exact q
theorem op_notIn_seq : OpR X (compareOp .NotIn) (rIn X.K true) := by
  intro pins s σ H x y v u Q I rx ry h
  obtain ⟨p, xs, rfl, hq, fx, fs, q⟩ := h
  cases ry
  rcases hq with hq | hq
  · obtain ⟨its, r, pl, hz⟩ := I.list hq
    refine SeqAt.notIn_listAt (eqU x) pl.isList (fun w hw => mem_eqAt rx fx r fs w (by simpa using hw)) ⟨.bl _, H, I, rfl, ?_⟩
    rw [show its.toArray.any (eqU x) = its.any (eqU x) by simp, any_eqU r fs]
    exact q
  · obtain ⟨its, r, pl, hz⟩ := I.tuple hq
    refine SeqAt.notIn_tupleAt (eqU x) pl (fun w hw => mem_eqAt rx fx r fs w (by simpa using hw)) ⟨.bl _, H, I, rfl, ?_⟩
    rw [show its.toArray.any (eqU x) = its.any (eqU x) by simp, any_eqU r fs]
    exact q
theorem call_len_seq : CallR X (.builtin "len") (fun xs H Q => ∃ p ys, xs = [.ref p] ∧ (SqL X.K H p ys ∨ SqT X.K H p ys) ∧ Q (.int ys.length) H) := by
  intro pins s σ H xs us Q I r h
  obtain ⟨p, ys, rfl, hq, q⟩ := h
  obtain ⟨u, rfl, rx⟩ := vals1 r
  cases rx
  have hn := line63
  rcases hq with hq | hq
  · obtain ⟨its, r', pl, hz⟩ := I.list hq
    have hlen := r'.length
    exact Calls.call_len_list pl.isList (by simp only [List.size_toArray] <;> omega) ⟨.int ys.length, H, I.tok _, ⟨s.toks + 1, by rw [List.size_toArray, hlen]⟩, q⟩
  · obtain ⟨its, r', pl, hz⟩ := I.tuple hq
    have hlen := r'.length
    exact len_tuple pl (by simp only [List.size_toArray] <;> omega) ⟨.int ys.length, H, I.tok _, ⟨s.toks + 1, by rw [List.size_toArray, hlen]⟩, q⟩
theorem call_len_str : CallR X (.builtin "len") (fun xs H Q => ∃ z, xs = [.str z] ∧ z.length ≤ sizeLine ∧ Q (.int z.length) H) := by
  intro pins s σ H xs us Q I r h
  obtain ⟨z, rfl, hz, q⟩ := h
  obtain ⟨u, rfl, t, rfl⟩ := vals1 r
  have hn := line63
  exact len_str (by omega) ⟨.int z.length, H, I.tok _, ⟨_, rfl⟩, q⟩
theorem CallR.or {f : Value} {r r' : List V → Hp → VK → Prop} (h : CallR X f r) (h' : CallR X f r') : CallR X f (fun xs H Q => r xs H Q ∨ r' xs H Q) := by
  intro pins s σ H xs us Q I rs q
  rcases q with q | q
  · exact h pins s σ H xs us Q I rs q
  · exact h' pins s σ H xs us Q I rs q
theorem call_list_of : CallR X (.type "list") (fun xs H Q => ∃ p ys, xs = [.ref p] ∧ (SqL X.K H p ys ∨ SqT X.K H p ys) ∧ ∀ l, H l = none → Q (.ref l) (upd H l (.lst ys))) := by
  intro pins s σ H xs us Q I r h
  obtain ⟨p, ys, rfl, hq, q⟩ := h
  obtain ⟨u, rfl, rx⟩ := vals1 r
  cases rx
  have fin : ∀ (its : List Value), Vals ys its → ys.length ≤ sizeLine → ∀ (h' : Heap) (c' : Nat), (∀ b o', s.heap.get? b = some o' → h'.get? b = some o') →
      h'.get? s.heap.objs.size = some { cls := .type "list", dict := none, data := .seq its.toArray c', slots := #[] } → EP X pins σ Q (.ref s.heap.objs.size) { s with heap := h' } := fun its r' hz h' c' kp e =>
    ⟨.ref s.heap.objs.size, _, I.laid (t' := s.toks) kp (Nat.le_refl _) (show ObjOk X.prog X.w _ h' _ (.lst ys) from ⟨hz, its, c', r', e⟩), rfl, q _ (I.hok.fresh (Nat.le_refl _))⟩
  rcases hq with hq | hq
  · obtain ⟨its, r', pl, hz⟩ := I.list hq
    have hlen := r'.length
    obtain ⟨o, ho, hc, n, hd⟩ := pl.isList
    exact call_list_seq p (.inl rfl) ho hc hd (fun h' c' kp e => fin its r' hz h' c' kp e) (by simp only [List.size_toArray] <;> omega)
  · obtain ⟨its, r', pl, hz⟩ := I.tuple hq
    have hlen := r'.length
    obtain ⟨o, ho, hc, n, hd⟩ := pl
    exact call_list_seq p (.inr rfl) ho hc hd (fun h' c' kp e => fin its r' hz h' c' kp e) (by simp only [List.size_toArray] <;> omega)
theorem call_tuple_of : CallR X (.type "tuple") (fun xs H Q => ∃ p ys, xs = [.ref p] ∧ ((SqL X.K H p ys ∧ ∀ l, H l = none → Q (.ref l) (upd H l (.tup ys))) ∨ (SqT X.K H p ys ∧ Q (.ref p) H))) := by
  intro pins s σ H xs us Q I r h
  obtain ⟨p, ys, rfl, h⟩ := h
  obtain ⟨u, rfl, rx⟩ := vals1 r
  cases rx
  rcases h with ⟨hq, q⟩ | ⟨hq, q⟩
  · obtain ⟨its, r', pl, hz⟩ := I.list hq
    have hlen := r'.length
    refine call_tuple_list pl.isList (fun h' kp => ?_) (by simp only [List.size_toArray] <;> omega)
    have I1 : Inv X pins σ H { s with heap := h' } := I.kept (t' := s.toks) kp
    have I2 : Inv X pins σ (upd H h'.objs.size (.tup ys)) { s with heap := h'.push { cls := .type "tuple", data := .seq its.toArray } } :=
      I1.laid (t' := s.toks) (fun b o e => Heap.get?_push_of_some _ e) (Nat.le_refl _) (show ObjOk X.prog X.w _ _ _ (.tup ys) from ⟨hz, its, r', IsTup.new _ _⟩)
    exact ⟨.ref h'.objs.size, _, I2, rfl, q _ (I1.hok.fresh (Nat.le_refl _))⟩
  · obtain ⟨its, r', pl, hz⟩ := I.tuple hq
    exact call_tuple_same pl ⟨.ref p, H, I, rfl, q⟩
noncomputable def tyV (K : PySem.W.Frag) (T : String) (x : V) (H : Hp) : Prop := match x with
  | .str _ => T = "str"
  | .int _ => T = "int"
  | .ref p => (T = "list" ∧ ∃ xs, SqL K H p xs) ∨ (T = "tuple" ∧ ∃ o, K.lookup p = some o ∧ o.cls = .type "tuple" ∧ o.dict = none) ∨
      (T = "dict" ∧ ((∃ kvs, H p = some (.dK kvs)) ∨ ∃ kvs, H p = some (.dT kvs))) ∨ (T = "set" ∧ ∃ S n, H p = some (.set S n))
  | _ => False
theorem tyV_is {pins : List (Addr × Obj)} {σ : St} {H : Hp} {s : Shared} {T : String} {x : V} {v : Value} (I : Inv X pins σ H s) (r : RelV x v) (ty : tyV X.K T x H) :
    s.TypeIs v T ∧ ∀ a, v = .ref a → ∃ ob, s.heap.get? a = some ob ∧ ob.dict = none := by
  cases x with
  | str z =>
    obtain ⟨t, rfl⟩ := r
    cases (show T = "str" from ty)
    exact ⟨typeIs_str s z t, fun _ e => nomatch e⟩
  | int i =>
    obtain ⟨t, rfl⟩ := r
    cases (show T = "int" from ty)
    exact ⟨typeIs_int s i t, fun _ e => nomatch e⟩
  | ref p =>
    cases r
    rcases ty with ⟨rfl, xs, hq⟩ | ⟨rfl, o, hk, hc, hd⟩ | ⟨rfl, hk⟩ | ⟨rfl, S, n, hk⟩
    · obtain ⟨its, _, pl, _⟩ := I.list hq
      refine ⟨pl.isList.typeIs, fun a e => ?_⟩
      cases e
      obtain ⟨o, n, e, c, hd, _⟩ := pl
      exact ⟨o, e, hd⟩
    · refine ⟨⟨o, I.kIn p o hk, hc⟩, fun a e => ?_⟩
      cases e
      exact ⟨o, I.kIn _ o hk, hd⟩
    · have z : ∃ o, s.heap.get? p = some o ∧ o.ExactDict := by
        rcases hk with ⟨kvs, hk⟩ | ⟨kvs, hk⟩
        · obtain ⟨_, _, _, _, o, _, _, e, ex, _⟩ := I.hok p _ hk
          exact ⟨o, e, ex⟩
        · obtain ⟨_, _, _, _, o, _, _, e, ex, _⟩ := I.hok p _ hk
          exact ⟨o, e, ex⟩
      obtain ⟨o, e, ex⟩ := z
      refine ⟨⟨o, e, ex.1⟩, fun a e2 => ?_⟩
      cases e2
      exact ⟨o, e, ex.2.1⟩
    · obtain ⟨o, _, _, _, e, ex, _⟩ := I.hok p _ hk
      refine ⟨⟨o, e, ex.1⟩, fun a e2 => ?_⟩
      cases e2
      exact ⟨o, e, ex.2.1⟩
  | _ => exact False.elim ty
noncomputable def tBM (K : PySem.W.Frag) (T : String) (r : V → List V → Hp → VK → Prop) (to : TE) (t : TA) : TE := fun σ H Q => to σ H fun x H1 => tyV K T x H1 ∧ t σ H1 fun xs H2 => r x xs H2 Q
variable {o e : Expr} {es : List Expr} {to : TE} {t : TA} {name : Str} {apos cpos : Pos} {T id : String} {r : V → List V → Hp → VK → Prop}
theorem pe_bm (pa : PlainAttrs T) (slot : Slot T name id) (hty : typeOf (.builtin id) = pure (.type "method_descriptor")) (hm : MtR X id r) (ho : PE X o to) (ha : PA X (e :: es) t)
    (hbase : attributeBase o name X.env (eval o X.env) = eval o X.env := by rfl)
    (hfew : ((backTo cpos (starEach (e :: es) X.env)).all (fun x => !x.1) && (backToKw cpos (keywordEach [] X.env)).all (fun x => x.1.isSome)
      && decide ((e :: es).length + ([] : List Keyword).length + (if ([] : List Keyword).isEmpty then 0 else 1) < 30)) = true := by rfl)
    (hline : (apos.endLine == cpos.line) = true := by rfl) (hs : starEach (e :: es) X.env = (false, eval e X.env) :: starEach es X.env := by rfl) (hplain : (backTo cpos (starEach es X.env)).any (·.1) = false := by rfl) :
    PE X (.Call (.Attribute o name apos) (e :: es) [] cpos) (tBM X.K T r to t) := by
  intro pins s σ H Q I h
  refine wpAny_Call_method_late hbase hfew hline rfl (thn (ho pins s σ H _ I h) fun v s1 ⟨x, H1, I1, r1, ty, q1⟩ => ?_)
  obtain ⟨h1, h2⟩ := tyV_is I1 r1 ty
  refine ⟨T, id, pa, slot, hty, h1, h2, ?_⟩
  have hA := ha cpos pins s1 σ H1 _ I1 q1
  rw [hs] at hA ⊢
  refine Calls.callWith_builtin (by show (false || (backTo cpos (starEach es X.env)).any (·.1)) = false; rw [hplain] <;> rfl) (Calls.evalArgs_plain ?_)
  exact thn hA fun us s2 ⟨vs, H2, I2, r2, q2⟩ => hm pins s2 σ H2 x vs v us Q I2 r1 r2 q2
end
end _L2
namespace _L2
open PySem PySem.Spec PyProof.Rows
noncomputable def MtM (X : Cx) (id : String) (r : V → List V → Hp → VK → Prop) : Prop :=
  ∀ (pins : List (Addr × Obj)) (s : Shared) (σ : St) (H : Hp) (x : V) (xs : List V) (v : Value) (us : List Value) (Q : VK), Inv X pins σ H s → RelV x v → Vals xs us → r x xs H Q →
    wpAny (model X.prog X.w) X.A (call (.builtin id) (v :: us)) (EP X pins σ Q) X.xe s
theorem Vals.one : ∀ {x : V} {us : List Value}, Vals [x] us → ∃ u, us = [u] ∧ RelV x u
  | _, _, .cons r .nil => ⟨_, rfl, r⟩
theorem Vals.two {x y : V} {us : List Value} (h : Vals [x, y] us) : ∃ u v, us = [u, v] ∧ RelV x u ∧ RelV y v := by
  cases h with
  | cons r t =>
    cases t with
    | cons q s =>
      cases s
      exact ⟨_, _, rfl, r, q⟩
theorem Vals.zero : ∀ {us : List Value}, Vals [] us → us = []
  | _, .nil => rfl
theorem Vals.reverse {xs : List V} {us : List Value} (h : Vals xs us) : Vals xs.reverse us.reverse := by
  induction h with
  | nil => exact .nil
  | cons r t ih => rw [List.reverse_cons, List.reverse_cons]; exact Vals.append ih (.cons r .nil)
section
variable {X : Cx} {pins : List (Addr × Obj)} {σ : St} {H : Hp} {s : Shared} {l b : Addr} {xs ys zs : List V}
theorem Inv.lset {its its' : List Value} {n : Nat} {f : Array Value → Array Value} {t' : Nat} (I : Inv X pins σ H s) (hH : H l = some (.lst xs))
    (e : s.heap.get? l = some { cls := .type "list", data := .seq its.toArray n }) (hf : f its.toArray = its'.toArray) (hv : Vals ys its') (hz : ys.length ≤ sizeLine) :
    Inv X pins σ (upd H l (.lst ys)) { s with heap := s.heap.update l (Obj.mapSeq f), toks := t' } := by
  have q := PySem.IsL.update e f
  rw [hf] at q
  refine I.write (x := l) (e := l) (by rw [hH]; exact trivial) (.inl rfl) (fun b' u hb hu => (Heap.get?_update_other s.heap (Obj.mapSeq f) (Ne.symm hb)).trans hu) ⟨_, q⟩ ?_
  exact ⟨hz, its', _, hv, q⟩
theorem Inv.lnew {its : List Value} {t' : Nat} (I : Inv X pins σ H s) (hv : Vals ys its) (hz : ys.length ≤ sizeLine) :
    Inv X pins σ (upd H s.heap.objs.size (.lst ys)) { s with heap := s.heap.push { cls := .type "list", data := .seq its.toArray }, toks := t' } :=
  I.laid (fun _ _ q => Heap.get?_push_of_some _ q) (Nat.le_refl _) ⟨hz, its, 0, hv, Heap.get?_push_size _ rfl⟩
theorem Inv.fresh (I : Inv X pins σ H s) : H s.heap.objs.size = none := I.hok.fresh (Nat.le_refl _)
theorem Inv.lstM (I : Inv X pins σ H s) (hH : H l = some (.lst xs)) : xs.length ≤ sizeLine ∧ ∃ (its : List Value) (n : Nat), Vals xs its ∧ xs.length = its.length ∧ s.heap.get? l = some { cls := .type "list", data := .seq its.toArray n } := by
  obtain ⟨z, its, n, r, e⟩ := I.hok l _ hH
  exact ⟨z, its, n, r, r.length, e⟩
theorem notLongL {n : Nat} (h : n ≤ sizeLine) : Builtin.List.listTooLong n = false := by
  unfold Builtin.List.listTooLong
  exact decide_eq_false (by omega)
end
section
variable {X : Cx}
noncomputable def rAppend : V → List V → Hp → VK → Prop := fun x vs H Q => ∃ l xs y, x = .ref l ∧ vs = [y] ∧ H l = some (.lst xs) ∧ xs.length < sizeLine ∧ Q .non (upd H l (.lst (xs ++ [y])))
theorem mt_append : MtM X "list.append" rAppend := by
  intro pins s σ H x vs v us Q I rx rv h
  obtain ⟨l, xs, y, rfl, rfl, hH, hz, q⟩ := h
  cases rx
  obtain ⟨u, rfl, ru⟩ := rv.one
  obtain ⟨z, its, n, r, hl, e⟩ := I.lstM hH
  refine call_meets F.slot_list_append ⟨_, e, rfl⟩ F.entry_list_append (F.args_list_append_2 _ _) (PySem.list_append l its.toArray n u (by rw [List.size_toArray]; omega)) ⟨e, ?_⟩
  refine ⟨.non, _, I.lset (its' := its ++ [u]) hH e (by simp) (r.append (.cons ru .nil)) ?_, rfl, q⟩
  rw [List.length_append, List.length_singleton]
  omega
noncomputable def rExtend : V → List V → Hp → VK → Prop := fun x vs H Q => ∃ l b xs zs, x = .ref l ∧ vs = [.ref b] ∧ H l = some (.lst xs) ∧ H b = some (.lst zs) ∧ xs.length + zs.length ≤ sizeLine ∧ Q .non (upd H l (.lst (xs ++ zs)))
theorem mt_extend : MtM X "list.extend" rExtend := by
  intro pins s σ H x vs v us Q I rx rv h
  obtain ⟨l, b, xs, zs, rfl, rfl, hH, hB, hz, q⟩ := h
  cases rx
  obtain ⟨u, rfl, ru⟩ := rv.one
  cases ru
  obtain ⟨z, its, n, r, hl, e⟩ := I.lstM hH
  obtain ⟨z2, its2, n2, r2, hl2, e2⟩ := I.lstM hB
  have hsz : its.toArray.size + its2.toArray.size ≤ sizeLine := by rw [List.size_toArray, List.size_toArray]; omega
  have hlong : ¬ (!its.toArray.isEmpty && Builtin.List.listTooLong (its.toArray.size + its2.toArray.size)) = true := by
    rw [notLongL hsz, Bool.and_false]
    exact Bool.false_ne_true
  refine call_meets F.slot_list_extend ⟨_, e, rfl⟩ F.entry_list_extend (F.args_list_extend_2 _ _)
    (AutoSeq1.list_extend_list_list_0 l its.toArray n b its2.toArray n2 hlong (by rw [List.size_toArray]; omega) (by omega)) ⟨e, e2, ?_⟩
  refine ⟨.non, _, I.lset (its' := its ++ its2) hH e (by simp) (r.append r2) ?_, rfl, q⟩
  rw [List.length_append]
  omega
end
section
variable {prog : Program} {w : World} {A : Around} {E : Value → Shared → Prop} {s : Shared}
end
section
variable {X : Cx}
end
end _L2
namespace Att
open PySem PySem.W PySem.Calls PyProof.Rows
theorem ints_of_wellAll {P : Params} {h : Heap} : ∀ (ns : List Int) (vs : List Value), WellAll P h vs (ns.map WData.int) → IntsAre vs ns := by
  intro ns
  induction ns with
  | nil =>
    intro vs w
    rw [List.map_nil] at w
    cases w
    exact .nil
  | cons n ns ih =>
    intro vs w
    rw [List.map_cons] at w
    cases w with
    | cons a b =>
      cases a
      exact .cons _ _ (ih _ b)
theorem script_of {l : OpenLaw} {n : Nat} (hn : l.most = some n) {P : Params} {h : Heap} {args : List WData} {vals : List Value}
    (hpre : l.row.toRowW.claim.pre args = true) (hwl : WellAll P h vals args) :
    ∃ a vs ns, vals = [Value.ref a] ∧ args = [WData.list (ns.map WData.int)] ∧ h.get? a = some { cls := .type "list", data := .seq vs.toArray } ∧ IntsAre vs ns ∧ ns.length ≤ n := by
  have hsh : WShape.hasAll [] args [.list .int] = true := (pre_splitW hpre).1
  have hc : l.pre.holds [] { args := args } = true := (pre_splitW hpre).2
  obtain ⟨d, r, rfl, h1, h2⟩ := hasAllW_cons hsh
  obtain rfl := hasAllW_nil h2
  obtain ⟨xs, rfl, h3⟩ := hasW_list h1
  obtain ⟨ns, rfl⟩ := items_int h3
  have hlen : ns.length ≤ n := by
    unfold OpenLaw.pre at hc
    have h4 : (WTm.not (.lt (.lit (.int (n : Int))) (.len (.arg 0)))).holds [] { args := [.list (ns.map .int)] } = true := by
      have h4 := (holds_andW hc).1
      rw [hn] at h4
      exact h4
    have h5 := condW_of h4 (w_not (w_lt w_lit (w_len_list (w_arg rfl))))
    rw [List.length_map] at h5
    refine Nat.le_of_not_lt fun q => ?_
    have q' : (n : Int) < ((ns.length : Nat) : Int) := by omega
    first
      | (rw [decide_eq_true q'] at h5; exact absurd h5 (by decide))
      | (simp at h5; omega)
  cases hwl with
  | cons w1 w2 =>
    cases w2
    cases w1 with
    | list ho hall => exact ⟨_, _, ns, rfl, rfl, ho, ints_of_wellAll ns _ hall, hlen⟩
theorem post_true (l : OpenLaw) (args : List WData) : l.row.toRowW.claim.post args (.bool true) args = true :=
  postW_of (r := l.row.toRowW) (X := (true == true))
    (show WShape.has [] (.bool true) .bool = true by first | rfl | decide | simp [WShape.has, WShape.arms, WShape.armsAll])
    (show (WTm.eq .res (.lit (.bool true))).value [] { args := args, res := some (.bool true), after := args } = some (.bool (true == true)) from w_eq_bool (w_res rfl) w_lit) rfl
theorem attach_call {l : OpenLaw} {n : Nat} {q : Program} {loose : List Str} {XP : (Str → Option Value) → Heap → Prop} {YP : World → Heap → Prop} {d : DefRec}
    (hn : l.most = some n) (hdf : d.params.defaults = [])
    (call : ∀ (w : World) (s₀ s₁ : Shared) (mg mb : Str → Option Value) (fa : Addr) (o : Obj) (pm cd doc : Value) (a : Addr) (vs : List Value) (ns : List Int),
      Ground q loose [] XP w s₀ mg mb s₁.heap → YP w s₁.heap →
      s₁.heap.get? fa = some o → o.data = .func (docDef d.name d.params d.body d.scope pm cd doc) → s₁.heap.CodeRec cd d.name → mg d.name = some (.ref fa) →
      s₁.heap.get? a = some { cls := .type "list", data := .seq vs.toArray } → IntsAre vs ns → ns.length ≤ n → s₁.gens = #[] →
      codeAny (model l.prog w) callerA (.call (.ref fa) ⟨[.ref a], []⟩) (fun r s' => r = .ok (.ret (.bool true)) ∧ OldK s₁.heap s'.heap ∧ s'.os = s₁.os ∧ AllBare s'.gens) s₁) :
    WalkO q loose XP YP l.row.toRowW d [] (fun f vs => PySem.call f vs) := by
  intro w s₀ s₁ mg mb G Y fa o pm cd doc dV kV ho hd hcd hD hmg hg args vals as hpre hlay hrd hwl hlo
  obtain rfl : dV = .none := Dflts.none hD hdf
  obtain rfl : kV = .none := Dflts.noKw hD
  obtain ⟨a, vs, ns, rfl, rfl, hobj, hints, hlen⟩ := script_of hn hpre hwl
  refine enter_call (codeAny_mono (call w s₀ s₁ mg mb fa o pm cd doc a vs ns G Y ho (fd_plain hd) hcd hmg hobj hints hlen hg) fun r s' hq => ?_)
  obtain ⟨rfl, h2, h3, h4⟩ := hq
  exact ⟨.inl ⟨.bool true, .bool true, [], rfl, fun _ => rfl, .bool true, post_true l _, fun _ => ⟨List.Pairwise.nil, fun _ hm => (nomatch hm)⟩⟩, h2, h3, h4⟩
section
variable {prog : Program} {w : World} {A : Around} {E : Value → Shared → Prop} {s : Shared} {K : Frag}
noncomputable def ledger (h : Heap) (L d : Addr) : List (Addr × Obj) := (List.range h.objs.size).filterMap fun a => if a = L ∨ a = d then none else (h.get? a).map fun o => (a, o)
end
end Att
namespace _L2
open PySem PySem.Spec PyProof.Rows
theorem vals_ints : ∀ {vs : List Value} {ns : List Int}, IntsAre vs ns → Vals (ns.map V.int) vs
  | _, _, .nil => .nil
  | _, _, .cons n t h => .cons ⟨t, rfl⟩ (vals_ints h)
noncomputable def Only (H : Hp) : Prop := ∀ b, H b = none ∨ ∃ o xs, H b = some (.frz o (.lst xs))
theorem law_call {P : Program} {w : World} {K : PySem.W.Frag} {mg mb : Str → Option Value} {CX : CXT} {k : Nat} {fa a : Addr} {fd : FuncData} {x : Str} {sp : Sp} {s₁ : Shared} {vs : List Value} {ns : List Int}
    (KX : K.In s₁.heap) (hns : s₁.heap.Ns mainGlobals mg) (hb : s₁.heap.Ns builtinsNs mb) (hbb : ∀ x : Str, x ≠ "__name__" → mb x = bootBuiltins x) (hlim : s₁.heap.NoLimit) (hg : s₁.gens = #[])
    (ha : s₁.heap.get? a = some { cls := .type "list", data := .seq vs.toArray }) (hi : IntsAre vs ns) (hl : ns.length ≤ sizeLine) (hr : Room k callerA)
    (F : ∀ base : Heap, K.In base → base.Ns mainGlobals mg → FnOk P w K mg base CX k fa fd [x] sp) (hbind : ∀ (s : Shared) (u : Value), BindsTo s fd ⟨[u], []⟩ [(x, u)])
    (hsp : ∀ H : Hp, Only H → SqL K H a (ns.map V.int) → sp [.ref a] H (fun v _ => v = .bl true) fun _ _ _ => False)
    (hCX : ∀ H e s', CX [] H s₁ (fun _ _ _ => False) e s' → False) :
    codeAny (model P w) callerA (.call (.ref fa) ⟨[.ref a], []⟩) (fun r s' => r = .ok (.ret (.bool true)) ∧ OldK s₁.heap s'.heap ∧ s'.os = s₁.os ∧ AllBare s'.gens) s₁ := by
  have rv := vals_ints hi
  have lenV := hi.length
  have core : ∀ H : Hp, Only H → SqL K H a (ns.map V.int) → HOk P w H s₁.heap → (∀ b, H b ≠ none → b = a) → (H a ≠ none → K.lookup a = none) →
      codeAny (model P w) callerA (.call (.ref fa) ⟨[.ref a], []⟩) (fun r s' => r = .ok (.ret (.bool true)) ∧ OldK s₁.heap s'.heap ∧ s'.os = s₁.os ∧ AllBare s'.gens) s₁ := by
    intro H hO hS hok hA hK
    have base_of : ∀ {b : Addr} {o : Obj}, s₁.heap.get? b = some o → H b = none → (hidT s₁.heap H).get? b = some o := fun e n => hidT_get e n
    have noA : ∀ {b : Addr} {o : Obj} {es : Array DictEntry} {ep : Nat}, s₁.heap.get? b = some o → o.data = .dict es ep → H b = none := fun {b o es ep} e d => by
      cases q : H b with
      | none => rfl
      | some u =>
        have e' : b = a := hA b (by rw [q]; simp)
        subst e'
        rw [ha] at e; cases e
        have d' : Data.seq vs.toArray _ = Data.dict es ep := d
        cases d'
    have nsK : ∀ {b : Addr} {m : Str → Option Value}, s₁.heap.Ns b m → (hidT s₁.heap H).Ns b m := fun {b m} ⟨o, es, ep, e, d, r⟩ => ⟨o, es, ep, base_of e (noA e d), d, r⟩
    have hKb : K.In (hidT s₁.heap H) := fun b o e => base_of (KX b o e) (by
      cases q : H b with
      | none => rfl
      | some u =>
        have e' : b = a := hA b (by rw [q]; simp)
        subst e'
        rw [hK (by rw [q]; simp)] at e; cases e)
    have hM : Mod K mg (hidT s₁.heap H) := ⟨hKb, nsK hns, ⟨mb, nsK hb, hbb⟩, let ⟨mc, h1, h2⟩ := hlim; ⟨mc, nsK h1, h2⟩⟩
    have e0 : Env0 P w K mg (hidT s₁.heap H) callerA [] s₁ H := ⟨rfl, hM, fun b o e => of_hidT e, Nat.le_of_eq (hidT_size _ _), trivial, fun b hb => absurd (show b ∈ ([] : List Addr) from hb) (by simp), hok, .of_eq hg⟩
    refine codeAny_mono ((F _ hKb (nsK hns)).run callerA [] s₁ H ⟨[.ref a], []⟩ [.ref a] [.ref a] _ _ hr e0 (hbind s₁ (.ref a)) (.cons rfl .nil) (hsp H hO hS)) fun r s' h => ?_
    cases r with
    | error e => exact (hCX H e s' h).elim
    | ok fl =>
      cases fl with
      | next => exact False.elim h
      | brk => exact False.elim h
      | cont => exact False.elim h
      | ret u =>
        obtain ⟨v, H', os, bare, un, hok', r', q⟩ := h
        have q' : v = .bl true := q
        subst q'
        obtain rfl : u = Value.bool true := r'
        refine ⟨rfl, OldK.of_keep fun b o e => ?_, os, bare⟩
        cases q : H b with
        | none => exact un.keep b o e q (by intro z; exact absurd (show b ∈ ([] : List Addr) from z) (by simp)) (by simp)
        | some u =>
          rcases hO b with z | ⟨ob, xs, z⟩
          · rw [q] at z; cases z
          · have z2 := un.frzs b ob _ z
            obtain ⟨e1, _⟩ := hok b _ z
            obtain ⟨e2, _⟩ := hok' b _ z2
            rw [e] at e1; cases e1
            exact e2
  cases hk : K.lookup a with
  | some o =>
    have e := KX a o hk
    rw [ha] at e
    cases e
    refine core (fun _ => none) (fun _ => .inl rfl) (.inr ⟨_, vs.toArray, _, hk, rfl, rfl, rfl, by rw [List.size_toArray, lenV]; exact hl, by simpa using rv⟩) (fun b u z => by have z' : (none : Option HO) = some u := z; cases z') (fun b z => absurd rfl z) fun z => absurd rfl z
  | none =>
    refine core (fun b => if b = a then some (.frz { cls := .type "list", data := .seq vs.toArray } (.lst (ns.map V.int))) else none) (fun b => ?_) (.inl (.inr ⟨{ cls := .type "list", data := .seq vs.toArray }, if_pos rfl⟩)) (fun b u z => ?_) (fun b z => ?_) fun _ => hk
    · by_cases hb : b = a
      · exact .inr ⟨_, _, if_pos hb⟩
      · exact .inl (if_neg hb)
    · by_cases hb : b = a
      · have z' := (if_pos hb).symm.trans z
        cases z'
        subst hb
        exact ⟨ha, by rw [List.length_map]; exact hl, vs, _, rv, ha⟩
      · have z' := (if_neg hb).symm.trans z
        cases z'
    · by_cases hb : b = a
      · exact hb
      · exact absurd (if_neg hb) z
end _L2
namespace _L2
open PySem PySem.Spec PyProof.Rows
noncomputable abbrev KOf {K : PySem.W.Frag} {h : Heap} (_ : K.In h) : PySem.W.Frag := K
theorem walk_of {l : PySem.W.OpenLaw} {n k : Nat} {q : Program} {loose : List Str} {XP : (Str → Option Value) → Heap → Prop} {YP : World → Heap → Prop} {d : DefRec} {K : Params → PySem.W.Frag} {CX : World → CXT} {sp : World → Sp} {x : Str}
    (hn : l.most = some n) (hn2 : n ≤ sizeLine) (hdf : d.params.defaults = []) (hr : Room k callerA)
    (hY : ∀ (w : World) (h : Heap), YP w h → (K w.params).In h)
    (F : ∀ (w : World) (mg : Str → Option Value) (fa : Addr) (h : Heap), (K w.params).In h → h.Ns mainGlobals mg → mg d.name = some (.ref fa) →
      ∃ fd : FuncData, (∀ (s : Shared) (u : Value), BindsTo s fd ⟨[u], []⟩ [(x, u)]) ∧
        ∀ base : Heap, (K w.params).In base → base.Ns mainGlobals mg → FnOk l.prog w (K w.params) mg base (CX w) k fa fd [x] (sp w))
    (hsp : ∀ (w : World) (H : Hp) (a : Addr) (ns : List Int), ns.length ≤ n → Only H → SqL (K w.params) H a (ns.map V.int) → sp w [.ref a] H (fun v _ => v = .bl true) fun _ _ _ => False)
    (hCX : ∀ (w : World) (H : Hp) (s : Shared) (e : Value) (s' : Shared), CX w [] H s (fun _ _ _ => False) e s' → False) :
    PySem.W.WalkO q loose XP YP l.row.toRowW d [] (fun f vs => PySem.call f vs) := by
  refine Att.attach_call hn hdf fun w s₀ s₁ mg mb fa o pm cd doc a vs ns G Y ho hd hcd hmg hobj hints hlen hg => ?_
  have KX := hY w _ Y
  obtain ⟨fd, hb, hF⟩ := F w mg fa _ KX G.T.g hmg
  exact law_call KX G.T.g G.T.b G.T.builtins G.T.nolimit hg hobj hints (Nat.le_trans hlen hn2) hr hF hb (fun H hO hS => hsp w H a ns hlen hO hS) fun H e s' => hCX w H s₁ e s'
theorem walk_ofK {l : PySem.W.OpenLaw} {n k : Nat} {q : Program} {loose : List Str} {XP : (Str → Option Value) → Heap → Prop} {YP : World → Heap → Prop} {d : DefRec} {K : Params → PySem.W.Frag} {CX : CXT} {sp : PySem.W.Frag → Sp} {x : Str}
    (hn : l.most = some n) (hn2 : n ≤ sizeLine) (hdf : d.params.defaults = []) (hr : Room k callerA)
    (hY : ∀ (w : World) (h : Heap), YP w h → (K w.params).In h)
    (F : ∀ (w : World) (mg : Str → Option Value) (fa : Addr) (h : Heap), (K w.params).In h → h.Ns mainGlobals mg → mg d.name = some (.ref fa) →
      ∃ fd : FuncData, (∀ (s : Shared) (u : Value), BindsTo s fd ⟨[u], []⟩ [(x, u)]) ∧
        ∀ base : Heap, (K w.params).In base → base.Ns mainGlobals mg → FnOk l.prog w (K w.params) mg base CX k fa fd [x] (sp (K w.params)))
    (hsp : ∀ (K : PySem.W.Frag) (H : Hp) (a : Addr) (ns : List Int), ns.length ≤ n → Only H → SqL K H a (ns.map V.int) → sp K [.ref a] H (fun v _ => v = .bl true) fun _ _ _ => False)
    (hCX : ∀ (H : Hp) (s : Shared) (e : Value) (s' : Shared), CX [] H s (fun _ _ _ => False) e s' → False) :
    PySem.W.WalkO q loose XP YP l.row.toRowW d [] (fun f vs => PySem.call f vs) :=
  walk_of (K := K) (CX := fun _ => CX) (sp := fun w => sp (K w.params)) hn hn2 hdf hr hY F (fun w H a ns h1 h2 h3 => hsp (K w.params) H a ns h1 h2 h3) fun _ H s e s' => hCX H s e s'
end _L2
namespace _L2
open PySem PySem.Spec PyProof.Rows
noncomputable def defArgs (s : Stmt) : Arguments := match s with
  | .FunctionDef _ a _ _ _ _ _ _ _ _ => a
  | _ => { posonlyargs := [], args := [], vararg := none, kwonlyargs := [], kw_defaults := [], kwarg := none, defaults := [] }
noncomputable def defBody (s : Stmt) : List Stmt := match s with
  | .FunctionDef _ _ b _ _ _ _ _ _ _ => b
  | _ => []
noncomputable def defScope (s : Stmt) : Scope := match s with
  | .FunctionDef _ _ _ _ _ _ sc _ _ _ => sc
  | _ => { kind := .function, names := [], isGenerator := false, isCoroutine := false }
noncomputable abbrev CX0 : CXT := fun _ _ _ _ _ _ => False
noncomputable abbrev E0 : XK := fun _ _ _ => False
theorem pass0 {X : Cx} : Passes CX0 X E0 := fun _ _ _ _ _ _ _ h => h.elim
structure Fun (K : PySem.W.Frag) (x qual : Str) (st : Stmt) (f : Addr) (fd : FuncData) : Prop where
  ex : ∃ (oc : Value) (od : Option Addr) (kV doc pm : Value) (an : Option Addr) (cdv ct : Value) (osl : Array (Option Value)),
    fd = PySem.W.fnOf x qual (defArgs st) (defBody st) (defScope st) .none kV doc pm an cdv ct ∧ K.lookup f = some ⟨oc, od, .func fd, osl⟩ ∧ PySem.W.codeIn K cdv qual = true
  kp : PySem.W.keepIn K (.ref f) = true
section
variable {P : Program} {w : World} {K : PySem.W.Frag} {mg : Str → Option Value} {base : Heap}
theorem Fun.ok {x qual : Str} {st : Stmt} {f : Addr} {fd : FuncData} {N ps : List Str} {k : Nat} {sp : Sp} (F : Fun K x qual st f fd) (S : FnScope N ps (defScope st)) (len : ∀ vs H Q E, sp vs H Q E → vs.length = ps.length)
    (hbody : ∀ (cdv : Value) (A : Around) (outer : List Env) (s : Shared) (H : Hp) (vs : List V) (Q : VK) (E : XK), Room k (A.deeper (envOfC qual (defScope st) s.heap.objs.size f cdv)) → sp vs H Q E →
      ∃ t, PSs (cxOf CX0 P w K mg base N qual (defScope st) f cdv A outer s H E).nox (defBody st) t ∧ t { nx := fun _ H' => Q .non H', rt := Q } (start N vs) H) : FnOk P w K mg base CX0 (k + 1) f fd ps sp := by
  obtain ⟨oc, od, kV, doc, pm, an, cdv, ct, osl, rfl, lk, hcd⟩ := F.ex
  refine fn_of lk hcd S len fun A outer s H vs Q E hr hsp => ?_
  obtain ⟨t, h, q⟩ := hbody cdv A outer s H vs Q E hr hsp
  exact ⟨t, h.nox, q⟩
theorem Fun.binds {x qual : Str} {st : Stmt} {f : Addr} {fd : FuncData} {ps : List Str} (F : Fun K x qual st f fd)
    (h : ∀ (kV doc pm : Value) (an : Option Addr) (cdv ct : Value) (us : List Value), us.length = ps.length → bindArgs (PySem.W.fnOf x qual (defArgs st) (defBody st) (defScope st) .none kV doc pm an cdv ct) ⟨us, []⟩ = pure (ps.zip us)) : Binds K fd ps [] := by
  obtain ⟨oc, od, kV, doc, pm, an, cdv, ct, osl, rfl, lk, hcd⟩ := F.ex
  exact .all (h kV doc pm an cdv ct)
theorem fun_mk {x qual : Str} {st : Stmt} {f : Addr} {oc : Value} {od an : Option Addr} {osl : Array (Option Value)} {kV doc pm cdv ct : Value} (l : K.lookup f = some ⟨oc, od, .func (PySem.W.fnOf x qual (defArgs st) (defBody st) (defScope st) .none kV doc pm an cdv ct), osl⟩)
    (c : PySem.W.codeIn K cdv qual = true) (k : PySem.W.keepIn K (.ref f) = true) : Fun K x qual st f (PySem.W.fnOf x qual (defArgs st) (defBody st) (defScope st) .none kV doc pm an cdv ct) := ⟨⟨oc, od, kV, doc, pm, an, cdv, ct, osl, rfl, l, c⟩, k⟩
end
section
variable {X : Cx}
theorem pv (i : Nat) {x : Str} {pos : Pos} (hN : X.N[i]? = some x := by rfl) (hv : Vis X.env.scope x := by first | exact Or.inl rfl | exact Or.inr (Or.inl rfl) | exact Or.inr (Or.inr rfl)) (hd : (x == ("__debug__" : Str)) = false := by decide)
    (hcd : (x == ("__classdict__" : Str)) = false := by decide) : PE X (.Name x pos) (tVar i) := pe_var hN hv hd hcd
end
noncomputable def Same (H H' : Hp) : Prop := ∀ b o, H b = some o → H' b = some o
theorem Same.refl (H : Hp) : Same H H := fun _ _ h => h
theorem Same.trans {H H1 H2 : Hp} (a : Same H H1) (b : Same H1 H2) : Same H H2 := fun c o h => b c o (a c o h)
theorem Same.free {H H' : Hp} (e : Same H H') {l : Addr} (h : H' l = Option.none) : H l = Option.none := by
  cases q : H l with
  | none => rfl
  | some o =>
    rw [e l o q] at h
    cases h
theorem Same.seq {K : PySem.W.Frag} {H H' : Hp} {a : Addr} {xs : List V} (e : Same H H') (h : SqL K H a xs) : SqL K H' a xs := by
  rcases h with (h | ⟨o, h⟩) | h
  · exact .inl (.inl (e _ _ h))
  · exact .inl (.inr ⟨o, e _ _ h⟩)
  · exact .inr h
end _L2
set_option Elab.async false
set_option linter.all false
set_option maxRecDepth 100000
set_option maxHeartbeats 4000000
namespace _L2
open PySem PySem.Spec PyProof.Rows
theorem ne_lt {a b c : Nat} (h : a < b) (k : b ≤ c) : a ≠ c := Nat.ne_of_lt (Nat.lt_of_lt_of_le h k)
theorem no_lt {a b : Nat} (h : a < b) (k : b ≤ a) : False := absurd (Nat.lt_of_lt_of_le h k) (Nat.lt_irrefl _)
noncomputable def clOf (names : List (Str × NameKind)) (cells : List (Str × Addr)) : List (Str × Addr) :=
  (names.filterMap fun p => if p.2 == .free then (cells.lookup p.1).map fun c => (p.1, c) else none).reverse
theorem closureFor_go (env : Env) : ∀ (names : List (Str × NameKind)) (acc : List (Str × Addr)), (∀ p ∈ names, p.2 = .free → ∃ c, env.cells.lookup p.1 = some c) →
    (forIn names acc fun (x : Str × NameKind) cs => (match x with
      | (name, kind) => if (kind == .free) = true then (do let c ← cellOf env name; pure (ForInStep.yield ((name, c) :: cs))) else pure (ForInStep.yield cs)) : Sem (List (Str × Addr)))
      = pure (clOf names env.cells ++ acc)
  | [], acc, _ => rfl
  | (n, k) :: r, acc, h => by
    have hr : ∀ p ∈ r, p.2 = .free → ∃ c, env.cells.lookup p.1 = some c := fun p hp => h p (List.mem_cons_of_mem _ hp)
    rw [List.forIn_cons]
    by_cases hk : k = .free
    · subst hk
      obtain ⟨c, hc⟩ := h (n, .free) List.mem_cons_self rfl
      have e1 : cellOf env n = pure c := by
        unfold cellOf
        have hc' : env.cells.lookup n = some c := hc
        rw [hc']
      have e2 : clOf ((n, NameKind.free) :: r) env.cells = clOf r env.cells ++ [(n, c)] := by
        have hc' : env.cells.lookup n = some c := hc
        unfold clOf
        rw [List.filterMap_cons]
        simp [hc']
      simp only [beq_self_eq_true, if_true, e1, pure_bind]
      rw [closureFor_go env r _ hr, e2, List.append_assoc]
      rfl
    · have hb : (k == NameKind.free) = false := by simpa using hk
      have e2 : clOf ((n, k) :: r) env.cells = clOf r env.cells := by
        unfold clOf
        rw [List.filterMap_cons]
        simp [hb]
      simp only [hb, Bool.false_eq_true, if_false, pure_bind]
      rw [closureFor_go env r _ hr, e2]
theorem closureFor_cl {scope : Scope} {env : Env} (h : ∀ p ∈ scope.names, p.2 = .free → ∃ c, env.cells.lookup p.1 = some c) : closureFor scope env = pure (clOf scope.names env.cells) := by
  have q := closureFor_go env scope.names [] h
  rw [List.append_nil] at q
  unfold closureFor
  simp only [bind_pure]
  exact q
theorem clOf_mem {names : List (Str × NameKind)} {cells : List (Str × Addr)} {x : Str} {c : Addr} (h : (x, c) ∈ clOf names cells) : (x, NameKind.free) ∈ names ∧ cells.lookup x = some c := by
  unfold clOf at h
  rw [List.mem_reverse, List.mem_filterMap] at h
  obtain ⟨⟨n, k⟩, hm, e⟩ := h
  by_cases hk : k = .free
  · subst hk
    simp only [beq_self_eq_true, if_true] at e
    cases q : cells.lookup n with
    | none => rw [q] at e; cases e
    | some a =>
      rw [q] at e
      have e' : (n, a) = (x, c) := Option.some.inj e
      cases e'
      exact ⟨hm, q⟩
  · have hb : (k == NameKind.free) = false := by simpa using hk
    simp only [hb, Bool.false_eq_true, if_false] at e
    cases e
theorem clOf_lookup {names : List (Str × NameKind)} {cells : List (Str × Addr)} {x : Str} {c : Addr} (h : (clOf names cells).lookup x = some c) : cells.lookup x = some c := (clOf_mem (PySem.mem_of_lookup h)).2
theorem lookup_of_mem {α : Type} {x : Str} {l : List (Str × α)} {a : α} (h : (x, a) ∈ l) : ∃ b, l.lookup x = some b := by
  induction l with
  | nil => cases h
  | cons p r ih =>
    obtain ⟨n, b⟩ := p
    by_cases e : x = n
    · subst e; exact ⟨b, by simp [List.lookup_cons]⟩
    · rcases List.mem_cons.mp h with z | z
      · cases z; exact absurd rfl e
      · obtain ⟨b', q⟩ := ih z
        exact ⟨b', by rw [List.lookup_cons, (by simpa using e : (x == n) = false)]; exact q⟩
theorem clOf_has {names : List (Str × NameKind)} {cells : List (Str × Addr)} {x : Str} {c : Addr} (h : (x, NameKind.free) ∈ names) (hc : cells.lookup x = some c) : (clOf names cells).lookup x = some c := by
  have hm : (x, c) ∈ clOf names cells := by
    unfold clOf
    rw [List.mem_reverse, List.mem_filterMap]
    exact ⟨(x, .free), h, by simp [hc]⟩
  obtain ⟨b, q⟩ := lookup_of_mem hm
  have := clOf_lookup q
  rw [hc] at this
  cases this
  exact q
theorem relabel_free {scope : Scope} {env : Env} {x : Str} (hc : ∀ y ∈ scope.names, y.2 ≠ .cell) (h : (relabel scope env).names.lookup x = some .cell ∨ (relabel scope env).names.lookup x = some .free) : (x, NameKind.free) ∈ scope.names := by
  have key : ∀ k, (relabel scope env).names.lookup x = some k → (k = .cell ∨ k = .free) → (x, NameKind.free) ∈ scope.names := fun k q hk => by
    have m := PySem.mem_of_lookup q
    unfold relabel at m
    rw [List.mem_map] at m
    obtain ⟨⟨n, k'⟩, hm, e⟩ := m
    dsimp only at e
    by_cases hf : k' = .free
    · subst hf
      split at e <;> cases e <;> exact hm
    · have hb : (k' == NameKind.free) = false := by simpa using hf
      simp only [hb, Bool.false_and, Bool.false_eq_true, if_false] at e
      cases e
      rcases hk with rfl | rfl
      · exact absurd rfl (hc _ hm)
      · exact absurd rfl hf
  rcases h with h | h
  · exact key _ h (.inl rfl)
  · exact key _ h (.inr rfl)
noncomputable def compCx (X : Cx) (N' : List Str) (scope : Scope) (C : Addr) (fp : List Addr) (s₂ : Shared) (H₂ : Hp) : Cx where
  prog := X.prog
  w := X.w
  K := X.K
  mg := X.mg
  base := X.base
  A := X.A
  N := N'
  s₀ := s₂
  H₀ := H₂
  env := compEnvC scope (clOf scope.names X.env.cells) C X.env
  outer := X.stack
  stack := X.stack
  ex := fp
  fn := fun _ => false
  calm := X.calm
  pn := []
  xe := fun _ _ => False
structure CompScope (X : Cx) (own N' : List Str) (scope : Scope) : Prop where
  kind : scope.kind = .function
  nocell : ∀ y ∈ scope.names, y.2 ≠ .cell
  names : ∀ y ∈ scope.names, y.2 = .local → scope.names.lookup y.1 = some .local
  free : ∀ y ∈ scope.names, y.2 = .free → (X.env.kindOf y.1 = some .cell ∨ X.env.kindOf y.1 = some .free)
  len : N'.length = own.length + X.N.length
  outer : ∀ (i : Nat) (x : Str), (N'.drop own.length)[i]? = some x → (x, NameKind.free) ∈ scope.names → X.N[i]? = some x
  apart : ∀ x ∈ N'.drop own.length, (relabel scope X.env).names.lookup x ≠ some .local
noncomputable def Cmp (J : It) (k : Nat) (g : TG) (tt : TT) (te : TE) (σ : St) (Q : VK) (H1 : Hp) : Prop := ∃ W : Nat → Nat → List V → Hp → Prop, (∃ m, W 0 m [] H1) ∧ ∀ i m ys H, W i m ys H →
  (J.stop i H ∧ ∀ p, H p = none → Q (.ref p) (upd H p (.lst ys))) ∨
  (J.go i H ∧ ys.length < sizeLine ∧ ∃ (N1 : V → Hp → Prop) (N0 : Hp → Prop), (∀ y H', N1 y H' → ∃ m', m' < m ∧ W (i + 1) m' (ys ++ [y]) H') ∧ (∀ H', N0 H' → ∃ m', m' < m ∧ W (i + 1) m' ys H') ∧
    ∀ x H', J.yld i H x H' → g x (List.replicate k none ++ σ) H' fun σ2 H2 => tt σ2 H2 fun b H3 => if b = true then te σ2 H3 N1 else N0 H3)
noncomputable def tComp (k : Nat) (wi : TI) (g : TG) (tt : TT) (te : TE) : TE := fun σ H Q => wi σ H fun J H1 => Cmp J k g tt te σ Q H1
noncomputable def PTs (X : Cx) (ifs : List Expr) (t : TT) : Prop :=
  ∀ (pins : List (Addr × Obj)) (s : Shared) (σ : St) (H : Hp) (Q : Bool → Hp → Prop), Inv X pins σ H s → t σ H Q →
    wpAny (model X.prog X.w) X.A (forIn ifs true fun c r => if r = true then do let ok ← isTrue c X.env (eval c X.env); pure (ForInStep.yield ok) else pure (ForInStep.yield r)) (TP X pins σ Q) X.xe s
noncomputable def tAll : TT := fun _ H Q => Q true H
theorem pts_nil {X : Cx} : PTs X [] tAll := fun _ _ σ H Q I h => wpAny_tests_nil ⟨H, I, h⟩
theorem pts_one {X : Cx} {c : Expr} {t : TT} (h : PT X c t) : PTs X [c] t := fun pins s σ H Q I q => wpAny_tests_one (h pins s σ H Q I q)
noncomputable abbrev Nev : Value → Shared → Prop := fun _ _ => False
noncomputable abbrev allIfs (cs : List Expr) (en : Env) : Sem Bool := forIn cs true fun c yes => if yes = true then isTrue c en (eval c en) >>= fun b => pure (ForInStep.yield b) else pure (ForInStep.yield yes)
noncomputable abbrev OneItem (P : Program) (W : World) (B : Around) (elt tgt : Expr) (cs : List Expr) (src lst : Value) (en : Env) (Go : Shared → Prop) (v : Value) : Shared → Prop := wpAny (model P W) B (letOwnedTupleGo tgt src v) (fun _ t2 =>
  wpAny (model P W) B (assign tgt en v) (fun _ t3 => wpAny (model P W) B (allIfs cs en) (fun yes t4 => if yes = true then wpAny (model P W) B (eval elt en) (fun x t5 => wpAny (model P W) B (call (.builtin "list.append") [lst, x]) (fun _ t6 => Go t6) Nev t5) Nev t4 else Go t4) Nev t3) Nev t2) Nev
theorem compLoop_any {P : Program} {W : World} {B : Around} {R : Result → Shared → Prop} {s : Shared} {elt tgt iter : Expr} {cs : List Expr} {scope : Scope} {pos : Pos} {src lst : Value} {en : Env} (J : Nat → Shared → Prop)
    (turn : ∀ k t, J k t → wpAny (model P W) B (pyNext src) (fun got t1 => match got with | none => R (.ok .next) t1 | some v => OneItem P W B elt tgt cs src lst en (fun t6 => ∃ j, j < k ∧ J j t6) v t1) Nev t)
    (k : Nat) (start : J k s) : codeAny (model P W) B (.compLoop (.ListComp elt [⟨tgt, iter, cs, 0⟩] scope pos) 0 src lst en) R s := by
  refine codeAny_loop rfl J (fun j t hj => ?_) k start
  refine (?_ : wpAny _ B ((compTurn (.ListComp elt [⟨tgt, iter, cs, 0⟩] scope pos) 0 src lst en).onRaise fun x => do noteFrame x en; theTreesLotGoes x) _ _ t)
  refine wpAny_noted ?_
  rw [compTurn_list]
  refine wpAny_bind (wpAny_standAt (wpAny_bind (wpAny_mono (turn j t hj) (fun got t1 h1 => ?_) fun _ _ no => no.elim)))
  match got, h1 with
  | none, h1 => exact wpAny_pure h1
  | some v, h1 =>
    refine wpAny_bind (wpAny_mono h1 (fun _ t2 h2 => wpAny_bind (wpAny_mono h2 (fun _ t3 h3 => wpAny_bind (wpAny_mono h3 (fun yes t4 h4 => ?_) fun _ _ no => no.elim)) fun _ _ no => no.elim)) fun _ _ no => no.elim)
    match yes, h4 with
    | true, h4 => exact wpAny_bind (wpAny_bind (wpAny_mono h4 (fun x t5 h5 => wpAny_bind (wpAny_mono h5 (fun _ t6 h6 => wpAny_pure (wpAny_pure ⟨rfl, h6⟩)) fun _ _ no => no.elim)) fun _ _ no => no.elim))
    | false, h4 => exact wpAny_pure ⟨rfl, h4⟩
section
variable {X : Cx}
theorem CompScope.ok {own N' : List Str} {scope : Scope} {C : Addr} {fp : List Addr} {s₂ : Shared} {H₂ : Hp} {pins : List (Addr × Obj)} {σ : St} (S : CompScope X own N' scope) (I : Inv X pins σ H₂ s₂) (hC : s₂.heap.objs.size ≤ C)
    (hf : ∀ b ∈ fp, FpOk X pins H₂ b) (hlt : ∀ b ∈ fp, b < s₂.heap.objs.size) : (compCx X N' scope C fp s₂ H₂).Ok where
  mod := I.ok.mod
  kind := S.kind
  glob := I.ok.glob
  blt := I.ok.blt
  above := hC
  inj := fun x y c h1 h2 => I.ok.inj x y c (clOf_lookup h1) (clOf_lookup h2)
  has := fun x h => by
    have hm := relabel_free S.nocell h
    obtain ⟨c, hc⟩ := I.ok.has x (S.free _ hm rfl)
    exact ⟨c, clOf_has hm hc⟩
  cab := fun x c h => by cases h
  hd := I.ok.hd
  frames := I.ok.frames
  stk := .inl rfl
  exf := fun b hb => ⟨ne_lt (hlt b hb) hC, fun x c h => (hf b hb).2.2.2.2.1 x c (clOf_lookup h)⟩
  bs := I.bs
  bsz := Nat.le_trans I.ok.bsz I.sz
  noex := fun b o e hb => by
    rcases (hf b hb).2.2.2.1 with z | z
    · exact I.ok.noex b o e z
    · exact no_lt (Heap.lt_size e) (Nat.le_trans I.ok.bsz z)
  exfs := fun b hb hs => by
    rcases List.mem_cons.mp (I.stkSub b hs) with z | z
    · exact (hf b hb).2.1 z
    · exact (hf b hb).2.2.1 z
  funs := I.stack
  frf := I.stkFree
theorem CompScope.inv {own N' : List Str} {scope : Scope} {C D : Addr} {fp : List Addr} {s₂ s₄ : Shared} {H₂ : Hp} {pins : List (Addr × Obj)} {σ : St} {oD : Obj} {m : Str → Option Value} (S : CompScope X own N' scope) (I : Inv X pins σ H₂ s₂) (hC : s₂.heap.objs.size ≤ C)
    (hf : ∀ b ∈ fp, FpOk X pins H₂ b) (hlt : ∀ b ∈ fp, b < s₂.heap.objs.size) (hos : s₄.os = s₂.os) (hg : s₄.gens = s₂.gens) (k : ∀ b u, s₂.heap.get? b = some u → s₄.heap.get? b = some u) (hn : s₄.heap.Ns C m)
    (hD : s₄.heap.get? D = some oD) (hDs : s₂.heap.objs.size ≤ D) (hDC : D ≠ C) (hDd : ∀ v, oD.data ≠ .cell v) :
    Inv (compCx X N' scope C fp s₂ H₂) [(D, oD)] (List.replicate own.length none ++ σ) H₂ s₄ where
  ok := S.ok I hC hf hlt
  os := hos
  bare := by rw [hg]; exact I.bare
  base := Un.kept k
  loc := ⟨m, hn, fun i x v e1 e2 e3 => by
    obtain ⟨mX, hnX, hlX⟩ := I.loc
    have hge : own.length ≤ i := by
      refine Nat.le_of_not_lt fun hi => ?_
      rw [List.getElem?_append_left (by simpa using hi), List.getElem?_replicate] at e2
      split at e2 <;> cases e2
    rw [List.getElem?_append_right (by simpa using hge), List.length_replicate] at e2
    have e1' : (N'.drop own.length)[i - own.length]? = some x := by
      rw [List.getElem?_drop, show own.length + (i - own.length) = i by omega]
      exact e1
    have nl := S.apart x (List.mem_of_getElem? e1')
    have hfr : (x, NameKind.free) ∈ scope.names := by
      rcases e3 with z | z | z
      · exact absurd z nl
      · exact relabel_free S.nocell (.inl z)
      · exact relabel_free S.nocell (.inr z)
    have hk := S.free _ hfr rfl
    obtain ⟨u, r, l⟩ := hlX (i - own.length) x v (S.outer _ _ e1' hfr) e2 (by
      rcases hk with z | z
      · exact .inr (.inl z)
      · exact .inr (.inr z))
    refine ⟨u, r, ?_⟩
    rcases l with ⟨z, _⟩ | ⟨_, c, hc, o, ho, hd⟩
    · rcases hk with q | q
      · rw [q] at z; cases z
      · rw [q] at z; cases z
    · refine .inr ⟨?_, c, clOf_has hfr hc, o, k _ _ ho, hd⟩
      rcases e3 with z | z | z
      · exact absurd z nl
      · exact .inl z
      · exact .inr z⟩
  cell := fun x c h => by
    obtain ⟨v, o, ho, hd⟩ := I.cell x c (clOf_lookup h)
    exact ⟨v, o, k _ _ ho, hd⟩
  free := I.hok.fresh hC
  freeC := fun x c h => I.freeC x c (clOf_lookup h)
  pin := fun p hp => by
    have e : p = (D, oD) := by
      have hp' : p ∈ [(D, oD)] := hp
      simpa using hp'
    subst e
    refine ⟨hD, I.hok.fresh hDs, hDC, fun z => ?_, hDd⟩
    rcases List.mem_cons.mp (I.stkSub D z) with q | q
    · exact ne_lt I.lt hDs q.symm
    · exact I.nofs hDs q
  hok := I.hok.kept k
  len := by
    show _ = N'.length
    rw [S.len, List.length_append, List.length_replicate, I.len]
theorem comp_block {own N' : List Str} {scope : Scope} {elt tg iter : Expr} {ifs : List Expr} {pos : Pos} {g : TG} {tt : TT} {te : TE} {it : Addr} {fp : List Addr} {tn : Nat → Heap → Prop} {J : It} {pins : List (Addr × Obj)} {s₂ : Shared} {σ : St} {H₂ : Hp} {Q : VK}
    {RR : Value → Addr → Result → Shared → Prop} {E : Value → Shared → Prop} (hc : X.calm = true) (S : CompScope X own N' scope)
    (hg : ∀ C s H, PG (compCx X N' scope C fp s H) tg g) (ht : ∀ C s H, PTs (compCx X N' scope C fp s H) ifs tt) (he : ∀ C s H, PE (compCx X N' scope C fp s H) elt te)
    (I : Inv X pins σ H₂ s₂) (T : Turn X.prog X.w X.K tg J fp it tn) (st : tn 0 s₂.heap) (hf : ∀ b ∈ fp, FpOk X pins H₂ b)
    (W : Nat → Nat → List V → Hp → Prop) (m0 : Nat) (w0 : W 0 m0 [] H₂)
    (turn : ∀ i m ys H, W i m ys H → (J.stop i H ∧ ∀ p, H p = none → Q (.ref p) (upd H p (.lst ys))) ∨
      (J.go i H ∧ ys.length < sizeLine ∧ ∃ (N1 : V → Hp → Prop) (N0 : Hp → Prop), (∀ y H', N1 y H' → ∃ m', m' < m ∧ W (i + 1) m' (ys ++ [y]) H') ∧ (∀ H', N0 H' → ∃ m', m' < m ∧ W (i + 1) m' ys H') ∧
        ∀ x H', J.yld i H x H' → g x (List.replicate own.length none ++ σ) H' fun σ2 H2 => tt σ2 H2 fun b H3 => if b = true then te σ2 H3 N1 else N0 H3))
    (hRR : ∀ (D C : Addr) (s' : Shared) (H' : Hp) (m' : Str → Option Value), Inv X pins σ H' s' → Q (.ref D) H' → s'.heap.Ns C m' → H' C = none → C ≠ X.env.locals → X.s₀.heap.objs.size ≤ C → (∀ x c, X.env.cells.lookup x = some c → c ≠ C) → (∀ p ∈ X.pn ++ pins, p.1 ≠ C) →
      RR (.ref D) C (.ok .next) s') :
    wpAny (model X.prog X.w) X.A (newList []) (fun acc s₃ => wpAny (model X.prog X.w) X.A (newFunctionEnv scope X.env.globals (clOf scope.names X.env.cells) [] X.env.qual none .none (some X.env)) (fun cenv s₄ =>
      codeAny (model X.prog X.w) X.A (.compStart (.ListComp elt [⟨tg, iter, ifs, 0⟩] scope pos) 0 (.ref it) acc { cenv with scope := relabel scope X.env }) (RR acc cenv.locals) s₄) E s₃) E s₂ := by
  refine wpAny_newObj_type (wpAny_newFunctionEnv S.nocell (by intro y hy; simp at hy) (fun h₁ hns₁ hsb₁ => ?_) S.kind)
  dsimp only at hns₁ hsb₁ ⊢
  generalize hH2 : s₂.heap.push { cls := .type "list", dict := none, data := .seq ([] : List Value).toArray } = H2 at hns₁ hsb₁ ⊢
  have hC : H2.objs.size = s₂.heap.objs.size + 1 := hH2 ▸ Heap.size_push ..
  have hDC : s₂.heap.objs.size ≠ H2.objs.size := Nat.ne_of_lt (by omega)
  have hCle : s₂.heap.objs.size ≤ H2.objs.size := hC ▸ Nat.le_add_right _ 1
  have below : ∀ b, b < s₂.heap.objs.size → b ≠ H2.objs.size ∧ b ≠ s₂.heap.objs.size := fun b hb => ⟨Nat.ne_of_lt (Nat.lt_of_lt_of_le hb hCle), Nat.ne_of_lt hb⟩
  have old : ∀ b o, s₂.heap.get? b = some o → h₁.get? b = some o := fun b o e => hsb₁.extBut b o (below b (Heap.lt_size e)).1 (Heap.get?_push_of_some _ (hH2 ▸ Heap.get?_push_of_some _ e))
  have hacc : h₁.get? s₂.heap.objs.size = some { cls := .type "list", data := .seq ([] : List Value).toArray 0 } := hsb₁.extBut _ _ hDC (Heap.get?_push_of_some _ (hH2 ▸ Heap.get?_push_size _ rfl))
  have hflt : ∀ b ∈ fp, b < s₂.heap.objs.size := fun b hb => by
    obtain ⟨o, e, _⟩ := T.obj 0 _ st b hb
    exact Heap.lt_size e
  generalize hCd : H2.objs.size = C at *
  generalize hDd : s₂.heap.objs.size = D at *
  have hDnf : D ∉ X.fs := I.nofs (Nat.le_of_eq hDd)
  have stat : ∀ {H' : Hp} {o : Obj}, (∀ b ∈ fp, H' b = none) → ∀ b ∈ fp, FpOk (compCx X N' scope C fp s₂ H₂) [(D, o)] H' b := fun {H' o} hn b hb =>
    ⟨hn b hb, (ne_lt (hflt b hb) hCle), fun z => (S.ok I (hDd ▸ hCle) hf (by rw [hDd]; exact hflt)).exfs b hb z, .inl hb, fun x c h => (hf b hb).2.2.2.2.1 x c (clOf_lookup h), fun p hp => by
      have e : p = (D, o) := by
        have hp' : p ∈ [(D, o)] := hp
        simpa using hp'
      subst e
      exact Ne.symm (Nat.ne_of_lt (hflt b hb))⟩
  have loop : ∀ s₃ : Shared, s₃ = { s₂ with heap := h₁, toks := s₂.toks + ([] : List (Str × Value)).length } →
      codeAny (model X.prog X.w) X.A (.compLoop (.ListComp elt [⟨tg, iter, ifs, 0⟩] scope pos) 0 (.ref it) (.ref D) (compEnvC scope (clOf scope.names X.env.cells) C X.env)) (RR (.ref D) C) s₃ := by
    rintro s₃ rfl
    refine compLoop_any (fun n s' => ∃ i ys us nn H', Inv (compCx X N' scope C fp s₂ H₂) [(D, { cls := .type "list", data := .seq (us : List Value).toArray nn })] (List.replicate own.length none ++ σ) H' s' ∧ Vals ys us ∧ ys.length ≤ sizeLine ∧
      tn i s'.heap ∧ (∀ b ∈ fp, H' b = none) ∧ W i n ys H') ?_ m0 ⟨0, [], [], 0, H₂, S.inv (m := fun x => ([] : List (Str × Value)).reverse.lookup x) I (by rw [hDd]; exact hCle) hf (by rw [hDd]; exact hflt) rfl rfl old hns₁ hacc (Nat.le_of_eq hDd) hDC (by intro v z; cases z), .nil, Nat.zero_le _,
        T.keep _ _ _ st fun b hb o e => old b o e, fun b hb => (hf b hb).1, w0⟩
    rintro n s3 ⟨i, ys, us, nn, H3, I3, rv, hyz, st3, fr3, w3⟩
    rcases turn i n ys H3 w3 with ⟨stop, qn⟩ | ⟨go, hlt, N1, N0, hN1, hN0, step⟩
    · refine thn (T.done (compCx X N' scope C fp s₂ H₂) rfl rfl rfl hc i _ s3 _ H3 (fun _ _ => False) I3 (stat fr3) st3 stop) fun r s4 ⟨hr, I4⟩ => ?_
      subst hr
      obtain ⟨e4, n4, ne4, nf4, d4⟩ := I4.pin (D, _) (List.mem_append_right _ (List.mem_cons_self))
      obtain ⟨mC, hmC, _⟩ := I4.loc
      have hH4 : H3 D = none := n4
      have U : Un (frs X.stack) fp H₂ H3 s₂.heap s4.heap := I4.base
      have U' : Un (frs X.stack) fp H₂ (upd H3 D (.lst ys)) s₂.heap s4.heap :=
        { keep := U.keep, slot := U.slot, there := U.there
          free := fun b o e nb hx => by
            rw [upd_ne (ne_lt (Heap.lt_size e) (Nat.le_of_eq hDd))]
            exact U.free b o e nb hx
          tups := fun b xs e => by
            rw [upd_ne (ne_lt (I.hok.lt e) (Nat.le_of_eq hDd))]
            exact U.tups b xs e
          frzs := fun b o xs e => by
            rw [upd_ne (ne_lt (I.hok.lt e) (Nat.le_of_eq hDd))]
            exact U.frzs b o xs e
          tbls := fun b ps e => by
            rw [upd_ne (ne_lt (I.hok.lt e) (Nat.le_of_eq hDd))]
            exact U.tbls b ps e }
      have hokD : HOk X.prog X.w (upd H3 D (.lst ys)) s4.heap := fun b u e => by
        by_cases hb : b = D
        · subst hb
          rw [upd_same] at e
          cases e
          exact ⟨hyz, us, nn, rv, e4⟩
        · rw [upd_ne hb] at e
          exact (I4.hok b u e).stay (fun _ _ _ q => q) (fun c q => by rw [upd_ne (ne_of_none q hH4)]; exact q) fun c xs q => by rw [upd_ne (ne_of_none q hH4)]; exact q
      have IX : Inv X pins σ (upd H3 D (.lst ys)) s4 := I.call' I4.os U' hokD I4.bare fun b hb => by
        obtain ⟨f0, f1, f2, f3, f4, f5⟩ := hf b hb
        exact ⟨f3, f1, f4, f5⟩
      have hDne : C ≠ D := fun z => hDC z.symm
      refine hRR D C s4 _ mC IX (qn D hH4) hmC (by rw [upd_ne hDne]; exact I4.free) (fun z => ?_) ?_ (fun x c h z => ?_) fun p hp z => ?_
      · exact ne_lt I.lt (hDd ▸ hCle) z.symm
      · exact Nat.le_trans I.sz (hDd ▸ hCle)
      · obtain ⟨v, o, ho, _⟩ := I.cell x c h
        exact ne_lt (Heap.lt_size ho) (hDd ▸ hCle) z
      · exact ne_lt (Heap.lt_size (I.pin p hp).1) (hDd ▸ hCle) z
    · refine thn (T.item (compCx X N' scope C fp s₂ H₂) rfl rfl rfl hc i _ s3 _ H3 (fun _ _ => False) I3 (stat fr3) st3 go) fun r s4 ⟨u, hr, h4⟩ => ?_
      subst hr
      refine thn h4 fun _ s5 ⟨x, H5, I5, r5, y5, st5, fr5⟩ => ?_
      have I5' := I5.pinned (stat fr5) (T.obj _ _ st5)
      refine thn (hg C s₂ H₂ _ s5 _ H5 x u _ I5' r5 (step x H5 y5)) fun _ s6 ⟨σ6, H6, I6, q6⟩ => ?_
      have back : ∀ {σ7 : St} {H7 : Hp} {s7 : Shared} {pp : List (Addr × Obj)}, Inv (compCx X N' scope C fp s₂ H₂) (pp ++ pinsAt fp s5.heap) σ7 H7 s7 → tn (i + 1) s7.heap ∧ ∀ b ∈ fp, H7 b = none := fun {σ7 H7 s7 pp} I7 => by
        refine ⟨T.keep _ _ _ st5 fun b hb o e => (I7.pin (b, o) (List.mem_append_right _ (List.mem_append_right _ (mem_pinsAt hb e)))).1, fun b hb => ?_⟩
        obtain ⟨o, e, d⟩ := T.obj _ _ st5 b hb
        exact (I7.pin (b, o) (List.mem_append_right _ (List.mem_append_right _ (mem_pinsAt hb e)))).2.1
      refine thn (ht C s₂ H₂ _ s6 σ6 H6 _ I6 q6) fun b s7 ⟨H7, I7, q7⟩ => ?_
      have weak : ∀ {H8 : Hp} {s8 : Shared} {pp : List (Addr × Obj)}, Inv (compCx X N' scope C fp s₂ H₂) pp σ6 H8 s8 → Inv (compCx X N' scope C fp s₂ H₂) pp (List.replicate own.length none ++ σ) H8 s8 := fun {H8 s8 pp} J8 => by
        obtain ⟨mC, hmC, _⟩ := J8.loc
        refine ⟨J8.ok, J8.os, J8.bare, J8.base, ⟨mC, hmC, fun j y v e1 e2 e3 => ?_⟩, J8.cell, J8.free, J8.freeC, J8.pin, J8.hok, I3.len⟩
        obtain ⟨m3, hm3, hl3⟩ := (S.inv (m := fun x => ([] : List (Str × Value)).reverse.lookup x) (s₄ := { s₂ with heap := h₁, toks := s₂.toks + ([] : List (Str × Value)).length }) I (by rw [hDd]; exact hCle) hf (by rw [hDd]; exact hflt) rfl rfl old hns₁ hacc (Nat.le_of_eq hDd) hDC (by intro v z; cases z)).loc
        obtain ⟨u', r', l'⟩ := hl3 j y v e1 e2 e3
        refine ⟨u', r', ?_⟩
        rcases l' with ⟨k', z'⟩ | ⟨k', c, hcl, o, ho, hd⟩
        · have hge : own.length ≤ j := by
            refine Nat.le_of_not_lt fun hj => ?_
            rw [List.getElem?_append_left (by simpa using hj), List.getElem?_replicate] at e2
            split at e2 <;> cases e2
          have e1' : (N'.drop own.length)[j - own.length]? = some y := by
            rw [List.getElem?_drop, show own.length + (j - own.length) = j by omega]
            exact e1
          exact absurd k' (S.apart y (List.mem_of_getElem? e1'))
        · obtain ⟨vc, oc, hoc, hdc⟩ := I.cell y c (clOf_lookup hcl)
          have ec : oc = o := by
            have := old c oc hoc
            rw [this] at ho
            exact Option.some.inj ho
          subst ec
          obtain ⟨sl, hsl⟩ := J8.base.any hoc (I.freeC y c (clOf_lookup hcl)) (fun z => (hf c z).2.2.2.2.1 y c (clOf_lookup hcl) rfl)
          exact .inr ⟨k', c, hcl, _, hsl, hd⟩
      cases b with
      | false =>
        obtain ⟨m', hm, w7⟩ := hN0 _ q7
        obtain ⟨st7, fr7⟩ := back I7
        exact ⟨m', hm, i + 1, ys, us, nn, H7, weak I7.unpinned, rv, hyz, st7, fr7, w7⟩
      | true =>
        refine thn (he C s₂ H₂ _ s7 σ6 H7 _ I7 q7) fun yv s8 ⟨y, H8, I8, r8, q8⟩ => ?_
        obtain ⟨m', hm, w8⟩ := hN1 _ _ q8
        obtain ⟨st8, fr8⟩ := back I8
        obtain ⟨e8, n8, ne8, nf8, d8⟩ := I8.pin (D, _) (List.mem_append_right _ (List.mem_append_left _ List.mem_cons_self))
        refine append_at (hsz := by rw [List.size_toArray, ← rv.length]; exact hyz) e8 fun h9 hs9 hD9 => ?_
        have I8' : Inv (compCx X N' scope C fp s₂ H₂) [] σ6 H8 s8 := I8.pins_of fun p hp => nomatch hp
        have I9 : Inv (compCx X N' scope C fp s₂ H₂) [] σ6 H8 { s8 with heap := h9 } := I8'.turned (t' := s8.toks) (it := D) (fun b o hb e => hs9.extBut b o hb e) n8 ne8 (.inr (Nat.le_of_eq hDd)) (fun x c h z => by
          obtain ⟨v, o, ho, _⟩ := I.cell x c (clOf_lookup h)
          exact ne_lt (Heap.lt_size ho) (Nat.le_of_eq hDd) z) fun p hp => nomatch (show p ∈ ([] : List (Addr × Obj)) from hp)
        have eqD : ({ cls := .type "list", data := .seq (us.toArray.push yv) (nn + 1) } : Obj) = { cls := .type "list", data := .seq (us ++ [yv]).toArray (nn + 1) } := by rw [List.push_toArray]
        refine ⟨m', hm, i + 1, ys ++ [y], us ++ [yv], nn + 1, H8, weak (I9.pins_of fun p hp => ?_), rv.append (.cons r8 .nil), by rw [List.length_append]; exact hlt, T.keep _ _ _ st8 fun b hb o e => hs9.extBut b o (Nat.ne_of_lt (hflt b hb)) e, fr8, w8⟩
        have e : p = (D, { cls := .type "list", data := .seq (us ++ [yv]).toArray (nn + 1) }) := by simpa using hp
        subst e
        exact ⟨by rw [← eqD]; exact hD9, n8, ne8, nf8, by intro v z; cases z⟩
  exact codeAny_compStart_list (loop _ rfl) (T.self _ 0 _ _ _ (T.keep _ _ _ st fun b hb o e => old b o e) (loop _ rfl))
end
end _L2
set_option Elab.async false
set_option linter.all false
set_option maxRecDepth 100000
set_option maxHeartbeats 4000000
namespace _L2
open PySem PySem.Spec PyProof.Rows
section
variable {X : Cx}
theorem comp_close {own N' : List Str} {scope : Scope} (S : CompScope X own N' scope) {pins : List (Addr × Obj)} {s : Shared} {σ : St} {H : Hp} (I : Inv X pins σ H s) :
    closureFor scope X.env = pure (clOf scope.names X.env.cells) := closureFor_cl fun p hp hf => I.ok.has p.1 (S.free p hp hf)
theorem pe_comp {own N' : List Str} {scope : Scope} {elt tg iter : Expr} {ifs : List Expr} {pos : Pos} {wi : TI} {g : TG} {tt : TT} {te : TE} (hc : X.calm = true) (S : CompScope X own N' scope) (hi : PI X tg iter wi)
    (hg : ∀ C fp s H, PG (compCx X N' scope C fp s H) tg g) (ht : ∀ C fp s H, PTs (compCx X N' scope C fp s H) ifs tt) (he : ∀ C fp s H, PE (compCx X N' scope C fp s H) elt te)
    (hs : ∀ x, foldedSetIterable iter X.env x = pure x := by intro _; rfl) : PE X (.ListComp elt [⟨tg, iter, ifs, 0⟩] scope pos) (tComp own.length wi g tt te) := by
  intro pins s σ H Q I h
  rw [eval_ListComp]
  refine wpAny_comprehension_free (use := none) rfl hs (comp_close S I) S.kind S.names (thn (hi pins s σ H _ I h) fun v s1 h1 => thn h1 fun itv s2 h2 => ?_)
  obtain ⟨it, fp, tn, J, H2, e, I2, T, st2, f2, W, ⟨m0, w0⟩, turn⟩ := h2
  subst e
  refine comp_block (RR := fun acc C => compPost (model X.prog X.w) X.A X.xe none (EP X pins σ Q) acc C) hc S (fun C s H => hg C fp s H) (fun C s H => ht C fp s H) (fun C s H => he C fp s H) I2 T st2 f2 W m0 w0 turn ?_
  intro D C s' H' m' I' q' hn hC h1 h2' h3 h4
  refine ⟨m', hn, fun h' hsb => ?_⟩
  exact ⟨.ref D, H', I'.turned (t' := s'.toks) (it := C) (fun b o hb e => hsb.extBut b o hb e) hC h1 (.inr h2') h3 h4, rfl, q'⟩
theorem ps_setcomp {own N' : List Str} {scope : Scope} {elt tg iter : Expr} {ifs : List Expr} {pos spos py : Pos} {wi : TI} {g : TG} {tt : TT} {te : TE} {i : Nat} {y : Str} (hN : X.N.Nodup) (hy : X.N[i]? = some y) (hx : Loc X.env.scope y) (hc : X.calm = true) (S : CompScope X own N' scope) (hi : PI X tg iter wi)
    (hg : ∀ C fp s H, PG (compCx X N' scope C fp s H) tg g) (ht : ∀ C fp s H, PTs (compCx X N' scope C fp s H) ifs tt) (he : ∀ C fp s H, PE (compCx X N' scope C fp s H) elt te)
    (hsw : swapsWith (.ListComp elt [⟨tg, iter, ifs, 0⟩] scope pos) (some (.Name y py)) spos.line X.env = pure true)
    (hs : ∀ x, foldedSetIterable iter X.env x = pure x := by intro _; rfl) (hf : X.fn y = true ∨ X.env.scope.names.lookup y = some .local := by first | exact .inl rfl | exact .inr rfl | assumption) :
    PS X (.Assign [.Name y py] (.ListComp elt [⟨tg, iter, ifs, 0⟩] scope pos) spos) (tAsg (tComp own.length wi g tt te) (gName i)) := by
  intro pins s σ H D I h
  rw [exec_Assign_Name_used _ _ _ _ hsw]
  refine wpAny_bind (wpAny_standAt (wpAny_bind ?_))
  show wpAny _ X.A (do let _ ← comprehension (.ListComp elt [⟨tg, iter, ifs, 0⟩] scope pos) scope X.env _ (newList []) false (eval iter X.env) (some (assign (.Name y py) X.env))) _ _ s
  refine wpAny_bind (wpAny_mono (wpAny_comprehension_free (use := some (assign (.Name y py) X.env)) (Q := fun _ s' => SP X pins D .next s') rfl hs (comp_close S I) S.kind S.names
    (thn (hi pins s σ H _ I h) fun v s1 h1 => thn h1 fun itv s2 h2 => ?_)) (fun _ s' hq => wpAny_pure (wpAny_pure hq)) fun _ _ e => e)
  obtain ⟨it, fp, tn, J, H2, e, I2, T, st2, f2, W, ⟨m0, w0⟩, turn⟩ := h2
  subst e
  refine comp_block (Q := fun x H1 => gName i x σ H1 D.nx) (RR := fun acc C => compPost (model X.prog X.w) X.A X.xe (some (assign (.Name y py) X.env)) (fun _ s' => SP X pins D .next s') acc C) hc S (fun C s H => hg C fp s H) (fun C s H => ht C fp s H) (fun C s H => he C fp s H) I2 T st2 f2 W m0 w0 turn ?_
  intro D' C s' H' m' I' q' hn hC h1 h2' h3 h4
  show wpAny _ X.A (assign (.Name y py) X.env (.ref D')) _ _ _
  refine wpAny_assign_Name (store_ok2 (v := .ref D') I' hN hy hx rfl (fun s'' I'' hch => ?_) hf)
  obtain ⟨a, hsa, ha⟩ := hch
  have hCa : C ≠ a := by
    rcases ha with z | z
    · rw [z]; exact h1
    · exact Ne.symm (h3 _ _ z)
  refine ⟨m', hn.sameBut hsa hCa, fun h' hsb => ?_⟩
  exact ⟨_, H', I''.turned (t' := s''.toks) (it := C) (fun b o hb e => hsb.extBut b o hb e) hC h1 (.inr h2') h3 h4, q'⟩
noncomputable def Its (z : Str) : It := ⟨fun i _ => i < z.cps.size, fun i H x H' => H' = H ∧ ∃ c, z.cps[i]? = some c ∧ x = .str ⟨#[c]⟩, fun i _ => z.cps.size ≤ i⟩
theorem turn_str {P : Program} {w : World} {K : PySem.W.Frag} {tg : Expr} (it : Addr) (z : Str) (t : Tok) (ty : String) (hty : ty = "str_ascii_iterator" ∨ ty = "str_iterator") : Turn P w K tg (Its z) [it] it (fun i h => h.IsStrIter it ty z t i) where
  mem := by simp
  obj := fun i h st b hb => by
    have e : b = it := by simpa using hb
    subst e
    obtain ⟨o, e, c, d⟩ := st
    exact ⟨o, e, fun v z => by rw [d] at z; cases z⟩
  keep := fun i h h' st k => by
    obtain ⟨o, e, c, d⟩ := st
    exact ⟨o, k it (by simp) o e, c, d⟩
  item := by
    intro X hP hw hK hc i pins s σ H E I hf st hg
    subst hP hw hK
    have hg' : i < z.cps.size := hg
    have hx : z.cps[i]? = some z.cps[i] := by simp [hg']
    obtain ⟨f0, f1, f2, f3, f4, f5⟩ := hf it (by simp)
    have fin : ∀ h', h'.IsStrIter it ty z t (i + 1) → Heap.SameBut it s.heap h' → ∃ u, some (Value.str ⟨#[z.cps[i]]⟩ s.toks) = some u ∧
        wpAny (model X.prog X.w) X.A (letOwnedTupleGo tg (.ref it) u) (fun _ s2 => ∃ x H', Inv X pins σ H' s2 ∧ RelV x u ∧ (Its z).yld i H x H' ∧ s2.heap.IsStrIter it ty z t (i + 1) ∧ ∀ b ∈ [it], H' b = none) E { s with heap := h', toks := s.toks + 1 } := fun h' st' sb => by
      have I1 : Inv X pins σ H { s with heap := h', toks := s.toks + 1 } := I.turned (fun b o hb e => (sb.2 b hb).trans e) f0 f1 f3 f4 f5
      obtain ⟨o, e, c, d⟩ := id st'
      refine ⟨_, rfl, go_of (s := { s with heap := h', toks := s.toks + 1 }) e c d ?_ ⟨.str ⟨#[z.cps[i]]⟩, H, I1, ⟨_, rfl⟩, ⟨rfl, _, hx, rfl⟩, st', fun b hb => (hf b hb).1⟩⟩
      rcases hty with q | q <;> rw [q] <;> decide
    rcases hty with q | q
    · subst q
      exact wpAny_pyNext_ascii_item st hx fin
    · subst q
      exact wpAny_pyNext_wide_item st hx fin
  done := by
    intro X hP hw hK hc i pins s σ H E I hf st hg
    subst hP hw hK
    have hg' : z.cps.size ≤ i := hg
    have hx : z.cps[i]? = none := by simp [hg']
    obtain ⟨f0, f1, f2, f3, f4, f5⟩ := hf it (by simp)
    rcases hty with q | q
    · subst q
      exact wpAny_pyNext_ascii_end (I.ok.hd hc) st hx fun h' eb => ⟨rfl, I.turned (t' := s.toks) (fun b o hb e => eb b o hb e) f0 f1 f3 f4 f5⟩
    · subst q
      exact wpAny_pyNext_wide_end (I.ok.hd hc) st hx fun h' eb => ⟨rfl, I.turned (t' := s.toks) (fun b o hb e => eb b o hb e) f0 f1 f3 f4 f5⟩
  self := fun A i s Q E st h => by
    rcases hty with q | q
    · subst q; exact wpAny_pyIter_striter_ascii st h
    · subst q; exact wpAny_pyIter_striter_wide st h
noncomputable def iStr (tl : TE) : TI := fun σ H R => tl σ H fun x H1 => ∃ z, x = .str z ∧ R (Its z) H1
theorem pi_str {tg : Expr} {l : Expr} {tl : TE} (hl : PE X l tl) : PI X tg l (iStr tl) := by
  intro pins s σ H R I h
  refine thn (hl pins s σ H _ I h) fun v s1 ⟨x, H1, I1, r1, q1⟩ => ?_
  obtain ⟨z, e, q⟩ := q1
  subst e
  obtain ⟨t, rfl⟩ := r1
  have fin : ∀ ty, (ty = "str_ascii_iterator" ∨ ty = "str_iterator") → PIE X pins σ tg R (.ref s1.heap.objs.size) { s1 with heap := s1.heap.push { cls := .type ty, data := .fields #[.str z t, .int 0 0] } } := fun ty hty =>
    ⟨s1.heap.objs.size, [s1.heap.objs.size], _, _, H1, rfl, I1.kept (t' := s1.toks) fun b o e => Heap.get?_push_of_some _ e, turn_str _ z t ty hty, ⟨_, Heap.get?_push_size _ rfl, rfl, rfl⟩, fun b hb => by
      have e : b = s1.heap.objs.size := by simpa using hb
      subst e
      exact I1.fpOk (Nat.le_refl _) (I1.hok.fresh (Nat.le_refl _)), q⟩
  cases ha : z.cps.all (· < 128)
  · exact wpAny_pyIter_wide ha (fin _ (.inr rfl))
  · exact wpAny_pyIter_ascii ha (fin _ (.inl rfl))
noncomputable def rCatS (K : PySem.W.Frag) : R2 := fun x y H Q => ∃ l b xs zs, x = .ref l ∧ y = .ref b ∧ SqL K H l xs ∧ SqL K H b zs ∧ xs.length + zs.length ≤ sizeLine ∧ ∀ p, H p = none → Q (.ref p) (upd H p (.lst (xs ++ zs)))
theorem op_catS : OpR X (binaryOp .Add) (rCatS X.K) := by
  intro pins s σ H x y v u Q I rx ry h
  obtain ⟨l, b, xs, zs, rfl, rfl, hH, hB, hz, q⟩ := h
  cases rx
  cases ry
  obtain ⟨its, r, pl, z⟩ := I.list hH
  obtain ⟨its2, r2, pl2, z2⟩ := I.list hB
  have hl := r.length
  have hl2 := r2.length
  obtain ⟨⟨cls, dd, data, sl⟩, n, ho, hc, _, hd⟩ := pl
  obtain ⟨⟨cls2, dd2, data2, sl2⟩, n2, ho2, hc2, _, hd2⟩ := pl2
  simp only at hc hd hc2 hd2
  subst hc hd hc2 hd2
  have e : its.toArray ++ its2.toArray = (its ++ its2).toArray := by simp
  refine concat_meets ⟨_, ho, rfl⟩ ⟨_, ho2, rfl⟩ noFill_list_add seq_list_add PySem.F.slot_list_add PySem.F.entry_list_add (PySem.F.args_list_add_2 _ _) (list_addW l b its.toArray its2.toArray n n2 dd dd2 sl sl2 (by rw [List.size_toArray, List.size_toArray]; omega)) ⟨ho, ho2, ?_⟩
  rw [e]
  exact ⟨.ref _, _, I.lnew (t' := s.toks) (r.append r2) (by rw [List.length_append]; omega), rfl, q _ I.fresh⟩
noncomputable def rSlS : V → Option Int → Option Int → Hp → VK → Prop := fun x lo hi H Q => ∃ z, x = .str z ∧ z.length ≤ sizeLine ∧ Q (.str (Txt.slice z lo hi)) H
theorem sl_str : SlR X rSlS := by
  intro pins s σ H x v vl vu lo hi sl Q I rx hs pl pu h
  obtain ⟨z, rfl, hz, q⟩ := h
  obtain ⟨t, rfl⟩ := rx
  refine ⟨"str", _, PySem.F.slot_str_getitem.lookup, typeIs_str _ _ _, ?_⟩
  have fin : ∀ (l u : Option (Int × Tok)), l.map (·.1) = lo → u.map (·.1) = hi → s.heap.IsSlice sl l u none → wpAny (model X.prog X.w) X.A (getItem (.str z t) (.ref sl)) (EP X pins σ Q) X.xe s := fun l u el eu hs' => by
    subst el eu
    exact wpAny_getItem_str_slice (l := l) (u := u) (st := none) hs' rfl (post_val_or_str ⟨Nat.le_trans (Txt.slice_le z _ _) hz, fun t' k => ⟨.str _, H, I.tok _, ⟨_, rfl⟩, q⟩⟩)
  cases pl with
  | none =>
    cases pu with
    | none => exact fin none none rfl rfl hs
    | int j tj => exact fin none (some (j, tj)) rfl rfl hs
  | int i ti =>
    cases pu with
    | none => exact fin (some (i, ti)) none rfl rfl hs
    | int j tj => exact fin (some (i, ti)) (some (j, tj)) rfl rfl hs
theorem strsAre_of : ∀ {ys : List Str} {us : List Value}, Vals (ys.map V.str) us → StrsAre us ys
  | [], _, .nil => .nil
  | y :: ys, _, .cons ⟨t, e⟩ r => by
    subst e
    exact .cons y t (strsAre_of r)
noncomputable def rJoin (K : PySem.W.Frag) : V → List V → Hp → VK → Prop := fun x xs H Q => ∃ z p ys, x = .str z ∧ xs = [.ref p] ∧ SqL K H p (ys.map V.str) ∧ (ys.map (·.length)).sum + ys.length * z.length ≤ 16777216 ∧ Q (.str (Txt.join z ys)) H
theorem mt_join : MtR X "str.join" (rJoin X.K) := by
  intro pins s σ H x xs v us Q I rx rv h
  obtain ⟨z, p, ys, rfl, rfl, hq, hz, q⟩ := h
  obtain ⟨t, rfl⟩ := rx
  obtain ⟨u, rfl, ru⟩ := rv.one
  cases ru
  obtain ⟨its, r, pl, hl⟩ := I.list hq
  exact join_list pl.isList (by simpa using strsAre_of r) hz fun t' k => ⟨.str _, H, I.tok _, ⟨_, rfl⟩, q⟩
theorem call_all : CallR X (.builtin "all") (fun xs H Q => X.calm = true ∧ ∃ (p : Addr) (bs : List Bool), xs = [.ref p] ∧ SqL X.K H p (bs.map V.bl) ∧ Q (.bl (bs.all id)) H) := by
  intro pins s σ H xs us Q I r h
  obtain ⟨hc, p, bs, rfl, hq, q⟩ := h
  obtain ⟨u, rfl, rx⟩ := vals1 r
  cases rx
  obtain ⟨its, r', pl, hz⟩ := I.list hq
  have hl := pl.isList
  have hlt : p < s.heap.objs.size := by obtain ⟨_, e, _⟩ := hl; exact Heap.lt_size e
  have hlen := r'.length
  rw [List.length_map] at hlen
  refine call_all_walk (wpAny_pyIter_list hl ?_)
  refine ⟨s.heap.objs.size, _, _, _, _, _, fun i => bs.getD i true, rfl, Walks.list (A := X.A.in1) (I.ok.hd hc) s.heap.objs.size p (Nat.ne_of_lt hlt) its.toArray, ⟨⟨_, Heap.get?_push_size _ rfl, rfl, rfl⟩, hl.push _⟩, ?_, fun h' tk hk => ?_⟩
  · intro i v s' Q' E' hP hQ'
    have hP' : its[i]? = some v := by simpa using hP
    have hi : i < bs.length := by rw [hlen]; exact (List.getElem?_eq_some_iff.mp hP').1
    obtain ⟨u', hu, ru⟩ := r'.get (i := i) (x := V.bl bs[i]) (by simp [hi])
    rw [hP'] at hu
    cases hu
    cases (show v = Value.bool bs[i] from ru)
    have e : bs.getD i true = bs[i] := by simp [List.getD, hi]
    exact wpAny_truthy_bool (by rw [← e]; exact hQ')
  · have e : (List.range its.toArray.size).all (fun i => bs.getD i true) = bs.all id := by
      rw [List.size_toArray, ← hlen, Bool.eq_iff_iff, List.all_eq_true, List.all_eq_true]
      constructor
      · intro a b hb
        obtain ⟨i, hi, e⟩ := List.mem_iff_getElem.mp hb
        have := a i (by simpa using hi)
        simpa [List.getD, hi, e] using this
      · intro a i hi
        have hi' : i < bs.length := by simpa using hi
        have := a bs[i] (List.getElem_mem hi')
        simpa [List.getD, hi'] using this
    rw [e]
    exact ⟨.bl _, H, (I.kept (t' := s.toks) (h' := s.heap.push { cls := .type "list_iterator", data := .fields #[.ref p, .int 0 0] }) fun b o e => Heap.get?_push_of_some _ e).turned (t' := tk) (it := s.heap.objs.size) (fun b o hb e => hk b o (by simpa using hb) e) I.fresh
      (Ne.symm (Nat.ne_of_lt I.lt)) (.inr I.sz) (fun x c h z => by
        obtain ⟨v, o, ho, _⟩ := I.cell x c h
        exact ne_lt (Heap.lt_size ho) (Nat.le_refl _) z) fun p hp z => ne_lt (Heap.lt_size (I.pin p hp).1) (Nat.le_refl _) z, rfl, q⟩
theorem op_le_str : OpR X (compareOp .LtE) (fun x y H Q => ∃ i j, x = .str i ∧ y = .str j ∧ Q (.bl (!decide (j.cps.toList < i.cps.toList))) H) := by
  intro pins s σ H x y v u Q I rx ry h
  obtain ⟨i, j, rfl, rfl, q⟩ := h
  obtain ⟨t, rfl⟩ := rx
  obtain ⟨t', rfl⟩ := ry
  exact PySem.P.le_str ⟨.bl _, H, I, rfl, q⟩
end
end _L2
set_option Elab.async false
set_option linter.all false
set_option maxRecDepth 100000
set_option maxHeartbeats 4000000
namespace _L2
open PySem PySem.Spec PyProof.Rows
theorem bt_len : bootBuiltins "len" = some (.builtin "len") := by decide +kernel
theorem bt_all : bootBuiltins "all" = some (.builtin "all") := by decide +kernel
theorem bt_max : bootBuiltins "max" = some (.builtin "max") := by decide +kernel
theorem bt_min : bootBuiltins "min" = some (.builtin "min") := by decide +kernel
theorem bt_isinstance : bootBuiltins "isinstance" = some (.builtin "isinstance") := by decide +kernel
theorem bt_int : bootBuiltins "int" = some (.type "int") := by decide +kernel
theorem bt_str : bootBuiltins "str" = some (.type "str") := by decide +kernel
theorem bt_bool : bootBuiltins "bool" = some (.type "bool") := by decide +kernel
theorem bt_list : bootBuiltins "list" = some (.type "list") := by decide +kernel
theorem bt_tuple : bootBuiltins "tuple" = some (.type "tuple") := by decide +kernel
theorem bt_set : bootBuiltins "set" = some (.type "set") := by decide +kernel
theorem bt_enumerate : bootBuiltins "enumerate" = some (.type "enumerate") := by decide +kernel
theorem bt_dict : bootBuiltins "dict" = some (.type "dict") := by decide +kernel
structure Callee (P : Program) (w : World) (K : PySem.W.Frag) (mg : Str → Option Value) (base : Heap) (k : Nat) (x : Str) (ps : List Str) (sp : Sp) : Prop where
  ex : ∃ (f : Addr) (fd : FuncData), FnOk P w K mg base CX0 k f fd ps sp ∧ mg x = some (.ref f) ∧ PySem.W.keepIn K (.ref f) = true ∧ Binds K fd ps []
section
variable {X : Cx}
theorem pe_fn {k j : Nat} {x : Str} {ps : List Str} {sp : Sp} {e : Expr} {es : List Expr} {t : TA} {p pos : Pos} (c : Callee X.prog X.w X.K X.mg X.base k x ps sp) (hr : Room j X.A) (hg : Gl X x) (ha : PA X (e :: es) t) (hk : k ≤ j := by decide)
    (hd : (x == ("__debug__" : Str)) = false := by decide) (hs : starEach (e :: es) X.env = (false, eval e X.env) :: starEach es X.env := by rfl) (hplain : (backTo pos (starEach es X.env)).any (·.1) = false := by rfl) : PE X (.Call (.Name x p) (e :: es) [] pos) (tCall sp [] E0 t) := by
  obtain ⟨f, fd, F, hm, hkp, hb⟩ := c.ex
  exact pe_call (hdb := hd) (he := hs) (hpl := hplain) F (hr.mono hk) hg hm hkp hb .nil pass0 ha
noncomputable def csB (N : List Str) (env : Env) (own N' : List Str) (scope : Scope) : Bool :=
  scope.kind == .function && scope.names.all (fun y => y.2 != .cell) && scope.names.all (fun y => y.2 != .local || scope.names.lookup y.1 == some .local) &&
  scope.names.all (fun y => y.2 != .free || env.kindOf y.1 == some .cell || env.kindOf y.1 == some .free) && N'.length == own.length + N.length &&
  ((N'.drop own.length).zip N).all (fun p => p.1 == p.2 || !(scope.names.contains (p.1, NameKind.free))) && (N'.drop own.length).all (fun x => (relabel scope env).names.lookup x != some .local)
theorem cs {own N' : List Str} {scope : Scope} (h : csB X.N X.env own N' scope = true) : CompScope X own N' scope := by
  unfold csB at h
  simp only [Bool.and_eq_true] at h
  obtain ⟨⟨⟨⟨⟨⟨h1, h2⟩, h3⟩, h4⟩, h5⟩, h6⟩, h7⟩ := h
  have hlen : N'.length = own.length + X.N.length := by simpa using h5
  refine ⟨by simpa using h1, fun y hy => ?_, fun y hy hl => ?_, fun y hy hf => ?_, hlen, fun i x hx hf => ?_, fun x hx => ?_⟩
  · have := List.all_eq_true.mp h2 y hy
    simpa using this
  · have := List.all_eq_true.mp h3 y hy
    simpa [hl] using this
  · have := List.all_eq_true.mp h4 y hy
    simpa [hf] using this
  · have hi : i < (N'.drop own.length).length := (List.getElem?_eq_some_iff.mp hx).1
    have hi' : i < X.N.length := by rw [List.length_drop] at hi; omega
    have hz : ((N'.drop own.length).zip X.N)[i]? = some (x, X.N[i]) := by
      rw [List.getElem?_zip_eq_some]
      exact ⟨hx, by simp [hi']⟩
    have := List.all_eq_true.mp h6 _ (List.mem_of_getElem? hz)
    have hc : scope.names.contains (x, NameKind.free) = true := by simpa using hf
    rw [hc] at this
    have e : x = X.N[i] := by simpa using this
    rw [e]
    simp [hi']
  · have := List.all_eq_true.mp h7 x hx
    simpa using this
end
theorem Same.upd {H H' : Hp} {p : Addr} {o : HO} (e : Same H H') (h : H' p = none) : Same H (upd H' p o) := fun b u q => by
  have q' := e b u q
  rw [upd_ne (ne_of_none q' h)]
  exact q'
theorem Same.tup {K : PySem.W.Frag} {H H' : Hp} {a : Addr} {xs : List V} (e : Same H H') (h : SqT K H a xs) : SqT K H' a xs := by
  rcases h with (h | ⟨o, h⟩) | h
  · exact .inl (.inl (e _ _ h))
  · exact .inl (.inr ⟨o, e _ _ h⟩)
  · exact .inr h
theorem sum_ones : ∀ {l : List Str}, (∀ y ∈ l, y.length = 1) → (l.map (·.length)).sum = l.length
  | [], _ => rfl
  | y :: l, h => by
    rw [List.map_cons, List.sum_cons, h y List.mem_cons_self, sum_ones fun z hz => h z (List.mem_cons_of_mem _ hz), List.length_cons]
    omega
noncomputable def spLaw (K : PySem.W.Frag) : Sp := fun vs H Q _ => ∃ (a : Addr) (ns : List Int), vs = [.ref a] ∧ SqL K H a (ns.map V.int) ∧ ns.length ≤ 63 ∧ ∀ H', Q (.bl true) H'
end _L2
set_option Elab.async false
set_option linter.all false
set_option maxRecDepth 100000
set_option maxHeartbeats 4000000
namespace _L2
open PySem PySem.Spec PyProof.Rows
section
variable {X : Cx}
structure Maker (P : Program) (w : World) (K : PySem.W.Frag) (mg : Str → Option Value) (base : Heap) (k : Nat) (x : Str) (C : Addr) (ps : List Str) (sp : Sp) : Prop where
  ex : ∃ (f : Addr) (fd : FuncData), Mk K C f ∧ FnOk P w K mg base CX0 k f fd ps sp ∧ mg x = some (.ref C) ∧ Binds K fd ps []
noncomputable def addS (σ : List Str) (v : Str) : List Str := if v ∈ σ then σ else σ ++ [v]
noncomputable def ddS (xs : List Str) : List Str := xs.foldl addS []
theorem addS_len (σ : List Str) (v : Str) : (addS σ v).length = if decide (v ∈ σ) = true then σ.length else σ.length + 1 := by
  unfold addS
  by_cases h : v ∈ σ <;> simp [h]
theorem addS_mem (σ : List Str) (v k : Str) : decide (k ∈ addS σ v) = (decide (k ∈ σ) || decide (k = v)) := by
  unfold addS
  by_cases h : v ∈ σ
  · rw [if_pos h, Bool.eq_iff_iff]
    simp only [Bool.or_eq_true, decide_eq_true_eq]
    exact ⟨.inl, fun z => z.elim id fun e => e ▸ h⟩
  · rw [if_neg h, Bool.eq_iff_iff]
    simp only [Bool.or_eq_true, decide_eq_true_eq, List.mem_append, List.mem_singleton]
theorem ddS_take (xs : List Str) (i : Nat) (v : Str) (h : xs[i]? = some v) : ddS (xs.take (i + 1)) = addS (ddS (xs.take i)) v := by
  unfold ddS
  rw [List.take_add_one, h, Option.toList_some, List.foldl_append]
  rfl
theorem addS_le (σ : List Str) (v : Str) : (addS σ v).length ≤ σ.length + 1 := by
  rw [addS_len]
  split <;> omega
theorem fold_le : ∀ (xs σ : List Str), (xs.foldl addS σ).length ≤ σ.length + xs.length
  | [], σ => Nat.le_refl _
  | x :: xs, σ => by
    have h1 := fold_le xs (addS σ x)
    have h2 := addS_le σ x
    rw [List.foldl_cons, List.length_cons]
    omega
theorem ddS_le (xs : List Str) : (ddS xs).length ≤ xs.length := by
  have := fold_le xs []
  simpa [ddS] using this
theorem fold_nodup : ∀ (xs σ : List Str), (σ ++ xs).Nodup → xs.foldl addS σ = σ ++ xs
  | [], σ, _ => by simp
  | x :: xs, σ, h => by
    have hx : x ∉ σ := fun hm => by
      rw [List.nodup_append] at h
      exact h.2.2 x hm x List.mem_cons_self rfl
    rw [List.foldl_cons]
    have e : addS σ x = σ ++ [x] := by
      unfold addS
      rw [if_neg hx]
    rw [e, fold_nodup xs (σ ++ [x]) (by simpa using h)]
    simp
theorem ddS_nodup {xs : List Str} (h : xs.Nodup) : (ddS xs).length = xs.length := by
  unfold ddS
  rw [fold_nodup xs [] (by simpa using h)]
  simp
theorem setOf_stays {P : Program} {W : World} {g g' : Heap} {D : Addr} {f : Str → Bool} {n : Nat} (h : g.SetOf (strKind P W) D f n) (k : ∀ o, g.get? D = some o → g'.get? D = some o) : g'.SetOf (strKind P W) D f n :=
  match h with
  | ⟨o, es, ep, tb, at_, r⟩ => ⟨o, es, ep, tb, k _ at_, r⟩
theorem set_loop {P : Program} {W : World} {B : Around} {R : Result → Shared → Prop} {src : Addr} {fp wr : List Addr} {zs : List Str} {Pv : Nat → Value → Prop} {Sx : Nat → Heap → Prop} (Wk : Walks P W B.in1 src fp wr zs.length Pv Sx) (D : Addr) (out : D ∉ fp) (texts : ∀ j v, Pv j v → ∃ z t, zs[j]? = some z ∧ v = .str z t) (few : zs.length + 1 < scanBound) (left : Nat) :
    ∀ (j : Nat) (t : Shared), zs.length - j = left → j ≤ zs.length → Sx j t.heap → t.heap.SetOf (strKind P W) D (fun z => decide (z ∈ ddS (zs.take j))) (ddS (zs.take j)).length →
      (∀ g tk, (∀ b o, b ≠ D → b ∉ wr → t.heap.get? b = some o → g.get? b = some o) → g.SetOf (strKind P W) D (fun z => decide (z ∈ ddS zs)) (ddS zs).length → R (.ok (.ret .none)) { t with heap := g, toks := tk }) →
      codeAny (model P W) B (.builtin "set.update.loop" ⟨[.ref D, .ref src], []⟩) R t := by
  have outw : D ∉ wr := fun z => out (Wk.sub _ z)
  induction left with
  | zero =>
    intro j t he hj here lies fin
    obtain rfl : j = zs.length := by omega
    rw [List.take_length] at lies
    refine codeAny_builtin PyProof.Rows.F.entry_set_update_loop ?_
    rw [Around.under_plainId PyProof.Rows.F.plain_set_update_loop _]
    refine (wpAny_bind (Wk.done t _ _ here fun g tk kp => ?_) : wpAny _ B.in1 (pyNext (.ref src) >>= _) _ _ t)
    show wpAny (model P W) B.in1 (ret Value.none) _ _ _
    exact wpAny_pure (fin g tk (fun b o _ nw e => kp b o nw e) (setOf_stays lies fun o e => kp D o outw e))
  | succ left ih =>
    intro j t he hj here lies fin
    refine codeAny_builtin PyProof.Rows.F.entry_set_update_loop ?_
    rw [Around.under_plainId PyProof.Rows.F.plain_set_update_loop _]
    refine (wpAny_bind (Wk.item j t _ _ (by omega) here fun v g1 tk1 hv here1 kp1 => ?_) : wpAny _ B.in1 (pyNext (.ref src) >>= _) _ _ t)
    obtain ⟨z, tz, hz, rfl⟩ := texts j v hv
    have size := ddS_le (zs.take j)
    rw [List.length_take] at size
    refine (wpAny_bind (wpAny_holding ?_) : wpAny _ B.in1 (holding [Value.str z tz] (setAdd D (.str z tz)) >>= _) _ _ _)
    unfold setAdd
    refine wpAny_holding (wpAny_bind ((strKind P W).pyHash (k := z) (strKind_is _ _ _ _) ?_))
    refine wpAny_setAddHashed_of (knd := strKind P W) (s := { t with heap := g1, toks := tk1 + 1 }) (strKind_is _ _ _ _) rfl (setOf_stays lies fun o e => kp1 D o outw e) (by omega) fun g2 only lies2 => ?_
    have lies3 : g2.SetOf (strKind P W) D (fun y => decide (y ∈ ddS (zs.take (j + 1)))) (ddS (zs.take (j + 1))).length := by
      rw [ddS_take zs j z hz, addS_len, show (fun y => decide (y ∈ addS (ddS (zs.take j)) z)) = fun y => decide (y ∈ ddS (zs.take j)) || decide (y = z) from funext fun y => addS_mem _ _ _]
      exact lies2
    exact wpAny_pure ⟨plainId_quiet PyProof.Rows.F.plain_set_update_loop _, ih (j + 1) _ (by omega) (by omega) (Wk.frame _ _ _ here1 fun b hb o e => (only.2 b fun q => out (q ▸ hb)).trans e) lies3 fun g tk kp lies4 => fin g tk (fun b o nd nw e => kp b o nd nw ((only.2 b nd).trans (kp1 b o nw e))) lies4⟩
noncomputable def SetN (P : Program) (w : World) (a : Addr) (n : Nat) : HO := .ext fun h => ∃ S, h.SetOf (strKind P w) a S n
theorem call_len_setN : CallR X (.builtin "len") (fun xs H Q => ∃ (p : Addr) (n : Nat), xs = [.ref p] ∧ H p = some (SetN X.prog X.w p n) ∧ n ≤ 1000 ∧ Q (.int n) H) := by
  intro pins s σ H xs us Q I r h
  obtain ⟨p, n, rfl, hp, hn, q⟩ := h
  obtain ⟨u, rfl, rx⟩ := vals1 r
  cases rx
  obtain ⟨⟨S, o, es, ep, t, ho, hex, hd, hel, hmem, hbd, hf, hz⟩, _, _⟩ := I.hok p _ hp
  exact call_len_set ho hex hd hf (by omega) ⟨.int n, H, I.tok _, ⟨_, by rw [hz]⟩, q⟩
end
end _L2
set_option Elab.async false
set_option linter.all false
set_option maxRecDepth 100000
set_option maxHeartbeats 4000000
namespace _L2
open PySem PySem.Spec PyProof.Rows
section
variable {X : Cx}
section
variable {prog : Program} {w : World} {A : Around} {R : Result → Shared → Prop} {I : Addr} {fp wr : List Addr}
end
end
end _L2
set_option Elab.async false
set_option linter.all false
set_option maxRecDepth 100000
set_option maxHeartbeats 4000000
namespace _L2
open PySem PySem.Spec PyProof.Rows
noncomputable def okVar (N : List Str) (sc : Scope) (i : Nat) (x : Str) : Bool :=
  N[i]? == some x && (sc.names.lookup x == some .local || sc.names.lookup x == some .cell || sc.names.lookup x == some .free) && !(x == ("__debug__" : Str)) && !(x == ("__classdict__" : Str))
noncomputable def okSet (N : List Str) (sc : Scope) (i : Nat) (x : Str) : Bool := N[i]? == some x && (sc.names.lookup x == some .local || sc.names.lookup x == some .cell)
noncomputable def okLoc (N : List Str) (sc : Scope) (i : Nat) (x : Str) : Bool := N[i]? == some x && sc.names.lookup x == some .local
noncomputable def okGl (sc : Scope) (x : Str) : Bool := sc.names.lookup x == some .globalImplicit && !(x == ("__debug__" : Str)) && !(x == ("__name__" : Str))
noncomputable def notStar : Expr → Bool
  | .Starred .. => false
  | _ => true
theorem star_cons {e : Expr} {es : List Expr} {env : Env} (h : notStar e = true) : starEach (e :: es) env = (false, eval e env) :: starEach es env := by
  cases e <;> first | rfl | cases h
noncomputable def notComp : Expr → Bool
  | .ListComp .. => false
  | .SetComp .. => false
  | .DictComp .. => false
  | _ => true
theorem notComp_ok {e : Expr} {t : Option Expr} {l : Nat} {env : Env} (h : notComp e = true) : swapsWith e t l env = pure false := by
  cases e <;> first | rfl | cases h
section
variable {X : Cx}
theorem pvk (i : Nat) {x : Str} {pos : Pos} (h : okVar X.N X.env.scope i x = true) : PE X (.Name x pos) (tVar i) := by
  unfold okVar at h
  simp only [Bool.and_eq_true, Bool.or_eq_true, beq_iff_eq, Bool.not_eq_true'] at h
  obtain ⟨⟨⟨h1, h2⟩, h3⟩, h4⟩ := h
  refine pe_var h1 ?_ h3 h4
  rcases h2 with (h2 | h2) | h2
  · exact .inl h2
  · exact .inr (.inl h2)
  · exact .inr (.inr h2)
theorem okSet_get {i : Nat} {x : Str} (h : okSet X.N X.env.scope i x = true) : X.N[i]? = some x ∧ Loc X.env.scope x := by
  unfold okSet at h
  simp only [Bool.and_eq_true, Bool.or_eq_true, beq_iff_eq] at h
  exact h
theorem okLoc_get {i : Nat} {x : Str} (h : okLoc X.N X.env.scope i x = true) : X.N[i]? = some x ∧ X.env.scope.names.lookup x = some .local := by
  unfold okLoc at h
  simp only [Bool.and_eq_true, beq_iff_eq] at h
  exact h
theorem okGl_get {x : Str} (h : okGl X.env.scope x = true) : Gl X x ∧ (x == ("__debug__" : Str)) = false ∧ x ≠ "__name__" := by
  unfold okGl at h
  simp only [Bool.and_eq_true, beq_iff_eq, Bool.not_eq_true'] at h
  obtain ⟨⟨h1, h2⟩, h3⟩ := h
  exact ⟨h1, h2, fun z => by rw [z] at h3; simp at h3⟩
theorem psk_set {i : Nat} {x : Str} {e : Expr} {te : TE} {pos pos' : Pos} (hN : X.N.Nodup) (h : okSet X.N X.env.scope i x = true) (he : PE X e te) (hs : notComp e = true := by rfl) (hf : X.fn x = true := by rfl) :
    PS X (.Assign [.Name x pos'] e pos) (tAsg te (gName i)) := ps_set hN (okSet_get h).1 (okSet_get h).2 he (notComp_ok hs) (.inl hf)
theorem pgk_name {i : Nat} {x : Str} {pos : Pos} (hN : X.N.Nodup) (h : okSet X.N X.env.scope i x = true) (hf : X.fn x = true := by rfl) : PG X (.Name x pos) (gName i) := pg_name hN (okSet_get h).1 (okSet_get h).2 (.inl hf)
theorem pgk_own {i : Nat} {x : Str} {pos : Pos} (hN : X.N.Nodup) (h : okLoc X.N X.env.scope i x = true) : PG X (.Name x pos) (gName i) := pg_name hN (okLoc_get h).1 (.inl (okLoc_get h).2) (.inr (okLoc_get h).2)
theorem pac {e : Expr} {es : List Expr} {te : TE} {t : TA} (ha : PE X e te) (hr : PA X es t) (h : notStar e = true := by rfl) : PA X (e :: es) (tCons te t) := pa_cons ha hr (star_cons h)
noncomputable def noStars (es : List Expr) : Bool := es.all notStar
theorem stars_plain : ∀ {es : List Expr} {env : Env} {pos : Pos}, noStars es = true → (backTo pos (starEach es env)).any (·.1) = false
  | [], _, _, _ => rfl
  | e :: es, env, pos, h => by
    unfold noStars at h
    simp only [List.all_cons, Bool.and_eq_true] at h
    rw [star_cons h.1]
    show (false || (backTo pos (starEach es env)).any (·.1)) = false
    rw [Bool.false_or]
    exact stars_plain h.2
theorem pek_fn {k j : Nat} {x : Str} {ps : List Str} {sp : Sp} {e : Expr} {es : List Expr} {t : TA} {p pos : Pos} (c : Callee X.prog X.w X.K X.mg X.base k x ps sp) (hr : Room j X.A) (hg : okGl X.env.scope x = true) (ha : PA X (e :: es) t) (hk : k ≤ j := by decide) (hst : noStars (e :: es) = true := by rfl) :
    PE X (.Call (.Name x p) (e :: es) [] pos) (tCall sp [] E0 t) := by
  have h1 := hst
  unfold noStars at h1
  simp only [List.all_cons, Bool.and_eq_true] at h1
  exact pe_fn c hr (okGl_get hg).1 ha hk (okGl_get hg).2.1 (star_cons h1.1) (stars_plain h1.2)
theorem pek_callB {x : Str} {id : String} {r : List V → Hp → VK → Prop} {e : Expr} {es : List Expr} {t : TA} {p pos : Pos} (hc : CallR X (.builtin id) r) (hg : okGl X.env.scope x = true) (hm : X.mg x = none) (hv : bootBuiltins x = some (.builtin id)) (ha : PA X (e :: es) t) (hst : noStars (e :: es) = true := by rfl) :
    PE X (.Call (.Name x p) (e :: es) [] pos) (tCB r t) := by
  have h1 := hst
  unfold noStars at h1
  simp only [List.all_cons, Bool.and_eq_true] at h1
  exact pe_callB hc (okGl_get hg).1 hm hv ha (okGl_get hg).2.2 (okGl_get hg).2.1 (star_cons h1.1) (stars_plain h1.2)
theorem pek_callTy {x : Str} {T : String} {r : List V → Hp → VK → Prop} {e : Expr} {es : List Expr} {t : TA} {p pos : Pos} (hc : CallR X (.type T) r) (hg : okGl X.env.scope x = true) (hm : X.mg x = none) (hv : bootBuiltins x = some (.type T)) (ha : PA X (e :: es) t) (hst : noStars (e :: es) = true := by rfl) :
    PE X (.Call (.Name x p) (e :: es) [] pos) (tCB r t) := by
  have h1 := hst
  unfold noStars at h1
  simp only [List.all_cons, Bool.and_eq_true] at h1
  exact pe_callTy hc (okGl_get hg).1 hm hv ha (okGl_get hg).2.2 (okGl_get hg).2.1 (star_cons h1.1) (stars_plain h1.2)
theorem pek_glob {x : Str} {v : V} {u : Value} {pos : Pos} (hg : okGl X.env.scope x = true) (hm : X.mg x = some u) (r : RelV v u) : PE X (.Name x pos) (tC v) := pe_glob (okGl_get hg).1 hm r (okGl_get hg).2.1
theorem pek_bltn {x : Str} {v : V} {u : Value} {pos : Pos} (hg : okGl X.env.scope x = true) (hm : X.mg x = none) (hv : bootBuiltins x = some u) (r : RelV v u) : PE X (.Name x pos) (tC v) := pe_bltn (okGl_get hg).1 hm hv r (okGl_get hg).2.2 (okGl_get hg).2.1
theorem pik_range1 {tg : Expr} {a : Expr} {ta : TA} {p pos : Pos} (hg : okGl X.env.scope "range" = true) (hm : X.mg "range" = none) (ha : PA X [a] ta) (hs : notStar a = true := by rfl) : PI X tg (.Call (.Name "range" p) [a] [] pos) (iRng1 ta) := pi_range1 (okGl_get hg).1 hm ha (star_cons hs)
end
noncomputable def relabelS (scope sc : Scope) : Scope :=
  { scope with names := scope.names.map fun (n, k) => if (k == .free && sc.kind == .function && sc.names.lookup n == some .cell) then (n, .cell) else (n, k) }
theorem relabel_S (scope : Scope) (env : Env) : relabel scope env = relabelS scope env.scope := rfl
noncomputable def csB' (N : List Str) (sc : Scope) (own N' : List Str) (scope : Scope) : Bool :=
  scope.kind == .function && scope.names.all (fun y => y.2 != .cell) && scope.names.all (fun y => y.2 != .local || scope.names.lookup y.1 == some .local) &&
  scope.names.all (fun y => y.2 != .free || sc.names.lookup y.1 == some .cell || sc.names.lookup y.1 == some .free) && N'.length == own.length + N.length &&
  ((N'.drop own.length).zip N).all (fun p => p.1 == p.2 || !(scope.names.contains (p.1, NameKind.free))) && (N'.drop own.length).all (fun x => (relabelS scope sc).names.lookup x != some .local)
theorem csk {X : Cx} {own N' : List Str} {scope : Scope} (h : csB' X.N X.env.scope own N' scope = true) : CompScope X own N' scope := cs h
end _L2
set_option Elab.async false
set_option linter.all false
set_option maxRecDepth 100000
set_option maxHeartbeats 4000000
namespace _L2
open PySem PySem.Spec PyProof.Rows
structure QE (X : Cx) (e : Expr) (t : TE) : Prop where
  h : PE X e t
structure QT (X : Cx) (e : Expr) (t : TT) : Prop where
  h : PT X e t
structure QW (X : Cx) (e : Expr) (t : TT) : Prop where
  h : PW X e t
structure QA (X : Cx) (es : List Expr) (t : TA) : Prop where
  h : PA X es t
structure QS (X : Cx) (st : Stmt) (t : TS) : Prop where
  h : PS X st t
structure QSs (X : Cx) (st : List Stmt) (t : TS) : Prop where
  h : PSs X st t
structure QG (X : Cx) (tg : Expr) (t : TG) : Prop where
  h : PG X tg t
structure QGs (X : Cx) (ts : List Expr) (t : TGs) : Prop where
  h : PGs X ts t
structure QI (X : Cx) (tg iter : Expr) (wi : TI) : Prop where
  h : PI X tg iter wi
structure QO (X : Cx) (e : Option Expr) (t : TO) : Prop where
  h : PO X e t
structure QTs (X : Cx) (es : List Expr) (t : TT) : Prop where
  h : PTs X es t
noncomputable abbrev nNil : TA := fun _ H Q => Q [] H
noncomputable abbrev nCons (ta : TE) (tr : TA) : TA := fun σ H Q => ta σ H fun x H1 => tr σ H1 fun xs H2 => Q (x :: xs) H2
noncomputable abbrev nC (v : V) : TE := fun _ H Q => Q v H
noncomputable abbrev nCB (r : List V → Hp → VK → Prop) (t : TA) : TE := fun σ H Q => t σ H fun vs H1 => r vs H1 Q
noncomputable def truthE : Expr → Bool
  | .UnaryOp .Not .. => false
  | .BoolOp .. => false
  | .IfExp .. => false
  | .Compare .. => false
  | _ => true
theorem truth_ok {a : Expr} {env : Env} (h : truthE a = true) : ∀ whole, isTrue a env whole = (do let v ← whole; standAt a.pos; holding [v] (truthy v)) := by
  intro whole
  cases a with
  | UnaryOp op x p => cases op <;> first | rfl | cases h
  | _ => first | rfl | cases h
noncomputable def notSet : Expr → Bool
  | .Set .. => false
  | _ => true
theorem notSet_ok {e : Expr} {env : Env} (h : notSet e = true) : ∀ x, foldedSetIterable e env x = pure x := by
  intro x
  cases e <;> first | rfl | cases h
noncomputable def plainBase : Expr → Bool
  | .Call .. => false
  | _ => true
theorem base_ok {e : Expr} {f : Str} {env : Env} (h : plainBase e = true) : attributeBase e f env (eval e env) = eval e env := by
  cases e <;> first | rfl | cases h
theorem asg_cons {e : Expr} {es : List Expr} {env : Env} (h : notStar e = true) : assignEach (e :: es) env = (false, assign e env) :: assignEach es env := by
  cases e <;> first | rfl | cases h
theorem asg_len : ∀ {es : List Expr} {env : Env}, noStars es = true → (assignEach es env).length = es.length ∧ (assignEach es env).findIdx? (·.1) = none
  | [], _, _ => ⟨rfl, rfl⟩
  | e :: es, env, h => by
    unfold noStars at h
    simp only [List.all_cons, Bool.and_eq_true] at h
    obtain ⟨h1, h2⟩ := asg_len (es := es) (env := env) h.2
    rw [asg_cons h.1, List.length_cons, List.length_cons, h1]
    exact ⟨rfl, by rw [List.findIdx?_cons]; simp [h2]⟩
theorem few_ok {e : Expr} {es : List Expr} {env : Env} {cpos : Pos} (h : noStars (e :: es) = true) (hl : es.length < 28) : ((backTo cpos (starEach (e :: es) env)).all (fun x => !x.1) && (backToKw cpos (keywordEach [] env)).all (fun x => x.1.isSome)
      && decide ((e :: es).length + ([] : List Keyword).length + (if ([] : List Keyword).isEmpty then 0 else 1) < 30)) = true := by
  have h1 := stars_plain (env := env) (pos := cpos) h
  have h2 : (backTo cpos (starEach (e :: es) env)).all (fun x => !x.1) = true := by
    rw [List.all_eq_true]
    intro x hx
    rw [List.any_eq_false] at h1
    have := h1 x hx
    simpa using this
  rw [h2]
  have h3 : (backToKw cpos (keywordEach [] env)).all (fun x => x.1.isSome) = true := rfl
  rw [h3]
  simp
  omega
section
variable {X : Cx} {a b c e : Expr} {es : List Expr} {ta tb tc te : TE} {tA tB : TT} {t : TA} {pos p : Pos}
theorem qe_int {i : Int} {j : Nat} : QE X (.Constant (.int i) j pos) (nC (.int i)) := ⟨pe_int⟩
theorem qe_bl {b : Bool} {j : Nat} : QE X (.Constant (.bool b) j pos) (nC (.bl b)) := ⟨pe_bl⟩
theorem qe_non {j : Nat} : QE X (.Constant .none j pos) (nC .non) := ⟨pe_non⟩
theorem qe_str {x : Str} {j : Nat} : QE X (.Constant (.str x) j pos) (nC (.str x)) := ⟨pe_str⟩
theorem qe_bltn {x : Str} {v : V} {u : Value} (hg : okGl X.env.scope x = true) (hm : X.mg x = none) (hv : bootBuiltins x = some u) (r : RelV v u) : QE X (.Name x pos) (nC v) := ⟨pek_bltn hg hm hv r⟩
theorem qe_cmp {op : CmpOp} {r : R2} (ho : OpR X (compareOp op) r) (ha : QE X a ta) (hb : QE X b tb) (hm : behindInMarks op b = false := by first | exact nomark _ | with_unfolding_all rfl) : QE X (.Compare a [op] [b] pos) (tOp r ta tb) := ⟨pe_cmpR ho ha.h hb.h hm⟩
theorem qt_cmp {op : CmpOp} {r : R2} (ho : OpR X (compareOp op) r) (ha : QE X a ta) (hb : QE X b tb) (hm : behindInMarks op b = false := by first | exact nomark _ | with_unfolding_all rfl) : QT X (.Compare a [op] [b] pos) (tTest (tOp r ta tb)) := ⟨pt_cmpR ho ha.h hb.h hm⟩
theorem qe_chain {op op' : CmpOp} {r r' : R2} (ho : OpR X (compareOp op) r) (ho' : OpR X (compareOp op') r') (ha : QE X a ta) (hb : QE X b tb) (hc : QE X c tc) (hm : lastMarks [op, op'] [b, c] = false := by with_unfolding_all rfl) : QE X (.Compare a [op, op'] [b, c] pos) (tChain r r' ta tb tc) := ⟨pe_chain ho ho' ha.h hb.h hc.h hm⟩
theorem qt_chain {op op' : CmpOp} {r r' : R2} (ho : OpR X (compareOp op) r) (ho' : OpR X (compareOp op') r') (ha : QE X a ta) (hb : QE X b tb) (hc : QE X c tc) (hm : lastMarks [op, op'] [b, c] = false := by with_unfolding_all rfl) : QT X (.Compare a [op, op'] [b, c] pos) (tTest (tChain r r' ta tb tc)) := ⟨pt_chain ho ho' ha.h hb.h hc.h hm⟩
theorem qe_one {op : BoolOp} (h : QE X a ta) : QE X (.BoolOp op [a] pos) ta := ⟨pe_one h.h⟩
theorem qe_and {rest : List Expr} (ha : QE X a ta) (hb : QE X (.BoolOp .And (b :: rest) pos) tb) : QE X (.BoolOp .And (a :: b :: rest) pos) (tAndV ta tb) := ⟨pe_and ha.h hb.h⟩
theorem qe_or {rest : List Expr} (ha : QE X a ta) (hb : QE X (.BoolOp .Or (b :: rest) pos) tb) : QE X (.BoolOp .Or (a :: b :: rest) pos) (tOrV ta tb) := ⟨pe_or ha.h hb.h⟩
theorem qe_not (ha : QE X a ta) : QE X (.UnaryOp .Not a pos) (tNotV ta) := ⟨pe_not ha.h⟩
theorem qw_and1 (ha : QT X a tA) : QW X (.BoolOp .And [a] pos) tA := ⟨pw_and1 ha.h⟩
theorem qw_or1 (ha : QT X a tA) : QW X (.BoolOp .Or [a] pos) tA := ⟨pw_or1 ha.h⟩
theorem qw_and {rest : List Expr} (ha : QT X a tA) (hb : QW X (.BoolOp .And (b :: rest) pos) tB) : QW X (.BoolOp .And (a :: b :: rest) pos) (tAnd tA tB) := ⟨pw_and ha.h hb.h⟩
theorem qw_or {rest : List Expr} (ha : QT X a tA) (hb : QW X (.BoolOp .Or (b :: rest) pos) tB) : QW X (.BoolOp .Or (a :: b :: rest) pos) (tOr tA tB) := ⟨pw_or ha.h hb.h⟩
theorem qt_not (ha : QT X a tA) : QT X (.UnaryOp .Not a pos) (tNot tA) := ⟨pt_not ha.h⟩
theorem qt_val (ha : QE X a ta) (h : truthE a = true := by rfl) : QT X a (fun σ H Q => ta σ H fun x H' => ∃ k, TruV X.K x H' k ∧ Q k H') := ⟨pt_truth ha.h (truth_ok h)⟩
theorem qe_ifExp (hc : QT X c tA) (ha : QE X a ta) (hb : QE X b tb) : QE X (.IfExp c a b pos) (tIf tA ta tb) := ⟨pe_ifExp hc.h ha.h hb.h⟩
theorem qa_nil : QA X [] nNil := ⟨pa_nil⟩
theorem qa_cons (ha : QE X e te) (hr : QA X es t) (h : notStar e = true := by rfl) : QA X (e :: es) (nCons te t) := ⟨pac ha.h hr.h h⟩
theorem qe_callB {x : Str} {id : String} {r : List V → Hp → VK → Prop} (hc : CallR X (.builtin id) r) (hg : okGl X.env.scope x = true) (hm : X.mg x = none) (hv : bootBuiltins x = some (.builtin id)) (ha : QA X (e :: es) t) (hst : noStars (e :: es) = true := by rfl) : QE X (.Call (.Name x p) (e :: es) [] pos) (nCB r t) := ⟨pek_callB hc hg hm hv ha.h hst⟩
theorem qe_callTy {x : Str} {T : String} {r : List V → Hp → VK → Prop} (hc : CallR X (.type T) r) (hg : okGl X.env.scope x = true) (hm : X.mg x = none) (hv : bootBuiltins x = some (.type T)) (ha : QA X (e :: es) t) (hst : noStars (e :: es) = true := by rfl) : QE X (.Call (.Name x p) (e :: es) [] pos) (nCB r t) := ⟨pek_callTy hc hg hm hv ha.h hst⟩
theorem qe_bm {o : Expr} {to : TE} {name : Str} {apos cpos : Pos} {T id : String} {r : V → List V → Hp → VK → Prop} (pa : PlainAttrs T) (slot : Slot T name id) (hty : typeOf (.builtin id) = pure (.type "method_descriptor")) (hm : MtR X id r) (ho : QE X o to) (ha : QA X (e :: es) t)
    (hb : plainBase o = true := by rfl) (hst : noStars (e :: es) = true := by rfl) (hl : es.length < 28 := by decide) (hline : (apos.endLine == cpos.line) = true := by rfl) : QE X (.Call (.Attribute o name apos) (e :: es) [] cpos) (tBM X.K T r to t) := by
  have h1 := hst
  unfold noStars at h1
  simp only [List.all_cons, Bool.and_eq_true] at h1
  exact ⟨pe_bm pa slot hty hm ho.h ha.h (base_ok hb) (few_ok hst hl) hline (star_cons h1.1) (stars_plain h1.2)⟩
end
section
variable {P : Program} {w : World} {K : PySem.W.Frag} {mg : Str → Option Value} {base : Heap}
theorem Fun.okQ {x qual : Str} {st : Stmt} {f : Addr} {fd : FuncData} {N ps : List Str} {k : Nat} {sp : Sp} (F : Fun K x qual st f fd) (S : FnScope N ps (defScope st)) (len : ∀ vs H Q E, sp vs H Q E → vs.length = ps.length)
    (hbody : ∀ (cdv : Value) (A : Around) (outer : List Env) (s : Shared) (H : Hp) (vs : List V) (Q : VK) (E : XK), Room k (A.deeper (envOfC qual (defScope st) s.heap.objs.size f cdv)) → sp vs H Q E →
      ∃ t, QSs (cxOf CX0 P w K mg base N qual (defScope st) f cdv A outer s H E).nox (defBody st) t ∧ t { nx := fun _ H' => Q .non H', rt := Q } (_L2.start N vs) H) : FnOk P w K mg base CX0 (k + 1) f fd ps sp :=
  F.ok S len fun cdv A outer s H vs Q E hr h => let ⟨t, ht, q⟩ := hbody cdv A outer s H vs Q E hr h; ⟨t, ht.h, q⟩
end
end _L2
set_option Elab.async false
set_option linter.all false
set_option maxRecDepth 100000
set_option maxHeartbeats 4000000
namespace _L2
open PySem PySem.Spec PyProof.Rows
noncomputable def Trk (H : Hp) (a : Addr) (xs : List V) : Prop := H a = some (.lst xs) ∨ H a = some (.tup xs)
theorem Trk.same {H H' : Hp} {a : Addr} {xs : List V} (e : Same H H') (h : Trk H a xs) : Trk H' a xs := h.elim (fun h => .inl (e _ _ h)) fun h => .inr (e _ _ h)
theorem Trk.ty {K : PySem.W.Frag} {H : Hp} {a : Addr} {xs : List V} (h : Trk H a xs) : TyOf K H (.ref a) (.type "list") ∨ TyOf K H (.ref a) (.type "tuple") := h.elim (fun h => .inl (.lst h)) fun h => .inr (.tup h)
section
variable {X : Cx}
end
noncomputable def Lop (J : It) (g : TG) (tb : TS) (D : Ends) (σ : _L2.St) (H : Hp) : Prop := ∃ W : Nat → Nat → _L2.St → Hp → Prop, (∃ m, W 0 m σ H) ∧ ∀ i m σ H, W i m σ H →
      (J.stop i H ∧ D.nx σ H) ∨ (J.go i H ∧ ∃ N : _L2.St → Hp → Prop, (∀ σ' H', N σ' H' → ∃ m', m' < m ∧ W (i + 1) m' σ' H') ∧ ∀ x H', J.yld i H x H' → g x σ H' fun σ2 H2 => tb { D with nx := N, ct := N, bk := D.nx } σ2 H2)
noncomputable def RowP {α : Type} (f : α → List V) (H : Hp) (v : V) (x : α) : Prop := ∃ p, v = .ref p ∧ H p = some (.tup (f x))
noncomputable def RowsAt {α : Type} (f : α → List V) (H : Hp) (v : V) (xs : List α) : Prop := ∃ a vs, v = .ref a ∧ Trk H a vs ∧ Paired (RowP f H) vs xs
theorem RowP.same {α : Type} {f : α → List V} {H H' : Hp} {v : V} {x : α} (e : Same H H') (h : RowP f H v x) : RowP f H' v x := let ⟨p, a, b⟩ := h; ⟨p, a, e _ _ b⟩
theorem paired_same {α : Type} {f : α → List V} {H H' : Hp} (e : Same H H') : ∀ {vs : List V} {xs : List α}, Paired (RowP f H) vs xs → Paired (RowP f H') vs xs
  | _, _, .nil => .nil
  | _, _, .cons r t => .cons (r.same e) (paired_same e t)
theorem RowsAt.same {α : Type} {f : α → List V} {H H' : Hp} {v : V} {xs : List α} (e : Same H H') (h : RowsAt f H v xs) : RowsAt f H' v xs := let ⟨a, vs, h1, h2, h3⟩ := h; ⟨a, vs, h1, h2.same e, paired_same e h3⟩
theorem take_snoc {α : Type} {xs : List α} {i : Nat} {x : α} (h : xs[i]? = some x) : xs.take (i + 1) = xs.take i ++ [x] := by
  rw [List.take_add_one, h]
  rfl
section
variable {X : Cx} {K : PySem.W.Frag} {a b e : Expr} {es : List Expr} {ta tb te : TE} {t : TA} {pos p : Pos}
end
end _L2
set_option Elab.async false
set_option linter.all false
set_option maxRecDepth 100000
set_option maxHeartbeats 4000000
namespace _L2
open PySem PySem.Spec PyProof.Rows
noncomputable def EqS (H : Hp) : Nat → V → V → Prop
  | 0, x, y => x = y ∧ (flatV x = true ∨ ∃ p, x = .ref p)
  | n + 1, x, y => (x = y ∧ (flatV x = true ∨ ∃ p, x = .ref p)) ∨ ∃ a b xs ys, x = .ref a ∧ y = .ref b ∧ ((H a = some (.tup xs) ∧ H b = some (.tup ys)) ∨ (H a = some (.lst xs) ∧ H b = some (.lst ys))) ∧ Paired (EqS H n) xs ys
theorem EqS.ref {H : Hp} {n : Nat} {p : Addr} : EqS H n (.ref p) (.ref p) := by
  cases n with
  | zero => exact ⟨rfl, .inr ⟨p, rfl⟩⟩
  | succ n => exact .inl ⟨rfl, .inr ⟨p, rfl⟩⟩
theorem EqS.flat {H : Hp} {n : Nat} {x : V} (h : flatV x = true) : EqS H n x x := by
  cases n with
  | zero => exact ⟨rfl, .inl h⟩
  | succ n => exact .inl ⟨rfl, .inl h⟩
theorem eqV_refl {x : V} (h : flatV x = true) : eqV x x = true := by
  cases x with
  | non => rfl
  | bl b => simp [eqV]
  | int i => simp [eqV]
  | str z => simp [eqV]
  | _ => exact absurd (show false = true from h) Bool.false_ne_true
section
variable {X : Cx} {pins : List (Addr × Obj)} {σ : _L2.St} {H : Hp} {s : Shared}
end
section
variable {X : Cx}
end
end _L2
set_option Elab.async false
set_option linter.all false
set_option maxRecDepth 100000
set_option maxHeartbeats 4000000
namespace _L2
open PySem PySem.Spec PyProof.Rows
section
variable {X : Cx}
end
theorem paired_but {α : Type} {f : α → List V} {G G' : Hp} (ht : ∀ p xs, G p = some (.tup xs) → G' p = some (.tup xs)) : ∀ {us : List V} {xs : List α}, Paired (RowP f G) us xs → Paired (RowP f G') us xs
  | _, _, .nil => .nil
  | _, _, .cons ⟨p, e, hp⟩ t => .cons ⟨p, e, ht _ _ hp⟩ (paired_but ht t)
theorem paired_app {α β : Type} {F : α → β → Prop} : ∀ {us ws : List α} {xs ys : List β}, Paired F us xs → Paired F ws ys → Paired F (us ++ ws) (xs ++ ys)
  | _, _, _, _, .nil, h => h
  | _, _, _, _, .cons r t, h => .cons r (paired_app t h)
noncomputable def Lst {α : Type} (f : α → List V) (H : Hp) (a : Addr) (xs : List α) : Prop := ∃ us, H a = some (.lst us) ∧ Paired (RowP f H) us xs
theorem Lst.same {α : Type} {f : α → List V} {H H' : Hp} {a : Addr} {xs : List α} (e : Same H H') (h : Lst f H a xs) : Lst f H' a xs := let ⟨us, h1, h2⟩ := h; ⟨us, e _ _ h1, paired_same e h2⟩
theorem tup_stay {H : Hp} {l : Addr} {zs : List V} {o : HO} (hl : H l = some (.lst zs)) : ∀ p xs, H p = some (.tup xs) → upd H l o p = some (.tup xs) := fun p xs hp => by
  have : p ≠ l := fun e => by rw [e, hl] at hp; cases hp
  rw [upd_ne this]
  exact hp
theorem Lst.more {α : Type} {f : α → List V} {H : Hp} {a : Addr} {us ws : List V} {xs ys : List α} (h : H a = some (.lst us)) (h1 : Paired (RowP f H) us xs) (h2 : Paired (RowP f H) ws ys) : Lst f (upd H a (.lst (us ++ ws))) a (xs ++ ys) :=
  ⟨_, upd_same, paired_app (paired_but (tup_stay h) h1) (paired_but (tup_stay h) h2)⟩
theorem Same.over {H G : Hp} {a : Addr} {o : HO} (e : Same H G) (ha : H a = none) : Same H (_L2.upd G a o) := fun b u q => by
  rw [upd_ne (ne_of_none q ha)]
  exact e b u q
end _L2
set_option Elab.async false
set_option linter.all false
set_option maxRecDepth 100000
set_option maxHeartbeats 4000000
namespace _L2
open PySem PySem.Spec PyProof.Rows
section
variable {X : Cx}
theorem bt_zip : bootBuiltins "zip" = some (.type "zip") := by decide +kernel
end
end _L2
set_option Elab.async false
set_option linter.all false
set_option maxRecDepth 100000
set_option maxHeartbeats 4000000
namespace _L2
open PySem PySem.Spec PyProof.Rows
noncomputable def CmpV (x y : V) : Prop := (∃ i j, x = .int i ∧ y = .int j) ∨ ∃ i j, x = .str i ∧ y = .str j
theorem CmpV.flat {x y : V} (h : CmpV x y) : flatV x = true ∧ flatV y = true := by
  rcases h with ⟨i, j, rfl, rfl⟩ | ⟨i, j, rfl, rfl⟩ <;> exact ⟨rfl, rfl⟩
section
variable {X : Cx}
end
end _L2
set_option Elab.async false
set_option linter.all false
set_option maxRecDepth 100000
set_option maxHeartbeats 4000000
namespace _L2
open PySem PySem.Spec PyProof.Rows
noncomputable def sAt (b : Bool) (h : Heap) (l : Addr) (xs : Array Value) : Prop := match b with | false => h.IsList l xs | true => h.IsTuple l xs
noncomputable def iAt (b : Bool) (h : Heap) (it l : Addr) (i : Nat) : Prop := match b with | false => h.IsListIter it l i | true => h.IsTupleIter it l i
noncomputable def newIt (b : Bool) (l : Addr) : Obj := { cls := .type (match b with | false => "list_iterator" | true => "tuple_iterator"), data := .fields #[.ref l, .int 0 0] }
theorem newIt_at {b : Bool} {l : Addr} {h : Heap} {it : Addr} (g : h.get? it = some (newIt b l)) : iAt b h it l 0 := by
  cases b <;> exact ⟨_, g, rfl, rfl⟩
theorem iAt.keep {b : Bool} {h h' : Heap} {it l : Addr} {i : Nat} (x : iAt b h it l i) (k : ∀ o, h.get? it = some o → h'.get? it = some o) : iAt b h' it l i := by
  cases b
  · exact Heap.IsListIter.at x k
  · exact Heap.IsTupleIter.at x k
theorem iAt.obj {b : Bool} {h : Heap} {it l : Addr} {i : Nat} (x : iAt b h it l i) : ∃ o, h.get? it = some o ∧ ∀ v, o.data ≠ .cell v := by
  cases b <;> (obtain ⟨o, g, _, d⟩ := x; exact ⟨o, g, fun v z => by rw [d] at z; cases z⟩)
theorem sAt.keep {b : Bool} {h h' : Heap} {l : Addr} {xs : Array Value} (x : sAt b h l xs) (k : ∀ o, h.get? l = some o → h'.get? l = some o) : sAt b h' l xs := by
  cases b <;> (obtain ⟨o, g, r⟩ := x; exact ⟨o, k o g, r⟩)
theorem sAt.obj {b : Bool} {h : Heap} {l : Addr} {xs : Array Value} (x : sAt b h l xs) : ∃ o, h.get? l = some o := by
  cases b <;> (obtain ⟨o, g, _⟩ := x; exact ⟨o, g⟩)
section
variable {prog : Program} {w : World} {A : Around} {E : Value → Shared → Prop} {s : Shared} {it l : Addr} {i : Nat} {items : Array Value} {b : Bool}
theorem set_at' {M : Model} {o : Obj} {fs : Array Value} {k : Nat} {v : Value} {Q : Unit → Shared → Prop} (ho : s.heap.get? it = some o) (hd : o.data = .fields fs)
    (q : Q () { s with heap := s.heap.update it (Obj.mapFields (·.setIfInBounds k v)) }) (hj : k < fs.size) : wpAny M A (setField (.ref it) k v) Q E s := wpAny_setField ho hd hj q
theorem next_ti {h : Heap} {ob : Obj} (gi : h.get? it = some ob) (ci : ob.cls = .type "tuple_iterator") (di : ob.data = .fields #[.ref l, .int (i : Int) 0]) :
    (h.update it (Obj.mapFields (·.setIfInBounds 1 (rawInt ((i : Int) + 1))))).IsTupleIter it l (i + 1) := by
  have dn := Obj.data_mapFields di (·.setIfInBounds 1 (rawInt ((i : Int) + 1)))
  refine ⟨_, Heap.get?_update_self (Obj.mapFields (·.setIfInBounds 1 (rawInt ((i : Int) + 1)))) gi (Obj.isFreed_of_fields dn), ?_, ?_⟩
  · rw [Obj.cls_mapFields, ci]
  · rw [dn]
    simp [rawInt]
theorem nx_tuple {Q : Value → Shared → Prop} {x : Value} (hit : s.heap.IsTupleIter it l i) (hl : s.heap.IsTuple l items) (hx : items[i]? = some x)
    (q : ∀ h', h'.IsTupleIter it l (i + 1) → Heap.SameBut it s.heap h' → Q x { s with heap := h' }) : wpAny (model prog w) A (Builtin.SmallTypes.nextOf (.ref it)) Q E s := by
  have ty : s.TypeIs (.ref it) "tuple_iterator" := let ⟨o, g, c, _⟩ := hit; ⟨o, g, c⟩
  obtain ⟨ob, gi, ci, di⟩ := id hit
  obtain ⟨ol, gl, _, nl, dl⟩ := hl
  have after := next_ti (i := i) gi ci di
  unfold Builtin.SmallTypes.nextOf
  refine wpAny_bind (wpAny_callSpecial?_slot (name := Str.ofString "__next__") ty F.slot_tuple_iterator_next (wpAny_call_entry F.slot_tuple_iterator_next ty F.entry_tuple_iterator_next ?_ (F.args_tuple_iterator_next_1 _)))
  wp_walk using wpAny_field gi di (x := .ref l) rfl, wpAny_field gi di (x := .int (i : Int) 0) rfl, wpAny_seqItems gl dl
  rw [Int.toNat_natCast, hx]
  dsimp only
  wp_walk using set_at' gi di
  · exact ⟨_, rfl, wpAny_pure (q _ after (Heap.SameBut.update ..))⟩
  · show 1 < 2; decide
theorem nx_tuple_end {Q : Value → Shared → Prop} (hh : A.handled = none) (hit : s.heap.IsTupleIter it l i) (hl : s.heap.IsTuple l items) (hx : items[i]? = none)
    (q : ∀ h' x, Heap.ExtBut it s.heap h' → (∃ o, h'.get? x = some o ∧ o.cls = .type "StopIteration") → E (.ref x) { s with heap := h' }) : wpAny (model prog w) A (Builtin.SmallTypes.nextOf (.ref it)) Q E s := by
  have ty : s.TypeIs (.ref it) "tuple_iterator" := let ⟨o, g, c, _⟩ := hit; ⟨o, g, c⟩
  obtain ⟨ob, gi, ci, di⟩ := id hit
  obtain ⟨ol, gl, _, nl, dl⟩ := hl
  have hh1 : A.in1.handled = none := hh
  unfold Builtin.SmallTypes.nextOf
  refine wpAny_bind (wpAny_callSpecial?_slot (name := Str.ofString "__next__") ty F.slot_tuple_iterator_next (wpAny_call_entry F.slot_tuple_iterator_next ty F.entry_tuple_iterator_next ?_ (F.args_tuple_iterator_next_1 _)))
  wp_walk using wpAny_field gi di (x := .ref l) rfl, wpAny_field gi di (x := .int (i : Int) 0) rfl, wpAny_seqItems gl dl
  rw [Int.toNat_natCast, hx]
  dsimp only
  wp_walk using set_at' gi di
  · (try unfold raiseNew)
    wp_walk
    exact q _ _ (((Heap.SameBut.update ..).extBut.push _).push _) ⟨_, Heap.get?_push_size _ rfl, rfl⟩
  · show 0 < 2; decide
theorem nx_b {Q : Value → Shared → Prop} {x : Value} (hit : iAt b s.heap it l i) (hl : sAt b s.heap l items) (hx : items[i]? = some x)
    (q : ∀ h', iAt b h' it l (i + 1) → Heap.SameBut it s.heap h' → Q x { s with heap := h' }) : wpAny (model prog w) A (Builtin.SmallTypes.nextOf (.ref it)) Q E s := by
  cases b
  · exact wpAny_nextOf_list_item hit hl hx q
  · exact nx_tuple hit hl hx q
theorem nx_b_end {Q : Value → Shared → Prop} (hh : A.handled = none) (hit : iAt b s.heap it l i) (hl : sAt b s.heap l items) (hx : items[i]? = none)
    (q : ∀ h' x, Heap.ExtBut it s.heap h' → (∃ o, h'.get? x = some o ∧ o.cls = .type "StopIteration") → E (.ref x) { s with heap := h' }) : wpAny (model prog w) A (Builtin.SmallTypes.nextOf (.ref it)) Q E s := by
  cases b
  · exact wpAny_nextOf_list_end hh hit hl hx q
  · exact nx_tuple_end hh hit hl hx q
theorem iter_b {Q : Value → Shared → Prop} (hl : sAt b s.heap l items) (q : Q (.ref s.heap.objs.size) { s with heap := s.heap.push (newIt b l) }) : wpAny (model prog w) A (pyIter (.ref l)) Q E s := by
  cases b
  · exact wpAny_pyIter_list hl q
  · exact wpAny_pyIter_tuple hl q
end
theorem draws_b {prog : Program} {w : World} {A : Around} {b : Bool} (hh : A.handled = none) (it l : Addr) (hne : l ≠ it) (items : Array Value) :
    Draws prog w A it [it, l] items.size (fun i v => items[i]? = some v) (fun i h => iAt b h it l i ∧ sAt b h l items) where
  live := fun _ _ st => let ⟨o, g, _⟩ := st.1.obj; ⟨o, g⟩
  frame := fun _ _ _ st k => ⟨st.1.keep fun o e => k it (by simp) o e, st.2.keep fun o e => k l (by simp) o e⟩
  item := fun i s Q E hi st q => nx_b st.1 st.2 (x := items[i]) (by simp [hi]) fun h' a c => q _ h' s.toks (by simp [hi]) ⟨a, st.2.keep fun o e => c.extBut _ _ hne e⟩ c
  done := fun s Q E st q => nx_b_end hh st.1 st.2 (by simp) q
theorem enum_made_t (l : Addr) (items : Array Value) (n : Nat) (dc : Option Addr) (sl : Array (Option Value)) :
    Meets (Builtin.«enumerate.__new__» ⟨[.type "enumerate", .ref l], []⟩) (fun _ R s => s.heap.get? l = some { cls := .type "tuple", dict := dc, data := .seq items n, slots := sl } ∧
      R (.ok (.ret (.ref (s.heap.push (newIt true l)).objs.size))) { s with heap := (s.heap.push (newIt true l)).push { cls := .type "enumerate", data := .fields #[.none, .bool false, .ref s.heap.objs.size, rawInt 0, .none, .none] } }) := by
  refine .of_wp ?_
  rintro prog w A R ⟨hp, g, d, tk, os⟩ ⟨hl, q⟩
  have sub := sub_enumerate
  have ht : sAt true (Shared.heap ⟨hp, g, d, tk, os⟩) l items := ⟨_, hl, rfl, n, rfl⟩
  wp_walk using AutoSeq1.wpAny_loadPart' hl
  refine wpAny_stack_any fun st => wpAny_pure ?_
  split
  case h_1 c _ _ _ _ _ => cases (c == Value.type "enumerate") <;> (wp_walk using AutoSeq1.wpAny_loadPart' hl, iter_b ht; exact ⟨_, rfl, q⟩)
  case h_2 => wp_walk using AutoSeq1.wpAny_loadPart' hl, iter_b ht; exact ⟨_, rfl, q⟩
section
variable {prog : Program} {w : World} {A : Around} {E : Value → Shared → Prop} {s : Shared} {l : Addr} {items : Array Value} {b : Bool}
theorem call_enum_b {Q : Value → Shared → Prop} (hl : sAt b s.heap l items)
    (q : ∀ h', IsEnum h' (s.heap.objs.size + 1) s.heap.objs.size 0 .none → iAt b h' s.heap.objs.size l 0 → (∀ c o, s.heap.get? c = some o → h'.get? c = some o) → Q (.ref (s.heap.objs.size + 1)) { s with heap := h' }) :
    wpAny (model prog w) A (call (.type "enumerate") [.ref l]) Q E s := by
  cases b
  · exact call_enumerate_list hl fun h' a c _ k => q h' a c k
  · obtain ⟨⟨c, dc, dt, sl⟩, g, hc, n, hd⟩ := hl
    cases hc
    cases hd
    refine callType_new F.called_enumerate (by decide) (F.typeCall_enumerate_1 _) (F.newCall_enumerate_1 _) (fun o => F.args_object_init_2 o _) F.entry_enumerate_new (enum_made_t l items n dc sl) ⟨g, ?_⟩
    have z : (s.heap.push (newIt true l)).objs.size = s.heap.objs.size + 1 := Heap.size_push ..
    have ge := Heap.get?_push_size (s.heap.push (newIt true l)) (o := { cls := .type "enumerate", data := .fields #[.none, .bool false, .ref s.heap.objs.size, rawInt 0, .none, .none] }) rfl
    rw [z] at ge
    show _ ∧ _
    rw [z]
    exact ⟨⟨_, ge, rfl⟩, q _ ge (newIt_at (Heap.get?_push_of_some _ (Heap.get?_push_size _ rfl))) fun c o x => Heap.get?_push_of_some _ (Heap.get?_push_of_some _ x)⟩
theorem zip_laid {h0 hB : Heap} {a c : Value} (zB : hB.objs.size = h0.objs.size + 2) :
    ((hB.push { cls := .type "tuple", data := .seq #[a, c] }).push { cls := .type "tuple", data := .seq #[.none, .none] }).objs.size = h0.objs.size + 4 ∧
    IsZip (((hB.push { cls := .type "tuple", data := .seq #[a, c] }).push { cls := .type "tuple", data := .seq #[.none, .none] }).push { cls := .type "zip", data := .fields #[.none, .bool false, .bool false, .ref hB.objs.size, .ref (hB.push { cls := .type "tuple", data := .seq #[a, c] }).objs.size] }) (h0.objs.size + 4) (h0.objs.size + 2) (h0.objs.size + 3) .none ∧
    IsPair (((hB.push { cls := .type "tuple", data := .seq #[a, c] }).push { cls := .type "tuple", data := .seq #[.none, .none] }).push { cls := .type "zip", data := .fields #[.none, .bool false, .bool false, .ref hB.objs.size, .ref (hB.push { cls := .type "tuple", data := .seq #[a, c] }).objs.size] }) (h0.objs.size + 2) a c ∧
    IsPair (((hB.push { cls := .type "tuple", data := .seq #[a, c] }).push { cls := .type "tuple", data := .seq #[.none, .none] }).push { cls := .type "zip", data := .fields #[.none, .bool false, .bool false, .ref hB.objs.size, .ref (hB.push { cls := .type "tuple", data := .seq #[a, c] }).objs.size] }) (h0.objs.size + 3) .none .none ∧
    ∀ d o, hB.get? d = some o → (((hB.push { cls := .type "tuple", data := .seq #[a, c] }).push { cls := .type "tuple", data := .seq #[.none, .none] }).push { cls := .type "zip", data := .fields #[.none, .bool false, .bool false, .ref hB.objs.size, .ref (hB.push { cls := .type "tuple", data := .seq #[a, c] }).objs.size] }).get? d = some o := by
  have zC : (hB.push { cls := .type "tuple", data := .seq #[a, c] }).objs.size = h0.objs.size + 3 := by rw [Heap.size_push, zB]
  have tC := Heap.get?_push_size hB (o := { cls := .type "tuple", data := .seq #[a, c] }) rfl
  have kC : ∀ d o, hB.get? d = some o → (hB.push { cls := .type "tuple", data := .seq #[a, c] }).get? d = some o := fun d o e => Heap.get?_push_of_some _ e
  rw [zB] at tC ⊢
  rw [zC]
  generalize hB.push { cls := .type "tuple", data := .seq #[a, c] } = hC at zC tC kC ⊢
  have zD : (hC.push { cls := .type "tuple", data := .seq #[.none, .none] }).objs.size = h0.objs.size + 4 := by rw [Heap.size_push, zC]
  have tD := Heap.get?_push_size hC (o := { cls := .type "tuple", data := .seq #[.none, .none] }) rfl
  have kD : ∀ d o, hC.get? d = some o → (hC.push { cls := .type "tuple", data := .seq #[.none, .none] }).get? d = some o := fun d o e => Heap.get?_push_of_some _ e
  rw [zC] at tD
  generalize hC.push { cls := .type "tuple", data := .seq #[.none, .none] } = hD at zD tD kD ⊢
  have tE := Heap.get?_push_size hD (o := { cls := .type "zip", data := .fields #[.none, .bool false, .bool false, .ref (h0.objs.size + 2), .ref (h0.objs.size + 3)] }) rfl
  rw [zD] at tE
  exact ⟨zD, tE, Heap.get?_push_of_some _ (kD _ _ tC), Heap.get?_push_of_some _ tD, fun d o e => Heap.get?_push_of_some _ (kD _ _ (kC _ _ e))⟩
theorem zip_made (b1 b2 : Bool) (l1 l2 : Addr) (xs ys : Array Value) :
    Meets (Builtin.«zip.__new__» ⟨[.type "zip", .ref l1, .ref l2], []⟩) (fun _ R s => sAt b1 s.heap l1 xs ∧ sAt b2 s.heap l2 ys ∧
      ∀ h', IsZip h' (s.heap.objs.size + 4) (s.heap.objs.size + 2) (s.heap.objs.size + 3) .none → IsPair h' (s.heap.objs.size + 2) (.ref s.heap.objs.size) (.ref (s.heap.objs.size + 1)) → IsPair h' (s.heap.objs.size + 3) .none .none →
        iAt b1 h' s.heap.objs.size l1 0 → iAt b2 h' (s.heap.objs.size + 1) l2 0 → (∀ c o, s.heap.get? c = some o → h'.get? c = some o) → R (.ok (.ret (.ref (s.heap.objs.size + 4)))) { s with heap := h' }) := by
  refine .of_wp ?_
  rintro prog w A R ⟨hp, g, d, tk, os⟩ ⟨h1, h2, q⟩
  have sub := sub_zip
  have g1 : sAt b1 (Shared.heap ⟨hp, g, d, tk, os⟩) l1 xs := h1
  have g2 : sAt b2 (Shared.heap ⟨hp.push (newIt b1 l1), g, d, tk, os⟩) l2 ys := sAt.keep h2 fun o e => Heap.get?_push_of_some _ e
  wp_walk using iter_b g1, iter_b g2
  refine ⟨_, rfl, ?_⟩
  have z1 : (hp.push (newIt b1 l1)).objs.size = hp.objs.size + 1 := Heap.size_push ..
  generalize eA : hp.push (newIt b1 l1) = hA at *
  have z2 : (hA.push (newIt b2 l2)).objs.size = hp.objs.size + 2 := by rw [Heap.size_push, z1]
  have i1 : hA.get? hp.objs.size = some (newIt b1 l1) := by rw [← eA]; exact Heap.get?_push_size _ rfl
  have k1 : ∀ c o, hp.get? c = some o → hA.get? c = some o := fun c o e => by rw [← eA]; exact Heap.get?_push_of_some _ e
  have i2 : (hA.push (newIt b2 l2)).get? (hp.objs.size + 1) = some (newIt b2 l2) := by rw [← z1]; exact Heap.get?_push_size _ rfl
  have k2 : ∀ c o, hA.get? c = some o → (hA.push (newIt b2 l2)).get? c = some o := fun c o e => Heap.get?_push_of_some _ e
  obtain ⟨e4, p1, p2, p3, p4⟩ := zip_laid (a := .ref hp.objs.size) (c := .ref hA.objs.size) z2
  have hq := q _ p1 (by show IsPair _ _ _ (.ref (hp.objs.size + 1)); rw [← z1]; exact p2) p3 (newIt_at (p4 _ _ (k2 _ _ i1))) (newIt_at (p4 _ _ i2)) fun c o e => p4 _ _ (k2 _ _ (k1 _ _ e))
  rw [← e4] at hq
  exact hq
theorem call_zip_b {b1 b2 : Bool} {l1 l2 : Addr} {xs ys : Array Value} {Q : Value → Shared → Prop} (h1 : sAt b1 s.heap l1 xs) (h2 : sAt b2 s.heap l2 ys)
    (q : ∀ h', IsZip h' (s.heap.objs.size + 4) (s.heap.objs.size + 2) (s.heap.objs.size + 3) .none → IsPair h' (s.heap.objs.size + 2) (.ref s.heap.objs.size) (.ref (s.heap.objs.size + 1)) → IsPair h' (s.heap.objs.size + 3) .none .none →
        iAt b1 h' s.heap.objs.size l1 0 → iAt b2 h' (s.heap.objs.size + 1) l2 0 → (∀ c o, s.heap.get? c = some o → h'.get? c = some o) → Q (.ref (s.heap.objs.size + 4)) { s with heap := h' }) :
    wpAny (model prog w) A (call (.type "zip") [.ref l1, .ref l2]) Q E s :=
  callType_new F.called_zip (by decide) (F.typeCall_zip_2 _ _) (F.newCall_zip_2 _ _) (fun o => F.args_object_init_3 o _ _) F.entry_zip_new (zip_made b1 b2 l1 l2 xs ys)
    ⟨h1, h2, fun h' p1 p2 p3 p4 p5 p6 => ⟨⟨_, p1, rfl⟩, q h' p1 p2 p3 p4 p5 p6⟩⟩
theorem zn_item {b1 b2 : Bool} {z TI TO i1 i2 l1 l2 : Addr} {i : Nat} {xs ys : Array Value} {x y u v : Value} {Q : Option Value → Shared → Prop} (D : ZipApart z TI TO i1 i2 l1 l2)
    (oz : IsZip s.heap z TI TO .none) (oi : IsPair s.heap TI (.ref i1) (.ref i2)) (oo : IsPair s.heap TO u v) (a1 : iAt b1 s.heap i1 l1 i) (a2 : iAt b2 s.heap i2 l2 i) (s1 : sAt b1 s.heap l1 xs) (s2 : sAt b2 s.heap l2 ys) (ex : xs[i]? = some x) (ey : ys[i]? = some y)
    (q : ∀ h', IsZip h' z TI TO (rawInt s.heap.objs.size) → IsPair h' TO x y → iAt b1 h' i1 l1 (i + 1) → iAt b2 h' i2 l2 (i + 1) → IsPair h' s.heap.objs.size x y →
      (∀ c o, c ≠ z → c ≠ TO → c ≠ i1 → c ≠ i2 → s.heap.get? c = some o → h'.get? c = some o) → Q (some (.ref s.heap.objs.size)) { s with heap := h' }) :
    wpAny (model prog w) A (pyNext (.ref z)) Q E s := by
  have ty : s.TypeIs (.ref z) "zip" := ⟨_, oz, rfl⟩
  unfold pyNext
  refine wpAny_bind (wpAny_attempt (wpAny_callSpecial?_slot (name := Str.ofString "__next__") ty F.slot_zip_next (wpAny_call_entry F.slot_zip_next ty F.entry_zip_next ?_ (F.args_zip_next_1 _))))
  have fin : ∀ (w1 : Value) (t : Shared), Q (some w1) t → wpAny (model prog w) A (pure (some w1)) Q E t := fun _ _ z => wpAny_pure z
  change wpAny _ _ (field (.ref z) 2 >>= _) _ _ _
  refine wpAny_bind (wpAny_field oz rfl (x := .bool false) rfl ?_)
  change wpAny _ _ (field (.ref z) 3 >>= _) _ _ _
  refine wpAny_bind (wpAny_field oz rfl (x := .ref TI) rfl (wpAny_bind (wpAny_seqItems oi rfl ?_)))
  change wpAny _ _ (Builtin.SmallTypes.ownedTupleIsFree (.ref z) >>= _) _ _ _
  refine wpAny_bind (wpAny_bind (wpAny_field oz rfl (x := .none) rfl (wpAny_pure ?_)))
  rw [if_pos rfl]
  refine wpAny_bind (wpAny_rule (wpAny_bind (wpAny_field oz rfl (x := .ref TO) rfl (wpAny_bind (wpAny_setField_rec oz (by simp) fun hA zA kA => wpAny_bind ?_)))))
  have zA' : IsZip hA z TI TO .ellipsis := zA
  have nA : hA.objs.size = s.heap.objs.size := kA.1
  have oA : IsPair hA TO u v := kA.extBut _ _ D.TOz oo
  have a1A : iAt b1 hA i1 l1 i := a1.keep fun o e => kA.extBut _ _ D.i1z e
  have a2A : iAt b2 hA i2 l2 i := a2.keep fun o e => kA.extBut _ _ D.i2z e
  have s1A : sAt b1 hA l1 xs := s1.keep fun o e => kA.extBut _ _ D.l1z e
  have s2A : sAt b2 hA l2 ys := s2.keep fun o e => kA.extBut _ _ D.l2z e
  have keepA : ∀ c o, c ≠ z → s.heap.get? c = some o → hA.get? c = some o := fun c o n e => kA.extBut _ _ n e
  simp only [List.zipIdx_cons, List.zipIdx_nil, List.forIn_cons, List.forIn_nil]
  refine wpAny_bind (wpAny_bind (wpAny_onRaise ?_))
  change wpAny _ _ (Builtin.SmallTypes.nextOf (.ref i1) >>= _) _ _ _
  refine wpAny_bind (nx_b a1A s1A ex fun hB a1B kB => wpAny_pure ?_)
  have oB : IsPair hB TO u v := kB.extBut _ _ D.TOi1 oA
  refine wpAny_bind (wpAny_seqItems oB rfl (wpAny_bind (wpAny_updateSeq_pair oB fun hC oC kC => wpAny_bind (wpAny_letGo (wpAny_pure ?_)))))
  have oC' : IsPair hC TO x v := oC
  have a2C : iAt b2 hC i2 l2 i := (a2A.keep fun o e => kB.extBut _ _ D.i12.symm e).keep fun o e => kC.extBut _ _ D.TOi2.symm e
  have s2C : sAt b2 hC l2 ys := (s2A.keep fun o e => kB.extBut _ _ D.l2i1 e).keep fun o e => kC.extBut _ _ D.l2TO e
  refine wpAny_bind (wpAny_bind (wpAny_onRaise ?_))
  change wpAny _ _ (Builtin.SmallTypes.nextOf (.ref i2) >>= _) _ _ _
  refine wpAny_bind (nx_b a2C s2C ey fun hD a2D kD => wpAny_pure ?_)
  have oD : IsPair hD TO x v := kD.extBut _ _ D.TOi2 oC'
  refine wpAny_bind (wpAny_seqItems oD rfl (wpAny_bind (wpAny_updateSeq_pair oD fun hE oE kE => wpAny_bind (wpAny_letGo (wpAny_pure (wpAny_pure ?_))))))
  have oE' : IsPair hE TO x y := oE
  refine wpAny_bind (wpAny_seqItems oE' rfl (wpAny_bind (wpAny_newTuple ?_)))
  have nE : hE.objs.size = s.heap.objs.size := by rw [kE.1, kD.1, kC.1, kB.1, nA]
  have keepE : ∀ c o, c ≠ TO → c ≠ i1 → c ≠ i2 → hA.get? c = some o → hE.get? c = some o := fun c o c2 c3 c4 e => kE.extBut _ _ c2 (kD.extBut _ _ c4 (kC.extBut _ _ c2 (kB.extBut _ _ c3 e)))
  have zE : IsZip hE z TI TO .ellipsis := keepE _ _ D.TOz.symm D.i1z.symm D.i2z.symm zA'
  have a1E : iAt b1 hE i1 l1 (i + 1) := a1B.keep fun o e => kE.extBut _ _ D.TOi1.symm (kD.extBut _ _ D.i12 (kC.extBut _ _ D.TOi1.symm e))
  have a2E : iAt b2 hE i2 l2 (i + 1) := a2D.keep fun o e => kE.extBut _ _ D.TOi2.symm e
  have lz : z < hE.objs.size := Heap.lt_size zE
  change wpAny _ _ (Builtin.SmallTypes.ownedTupleHandOut (.ref z) (.ref hE.objs.size) >>= _) _ _ _
  refine wpAny_bind ?_
  unfold Builtin.SmallTypes.ownedTupleHandOut
  have zP : IsZip (hE.push { cls := .type "tuple", data := .seq #[x, y] }) z TI TO .ellipsis := Heap.get?_push_of_some _ zE
  refine wpAny_bind (wpAny_setField_rec zP (by simp) fun hF zF kF => wpAny_setField_rec (show IsZip hF z TI TO (rawInt hE.objs.size) from zF) (by simp) fun hG zG kG => ?_)
  have zG' : IsZip hG z TI TO (rawInt hE.objs.size) := zG
  have keepG : ∀ c o, c ≠ z → (hE.push { cls := .type "tuple", data := .seq #[x, y] }).get? c = some o → hG.get? c = some o := fun c o n e => kG.extBut _ _ n (kF.extBut _ _ n e)
  have up : ∀ c o, c ≠ z → hE.get? c = some o → hG.get? c = some o := fun c o n e => keepG c o n (Heap.get?_push_of_some _ e)
  have new : IsPair hG hE.objs.size x y := keepG _ _ (Nat.ne_of_gt lz) (Heap.get?_push_size _ rfl)
  rw [nE] at zG' new
  refine wpAny_pure ⟨_, rfl, fin _ _ ?_⟩
  change Q (some (.ref hE.objs.size)) _
  rw [nE]
  exact q hG zG' (up _ _ D.TOz oE') (a1E.keep fun o e => up _ _ D.i1z e) (a2E.keep fun o e => up _ _ D.i2z e) new fun c o c1 c2 c3 c4 e => up c o c1 (keepE c o c2 c3 c4 (keepA c o c1 e))
theorem zn_end {b1 b2 : Bool} {z TI TO i1 i2 l1 l2 : Addr} {i : Nat} {xs ys : Array Value} {u v : Value} {Q : Option Value → Shared → Prop} (hh : A.handled = none) (D : ZipApart z TI TO i1 i2 l1 l2)
    (oz : IsZip s.heap z TI TO .none) (oi : IsPair s.heap TI (.ref i1) (.ref i2)) (oo : IsPair s.heap TO u v) (a1 : iAt b1 s.heap i1 l1 i) (a2 : iAt b2 s.heap i2 l2 i) (s1 : sAt b1 s.heap l1 xs) (s2 : sAt b2 s.heap l2 ys) (ee : xs[i]? = none ∨ ys[i]? = none)
    (q : ∀ h', (∀ c o, c ≠ z → c ≠ TO → c ≠ i1 → c ≠ i2 → s.heap.get? c = some o → h'.get? c = some o) → Q none { s with heap := h' }) :
    wpAny (model prog w) A (pyNext (.ref z)) Q E s := by
  have ty : s.TypeIs (.ref z) "zip" := ⟨_, oz, rfl⟩
  have hh1 : A.in1.handled = none := hh
  unfold pyNext
  refine wpAny_bind (wpAny_attempt (wpAny_callSpecial?_slot (name := Str.ofString "__next__") ty F.slot_zip_next (wpAny_call_entry F.slot_zip_next ty F.entry_zip_next ?_ (F.args_zip_next_1 _))))
  have raised : ∀ (hX hY : Heap) (e : Addr), IsZip hX z TI TO .ellipsis → (∃ o, hX.get? e = some o ∧ o.cls = .type "StopIteration") → (∀ c o, c ≠ z → c ≠ TO → c ≠ i1 → c ≠ i2 → s.heap.get? c = some o → hX.get? c = some o) → Heap.SameBut z hX hY →
      (∃ o, hY.get? e = some o ∧ o.cls = .type "StopIteration") ∧ ∀ c o, c ≠ z → c ≠ TO → c ≠ i1 → c ≠ i2 → s.heap.get? c = some o → hY.get? c = some o := fun hX hY e zX ⟨o, ho, hc⟩ kX kY => by
    have ne : e ≠ z := fun r => by
      rw [r, zX] at ho
      cases ho
      simp at hc
    exact ⟨⟨o, kY.extBut _ _ ne ho, hc⟩, fun c o c1 c2 c3 c4 r => kY.extBut _ _ c1 (kX c o c1 c2 c3 c4 r)⟩
  change wpAny _ _ (field (.ref z) 2 >>= _) _ _ _
  refine wpAny_bind (wpAny_field oz rfl (x := .bool false) rfl ?_)
  change wpAny _ _ (field (.ref z) 3 >>= _) _ _ _
  refine wpAny_bind (wpAny_field oz rfl (x := .ref TI) rfl (wpAny_bind (wpAny_seqItems oi rfl ?_)))
  change wpAny _ _ (Builtin.SmallTypes.ownedTupleIsFree (.ref z) >>= _) _ _ _
  refine wpAny_bind (wpAny_bind (wpAny_field oz rfl (x := .none) rfl (wpAny_pure ?_)))
  rw [if_pos rfl]
  refine wpAny_bind (wpAny_rule (wpAny_bind (wpAny_field oz rfl (x := .ref TO) rfl (wpAny_bind (wpAny_setField_rec oz (by simp) fun hA zA kA => wpAny_bind ?_)))))
  have zA' : IsZip hA z TI TO .ellipsis := zA
  have oA : IsPair hA TO u v := kA.extBut _ _ D.TOz oo
  have a1A : iAt b1 hA i1 l1 i := a1.keep fun o e => kA.extBut _ _ D.i1z e
  have a2A : iAt b2 hA i2 l2 i := a2.keep fun o e => kA.extBut _ _ D.i2z e
  have s1A : sAt b1 hA l1 xs := s1.keep fun o e => kA.extBut _ _ D.l1z e
  have s2A : sAt b2 hA l2 ys := s2.keep fun o e => kA.extBut _ _ D.l2z e
  simp only [List.zipIdx_cons, List.zipIdx_nil, List.forIn_cons, List.forIn_nil]
  refine wpAny_bind (wpAny_bind (wpAny_onRaise ?_))
  change wpAny _ _ (Builtin.SmallTypes.nextOf (.ref i1) >>= _) _ _ _
  by_cases ex : xs[i]? = none
  · refine wpAny_bind (nx_b_end hh1 a1A s1A ex fun hX e kX he => ?_)
    have zX : IsZip hX z TI TO .ellipsis := kX _ _ D.i1z.symm zA'
    refine wpAny_setField_rec zX (by simp) fun hY _ kY => ?_
    obtain ⟨⟨o, ho, hc⟩, kk⟩ := raised hX hY e zX he (fun c o c1 _ c3 _ r => kX _ _ c3 (kA.extBut _ _ c1 r)) kY
    exact wpAny_bind (wpAny_isInstance (T := "StopIteration") (b := true) ⟨o, ho, hc⟩ isSubtype_stop (wpAny_pure (q _ kk)))
  · have ey : ys[i]? = none := ee.resolve_left ex
    obtain ⟨x, ex'⟩ : ∃ x, xs[i]? = some x := Option.ne_none_iff_exists'.mp ex
    refine wpAny_bind (nx_b a1A s1A ex' fun hB a1B kB => wpAny_pure ?_)
    have oB : IsPair hB TO u v := kB.extBut _ _ D.TOi1 oA
    refine wpAny_bind (wpAny_seqItems oB rfl (wpAny_bind (wpAny_updateSeq_pair oB fun hC oC kC => wpAny_bind (wpAny_letGo (wpAny_pure ?_)))))
    have a2C : iAt b2 hC i2 l2 i := (a2A.keep fun o e => kB.extBut _ _ D.i12.symm e).keep fun o e => kC.extBut _ _ D.TOi2.symm e
    have s2C : sAt b2 hC l2 ys := (s2A.keep fun o e => kB.extBut _ _ D.l2i1 e).keep fun o e => kC.extBut _ _ D.l2TO e
    refine wpAny_bind (wpAny_bind (wpAny_onRaise ?_))
    change wpAny _ _ (Builtin.SmallTypes.nextOf (.ref i2) >>= _) _ _ _
    refine wpAny_bind (nx_b_end hh1 a2C s2C ey fun hX e kX he => ?_)
    have zX : IsZip hX z TI TO .ellipsis := kX _ _ D.i2z.symm (kC.extBut _ _ D.TOz.symm (kB.extBut _ _ D.i1z.symm zA'))
    refine wpAny_setField_rec zX (by simp) fun hY _ kY => ?_
    obtain ⟨⟨o, ho, hc⟩, kk⟩ := raised hX hY e zX he (fun c o c1 c2 c3 c4 r => kX _ _ c4 (kC.extBut _ _ c2 (kB.extBut _ _ c3 (kA.extBut _ _ c1 r)))) kY
    exact wpAny_bind (wpAny_isInstance (T := "StopIteration") (b := true) ⟨o, ho, hc⟩ isSubtype_stop (wpAny_pure (q _ kk)))
end
end _L2
set_option Elab.async false
set_option linter.all false
set_option maxRecDepth 100000
set_option maxHeartbeats 4000000
namespace _L2
open PySem PySem.Spec PyProof.Rows
noncomputable def SqB (b : Bool) (K : PySem.W.Frag) (H : Hp) (a : Addr) (xs : List V) : Prop := match b with | false => SqL K H a xs | true => SqT K H a xs
section
variable {X : Cx} {pins : List (Addr × Obj)} {σ : _L2.St} {H : Hp} {s : Shared} {a : Addr} {xs ys : List V} {b : Bool}
theorem Inv.sqb (I : Inv X pins σ H s) (h : SqB b X.K H a xs) : ∃ its : List Value, Vals xs its ∧ sAt b s.heap a its.toArray ∧ xs.length ≤ sizeLine := by
  cases b
  · obtain ⟨its, v, p, z⟩ := I.list h
    exact ⟨its, v, p.isList, z⟩
  · obtain ⟨its, v, p, z⟩ := I.tuple h
    exact ⟨its, v, p, z⟩
theorem Inv.sqb_inj (I : Inv X pins σ H s) (h : SqB b X.K H a xs) (h' : SqB b X.K H a ys) : xs = ys := by
  cases b
  · exact I.list_inj h h'
  · exact I.tuple_inj h h'
end
noncomputable def IteB (b : Bool) (K : PySem.W.Frag) (a : Addr) : It :=
  ⟨fun i H => ∃ xs x, SqB b K H a xs ∧ xs[i]? = some x, fun i H x H' => ∃ p y, x = .ref p ∧ H p = none ∧ H' = upd H p (.tup [.int (i : Int), y]) ∧ ∀ xs, SqB b K H a xs → xs[i]? = some y, fun i H => ∃ xs, SqB b K H a xs ∧ xs.length = i⟩
noncomputable def ItzB (b1 b2 : Bool) (K : PySem.W.Frag) (a b : Addr) : It :=
  ⟨fun i H => ∃ xs ys x y, SqB b1 K H a xs ∧ SqB b2 K H b ys ∧ xs[i]? = some x ∧ ys[i]? = some y,
   fun i H x H' => ∃ p u v, x = .ref p ∧ H p = none ∧ H' = upd H p (.tup [u, v]) ∧ (∀ xs, SqB b1 K H a xs → xs[i]? = some u) ∧ ∀ ys, SqB b2 K H b ys → ys[i]? = some v,
   fun i H => ∃ xs ys, SqB b1 K H a xs ∧ SqB b2 K H b ys ∧ (xs.length ≤ i ∨ ys.length ≤ i)⟩
theorem turn_enumB {b : Bool} {P : Program} {w : World} {K : PySem.W.Frag} {elts : List Expr} {x1 : Nat} {tpos : Pos} (a e it : Addr) (hne : e ≠ it) (hae : a ≠ e) (hai : a ≠ it) : Turn P w K (.Tuple elts x1 tpos) (IteB b K a) [e, it] e (fun i h => (∃ old, IsEnum h e it (i : Int) old) ∧ iAt b h it a i) where
  mem := by simp
  obj := fun i h st b hb => by
    obtain ⟨⟨old, he⟩, hi⟩ := st
    obtain ⟨o, ho, hd⟩ := hi.obj
    rcases List.mem_cons.mp hb with z | z
    · subst z
      exact ⟨_, he, fun v z => by
        have z' : Data.fields _ = Data.cell v := z
        cases z'⟩
    · have z' : b = it := by simpa using z
      subst z'
      exact ⟨o, ho, hd⟩
  keep := fun i h h' st k => by
    obtain ⟨⟨old, he⟩, hi⟩ := st
    exact ⟨⟨old, k e (by simp) _ he⟩, hi.keep fun o q => k it (by simp) o q⟩
  item := by
    intro X hP hw hK hc i pins s σ H E I hf st hg
    subst hP hw hK
    obtain ⟨xs, x, hq, hx⟩ := hg
    obtain ⟨⟨old, he⟩, hit⟩ := st
    obtain ⟨its, rv, p, hz⟩ := I.sqb hq
    obtain ⟨u, hu, ru⟩ := rv.get hx
    have f1 := hf e (by simp)
    have f2 := hf it (by simp)
    have hlt : i < its.toArray.size := by
      have := (List.getElem?_eq_some_iff.mp hu).1
      simpa using this
    refine wpAny_pyNext_enum_itemD (draws_b (prog := X.prog) (w := X.w) (A := X.A.in1) (b := b) (I.ok.hd hc) it a hai its.toArray) he ⟨hit, p⟩ hlt hne (by simp [hne, Ne.symm hae]) fun u' h1 tk hu' heo hst1 htup hsz kp => ?_
    have eu : u' = u := by
      have hu2 : its[i]? = some u' := by simpa using hu'
      rw [hu] at hu2
      exact (Option.some.inj hu2).symm
    subst eu
    obtain ⟨hit1, _⟩ := hst1
    refine ⟨_, rfl, wpAny_letOwnedTupleGo_enum heo fun h2 he2 sb2 => ?_⟩
    have hen : s.heap.objs.size ≠ e := Ne.symm (Nat.ne_of_lt (Heap.lt_size he))
    have hitn : s.heap.objs.size ≠ it := by
      obtain ⟨o, ho, _⟩ := hit.obj
      exact Ne.symm (Nat.ne_of_lt (Heap.lt_size ho))
    have kp2 : ∀ b o, b ∉ [e, it] → s.heap.get? b = some o → h2.get? b = some o := fun b o hb q => by
      simp only [List.mem_cons, List.not_mem_nil, or_false, not_or] at hb
      exact (sb2.2 b hb.1).trans (kp b o hb.1 hb.2 q)
    have hnew : h2.get? s.heap.objs.size = some { cls := .type "tuple", data := .seq #[.int i tk, u'] } := (sb2.2 _ hen).trans htup
    have nt : ∀ b v, H b = some v → b ∉ [e, it] := fun b v q hb => by
      simp only [List.mem_cons, List.not_mem_nil, or_false] at hb
      rcases hb with z | z
      · rw [z, f1.1] at q; cases q
      · rw [z, f2.1] at q; cases q
    have hfr := I.fresh
    have U : Un (frs X.stack) [e, it] H (upd H s.heap.objs.size (.tup [.int (i : Int), x])) s.heap h2 :=
      { keep := fun b o q _ _ hb => kp2 b o hb q
        slot := fun b o q _ _ hb => ⟨o.slots, kp2 b o hb q⟩
        free := fun b o q n _ => by rw [upd_ne (Nat.ne_of_lt (Heap.lt_size q))]; exact n
        there := fun b o q hb => ⟨o, kp2 b o hb q⟩
        tups := fun b xs q => by rw [upd_ne (ne_of_none q hfr)]; exact q
        frzs := fun b o xs q => by rw [upd_ne (ne_of_none q hfr)]; exact q
        tbls := fun b ps q => ⟨#[], by rw [upd_ne (ne_of_none q hfr), q]; simp⟩ }
    have hok : HOk X.prog X.w (upd H s.heap.objs.size (.tup [.int (i : Int), x])) h2 := fun b v q => by
      by_cases hb : b = s.heap.objs.size
      · subst hb
        rw [upd_same] at q
        cases q
        exact ⟨by show 2 ≤ sizeLine; decide, [.int i tk, u'], .cons ⟨_, rfl⟩ (.cons ru .nil), _, hnew, rfl, _, rfl⟩
      · rw [upd_ne hb] at q
        refine (I.hok b v q).stay (fun c v' hc' r => kp2 c v' ?_ r) (fun c r => by rw [upd_ne (ne_of_none r hfr)]; exact r) fun c ys r => by rw [upd_ne (ne_of_none r hfr)]; exact r
        rcases hc' with z | z
        · rw [z]; exact nt b v q
        · exact nt c _ z
    have I2 : Inv X pins σ (upd H s.heap.objs.size (.tup [.int (i : Int), x])) { s with heap := h2, toks := tk + 1 } := I.call' rfl U hok I.bare fun b hb => by
      obtain ⟨g0, g1, g2, g3, g4, g5⟩ := hf b hb
      exact ⟨g3, g1, g4, g5⟩
    refine ⟨.ref s.heap.objs.size, _, I2, rfl, ⟨_, x, rfl, hfr, rfl, fun ys hy => by rw [I.sqb_inj hy hq]; exact hx⟩, ⟨⟨u', ?_⟩, ?_⟩, fun b hb => ?_⟩
    · have e1 : ((i + 1 : Nat) : Int) = (i : Int) + 1 := by omega
      rw [e1]
      exact he2
    · exact hit1.keep fun o q => (sb2.2 it (Ne.symm hne)).trans q
    · rw [upd_ne (by
        simp only [List.mem_cons, List.not_mem_nil, or_false] at hb
        rcases hb with z | z
        · rw [z]; exact Ne.symm hen
        · rw [z]; exact Ne.symm hitn)]
      exact (hf b hb).1
  done := by
    intro X hP hw hK hc i pins s σ H E I hf st hg
    subst hP hw hK
    obtain ⟨xs, hq, hx⟩ := hg
    obtain ⟨⟨old, he⟩, hit⟩ := st
    obtain ⟨its, rv, p, hz⟩ := I.sqb hq
    obtain ⟨f0, f1, f2, f3, f4, f5⟩ := hf it (by simp)
    have hl := rv.length
    have e0 : i = its.toArray.size := by simp; omega
    exact wpAny_pyNext_enum_endD (draws_b (prog := X.prog) (w := X.w) (A := X.A.in1) (b := b) (I.ok.hd hc) it a hai its.toArray) he ⟨e0 ▸ hit, p⟩ fun h' eb => ⟨rfl, I.turned (t' := s.toks) (fun b o hb e => eb b o hb e) f0 f1 f3 f4 f5⟩
  self := fun _ _ _ _ _ st h => by
    obtain ⟨⟨old, he⟩, _⟩ := st
    exact wpAny_pyIter_enum he h
section
variable {X : Cx}
noncomputable def iEnumB (K : PySem.W.Frag) (ta : TA) : TI := fun σ H R => ta σ H fun vs H1 => ∃ a b, vs = [.ref a] ∧ (∃ xs, SqB b K H1 a xs) ∧ R (IteB b K a) H1
theorem pi_enumB {a : Expr} {ta : TA} {p pos : Pos} {elts : List Expr} {x1 : Nat} {tpos : Pos} (hg : Gl X "enumerate") (hm : X.mg "enumerate" = none) (ha : PA X [a] ta) (hs : starEach [a] X.env = [(false, eval a X.env)] := by rfl) : PI X (.Tuple elts x1 tpos) (.Call (.Name "enumerate" p) [a] [] pos) (iEnumB X.K ta) := by
  intro pins s σ H R I h
  refine Call_ (ld_blt I hg hm bt_enumerate (PyProof.Rows.callWith_type1 (thn (ha pos pins s σ H _ I h) fun us s1 ⟨vs, H1, I1, r1, q1⟩ => ?_) hs rfl))
  obtain ⟨l, b, e, ⟨xs, hq⟩, q⟩ := q1
  subst e
  obtain ⟨u, rfl, ru⟩ := r1.one
  cases ru
  obtain ⟨its, rv, pl, hz⟩ := I1.sqb hq
  have ll : l < s1.heap.objs.size := by obtain ⟨_, e⟩ := pl.obj; exact Heap.lt_size e
  refine call_enum_b pl fun h' he hit kp => wpAny_pyIter_enum he ?_
  refine ⟨s1.heap.objs.size + 1, [s1.heap.objs.size + 1, s1.heap.objs.size], _, _, H1, rfl, I1.kept (t' := s1.toks) kp, turn_enumB l _ _ (Ne.symm (Nat.ne_of_lt (Nat.lt_succ_self _))) (Nat.ne_of_lt (Nat.lt_succ_of_lt ll)) (Nat.ne_of_lt ll), ⟨⟨_, he⟩, hit⟩, fun b hb => ?_, q⟩
  have hb' : b = s1.heap.objs.size + 1 ∨ b = s1.heap.objs.size := by simpa using hb
  have hle : s1.heap.objs.size ≤ b := by
    rcases hb' with z | z
    · rw [z]; exact Nat.le_succ _
    · rw [z]; exact Nat.le_refl _
  exact I1.fpOk hle (I1.hok.fresh hle)
end
theorem turn_zipB {b1 b2 : Bool} {P : Program} {w : World} {K : PySem.W.Frag} {elts : List Expr} {x1 : Nat} {tpos : Pos} (a b z TI TO i1 i2 : Addr) (D : ZipApart z TI TO i1 i2 a b) :
    Turn P w K (.Tuple elts x1 tpos) (ItzB b1 b2 K a b) [z, TI, TO, i1, i2] z (fun i h => IsZip h z TI TO .none ∧ IsPair h TI (.ref i1) (.ref i2) ∧ (∃ c d, IsPair h TO c d) ∧ iAt b1 h i1 a i ∧ iAt b2 h i2 b i) where
  mem := by simp
  obj := fun i h st c hc => by
    obtain ⟨hz, hTI, ⟨_, _, hTO⟩, h1, h2⟩ := st
    obtain ⟨o1, ho1, hd1⟩ := h1.obj
    obtain ⟨o2, ho2, hd2⟩ := h2.obj
    simp only [List.mem_cons, List.not_mem_nil, or_false] at hc
    rcases hc with e | e | e | e | e
    · subst e
      exact ⟨_, hz, fun v q => by have q' : Data.fields _ = Data.cell v := q; cases q'⟩
    · subst e
      exact ⟨_, hTI, fun v q => by have q' : Data.seq _ _ = Data.cell v := q; cases q'⟩
    · subst e
      exact ⟨_, hTO, fun v q => by have q' : Data.seq _ _ = Data.cell v := q; cases q'⟩
    · subst e
      exact ⟨o1, ho1, hd1⟩
    · subst e
      exact ⟨o2, ho2, hd2⟩
  keep := fun i h h' st k => by
    obtain ⟨hz, hTI, ⟨c, d, hTO⟩, h1, h2⟩ := st
    exact ⟨k z (by simp) _ hz, k TI (by simp) _ hTI, ⟨c, d, k TO (by simp) _ hTO⟩, h1.keep fun o q => k i1 (by simp) o q, h2.keep fun o q => k i2 (by simp) o q⟩
  item := by
    intro X hP hw hK hc i pins s σ H E I hf st hg
    subst hP hw hK
    obtain ⟨xs, ys, x, y, hq1, hq2, hx, hy⟩ := hg
    obtain ⟨hz, hTI, ⟨c, d, hTO⟩, h1, h2⟩ := st
    obtain ⟨its1, rv1, p1, _⟩ := I.sqb hq1
    obtain ⟨its2, rv2, p2, _⟩ := I.sqb hq2
    obtain ⟨u1, hu1, ru1⟩ := rv1.get hx
    obtain ⟨u2, hu2, ru2⟩ := rv2.get hy
    have fz := hf z (by simp)
    have fTI := hf TI (by simp)
    have fTO := hf TO (by simp)
    have f1 := hf i1 (by simp)
    have f2 := hf i2 (by simp)
    refine zn_item D hz hTI hTO h1 h2 p1 p2 (x := u1) (y := u2) (by simpa using hu1) (by simpa using hu2) fun h3 hz3 hTO3 h13 h23 hT3 kp => ?_
    refine ⟨_, rfl, wpAny_letOwnedTupleGo_zip hz3 fun h4 hz4 sb4 => ?_⟩
    have hzn : s.heap.objs.size ≠ z := Ne.symm (Nat.ne_of_lt (Heap.lt_size hz))
    have hTIn : s.heap.objs.size ≠ TI := Ne.symm (Nat.ne_of_lt (Heap.lt_size hTI))
    have hTOn : s.heap.objs.size ≠ TO := Ne.symm (Nat.ne_of_lt (Heap.lt_size hTO))
    have h1n : s.heap.objs.size ≠ i1 := by
      obtain ⟨o, ho, _⟩ := h1.obj
      exact Ne.symm (Nat.ne_of_lt (Heap.lt_size ho))
    have h2n : s.heap.objs.size ≠ i2 := by
      obtain ⟨o, ho, _⟩ := h2.obj
      exact Ne.symm (Nat.ne_of_lt (Heap.lt_size ho))
    have kp2 : ∀ b o, b ∉ [z, TI, TO, i1, i2] → s.heap.get? b = some o → h4.get? b = some o := fun b o hb q => by
      simp only [List.mem_cons, List.not_mem_nil, or_false, not_or] at hb
      exact (sb4.2 b hb.1).trans (kp b o hb.1 hb.2.2.1 hb.2.2.2.1 hb.2.2.2.2 q)
    have hnew : h4.get? s.heap.objs.size = some { cls := .type "tuple", data := .seq #[u1, u2] } := (sb4.2 _ hzn).trans hT3
    have nt : ∀ b v, H b = some v → b ∉ [z, TI, TO, i1, i2] := fun b v q hb => by
      simp only [List.mem_cons, List.not_mem_nil, or_false] at hb
      rcases hb with e | e | e | e | e
      · rw [e, fz.1] at q; cases q
      · rw [e, fTI.1] at q; cases q
      · rw [e, fTO.1] at q; cases q
      · rw [e, f1.1] at q; cases q
      · rw [e, f2.1] at q; cases q
    have hfr := I.fresh
    have U : Un (frs X.stack) [z, TI, TO, i1, i2] H (upd H s.heap.objs.size (.tup [x, y])) s.heap h4 :=
      { keep := fun b o q _ _ hb => kp2 b o hb q
        slot := fun b o q _ _ hb => ⟨o.slots, kp2 b o hb q⟩
        free := fun b o q n _ => by rw [upd_ne (Nat.ne_of_lt (Heap.lt_size q))]; exact n
        there := fun b o q hb => ⟨o, kp2 b o hb q⟩
        tups := fun b xs q => by rw [upd_ne (ne_of_none q hfr)]; exact q
        frzs := fun b o xs q => by rw [upd_ne (ne_of_none q hfr)]; exact q
        tbls := fun b ps q => ⟨#[], by rw [upd_ne (ne_of_none q hfr), q]; simp⟩ }
    have hok : HOk X.prog X.w (upd H s.heap.objs.size (.tup [x, y])) h4 := fun b v q => by
      by_cases hb : b = s.heap.objs.size
      · subst hb
        rw [upd_same] at q
        cases q
        exact ⟨by show 2 ≤ sizeLine; decide, [u1, u2], .cons ru1 (.cons ru2 .nil), _, hnew, rfl, _, rfl⟩
      · rw [upd_ne hb] at q
        refine (I.hok b v q).stay (fun c v' hc' r => kp2 c v' ?_ r) (fun c r => by rw [upd_ne (ne_of_none r hfr)]; exact r) fun c ys r => by rw [upd_ne (ne_of_none r hfr)]; exact r
        rcases hc' with e | e
        · rw [e]; exact nt b v q
        · exact nt c _ e
    have I2 : Inv X pins σ (upd H s.heap.objs.size (.tup [x, y])) { s with heap := h4 } := I.call' rfl U hok I.bare fun b hb => by
      obtain ⟨g0, g1, g2, g3, g4, g5⟩ := hf b hb
      exact ⟨g3, g1, g4, g5⟩
    refine ⟨.ref s.heap.objs.size, _, I2, rfl, ⟨_, x, y, rfl, hfr, rfl, fun ys hy => by rw [I.sqb_inj hy hq1]; exact hx, fun ys hy' => by rw [I.sqb_inj hy' hq2]; exact hy⟩, ⟨hz4, ?_, ⟨u1, u2, ?_⟩, ?_, ?_⟩, fun b hb => ?_⟩
    · exact (sb4.2 TI D.TIz).trans (kp TI _ D.TIz D.TITO D.TIi1 D.TIi2 hTI)
    · exact (sb4.2 TO D.TOz).trans hTO3
    · exact h13.keep fun o q => (sb4.2 i1 D.i1z).trans q
    · exact h23.keep fun o q => (sb4.2 i2 D.i2z).trans q
    · rw [upd_ne (by
        simp only [List.mem_cons, List.not_mem_nil, or_false] at hb
        rcases hb with e | e | e | e | e
        · rw [e]; exact Ne.symm hzn
        · rw [e]; exact Ne.symm hTIn
        · rw [e]; exact Ne.symm hTOn
        · rw [e]; exact Ne.symm h1n
        · rw [e]; exact Ne.symm h2n)]
      exact (hf b hb).1
  done := by
    intro X hP hw hK hc i pins s σ H E I hf st hg
    subst hP hw hK
    obtain ⟨xs, ys, hq1, hq2, hx⟩ := hg
    obtain ⟨hz, hTI, ⟨c, d, hTO⟩, h1, h2⟩ := st
    obtain ⟨its1, rv1, p1, _⟩ := I.sqb hq1
    obtain ⟨its2, rv2, p2, _⟩ := I.sqb hq2
    have hl1 := rv1.length
    have hl2 := rv2.length
    have fz := hf z (by simp)
    have fTI := hf TI (by simp)
    have fTO := hf TO (by simp)
    have f1 := hf i1 (by simp)
    have f2 := hf i2 (by simp)
    refine zn_end (I.ok.hd hc) D hz hTI hTO h1 h2 p1 p2 (by
      rcases hx with e | e
      · left; simp; omega
      · right; simp; omega) fun h4 kp => ⟨rfl, ?_⟩
    have kp2 : ∀ b o, b ∉ [z, TI, TO, i1, i2] → s.heap.get? b = some o → h4.get? b = some o := fun b o hb q => by
      simp only [List.mem_cons, List.not_mem_nil, or_false, not_or] at hb
      exact kp b o hb.1 hb.2.2.1 hb.2.2.2.1 hb.2.2.2.2 q
    have nt : ∀ b v, H b = some v → b ∉ [z, TI, TO, i1, i2] := fun b v q hb => by
      simp only [List.mem_cons, List.not_mem_nil, or_false] at hb
      rcases hb with e | e | e | e | e
      · rw [e, fz.1] at q; cases q
      · rw [e, fTI.1] at q; cases q
      · rw [e, fTO.1] at q; cases q
      · rw [e, f1.1] at q; cases q
      · rw [e, f2.1] at q; cases q
    have U : Un (frs X.stack) [z, TI, TO, i1, i2] H H s.heap h4 :=
      { keep := fun b o q _ _ hb => kp2 b o hb q
        slot := fun b o q _ _ hb => ⟨o.slots, kp2 b o hb q⟩
        free := fun b o q n _ => n
        there := fun b o q hb => ⟨o, kp2 b o hb q⟩
        tups := fun b xs q => q
        frzs := fun b o xs q => q
        tbls := fun b ps q => ⟨#[], by rw [q]; simp⟩ }
    have hok : HOk X.prog X.w H h4 := fun b v q => by
      refine (I.hok b v q).stay (fun c v' hc' r => kp2 c v' ?_ r) (fun c r => r) fun c ys r => r
      rcases hc' with e | e
      · rw [e]; exact nt b v q
      · exact nt c _ e
    exact I.call' rfl U hok I.bare fun b hb => by
      obtain ⟨g0, g1, g2, g3, g4, g5⟩ := hf b hb
      exact ⟨g3, g1, g4, g5⟩
  self := fun _ _ _ _ _ st h => wpAny_pyIter_zip st.1 h
section
variable {X : Cx}
noncomputable def iZipB (K : PySem.W.Frag) (ta : TA) : TI := fun σ H R => ta σ H fun vs H1 => ∃ a b b1 b2, vs = [.ref a, .ref b] ∧ (∃ xs, SqB b1 K H1 a xs) ∧ (∃ ys, SqB b2 K H1 b ys) ∧ R (ItzB b1 b2 K a b) H1
theorem pi_zipB {a b : Expr} {ta : TA} {p pos : Pos} {elts : List Expr} {x1 : Nat} {tpos : Pos} (hg : Gl X "zip") (hm : X.mg "zip" = none) (ha : PA X [a, b] ta) (hs : starEach [a, b] X.env = [(false, eval a X.env), (false, eval b X.env)]) (hs2 : starEach [b] X.env = [(false, eval b X.env)]) :
    PI X (.Tuple elts x1 tpos) (.Call (.Name "zip" p) [a, b] [] pos) (iZipB X.K ta) := by
  intro pins s σ H R I h
  refine Call_ (ld_blt I hg hm bt_zip (PyProof.Rows.callWith_type1 (thn (ha pos pins s σ H _ I h) fun us s1 ⟨vs, H1, I1, r1, q1⟩ => ?_) (by rw [hs, hs2]) (by rw [hs2]; rfl)))
  obtain ⟨l1, l2, b1, b2, e, ⟨xs, hq1⟩, ⟨ys, hq2⟩, q⟩ := q1
  subst e
  obtain ⟨u1, u2, rfl, ru1, ru2⟩ := r1.two
  cases ru1
  cases ru2
  obtain ⟨its1, rv1, p1, _⟩ := I1.sqb hq1
  obtain ⟨its2, rv2, p2, _⟩ := I1.sqb hq2
  have a1 : l1 < s1.heap.objs.size := by obtain ⟨_, e⟩ := p1.obj; exact Heap.lt_size e
  have a2 : l2 < s1.heap.objs.size := by obtain ⟨_, e⟩ := p2.obj; exact Heap.lt_size e
  refine call_zip_b p1 p2 fun h' hz hTI hTO h1 h2 kp => wpAny_pyIter_zip hz ?_
  refine ⟨s1.heap.objs.size + 4, [s1.heap.objs.size + 4, s1.heap.objs.size + 2, s1.heap.objs.size + 3, s1.heap.objs.size, s1.heap.objs.size + 1], _, _, H1, rfl, I1.kept (t' := s1.toks) kp, turn_zipB l1 l2 _ _ _ _ _ (zipApart_new a1 a2), ⟨hz, hTI, ⟨_, _, hTO⟩, h1, h2⟩, fun b hb => ?_, q⟩
  have hle : s1.heap.objs.size ≤ b := by
    simp only [List.mem_cons, List.not_mem_nil, or_false] at hb
    rcases hb with e | e | e | e | e <;> rw [e]
    · exact Nat.le_add_right _ 4
    · exact Nat.le_add_right _ 2
    · exact Nat.le_add_right _ 3
    · exact Nat.le_refl _
    · exact Nat.le_add_right _ 1
  exact I1.fpOk hle (I1.hok.fresh hle)
theorem qi_zipB {a b : Expr} {t : TA} {p pos : Pos} {elts : List Expr} {x1 : Nat} {tpos : Pos} (hg : okGl X.env.scope "zip" = true) (hm : X.mg "zip" = none) (ha : QA X [a, b] t) (hs : noStars [a, b] = true := by rfl) : QI X (.Tuple elts x1 tpos) (.Call (.Name "zip" p) [a, b] [] pos) (iZipB X.K t) := by
  have h1 := hs
  unfold noStars at h1
  simp only [List.all_cons, Bool.and_eq_true] at h1
  refine ⟨pi_zipB (okGl_get hg).1 hm ha.h ?_ (star_cons h1.2.1)⟩
  rw [star_cons h1.1, star_cons h1.2.1]
  rfl
end
end _L2
set_option Elab.async false
set_option linter.all false
set_option maxRecDepth 100000
set_option maxHeartbeats 4000000
namespace _L2
open PySem PySem.Spec PyProof.Rows
section
variable {κ : Type} [DecidableEq κ]
noncomputable def valV (kvs : List (κ × V)) (k : κ) : Option V := (kvs.find? fun kv => decide (kv.1 = k)).map (·.2)
noncomputable def putK (kvs : List (κ × V)) (k : κ) (v : V) : List (κ × V) :=
  if (kvs.any fun kv => decide (kv.1 = k)) = true then kvs.map (fun kv => if kv.1 = k then (kv.1, v) else kv) else kvs ++ [(k, v)]
noncomputable def dropK (kvs : List (κ × V)) (k : κ) : List (κ × V) := kvs.filter fun kv => decide (kv.1 ≠ k)
theorem valV_pos {p : κ × V} {r : List (κ × V)} {k : κ} (e : p.1 = k) : valV (p :: r) k = some p.2 := by simp [valV, List.find?_cons, e]
theorem valV_neg {p : κ × V} {r : List (κ × V)} {k : κ} (e : ¬ p.1 = k) : valV (p :: r) k = valV r k := by simp [valV, List.find?_cons, e]
theorem valV_any (k : κ) : ∀ kvs : List (κ × V), (kvs.any fun kv => decide (kv.1 = k)) = (valV kvs k).isSome
  | [] => rfl
  | p :: r => by
    rw [List.any_cons]
    by_cases e : p.1 = k
    · simp only [valV_pos e, decide_eq_true e, Bool.true_or, Option.isSome_some]
    · rw [valV_neg e, decide_eq_false e, Bool.false_or]; exact valV_any k r
theorem RelO.isSome_eq {o : Option V} {u : Option Value} (r : RelO o u) : o.isSome = u.isSome := by
  cases o with
  | none => cases u with
    | none => rfl
    | some _ => exact (show False from r).elim
  | some _ => cases u with
    | none => exact (show False from r).elim
    | some _ => rfl
theorem RelO.getD {o : Option V} {u : Option Value} {d : V} {d' : Value} (r : RelO o u) (rd : RelV d d') : RelV (o.getD d) (u.getD d') := by
  cases o with
  | none => cases u with
    | none => exact rd
    | some _ => exact (show False from r).elim
  | some _ => cases u with
    | none => exact (show False from r).elim
    | some _ => exact r
theorem KV.val {kvs : List (κ × V)} {vs : List (κ × Value)} (r : KV kvs vs) (k : κ) : RelO (valV kvs k) (valueAt vs k) := by
  unfold KV at r
  induction r with
  | nil => exact True.intro
  | @cons p q ps qs h t ih =>
    obtain ⟨h1, h2⟩ := h
    by_cases e : p.1 = k
    · have e' : q.1 = k := h1.symm.trans e
      have b : valueAt (q :: qs) k = some q.2 := by simp [valueAt, List.find?_cons, e']
      rw [valV_pos e, b]; exact h2
    · have e' : ¬ q.1 = k := fun z => e (h1.trans z)
      have b : valueAt (q :: qs) k = valueAt qs k := by simp [valueAt, List.find?_cons, e']
      rw [valV_neg e, b]; exact ih
theorem KV.any {kvs : List (κ × V)} {vs : List (κ × Value)} (r : KV kvs vs) (k : κ) : (kvs.any fun kv => decide (kv.1 = k)) = vs.any fun kv => decide (kv.1 = k) := by
  unfold KV at r
  induction r with
  | nil => rfl
  | cons h t ih => rw [List.any_cons, List.any_cons, ih, h.1]
theorem KV.repl {kvs : List (κ × V)} {vs : List (κ × Value)} (r : KV kvs vs) (k : κ) {y : V} {u : Value} (ry : RelV y u) :
    KV (kvs.map fun kv => if kv.1 = k then (kv.1, y) else kv) (vs.map fun kv => if kv.1 = k then (kv.1, u) else kv) := by
  unfold KV at r ⊢
  induction r with
  | nil => exact .nil
  | @cons p q ps qs h t ih =>
    rw [List.map_cons, List.map_cons]
    refine .cons ?_ ih
    obtain ⟨h1, h2⟩ := h
    by_cases e : p.1 = k
    · rw [if_pos e, if_pos (h1.symm.trans e)]; exact ⟨h1, ry⟩
    · rw [if_neg e, if_neg (fun z => e (h1.trans z))]; exact ⟨h1, h2⟩
theorem KV.put {kvs : List (κ × V)} {vs : List (κ × Value)} (r : KV kvs vs) (k : κ) {y : V} {u : Value} (ry : RelV y u) : KV (putK kvs k y) (stored vs k u) := by
  unfold putK stored
  rw [r.any k]
  by_cases e : (vs.any fun kv => decide (kv.1 = k)) = true
  · rw [if_pos e, if_pos e]; exact r.repl k ry
  · rw [if_neg e, if_neg e]; exact Paired.snoc r ⟨rfl, ry⟩
theorem KV.drop {kvs : List (κ × V)} {vs : List (κ × Value)} (r : KV kvs vs) (k : κ) : KV (dropK kvs k) (without vs k) := by
  unfold KV at r ⊢
  unfold dropK without
  induction r with
  | nil => exact .nil
  | @cons p q ps qs h t ih =>
    obtain ⟨h1, h2⟩ := h
    rw [List.filter_cons, List.filter_cons]
    by_cases e : p.1 = k
    · have a : ¬ decide (p.1 ≠ k) = true := by simp [e]
      have b : ¬ decide (q.1 ≠ k) = true := by simp [h1.symm.trans e]
      rw [if_neg a, if_neg b]; exact ih
    · have e' : ¬ q.1 = k := fun z => e (h1.trans z)
      have a : decide (p.1 ≠ k) = true := by simp [e]
      have b : decide (q.1 ≠ k) = true := by simp [e']
      rw [if_pos a, if_pos b]; exact .cons ⟨h1, h2⟩ ih
theorem KV.keys {kvs : List (κ × V)} {vs : List (κ × Value)} (r : KV kvs vs) : kvs.map (·.1) = vs.map (·.1) := by
  unfold KV at r
  induction r with
  | nil => rfl
  | cons h t ih => rw [List.map_cons, List.map_cons, ih, h.1]
theorem KV.length {kvs : List (κ × V)} {vs : List (κ × Value)} (r : KV kvs vs) : kvs.length = vs.length := Paired.length r
end
theorem kV_is {P : Program} {w : World} {k : Key} {u : Value} (r : RelV (kV k) u) : (mixKind P w).is k u = true := by
  cases k with
  | inl i => obtain ⟨t, e⟩ := (show ∃ t, u = Value.int i t from r); subst e; exact mixKind_int P w i t
  | inr x => obtain ⟨t, e⟩ := (show ∃ t, u = Value.str x t from r); subst e; exact mixKind_str P w x t
theorem items_are {P : Program} {w : World} : ∀ {ks : List Key} {us : List Value}, Vals (ks.map kV) us → ItemsAre (mixKind P w) ks us
  | [], _, r => by rw [List.map_nil] at r; cases r; exact .nil
  | k :: ks, _, r => by
    rw [List.map_cons] at r
    cases r with
    | cons h t => exact .cons (kV_is h) (items_are t)
noncomputable abbrev KT (H : Hp) : List (List Key × V) → List (List Key × Addr × Value) → Prop := Paired fun p q => p.1 = q.1 ∧ H q.2.1 = some (.tup (p.1.map kV)) ∧ RelV p.2 q.2.2
theorem KT.val {H : Hp} {kvs : List (List Key × V)} {xs : List (List Key × Addr × Value)} (r : KT H kvs xs) (k : List Key) : RelO (valV kvs k) ((atKey xs k).map (·.2)) := by
  induction r with
  | nil => exact True.intro
  | @cons p q ps qs h t ih =>
    obtain ⟨h1, _, h2⟩ := h
    by_cases e : p.1 = k
    · have e' : q.1 = k := h1.symm.trans e
      have b : atKey (q :: qs) k = some q.2 := by simp [atKey, List.find?_cons, e']
      rw [valV_pos e, b]; exact h2
    · have e' : ¬ q.1 = k := fun z => e (h1.trans z)
      have b : atKey (q :: qs) k = atKey qs k := by simp [atKey, List.find?_cons, e']
      rw [valV_neg e, b]; exact ih
theorem KT.repl {H : Hp} {kvs : List (List Key × V)} {xs : List (List Key × Addr × Value)} (r : KT H kvs xs) (k : List Key) {y : V} {u : Value} (ry : RelV y u) :
    KT H (kvs.map fun kv => if kv.1 = k then (kv.1, y) else kv) (xs.map (putAt k u)) := by
  induction r with
  | nil => exact .nil
  | @cons p q ps qs h t ih =>
    rw [List.map_cons, List.map_cons]
    refine .cons ?_ ih
    obtain ⟨h1, h2, h3⟩ := h
    unfold putAt
    by_cases e : p.1 = k
    · rw [if_pos e, if_pos (h1.symm.trans e)]; exact ⟨h1, h2, ry⟩
    · rw [if_neg e, if_neg (fun z => e (h1.trans z))]; exact ⟨h1, h2, h3⟩
theorem KT.put {H : Hp} {kvs : List (List Key × V)} {xs : List (List Key × Addr × Value)} (r : KT H kvs xs) (k : List Key) {b : Addr} {y : V} {u : Value} (hb : H b = some (.tup (k.map kV))) (ry : RelV y u) :
    KT H (putK kvs k y) (storedH xs k b u) := by
  have e : (kvs.any fun kv => decide (kv.1 = k)) = (atKey xs k).isSome := by
    rw [valV_any, (r.val k).isSome_eq, Option.isSome_map]
  unfold putK storedH
  rw [e]
  by_cases q : (atKey xs k).isSome = true
  · rw [if_pos q, if_pos q]; exact r.repl k ry
  · rw [if_neg q, if_neg q]; exact Paired.snoc r ⟨rfl, hb, ry⟩
theorem KT.keeps {H H' : Hp} {kvs : List (List Key × V)} {xs : List (List Key × Addr × Value)} (r : KT H kvs xs) (ht : ∀ b ys, H b = some (.tup ys) → H' b = some (.tup ys)) : KT H' kvs xs :=
  Paired.mapP r fun _ _ z => ⟨z.1, ht _ _ z.2.1, z.2.2⟩
section
variable {P : Program} {w : World} {H : Hp} {h : Heap} {a : Addr}
theorem rd_of {u : HO} (ok : HOk P w H h) (e : Rd H a u) : ObjOk P w H h a u := e.ok ok
theorem dk_rd {kvs : List (Key × V)} (ok : HOk P w H h) (e : Rd H a (.dK kvs)) : kvs.length ≤ sizeLine ∧ (a == sysModules) = false ∧ ∃ vs, KV kvs vs ∧ h.DictOf (mixKind P w) a vs :=
  show ObjOk P w H h a (.dK kvs) from rd_of ok e
theorem key_of {ks : List Key} (ok : HOk P w H h) (e : H a = some (.tup (ks.map kV))) : (tupleKind (mixKind P w)).is h ks a := by
  obtain ⟨_, its, r, o, h1, h2, n, h3⟩ := (show ObjOk P w H h a (.tup (ks.map kV)) from ok a _ e)
  exact ⟨o, its.toArray, n, h1, h2, h3, by simpa using items_are r⟩
theorem dt_rd {kvs : List (List Key × V)} (ok : HOk P w H h) (e : Rd H a (.dT kvs)) : kvs.length ≤ sizeLine ∧ (a == sysModules) = false ∧
    ∃ xs, KT H kvs xs ∧ h.DictOfH (tupleKind (mixKind P w)) a xs := by
  obtain ⟨z, y, xs, r, o, es, ep, h1, h2, h3, h4, h5⟩ := (show ObjOk P w H h a (.dT kvs) from rd_of ok e)
  refine ⟨z, y, xs, r, o, es, ep, h1, h2, h3, h4, fun x hx => ?_, h5⟩
  have all : ∀ {l : List (List Key × V)} {m : List (List Key × Addr × Value)}, KT H l m → ∀ x ∈ m, (tupleKind (mixKind P w)).is h x.1 x.2.1 := by
    intro l m q
    induction q with
    | nil => intro x hx; exact nomatch hx
    | @cons p q ps qs hq t ih =>
      intro x hx
      rcases List.mem_cons.mp hx with e | hx
      · subst e
        exact key_of ok (by rw [← hq.1]; exact hq.2.1)
      · exact ih x hx
  exact all r x hx
end
noncomputable def DGet (H : Hp) (a : Addr) (y : V) (r : Option V) : Prop :=
  (∃ kvs k, Rd H a (.dK kvs) ∧ y = kV k ∧ r = valV kvs k) ∨ ∃ kvs k b, Rd H a (.dT kvs) ∧ y = .ref b ∧ H b = some (.tup (k.map kV)) ∧ r = valV kvs k
section
variable {X : Cx} {pins : List (Addr × Obj)} {σ : St} {H : Hp} {s : Shared} {a : Addr} {y v : V} {u r : Value} {o : Option V} {A : Around} {E : Value → Shared → Prop}
theorem Inv.big (I : Inv X pins σ H s) : sysModules < s.heap.objs.size := by
  have h : mainGlobals < s.heap.objs.size := (I.mod.glob.keeps I.bk).lt
  exact Nat.lt_trans (by decide) h
theorem d_getItem {Q : Value → Shared → Prop} (hu : A.units + 1 < cLine) (I : Inv X pins σ H s) (g : DGet H a y (some v)) (ry : RelV y u) (h : ∀ w' s', Inv X pins σ H s' → RelV v w' → Q w' s') :
    wpAny (model X.prog X.w) A (getItem (.ref a) u) Q E s := by
  rcases g with ⟨kvs, k, e, ey, l⟩ | ⟨kvs, k, b, e, ey, eb, l⟩
  · subst ey
    obtain ⟨z, hd, vs, rel, dd⟩ := dk_rd I.hok e
    obtain ⟨w', hw, rw'⟩ := RelO.some_of (v := v) (o := valueAt vs k) (by rw [l]; exact rel.val k)
    exact wpAny_getItem_of (kV_is ry) dd.mapOf hw (h w' _ (I.tok _) rw')
  · subst ey
    cases (show u = Value.ref b from ry)
    obtain ⟨z, hd, xs, rel, dd⟩ := dt_rd I.hok e
    obtain ⟨w', hw, rw'⟩ := RelO.some_of (v := v) (o := (atKey xs k).map (·.2)) (by rw [l]; exact rel.val k)
    obtain ⟨p, hp, hp2⟩ := Option.map_eq_some_iff.mp hw
    refine wpAny_getItem_heap (tupleKind_room_in1 hu) (key_of I.hok eb) dd hp ?_
    rw [hp2]
    exact h w' _ (I.tok _) rw'
theorem d_in {Q : Value → Shared → Prop} (hu : A.units + 1 < cLine) (I : Inv X pins σ H s) (g : DGet H a y o) (ry : RelV y u) (h : ∀ s', Inv X pins σ H s' → Q (.bool o.isSome) s') :
    wpAny (model X.prog X.w) A (compareOp .In u (.ref a)) Q E s := by
  rcases g with ⟨kvs, k, e, ey, l⟩ | ⟨kvs, k, b, e, ey, eb, l⟩
  · subst ey
    obtain ⟨z, hd, vs, rel, dd⟩ := dk_rd I.hok e
    refine wpAny_in_of (kV_is ry) hd dd.mapOf ?_
    rw [← (rel.val k).isSome_eq, ← l]
    exact h _ (I.tok _)
  · subst ey
    cases (show u = Value.ref b from ry)
    obtain ⟨z, hd, xs, rel, dd⟩ := dt_rd I.hok e
    refine wpAny_in_heap (tupleKind_room_in1 hu) (key_of I.hok eb) hd dd ?_
    have q := (rel.val k).isSome_eq
    rw [Option.isSome_map] at q
    rw [← q, ← l]
    exact h _ (I.tok _)
theorem d_notIn {Q : Value → Shared → Prop} (hu : A.units + 1 < cLine) (I : Inv X pins σ H s) (g : DGet H a y o) (ry : RelV y u) (h : ∀ s', Inv X pins σ H s' → Q (.bool (!o.isSome)) s') :
    wpAny (model X.prog X.w) A (compareOp .NotIn u (.ref a)) Q E s := by
  rcases g with ⟨kvs, k, e, ey, l⟩ | ⟨kvs, k, b, e, ey, eb, l⟩
  · subst ey
    obtain ⟨z, hd, vs, rel, dd⟩ := dk_rd I.hok e
    refine wpAny_notIn_of (kV_is ry) hd dd.mapOf ?_
    rw [← (rel.val k).isSome_eq, ← l]
    exact h _ (I.tok _)
  · subst ey
    cases (show u = Value.ref b from ry)
    obtain ⟨z, hd, xs, rel, dd⟩ := dt_rd I.hok e
    refine wpAny_notIn_heap (tupleKind_room_in1 hu) (key_of I.hok eb) hd dd ?_
    have q := (rel.val k).isSome_eq
    rw [Option.isSome_map] at q
    rw [← q, ← l]
    exact h _ (I.tok _)
theorem dk_new {P : Program} {w : World} {H' : Hp} {h' : Heap} {kvs : List (Key × V)} {vs : List (Key × Value)} (z : kvs.length ≤ sizeLine) (hd : (a == sysModules) = false) (rel : KV kvs vs) (dd : h'.DictOf (mixKind P w) a vs) :
    ObjOk P w H' h' a (.dK kvs) := ⟨z, hd, vs, rel, dd⟩
end
section
variable {X : Cx} {pins : List (Addr × Obj)} {σ : St} {H : Hp} {s : Shared} {a : Addr} {kvs : List (Key × V)} {k : Key} {u : Value} {A : Around} {E : Value → Shared → Prop}
end
theorem dict_typeIs {X : Cx} {pins : List (Addr × Obj)} {σ : St} {H : Hp} {s : Shared} {a : Addr} {y : V} {o : Option V} (I : Inv X pins σ H s) (g : DGet H a y o) : s.TypeIs (.ref a) "dict" := by
  rcases g with ⟨kvs, k, e, _, _⟩ | ⟨kvs, k, b, e, _, _, _⟩
  · obtain ⟨_, _, vs, _, dd⟩ := dk_rd I.hok e
    exact dd.typeIs
  · obtain ⟨_, _, xs, _, dd⟩ := dt_rd I.hok e
    exact dd.typeIs
section
variable {X : Cx} {o i e value : Expr} {pos pos' tpos : Pos} {td ty tv : TE}
end
section
variable {X : Cx} {pos : Pos}
end
structure M1 (X : Cx) (o : Expr) (m : Str) (apos : Pos) (e : Expr) (cpos : Pos) : Prop where
  base : attributeBase o m X.env (eval o X.env) = eval o X.env
  few : ((backTo cpos (starEach [e] X.env)).all (fun x => !x.1) && (backToKw cpos (keywordEach [] X.env)).all (fun x => x.1.isSome)
    && decide (([e] : List Expr).length + ([] : List Keyword).length + (if ([] : List Keyword).isEmpty then 0 else 1) < 30)) = true
  line : (apos.endLine == cpos.line) = true
  trees : backTo cpos (starEach [e] X.env) = [(false, eval e X.env)]
structure M2 (X : Cx) (o : Expr) (m : Str) (apos : Pos) (e f : Expr) (cpos : Pos) : Prop where
  base : attributeBase o m X.env (eval o X.env) = eval o X.env
  few : ((backTo cpos (starEach [e, f] X.env)).all (fun x => !x.1) && (backToKw cpos (keywordEach [] X.env)).all (fun x => x.1.isSome)
    && decide (([e, f] : List Expr).length + ([] : List Keyword).length + (if ([] : List Keyword).isEmpty then 0 else 1) < 30)) = true
  line : (apos.endLine == cpos.line) = true
  trees : backTo cpos (starEach [e, f] X.env) = [(false, eval e X.env), (false, eval f X.env)]
section
variable {X : Cx} {pins : List (Addr × Obj)} {σ : St} {H : Hp} {s : Shared} {a : Addr} {y d : V} {u r : Value} {o : Option V} {A : Around} {E : Value → Shared → Prop}
end
section
variable {X : Cx} {o e f : Expr} {apos cpos : Pos} {td ty tx : TE}
end
section
variable {X : Cx} {pins : List (Addr × Obj)} {σ : St} {H : Hp} {s : Shared} {a : Addr} {kvs : List (Key × V)} {A : Around} {E : Value → Shared → Prop}
end
section
variable {X : Cx} {pins : List (Addr × Obj)} {σ : St} {H : Hp} {s : Shared} {a : Addr} {y : V} {u : Value} {A : Around} {E : Value → Shared → Prop}
end
end _L2
set_option Elab.async false
set_option linter.all false
set_option maxRecDepth 100000
set_option maxHeartbeats 4000000
namespace _L2
open PySem PySem.Spec PyProof.Rows
noncomputable def lookS (kvs : List (Str × V)) (z : Str) : Option V := (kvs.find? fun p => decide (p.1 = z)).map (·.2)
noncomputable def EntV (p : Str × V) (e : DictEntry) : Prop := (∃ t, e.key = .str p.1 t) ∧ RelV p.2 e.val
structure MD (K : PySem.W.Frag) (W : World) (a : Addr) (kvs : List (Str × V)) : Prop where
  ex : ∃ (es : Array DictEntry) (m : Nat), K.lookup a = some ⟨.type "dict", none, .dict es m, #[]⟩ ∧ PySem.W.KeysLit W.params es.toList ∧ Paired EntV kvs es.toList
  lo : (a == sysModules) = false
theorem ent_find (z : Str) : ∀ {kvs : List (Str × V)} {l : List DictEntry}, Paired EntV kvs l → RelO (lookS kvs z) ((l.find? fun e => Value.isStrOf z e.key).map (·.val))
  | _, _, .nil => True.intro
  | p :: kvs, e :: l, .cons h t => by
    obtain ⟨⟨tk, hk⟩, hv⟩ := h
    have e1 : Value.isStrOf z e.key = decide (p.1 = z) := by rw [hk]; rfl
    by_cases c : p.1 = z
    · have a1 : lookS (p :: kvs) z = some p.2 := by simp [lookS, List.find?_cons, c]
      have a2 : ((e :: l).find? fun e => Value.isStrOf z e.key) = some e := by rw [List.find?_cons, e1, decide_eq_true c]
      rw [a1, a2]
      exact hv
    · have a1 : lookS (p :: kvs) z = lookS kvs z := by simp [lookS, List.find?_cons, c]
      have a2 : ((e :: l).find? fun e => Value.isStrOf z e.key) = l.find? fun e => Value.isStrOf z e.key := by rw [List.find?_cons, e1, decide_eq_false c]
      rw [a1, a2]
      exact ent_find z t
section
variable {X : Cx} {pins : List (Addr × Obj)} {σ : _L2.St} {H : Hp} {s : Shared} {a : Addr} {kvs : List (Str × V)}
theorem MD.map (I : Inv X pins σ H s) (h : MD X.K X.w a kvs) : ∃ f : Str → Option Value, s.heap.MapOf (strKind X.prog X.w) a f ∧ ∀ z, RelO (lookS kvs z) (f z) := by
  obtain ⟨⟨es, m, hl, hk, hp⟩, _⟩ := h
  refine ⟨_, PySem.W.mapOf_K (prog := X.prog) I.kIn hl hk, fun z => ?_⟩
  obtain ⟨l⟩ := es
  show RelO (lookS kvs z) ((Array.find? (fun e => Value.isStrOf z e.key) l.toArray).map (·.val))
  rw [List.find?_toArray]
  exact ent_find z hp
theorem MD.ty (I : Inv X pins σ H s) (h : MD X.K X.w a kvs) : s.TypeIs (.ref a) "dict" ∧ ∀ b, Value.ref a = .ref b → ∃ ob, s.heap.get? b = some ob ∧ ob.dict = none := by
  obtain ⟨⟨es, m, hl, _⟩, _⟩ := h
  have g := I.kIn _ _ hl
  refine ⟨⟨_, g, rfl⟩, fun b q => ?_⟩
  cases q
  exact ⟨_, g, rfl⟩
end
section
variable {X : Cx}
noncomputable def rMdIx (K : PySem.W.Frag) (W : World) : R2 := fun x y H Q => ∃ a kvs z v, x = .ref a ∧ y = .str z ∧ MD K W a kvs ∧ lookS kvs z = some v ∧ Q v H
theorem ix_md : IxR X (rMdIx X.K X.w) := by
  intro value slice pins s σ H x y v u Q I rx ry h hs
  obtain ⟨a, kvs, z, r, rfl, rfl, hm, hl, q⟩ := h
  cases rx
  obtain ⟨t, rfl⟩ := ry
  obtain ⟨f, hf, hr⟩ := hm.map I
  have hz := hr z
  rw [hl] at hz
  cases e : f z with
  | none => rw [e] at hz; exact hz.elim
  | some w =>
    rw [e] at hz
    exact tail_any hf.typeIs slot_dict_getitem.lookup (wpAny_getItem_of (strKind_is X.prog X.w z t) hf e ⟨r, H, I.tok _, hz, q⟩) hs
noncomputable def rMdIn (K : PySem.W.Frag) (W : World) (neg : Bool) : R2 := fun x y H Q => ∃ a kvs z, y = .ref a ∧ x = .str z ∧ MD K W a kvs ∧ Q (.bl (if neg then !(lookS kvs z).isSome else (lookS kvs z).isSome)) H
theorem op_mdIn : OpR X (compareOp .In) (rMdIn X.K X.w false) := by
  intro pins s σ H x y v u Q I rx ry h
  obtain ⟨a, kvs, z, rfl, rfl, hm, q⟩ := h
  cases ry
  obtain ⟨t, rfl⟩ := rx
  obtain ⟨f, hf, hr⟩ := hm.map I
  refine wpAny_in_of (strKind_is X.prog X.w z t) hm.lo hf ⟨.bl (f z).isSome, H, I.tok _, rfl, ?_⟩
  rw [← (hr z).isSome_eq]
  exact q
theorem op_mdNotIn : OpR X (compareOp .NotIn) (rMdIn X.K X.w true) := by
  intro pins s σ H x y v u Q I rx ry h
  obtain ⟨a, kvs, z, rfl, rfl, hm, q⟩ := h
  cases ry
  obtain ⟨t, rfl⟩ := rx
  obtain ⟨f, hf, hr⟩ := hm.map I
  refine wpAny_notIn_of (strKind_is X.prog X.w z t) hm.lo hf ⟨.bl (!(f z).isSome), H, I.tok _, rfl, ?_⟩
  rw [← (hr z).isSome_eq]
  exact q
noncomputable def tMdGet (K : PySem.W.Frag) (W : World) (td ty tx : TE) : TE := fun σ H Q => td σ H fun x H1 => ∃ a kvs, x = .ref a ∧ MD K W a kvs ∧ ty σ H1 fun y H2 => tx σ H2 fun d H3 => ∃ z, y = .str z ∧ Q ((lookS kvs z).getD d) H3
theorem qe_mdget {o e f : Expr} {td ty tx : TE} {apos cpos : Pos} (ho : QE X o td) (he : QE X e ty) (hf : QE X f tx) (hb : plainBase o = true := by rfl) (hst : noStars [e, f] = true := by rfl) (hline : (apos.endLine == cpos.line) = true := by rfl) :
    QE X (.Call (.Attribute o "get" apos) [e, f] [] cpos) (tMdGet X.K X.w td ty tx) := by
  have h1 := hst
  unfold noStars at h1
  simp only [List.all_cons, Bool.and_eq_true] at h1
  have htr : backTo cpos (starEach [e, f] X.env) = [(false, eval e X.env), (false, eval f X.env)] := by
    rw [star_cons h1.1, star_cons h1.2.1]
    rfl
  refine ⟨fun pins s σ H Q I h => ?_⟩
  refine wpAny_Call_method (base_ok hb) (few_ok hst (by show 1 < 28; decide)) hline PySem.F.plainAttrs_dict PySem.F.slot_dict_get PySem.F.type_dict_get (thn (ho.h pins s σ H _ I h) fun u s1 ⟨x, H1, I1, rx, a, kvs, ex, hm, q1⟩ => ?_)
  subst ex
  cases rx
  refine ⟨(hm.ty I1).1, (hm.ty I1).2, ?_⟩
  rw [htr]
  refine Calls.callWith_builtin rfl (Calls.evalArgs_plain (Calls.spliced_cons (thn (he.h pins s1 σ H1 _ I1 q1) fun iv s2 ⟨y, H2, I2, ry, q2⟩ =>
    Calls.spliced_cons (thn (hf.h pins s2 σ H2 _ I2 q2) fun fv s3 ⟨d, H3, I3, rd, z, ey, q3⟩ => Calls.spliced_nil ?_))))
  subst ey
  obtain ⟨t, rfl⟩ := ry
  obtain ⟨g, hg, hr⟩ := hm.map I3
  exact call_meetsIn PySem.F.slot_dict_get (hm.ty I3).1 PySem.F.entry_dict_get (PySem.F.args_dict_get_3 _ _ _) (meets_dict_get_default (strKind X.prog X.w) a (strKind_is X.prog X.w z t) hm.lo fv) ⟨_, hg, _, H3, I3.tok _, (hr z).getD rd, q3⟩
noncomputable def rDkIx : R2 := fun x y H Q => ∃ a v, x = .ref a ∧ DGet H a y (some v) ∧ Q v H
theorem ix_dk (hu : X.A.units + 1 < cLine) : IxR X rDkIx := by
  intro value slice pins s σ H x y v u Q I rx ry h hs
  obtain ⟨a, r, rfl, g, q⟩ := h
  cases rx
  exact tail_any (dict_typeIs I g) slot_dict_getitem.lookup (d_getItem hu I g ry fun w' s' I' rw' => ⟨r, H, I', rw', q⟩) hs
noncomputable def rDkIn (neg : Bool) : R2 := fun x y H Q => ∃ a o, y = .ref a ∧ DGet H a x o ∧ Q (.bl (if neg then !o.isSome else o.isSome)) H
theorem op_dkIn (hu : X.A.units + 1 < cLine) : OpR X (compareOp .In) (rDkIn false) := by
  intro pins s σ H x y v u Q I rx ry h
  obtain ⟨a, o, rfl, g, q⟩ := h
  cases ry
  exact d_in hu I g rx fun s' I' => ⟨.bl o.isSome, H, I', rfl, q⟩
theorem op_dkNotIn (hu : X.A.units + 1 < cLine) : OpR X (compareOp .NotIn) (rDkIn true) := by
  intro pins s σ H x y v u Q I rx ry h
  obtain ⟨a, o, rfl, g, q⟩ := h
  cases ry
  exact d_notIn hu I g rx fun s' I' => ⟨.bl (!o.isSome), H, I', rfl, q⟩
end
end _L2
set_option Elab.async false
set_option linter.all false
set_option maxRecDepth 100000
set_option maxHeartbeats 4000000
namespace _L2
open PySem PySem.Spec PyProof.Rows
noncomputable abbrev newSet3 (led : Bool) : Obj := { cls := .type "set", dict := none, data := .set #[] 0 (.fresh 0 0 led) }
section
variable {P : Program} {W : World} {B : Around} {E : Value → Shared → Prop} {s : Shared} {l : Addr} {zs : List Str} {its : List Value} {b : Bool}
theorem walks_b (hh : B.handled = none) (it l : Addr) (hne : l ≠ it) (items : Array Value) : Walks P W B it [it, l] [it] items.size (fun i v => items[i]? = some v) (fun i h => iAt b h it l i ∧ sAt b h l items) := by
  cases b
  · exact Walks.list hh it l hne items
  · exact Walks.tuple hh it l hne items
theorem set_walked {D : Addr} {led : Bool} {R : Result → Shared → Prop} (hh : B.handled = none) (hS : s.heap.get? D = some (newSet3 led)) (hl : sAt b s.heap l its.toArray) (hD : D ≠ l) (hi : Vals (zs.map V.str) its) (hb : zs.length + 1 < scanBound)
    (k : ∀ g tk, g.SetOf (strKind P W) D (fun y => decide (y ∈ ddS zs)) (ddS zs).length → (∀ c o, c ≠ D → s.heap.get? c = some o → g.get? c = some o) → R (.ok (.ret .none)) { s with heap := g, toks := tk }) :
    codeAny (model P W) B (.builtin "set.update.loop" ⟨[.ref D, .ref s.heap.objs.size], []⟩) R { s with heap := s.heap.push (newIt b l) } := by
  have hlen := hi.length
  rw [List.length_map] at hlen
  have hlt : l < s.heap.objs.size := let ⟨_, e⟩ := hl.obj; Heap.lt_size e
  have hDt : D < s.heap.objs.size := Heap.lt_size hS
  have W1 := walks_b (P := P) (W := W) (b := b) (show B.in1.handled = none by simp [hh]) s.heap.objs.size l (Nat.ne_of_lt hlt) its.toArray
  have ez : its.toArray.size = zs.length := by rw [List.size_toArray]; exact hlen.symm
  rw [ez] at W1
  refine set_loop (zs := zs) W1 D (by
      simp only [List.mem_cons, List.not_mem_nil, or_false, not_or]
      exact ⟨Nat.ne_of_lt hDt, hD⟩) (fun i v hv => ?_) hb (zs.length - 0) 0 _ rfl (Nat.zero_le _) ⟨newIt_at (Heap.get?_push_size _ rfl), sAt.keep hl fun o e => Heap.get?_push_of_some _ e⟩ ?_ fun g tk' kp hS' => k g tk' hS' fun c o hc e => kp c o hc (by simpa using Nat.ne_of_lt (Heap.lt_size e)) (Heap.get?_push_of_some _ e)
  · have hv' : its[i]? = some v := by simpa using hv
    have hi' : i < zs.length := by rw [hlen]; exact (List.getElem?_eq_some_iff.mp hv').1
    obtain ⟨u', hu, t, ru⟩ := hi.get (i := i) (x := V.str zs[i]) (by simp [hi'])
    rw [hv'] at hu
    cases hu
    exact ⟨zs[i], t, by simp [hi'], ru⟩
  · have q := (PyProof.Rows.setObjOf_fresh (knd := strKind P W) led).setOf (Heap.get?_push_of_some (newIt b l) hS) (by unfold scanBound; omega)
    have ef : (fun y => decide (y ∈ ddS (zs.take 0))) = fun _ => false := by
      funext y
      simp [ddS]
    rw [ef]
    exact q
theorem set_filled {D : Addr} {led : Bool} {Q : Fin → Shared → Prop} (hh : B.handled = none) (hS : s.heap.get? D = some (newSet3 led)) (hl : sAt b s.heap l its.toArray) (hD : D ≠ l) (hi : Vals (zs.map V.str) its) (hb : zs.length + 1 < scanBound)
    (k : ∀ g tk, g.SetOf (strKind P W) D (fun y => decide (y ∈ ddS zs)) (ddS zs).length → (∀ c o, c ≠ D → s.heap.get? c = some o → g.get? c = some o) → Q (.done (.ret .none)) { s with heap := g, toks := tk }) :
    wpAny (model P W) B (Builtin.«set.__init__» ⟨[.ref D, .ref l], []⟩) Q E s := by
  obtain ⟨hp, g0, dr, tk, os⟩ := s
  have hT : (⟨hp, g0, dr, tk, os⟩ : Shared).TypeIs (.ref D) "set" := ⟨_, hS, rfl⟩
  have fin : wpAny (model P W) B (runValue (.builtin "set.update.loop" ⟨[.ref D, .ref hp.objs.size], []⟩)) (fun _ s' => Q (.done (.ret .none)) s') E ⟨hp.push (newIt b l), g0, dr, tk, os⟩ :=
    wpAny_runValue (set_walked (s := ⟨hp, g0, dr, tk, os⟩) (B := B) hh hS hl hD hi hb fun g tk' hS' kp => k g tk' hS' kp)
  have hl0 := hl
  cases b
  all_goals
    obtain ⟨⟨c, dd, dt, sl⟩, hol, hc, n, hd⟩ := hl
    cases hc
    cases hd
    have f1 := F.sub_list_set
    have f2 := F.sub_list_frozenset
    have f3 : (Value.type "list" == Value.type "dict") = false := by decide
    have f4 := F.sub_tuple_set
    have f5 := F.sub_tuple_frozenset
    have f6 : (Value.type "tuple" == Value.type "dict") = false := by decide
    unfold Builtin.«set.__init__» noKeywords Builtin.Frozenset.updateFrom
    generalize hPI : pyIter = PI
    wp_walk
    subst hPI
    exact iter_b hl0 (wpAny_bind (wpAny_mono fin (fun _ s' q => wpAny_pure (wpAny_pure q)) fun _ _ e => e))
theorem set_called {Q : Value → Shared → Prop} (hh : B.handled = none) (hl : sAt b s.heap l its.toArray) (hi : Vals (zs.map V.str) its) (hb : zs.length + 1 < scanBound)
    (k : ∀ (g : Heap) (tk : Nat), g.SetOf (strKind P W) s.heap.objs.size (fun y => decide (y ∈ ddS zs)) (ddS zs).length → (∀ c o, s.heap.get? c = some o → g.get? c = some o) → Q (.ref s.heap.objs.size) { s with heap := g, toks := tk }) :
    wpAny (model P W) B (call (.type "set") [.ref l]) Q E s := by
  have hlt : l < s.heap.objs.size := let ⟨_, e⟩ := hl.obj; Heap.lt_size e
  obtain ⟨c, tl, g1⟩ := F.called_set.mro
  have g2 := F.called_set.made
  have g3 := F.called_set.sub
  have g4 := F.called_set.notType
  have g5 := F.called_set.canCreate
  have g6 := F.typeCall_set_1 (.ref l)
  have body : ∀ (led : Bool) (C : Around), C.handled = none → codeAny (model P W) C (.call (.builtin "set.__init__") ⟨[.ref s.heap.objs.size, .ref l], []⟩) (wants (fun r s2 => r = .none ∧ Q (.ref s.heap.objs.size) s2) E) { s with heap := s.heap.push (newSet3 led) }   := fun led C hC => by
    have hS : (s.heap.push (newSet3 led)).get? s.heap.objs.size = some (newSet3 led) := Heap.get?_push_size _ rfl
    refine codeAny_call_builtin F.called_set.init.plain F.entry_set_init (check_set_init_1 (s := { s with heap := s.heap.push (newSet3 led) }) ⟨_, hS, rfl⟩ ?_)
    exact set_filled (s := { s with heap := s.heap.push (newSet3 led) }) (by simp [hC]) hS (sAt.keep hl fun o e => Heap.get?_push_of_some _ e) (Nat.ne_of_gt hlt) hi hb fun g tk hS' kp => ⟨rfl, k g tk hS' fun c o e => kp c o (Nat.ne_of_lt (Heap.lt_size e)) (Heap.get?_push_of_some _ e)⟩
  refine wpAny_call (codeAny_of_tree ?_)
  show wpAny _ _ (callAny (.type "set") ⟨[.ref l], []⟩) _ _ _
  refine wpAny_pure ⟨Code.quiet_builtin _ (by decide +kernel), codeAny_builtin F.entry_type_call ?_⟩
  rw [Around.under_plain (weight_type_call_type "set" [.ref l] []) rfl]
  wp_walk
  refine codeAny_mono (code_set_new_1 (.ref l) (E := E) (Q₁ := fun x s1 => ∃ led, x = .ref s.heap.objs.size ∧ s1 = { s with heap := s.heap.push (newSet3 led) }) fun led => ⟨led, rfl, rfl⟩) fun r s1 hr => ?_
  match r, hr with
  | .error e, hr => exact hr
  | .ok (.ret x), hr =>
    obtain ⟨led, rfl, rfl⟩ := hr
    have hS : (s.heap.push (newSet3 led)).get? s.heap.objs.size = some (newSet3 led) := Heap.get?_push_size _ rfl
    have hT : Shared.TypeIs { s with heap := s.heap.push (newSet3 led) } (.ref s.heap.objs.size) "set" := ⟨_, hS, rfl⟩
    have i1 := F.called_set.init.lookup
    have i2 := F.called_set.init.bind (.ref s.heap.objs.size)
    wp_walk
    refine codeAny_mono (body led _ (by simp [hh])) fun r2 s2 hr2 => ?_
    match r2, hr2 with
    | .error e, hr2 => exact hr2
    | .ok (.ret y), hr2 =>
      obtain ⟨rfl, q⟩ := hr2
      wp_walk
      exact q
end
section
variable {X : Cx}
noncomputable def rSet3 (K : PySem.W.Frag) (P : Program) (w : World) : List V → Hp → VK → Prop := fun xs H Q => ∃ (p : Addr) (ys : List Str), xs = [.ref p] ∧ (SqL K H p (ys.map V.str) ∨ SqT K H p (ys.map V.str)) ∧ ys.length ≤ 1000 ∧ ∀ l, H l = none → Q (.ref l) (upd H l (SetN P w l (ddS ys).length))
theorem call_set3 (hc : X.calm = true) : CallR X (.type "set") (rSet3 X.K X.prog X.w) := by
  intro pins s σ H xs us Q I r h
  obtain ⟨p, ys, rfl, hq, hz, q⟩ := h
  obtain ⟨u, rfl, rx⟩ := vals1 r
  cases rx
  have fin : ∀ (b : Bool) (its : List Value), Vals (ys.map V.str) its → sAt b s.heap p its.toArray → wpAny (model X.prog X.w) X.A (call (.type "set") [.ref p]) (EP X pins σ Q) X.xe s := fun b its rv pl => by
    refine set_called (I.ok.hd hc) pl rv (by unfold scanBound; omega) fun h' tk hS kp => ?_
    refine ⟨.ref s.heap.objs.size, _, I.laid (t' := tk) (o := SetN X.prog X.w s.heap.objs.size (ddS ys).length) kp (Nat.le_refl _) ⟨⟨_, hS⟩, ?_, ?_⟩, rfl, q _ I.fresh⟩
    · obtain ⟨o, _, _, _, ho, _⟩ := hS
      exact ⟨o, ho⟩
    · rintro g1 g2 ⟨S, o, es, ep, t, ho, rest⟩ k
      exact ⟨S, o, es, ep, t, k o ho, rest⟩
  rcases hq with hq | hq
  · obtain ⟨its, rv, pl, _⟩ := I.list hq
    exact fin false its rv pl.isList
  · obtain ⟨its, rv, pl, _⟩ := I.tuple hq
    exact fin true its rv pl
noncomputable def rLenSet (K : PySem.W.Frag) (P : Program) (w : World) : List V → Hp → VK → Prop := fun vs H Q => rSet3 K P w vs H fun x H2 => ∃ (p : Addr) (n : Nat), [x] = [.ref p] ∧ H2 p = some (SetN P w p n) ∧ n ≤ 1000 ∧ Q (.int n) H2
theorem pe_lenSet {a : Expr} {ta : TA} {p1 p2 p3 p4 : Pos} (hc : X.calm = true) (hg1 : okGl X.env.scope "len" = true) (hm1 : X.mg "len" = none) (hg2 : okGl X.env.scope "set" = true) (hm2 : X.mg "set" = none) (ha : PA X [a] ta) (hs : notStar a = true) :
    PE X (.Call (.Name "len" p1) [.Call (.Name "set" p2) [a] [] p3] [] p4) (fun σ H Q => ta σ H fun vs H1 => rLenSet X.K X.prog X.w vs H1 Q) := by
  have h1 := (qe_callTy (call_set3 hc) hg2 hm2 bt_set ⟨ha⟩ (by unfold noStars; simp [hs]) : QE X (.Call (.Name "set" p2) [a] [] p3) _)
  have h2 := (qe_callB call_len_setN hg1 hm1 bt_len (qa_cons h1 qa_nil) : QE X (.Call (.Name "len" p1) [.Call (.Name "set" p2) [a] [] p3] [] p4) _)
  exact h2.h
end
end _L2
set_option Elab.async false
set_option linter.all false
set_option maxRecDepth 100000
set_option maxHeartbeats 4000000
namespace _L2
open PySem PySem.Spec PyProof.Rows
section
variable {prog : Program} {w : World} {A : Around} {E : Value → Shared → Prop} {s : Shared}
theorem alive_at {M : Model} {a : Addr} {o : Obj} {Q : Option Obj → Shared → Prop} (ho : s.heap.get? a = some o) (q : Q (some o) s) : wpAny M A (loadIfAlive a) Q E s := fun Γ p _ => by
  unfold loadIfAlive
  rw [Sem.wp_loadIfAlive, ho]
  exact q
noncomputable def ZipT (h : Heap) (z TI TO : Addr) : Prop := ∃ (T : Addr) (fl : Bool) (o : Obj), T ≠ z ∧ h.get? z = some { cls := .type "zip", dict := none, data := .fields #[rawInt T, .bool fl, .bool false, .ref TI, .ref TO], slots := #[] } ∧ h.get? T = some o
noncomputable def ZipS (h : Heap) (z TI TO : Addr) : Prop := IsZip h z TI TO .none ∨ ZipT h z TI TO
theorem zip_busy {z TI TO : Addr} {Q : Bool → Shared → Prop} (h : ZipT s.heap z TI TO) (q : ∀ h', ZipT h' z TI TO → (∀ c o, c ≠ z → s.heap.get? c = some o → h'.get? c = some o) → h'.objs.size = s.heap.objs.size → Q false { s with heap := h' }) :
    wpAny (model prog w) A (Builtin.SmallTypes.ownedTupleIsFree (.ref z)) Q E s := by
  obtain ⟨T, fl, o, hne, hz, hT⟩ := h
  unfold Builtin.SmallTypes.ownedTupleIsFree
  refine wpAny_bind (wpAny_field hz rfl (x := rawInt T) rfl ?_)
  show wpAny _ _ (loadIfAlive (T : Int).toNat >>= _) _ _ _
  rw [Int.toNat_natCast]
  refine wpAny_bind (alive_at hT ?_)
  show wpAny _ _ (field (.ref z) 1 >>= _) _ _ _
  refine wpAny_bind (wpAny_field hz rfl (x := .bool fl) rfl ?_)
  cases fl with
  | true => exact wpAny_pure (q s.heap ⟨T, true, o, hne, hz, hT⟩ (fun _ _ _ e => e) rfl)
  | false =>
    refine wpAny_bind ?_
    show wpAny _ _ (setField (.ref z) 1 (.bool true)) _ _ _
    exact wpAny_setField_rec hz (by simp) fun h' hz' kz => wpAny_pure (q h' ⟨T, true, o, hne, hz', kz.extBut _ _ hne hT⟩ (fun c o n e => kz.extBut _ _ n e) kz.1)
theorem zt_item {b1 b2 : Bool} {z TI TO i1 i2 l1 l2 : Addr} {i : Nat} {xs ys : Array Value} {x y : Value} {Q : Option Value → Shared → Prop} (D : ZipApart z TI TO i1 i2 l1 l2)
    (oz : ZipT s.heap z TI TO) (oi : IsPair s.heap TI (.ref i1) (.ref i2)) (a1 : iAt b1 s.heap i1 l1 i) (a2 : iAt b2 s.heap i2 l2 i) (s1 : sAt b1 s.heap l1 xs) (s2 : sAt b2 s.heap l2 ys) (ex : xs[i]? = some x) (ey : ys[i]? = some y)
    (q : ∀ h', ZipT h' z TI TO → iAt b1 h' i1 l1 (i + 1) → iAt b2 h' i2 l2 (i + 1) → IsPair h' s.heap.objs.size x y →
      (∀ c o, c ≠ z → c ≠ i1 → c ≠ i2 → s.heap.get? c = some o → h'.get? c = some o) → Q (some (.ref s.heap.objs.size)) { s with heap := h' }) :
    wpAny (model prog w) A (pyNext (.ref z)) Q E s := by
  obtain ⟨T, fl, oT, hne, hz, hT⟩ := id oz
  have ty : s.TypeIs (.ref z) "zip" := ⟨_, hz, rfl⟩
  unfold pyNext
  refine wpAny_bind (wpAny_attempt (wpAny_callSpecial?_slot (name := Str.ofString "__next__") ty F.slot_zip_next (wpAny_call_entry F.slot_zip_next ty F.entry_zip_next ?_ (F.args_zip_next_1 _))))
  have fin : ∀ (w1 : Value) (t : Shared), Q (some w1) t → wpAny (model prog w) A (pure (some w1)) Q E t := fun _ _ z => wpAny_pure z
  change wpAny _ _ (field (.ref z) 2 >>= _) _ _ _
  refine wpAny_bind (wpAny_field hz rfl (x := .bool false) rfl ?_)
  change wpAny _ _ (field (.ref z) 3 >>= _) _ _ _
  refine wpAny_bind (wpAny_field hz rfl (x := .ref TI) rfl (wpAny_bind (wpAny_seqItems oi rfl ?_)))
  change wpAny _ _ (Builtin.SmallTypes.ownedTupleIsFree (.ref z) >>= _) _ _ _
  refine wpAny_bind (zip_busy oz fun hA zA kA nA => ?_)
  rw [if_neg Bool.false_ne_true]
  have a1A : iAt b1 hA i1 l1 i := a1.keep fun o e => kA _ _ D.i1z e
  have a2A : iAt b2 hA i2 l2 i := a2.keep fun o e => kA _ _ D.i2z e
  have s1A : sAt b1 hA l1 xs := s1.keep fun o e => kA _ _ D.l1z e
  have s2A : sAt b2 hA l2 ys := s2.keep fun o e => kA _ _ D.l2z e
  simp only [List.forIn_toArray, List.forIn_cons, List.forIn_nil]
  refine wpAny_bind (wpAny_bind (wpAny_bind (wpAny_holding ?_)))
  change wpAny _ _ (Builtin.SmallTypes.nextOf (.ref i1) >>= _) _ _ _
  refine wpAny_bind (nx_b a1A s1A ex fun hB a1B kB => wpAny_pure (wpAny_pure ?_))
  have a2B : iAt b2 hB i2 l2 i := a2A.keep fun o e => kB.extBut _ _ D.i12.symm e
  have s2B : sAt b2 hB l2 ys := s2A.keep fun o e => kB.extBut _ _ D.l2i1 e
  refine wpAny_bind (wpAny_bind (wpAny_holding ?_))
  change wpAny _ _ (Builtin.SmallTypes.nextOf (.ref i2) >>= _) _ _ _
  refine wpAny_bind (nx_b a2B s2B ey fun hC a2C kC => wpAny_pure (wpAny_pure (wpAny_pure ?_)))
  refine wpAny_bind (wpAny_newTuple ?_ (by show 2 ≤ sizeLine; decide))
  have nC : hC.objs.size = s.heap.objs.size := by rw [kC.1, kB.1, nA]
  have kAC : ∀ c o, c ≠ i1 → c ≠ i2 → hA.get? c = some o → hC.get? c = some o := fun c o c1 c2 e => kC.extBut _ _ c2 (kB.extBut _ _ c1 e)
  refine wpAny_pure ⟨_, rfl, fin _ _ ?_⟩
  change Q (some (.ref hC.objs.size)) { s with heap := hC.push { cls := .type "tuple", data := .seq #[x, y] } }
  have new : (hC.push { cls := .type "tuple", data := .seq #[x, y] }).get? hC.objs.size = some { cls := .type "tuple", data := .seq #[x, y] } := Heap.get?_push_size _ rfl
  rw [nC] at new ⊢
  have up : ∀ c o, hC.get? c = some o → (hC.push { cls := .type "tuple", data := .seq #[x, y] }).get? c = some o := fun c o e => Heap.get?_push_of_some _ e
  obtain ⟨T', fl', o', hne', hz', hT'⟩ := zA
  refine q _ ?_ ((a1B.keep fun o e => kC.extBut _ _ D.i12 e).keep fun o e => up _ _ e) (a2C.keep fun o e => up _ _ e) new fun c o c1 c2 c3 e => up _ _ (kAC _ _ c2 c3 (kA _ _ c1 e))
  have zC := up _ _ (kAC _ _ D.i1z.symm D.i2z.symm hz')
  by_cases e1 : T' = i1
  · obtain ⟨o1, ho1, _⟩ := ((a1B.keep fun o e => kC.extBut _ _ D.i12 e).keep fun o e => up _ _ e).obj
    exact ⟨T', fl', o1, hne', zC, by rw [e1]; exact ho1⟩
  · by_cases e2 : T' = i2
    · obtain ⟨o2, ho2, _⟩ := (a2C.keep fun o e => up _ _ e).obj
      exact ⟨T', fl', o2, hne', zC, by rw [e2]; exact ho2⟩
    · exact ⟨T', fl', o', hne', zC, up _ _ (kAC _ _ e1 e2 hT')⟩
theorem zt_end {b1 b2 : Bool} {z TI TO i1 i2 l1 l2 : Addr} {i : Nat} {xs ys : Array Value} {Q : Option Value → Shared → Prop} (hh : A.handled = none) (D : ZipApart z TI TO i1 i2 l1 l2)
    (oz : ZipT s.heap z TI TO) (oi : IsPair s.heap TI (.ref i1) (.ref i2)) (a1 : iAt b1 s.heap i1 l1 i) (a2 : iAt b2 s.heap i2 l2 i) (s1 : sAt b1 s.heap l1 xs) (s2 : sAt b2 s.heap l2 ys) (ex : xs[i]? = none)
    (q : ∀ h', (∀ c o, c ≠ z → c ≠ i1 → c ≠ i2 → s.heap.get? c = some o → h'.get? c = some o) → Q none { s with heap := h' }) :
    wpAny (model prog w) A (pyNext (.ref z)) Q E s := by
  obtain ⟨T, fl, oT, hne, hz, hT⟩ := id oz
  have ty : s.TypeIs (.ref z) "zip" := ⟨_, hz, rfl⟩
  have hh1 : A.in1.handled = none := hh
  unfold pyNext
  refine wpAny_bind (wpAny_attempt (wpAny_callSpecial?_slot (name := Str.ofString "__next__") ty F.slot_zip_next (wpAny_call_entry F.slot_zip_next ty F.entry_zip_next ?_ (F.args_zip_next_1 _))))
  change wpAny _ _ (field (.ref z) 2 >>= _) _ _ _
  refine wpAny_bind (wpAny_field hz rfl (x := .bool false) rfl ?_)
  change wpAny _ _ (field (.ref z) 3 >>= _) _ _ _
  refine wpAny_bind (wpAny_field hz rfl (x := .ref TI) rfl (wpAny_bind (wpAny_seqItems oi rfl ?_)))
  change wpAny _ _ (Builtin.SmallTypes.ownedTupleIsFree (.ref z) >>= _) _ _ _
  refine wpAny_bind (zip_busy oz fun hA zA kA nA => ?_)
  rw [if_neg Bool.false_ne_true]
  have a1A : iAt b1 hA i1 l1 i := a1.keep fun o e => kA _ _ D.i1z e
  have s1A : sAt b1 hA l1 xs := s1.keep fun o e => kA _ _ D.l1z e
  simp only [List.forIn_toArray, List.forIn_cons, List.forIn_nil]
  refine wpAny_bind (wpAny_bind (wpAny_bind (wpAny_holding ?_)))
  change wpAny _ _ (Builtin.SmallTypes.nextOf (.ref i1) >>= _) _ _ _
  refine wpAny_bind (nx_b_end hh1 a1A s1A ex fun hX e kX he => ?_)
  obtain ⟨o, ho, hc⟩ := he
  exact wpAny_bind (wpAny_isInstance (T := "StopIteration") (b := true) ⟨o, ho, hc⟩ isSubtype_stop (wpAny_pure (q _ fun c o c1 c2 _ e => kX _ _ c2 (kA _ _ c1 e))))
end
theorem zip_keys : typeLookup (.type "zip") "keys" = pure none := am_miss_of_fast (by kernel_rfl)
theorem zip_hook : typeLookup (.type "zip") "__getattr__" = pure none := am_miss_of_fast (by kernel_rfl)
theorem zip_ga : entryFor table "zip.__getattribute__" = some Builtin.«object.__getattribute__» := entryFor_alias (id' := "object.__getattribute__") (by kernel_rfl) (by decide +kernel) (by decide +kernel) (by kernel_rfl)
section
variable {prog : Program} {w : World} {A : Around} {E : Value → Shared → Prop} {s : Shared} {z : Addr} {vs : Array Value}
theorem zip_miss {u : Tok} {Q : PySem.Fin → Shared → Prop} (hz : s.heap.get? z = some { cls := .type "zip", dict := none, data := .fields vs, slots := #[] }) (hh : A.handled = none)
    (q : ∀ h' tk e, Heap.NewAttrErr s.heap h' e (.ref z) "keys" → E (.ref e) { s with heap := h', toks := tk }) : wpAny (model prog w) A (Builtin.«object.__getattribute__» ⟨[.ref z, .str "keys" u], []⟩) Q E s := by
  obtain ⟨hp, g, d, tk, os⟩ := s
  have hT : (⟨hp, g, d, tk, os⟩ : Shared).TypeIs (.ref z) "zip" := ⟨_, hz, rfl⟩
  have f1 := zip_keys
  unfold Builtin.«object.__getattribute__»
  wp_walk
  exact wpAny_raiseAttrError hh q (attrMsg_fits (by decide +kernel) (by size_fits))
theorem zip_nokeys {Q : Option Value → Shared → Prop} (hz : s.heap.get? z = some { cls := .type "zip", dict := none, data := .fields vs, slots := #[] }) (hh : A.handled = none)
    (q : ∀ h' tk, (∀ b o, s.heap.get? b = some o → h'.get? b = some o) → Q none { s with heap := h', toks := tk }) : wpAny (model prog w) A (getAttr? (.ref z) "keys") Q E s := by
  obtain ⟨hp, g, d, tk, os⟩ := s
  have t0 : (⟨hp, g, d, tk, os⟩ : Shared).TypeIs (.ref z) "zip" := ⟨_, hz, rfl⟩
  have t1 : (⟨hp, g, d, tk + 1, os⟩ : Shared).TypeIs (.ref z) "zip" := ⟨_, hz, rfl⟩
  have e1 := sub_AttributeError
  have e2 := F.slot_zip_getattribute.lookup
  have e3 := F.slot_zip_getattribute.bind (.ref z)
  have e4 := zip_hook
  unfold getAttr? getAttrBy? getAttrBy
  wp_walk
  refine codeAny_call_builtin F.slot_zip_getattribute.plain zip_ga (F.slot_zip_getattribute.check _ _ _ _ _ _ _ _ t1 (F.args_zip_getattribute_2 _ _) (zip_miss (s := ⟨hp, g, d, tk + 1, os⟩) hz (by simp [hh]) fun h' tk' e ne => ?_))
  obtain ⟨t', u', he⟩ := ne.there
  change wpAny _ _ (getattributeRaised _ _ _ _ _ _ _) _ _ _
  unfold getattributeRaised hookOrError hookBehind attributeErrorLeaves
  wp_walk
  exact q _ _ ne.keeps
end
section
variable {prog : Program} {w : World} {A : Around} {R : Result → Shared → Prop}
structure ZipAt (b1 b2 : Bool) (z TI TO i1 i2 l1 l2 : Addr) (xs ys : Array Value) (i : Nat) (h : Heap) : Prop where
  zs : ZipS h z TI TO
  ti : IsPair h TI (.ref i1) (.ref i2)
  to : ∃ c d, IsPair h TO c d
  a1 : iAt b1 h i1 l1 i
  a2 : iAt b2 h i2 l2 i
  s1 : sAt b1 h l1 xs
  s2 : sAt b2 h l2 ys
theorem ZipAt.keep {b1 b2 : Bool} {z TI TO i1 i2 l1 l2 : Addr} {xs ys : Array Value} {i : Nat} {h h' : Heap} {D : Addr} (Z : ZipAt b1 b2 z TI TO i1 i2 l1 l2 xs ys i h) (hz : z ≠ D) (h2 : TI ≠ D) (h3 : TO ≠ D) (h4 : i1 ≠ D) (h5 : i2 ≠ D) (h6 : l1 ≠ D) (h7 : l2 ≠ D) (hD : ∃ o, h'.get? D = some o) (k : ∀ c o, c ≠ D → h.get? c = some o → h'.get? c = some o) : ZipAt b1 b2 z TI TO i1 i2 l1 l2 xs ys i h' := by
  refine ⟨?_, k _ _ h2 Z.ti, let ⟨c, d, e⟩ := Z.to; ⟨c, d, k _ _ h3 e⟩, Z.a1.keep fun o e => k _ _ h4 e, Z.a2.keep fun o e => k _ _ h5 e, Z.s1.keep fun o e => k _ _ h6 e, Z.s2.keep fun o e => k _ _ h7 e⟩
  rcases Z.zs with e | ⟨T, fl, o, hne, e, hT⟩
  · exact .inl (k _ _ hz e)
  · by_cases c : T = D
    · obtain ⟨o', ho'⟩ := hD
      exact .inr ⟨T, fl, o', hne, k _ _ hz e, by rw [c]; exact ho'⟩
    · exact .inr ⟨T, fl, o, hne, k _ _ hz e, k _ _ c hT⟩
theorem ZipAt.next {E : Value → Shared → Prop} {s : Shared} {b1 b2 : Bool} {z TI TO i1 i2 l1 l2 : Addr} {xs ys : Array Value} {i : Nat} {x y : Value} {Q : Option Value → Shared → Prop} (D : ZipApart z TI TO i1 i2 l1 l2) (Z : ZipAt b1 b2 z TI TO i1 i2 l1 l2 xs ys i s.heap) (ex : xs[i]? = some x) (ey : ys[i]? = some y)
    (q : ∀ h', ZipAt b1 b2 z TI TO i1 i2 l1 l2 xs ys (i + 1) h' → IsPair h' s.heap.objs.size x y → (∀ c o, c ≠ z → c ≠ TO → c ≠ i1 → c ≠ i2 → s.heap.get? c = some o → h'.get? c = some o) → Q (some (.ref s.heap.objs.size)) { s with heap := h' }) :
    wpAny (model prog w) A (pyNext (.ref z)) Q E s := by
  obtain ⟨c, d, hTO⟩ := Z.to
  have hzn : s.heap.objs.size ≠ z := by
    rcases Z.zs with e | ⟨T, fl, o, hne, e, hT⟩ <;> exact Ne.symm (Nat.ne_of_lt (Heap.lt_size e))
  rcases Z.zs with e | e
  · refine zn_item D e Z.ti hTO Z.a1 Z.a2 Z.s1 Z.s2 ex ey fun h' z' o' a1' a2' p' k' => ?_
    exact q h' ⟨.inr ⟨s.heap.objs.size, false, _, hzn, z', p'⟩, k' _ _ D.TIz D.TITO D.TIi1 D.TIi2 Z.ti, ⟨_, _, o'⟩, a1', a2', Z.s1.keep fun o e => k' _ _ D.l1z D.l1TO D.l1i1 D.l1i2 e, Z.s2.keep fun o e => k' _ _ D.l2z D.l2TO D.l2i1 D.l2i2 e⟩ p' k'
  · refine zt_item D e Z.ti Z.a1 Z.a2 Z.s1 Z.s2 ex ey fun h' z' a1' a2' p' k' => ?_
    exact q h' ⟨.inr z', k' _ _ D.TIz D.TIi1 D.TIi2 Z.ti, ⟨c, d, k' _ _ D.TOz D.TOi1 D.TOi2 hTO⟩, a1', a2', Z.s1.keep fun o e => k' _ _ D.l1z D.l1i1 D.l1i2 e, Z.s2.keep fun o e => k' _ _ D.l2z D.l2i1 D.l2i2 e⟩ p' fun c o c1 _ c3 c4 e => k' c o c1 c3 c4 e
theorem ZipAt.stop {E : Value → Shared → Prop} {s : Shared} {b1 b2 : Bool} {z TI TO i1 i2 l1 l2 : Addr} {xs ys : Array Value} {i : Nat} {Q : Option Value → Shared → Prop} (hh : A.handled = none) (D : ZipApart z TI TO i1 i2 l1 l2) (Z : ZipAt b1 b2 z TI TO i1 i2 l1 l2 xs ys i s.heap) (ex : xs[i]? = none)
    (q : ∀ h', (∀ c o, c ≠ z → c ≠ TO → c ≠ i1 → c ≠ i2 → s.heap.get? c = some o → h'.get? c = some o) → Q none { s with heap := h' }) :
    wpAny (model prog w) A (pyNext (.ref z)) Q E s := by
  obtain ⟨c, d, hTO⟩ := Z.to
  rcases Z.zs with e | e
  · exact zn_end hh D e Z.ti hTO Z.a1 Z.a2 Z.s1 Z.s2 (.inl ex) q
  · exact zt_end hh D e Z.ti Z.a1 Z.a2 Z.s1 Z.s2 ex fun h' k => q h' fun c o c1 _ c3 c4 e => k c o c1 c3 c4 e
theorem upd_entry : entryFor table "dict.update.loop" = some Builtin.«dict.update.loop» := entryFor_of_tree (by kernel_rfl)
theorem upd_plain : plainId "dict.update.loop" = true := by decide +kernel
noncomputable def laidK (ks : List Str) (us : List Value) : List (Key × Value) := (ks.zip us).map fun p => (Sum.inr p.1, p.2)
theorem stored_new {kvs : List (Key × Value)} {k : Key} {v : Value} (h : k ∉ kvs.map (·.1)) : stored kvs k v = kvs ++ [(k, v)] := by
  unfold stored
  rw [if_neg]
  intro hc
  obtain ⟨p, hp, e⟩ := List.any_eq_true.mp hc
  exact h (List.mem_map.mpr ⟨p, hp, by simpa using e⟩)
theorem zip_dict_loop {b1 b2 : Bool} {z TI TO i1 i2 l1 l2 Dd : Addr} {xs ys : Array Value} {ks : List Str} (D : ZipApart z TI TO i1 i2 l1 l2) (hk : ∀ (i : Nat) (v : Value), xs[i]? = some v → ∃ k t, ks[i]? = some k ∧ v = .str k t) (hlx : xs.size = ks.length) (hly : ys.size = ks.length) (hn : ks.Nodup) (hb : ks.length ≤ 1000)
    (n1 : z ≠ Dd) (n2 : TI ≠ Dd) (n3 : TO ≠ Dd) (n4 : i1 ≠ Dd) (n5 : i2 ≠ Dd) (n6 : l1 ≠ Dd) (n7 : l2 ≠ Dd) (hh : A.handled = none) :
    ∀ (m i : Nat) (j : Int) (s : Shared), ks.length - i = m → i ≤ ks.length → ZipAt b1 b2 z TI TO i1 i2 l1 l2 xs ys i s.heap → s.heap.DictOf (mixKind prog w) Dd (laidK (ks.take i) (ys.toList.take i)) →
      (∀ h' tk, (∀ c o, c ≠ Dd → c ≠ z → c ≠ TO → c ≠ i1 → c ≠ i2 → s.heap.get? c = some o → h'.get? c = some o) → h'.DictOf (mixKind prog w) Dd (laidK ks ys.toList) → R (.ok (.ret .none)) { s with heap := h', toks := tk }) →
      codeAny (model prog w) A (.builtin "dict.update.loop" ⟨[.ref Dd, .ref z, rawInt j, .none], []⟩) R s := by
  intro m
  induction m with
  | zero =>
    intro i j s hm hi Z hS q
    obtain rfl : i = ks.length := by omega
    refine codeAny_builtin upd_entry ?_
    rw [Around.under_plainId upd_plain _]
    change wpAny _ A.in1 (pyNext (.ref z) >>= _) _ _ s
    refine wpAny_bind (Z.stop (by simp [hh]) D (by simp [hlx]) fun h' k' => ?_)
    change wpAny _ A.in1 (Builtin.Dict.addKeywords Dd [] >>= _) _ _ _
    refine wpAny_bind (wpAny_pure (wpAny_pure (q h' s.toks (fun c o _ c1 c2 c3 c4 e => k' c o c1 c2 c3 c4 e) ?_)))
    rw [List.take_length, List.take_of_length_le (by rw [Array.length_toList]; omega)] at hS
    exact hS.at fun o e => k' _ _ n1.symm n3.symm n4.symm n5.symm e
  | succ m ih =>
    intro i j s hm hi Z hS q
    have hlt : i < ks.length := by omega
    have hx : xs[i]? = some xs[i] := by simp [hlx, hlt]
    have hy : ys[i]? = some ys[i] := by simp [hly, hlt]
    obtain ⟨k, t, hki, hkv⟩ := hk i _ hx
    refine codeAny_builtin upd_entry ?_
    rw [Around.under_plainId upd_plain _]
    change wpAny _ A.in1 (pyNext (.ref z) >>= _) _ _ s
    refine wpAny_bind (Z.next D hx hy fun h1 Z1 p1 k1 => ?_)
    have hS1 : h1.DictOf (mixKind prog w) Dd (laidK (ks.take i) (ys.toList.take i)) := hS.at fun o e => k1 _ _ n1.symm n3.symm n4.symm n5.symm e
    rw [hkv] at p1
    change wpAny _ A.in1 (holding [Value.ref s.heap.objs.size] _ >>= _) _ _ _
    refine wpAny_bind (wpAny_holding ?_)
    have ty : Shared.TypeIs { s with heap := h1 } (.ref s.heap.objs.size) "tuple" := ⟨_, p1, rfl⟩
    have prs : wpAny (model prog w) A.in1 (Builtin.Dict.pairItems (.ref s.heap.objs.size)) (fun r s' => r = [Value.str k t, ys[i]] ∧ s' = { s with heap := h1 }) (fun _ _ => False) { s with heap := h1 } := by
      unfold Builtin.Dict.pairItems
      refine wpAny_bind (wpAny_typeOf ty ?_)
      rw [if_pos (by decide)]
      exact wpAny_bind (wpAny_seqItems p1 rfl (wpAny_pure ⟨rfl, rfl⟩))
    refine wpAny_bind (wpAny_tryCatch (wpAny_mono prs (fun r s' hr => ?_) fun _ _ h => h.elim))
    obtain ⟨rfl, rfl⟩ := hr
    change wpAny _ A.in1 (holding [Value.str k t, ys[i]] (dictSet Dd (.str k t) ys[i])) _ _ _
    have hsmall : (laidK (ks.take i) (ys.toList.take i)).length ≤ sizeLine := by
      unfold laidK
      rw [List.length_map, List.length_zip, List.length_take, List.length_take]
      exact Nat.le_trans (by omega : _ ≤ 1000) (by decide)
    refine wpAny_holding (wpAny_dictSet_pairs (knd := mixKind prog w) (s := { s with heap := h1 }) (k := Sum.inr k) (mixKind_str prog w k t) hS1 (fun h2 hd2 sb => ?_) hsmall)
    have enew : stored (laidK (ks.take i) (ys.toList.take i)) (Sum.inr k) ys[i] = laidK (ks.take (i + 1)) (ys.toList.take (i + 1)) := by
      rw [stored_new]
      · unfold laidK
        have hyl : ys.toList[i]? = some ys[i] := by simp [hly, hlt]
        rw [take_snoc hki, take_snoc hyl, List.zip_append (by simp only [List.length_take, Array.length_toList, hly]), List.map_append]
        rfl
      · intro hm'
        unfold laidK at hm'
        rw [List.map_map] at hm'
        obtain ⟨p, hp, e⟩ := List.mem_map.mp hm'
        have e' : p.1 = k := Sum.inr.inj e
        have hin : k ∈ ks.take i := by rw [← e']; exact (List.of_mem_zip hp).1
        obtain ⟨i', hi', he⟩ := List.getElem_of_mem hin
        have hi2 : i' < i := by
          rw [List.length_take] at hi'
          omega
        have he' : ks[i']? = some k := by
          rw [← he, List.getElem_take, List.getElem?_eq_getElem]
        have := (List.getElem?_inj (i := i') (j := i) (by omega) hn).mp (he'.trans hki.symm)
        omega
    rw [enew] at hd2
    have hDl : ∃ o, h2.get? Dd = some o := let ⟨o, _, _, e, _⟩ := hd2; ⟨o, e⟩
    refine wpAny_pure ⟨plainId_quiet upd_plain _, ih (i + 1) (j + 1) _ (by omega) hlt (Z1.keep n1 n2 n3 n4 n5 n6 n7 hDl fun c o hc e => (sb.2 c hc).trans e) hd2 fun h' tk kp hS' => ?_⟩
    exact q h' tk (fun c o c0 c1 c2 c3 c4 e => kp c o c0 c1 c2 c3 c4 ((sb.2 c c0).trans (k1 c o c1 c2 c3 c4 e))) hS'
end
section
variable {prog : Program} {w : World} {A : Around} {E : Value → Shared → Prop} {s : Shared}
theorem dict_of_zip {b1 b2 : Bool} {z TI TO i1 i2 l1 l2 : Addr} {xs ys : Array Value} {ks : List Str} {Q : Value → Shared → Prop} (hh : A.handled = none) (D : ZipApart z TI TO i1 i2 l1 l2) (hz : IsZip s.heap z TI TO .none) (hTI : IsPair s.heap TI (.ref i1) (.ref i2)) (hTO : ∃ c d, IsPair s.heap TO c d) (a1 : iAt b1 s.heap i1 l1 0) (a2 : iAt b2 s.heap i2 l2 0) (s1 : sAt b1 s.heap l1 xs) (s2 : sAt b2 s.heap l2 ys)
    (hk : ∀ (i : Nat) (v : Value), xs[i]? = some v → ∃ k t, ks[i]? = some k ∧ v = .str k t) (hlx : xs.size = ks.length) (hly : ys.size = ks.length) (hn : ks.Nodup) (hb : ks.length ≤ 1000)
    (q : ∀ h' tk, h'.DictOf (mixKind prog w) s.heap.objs.size (laidK ks ys.toList) → (∀ c o, c ≠ z → c ≠ TO → c ≠ i1 → c ≠ i2 → s.heap.get? c = some o → h'.get? c = some o) → Q (.ref s.heap.objs.size) { s with heap := h', toks := tk }) :
    wpAny (model prog w) A (call (.type "dict") [.ref z]) Q E s := by
  refine callType_codes (Q₁ := fun x s1 => x = .ref s.heap.objs.size ∧ s1 = { s with heap := s.heap.push { cls := .type "dict", data := .dict #[] } }) F.kt_called_dict (F.kt_typeCall_dict_1 _) F.entry_dict_init (kt_code_dict_new _ ⟨rfl, rfl⟩) ?_
  rintro x s1' ⟨rfl, rfl⟩
  have hnew : (s.heap.push { cls := .type "dict", data := .dict #[] }).DictOf (mixKind prog w) s.heap.objs.size [] := Heap.DictOf.new s.heap
  have up : ∀ c o, s.heap.get? c = some o → (s.heap.push { cls := .type "dict", data := .dict #[] }).get? c = some o := fun c o e => Heap.get?_push_of_some _ e
  refine ⟨hnew.typeIs, F.args_dict_init_2 _ _, ?_⟩
  generalize s.heap.push { cls := .type "dict", data := .dict #[] } = hA at hnew up
  have ne : ∀ {c : Addr} {o : Obj}, s.heap.get? c = some o → c ≠ s.heap.objs.size := fun e => Nat.ne_of_lt (Heap.lt_size e)
  unfold Builtin.«dict.__init__»
  refine wpAny_bind ?_
  unfold Builtin.Dict.selfAndRest
  refine wpAny_bind (wpAny_notOrdered_dict hnew.typeIs (wpAny_pure ?_))
  change wpAny _ _ (Builtin.Dict.updateFrom "dict.__init__" s.heap.objs.size (.ref z) [] .none) _ _ _
  unfold Builtin.Dict.updateFrom
  refine wpAny_bind (wpAny_typeOf (T := "zip") ⟨_, up _ _ hz, rfl⟩ ?_)
  rw [if_pos (by decide)]
  refine wpAny_bind (zip_nokeys (s := { s with heap := hA }) (up _ _ hz) (by simp [hh]) fun hB tk kB => ?_)
  rw [if_pos (show (none : Option Value).isNone = true from rfl)]
  have upB : ∀ c o, s.heap.get? c = some o → hB.get? c = some o := fun c o e => kB _ _ (up _ _ e)
  refine wpAny_bind (wpAny_rule (wpAny_bind (wpAny_pyIter_zip (s := { s with heap := hB, toks := tk }) (upB _ _ hz) ?_)))
  obtain ⟨c, d, hTO'⟩ := hTO
  obtain ⟨o1, e1, _⟩ := a1.obj
  obtain ⟨o2, e2, _⟩ := a2.obj
  obtain ⟨o3, e3⟩ := s1.obj
  obtain ⟨o4, e4⟩ := s2.obj
  have hS0 : hB.DictOf (mixKind prog w) s.heap.objs.size (laidK (ks.take 0) (ys.toList.take 0)) := by
    have := hnew.at (h' := hB) fun o e => kB _ _ e
    simpa [laidK] using this
  refine wpAny_pure ⟨plainId_quiet upd_plain _, zip_dict_loop (A := A.in1) D hk hlx hly hn hb (ne hz) (ne hTI) (ne hTO') (ne e1) (ne e2) (ne e3) (ne e4) (by simp [hh]) (ks.length - 0) 0 0 _ rfl (Nat.zero_le _) ⟨.inl (upB _ _ hz), upB _ _ hTI, ⟨c, d, upB _ _ hTO'⟩, a1.keep fun o e => upB _ _ e, a2.keep fun o e => upB _ _ e, s1.keep fun o e => upB _ _ e, s2.keep fun o e => upB _ _ e⟩ hS0 fun h' tk' kp hS => ⟨rfl, q h' tk' hS fun c o c1 c2 c3 c4 e => kp c o (ne e) c1 c2 c3 c4 (upB _ _ e)⟩⟩
end
section
variable {X : Cx}
noncomputable def rDictZip (K : PySem.W.Frag) : List V → Hp → VK → Prop := fun vs H Q => ∃ (p q : Addr) (b1 b2 : Bool) (ks : List Str) (us : List V), vs = [.ref p, .ref q] ∧ SqB b1 K H p (ks.map V.str) ∧ SqB b2 K H q us ∧ us.length = ks.length ∧ ks.length ≤ 1000 ∧ ks.Nodup ∧ ((∀ l, H l = none → Q (.ref l) (upd H l (.dK ((ks.map Sum.inr).zip us)))) ∨ ∀ l o es ep, H l = none → o.data = .dict es ep → Q (.ref l) (upd H l (.frz o (.dK ((ks.map Sum.inr).zip us)))))
theorem laidK_rel : ∀ {ks : List Str} {us : List V} {ws : List Value}, Vals us ws → KV ((ks.map Sum.inr).zip us) (laidK ks ws)
  | [], _, _, _ => .nil
  | _ :: _, _, _, .nil => .nil
  | k :: ks, _, _, .cons r t => .cons ⟨rfl, r⟩ (laidK_rel t)
theorem pe_dictZip {a b : Expr} {ta : TA} {p1 p2 p3 p4 : Pos} (hc : X.calm = true) (hg1 : okGl X.env.scope "dict" = true) (hm1 : X.mg "dict" = none) (hg2 : okGl X.env.scope "zip" = true) (hm2 : X.mg "zip" = none) (ha : PA X [a, b] ta) (hs : noStars [a, b] = true) :
    PE X (.Call (.Name "dict" p1) [.Call (.Name "zip" p2) [a, b] [] p3] [] p4) (fun σ H Q => ta σ H fun vs H1 => rDictZip X.K vs H1 Q) := by
  have h1 := hs
  unfold noStars at h1
  simp only [List.all_cons, Bool.and_eq_true] at h1
  have hs2 : starEach [b] X.env = [(false, eval b X.env)] := star_cons h1.2.1
  have hs1 : starEach [a, b] X.env = [(false, eval a X.env), (false, eval b X.env)] := by rw [star_cons h1.1, hs2]
  have hs0 : starEach [.Call (.Name "zip" p2) [a, b] [] p3] X.env = [(false, eval (.Call (.Name "zip" p2) [a, b] [] p3) X.env)] := star_cons rfl
  intro pins s σ H Q I h
  refine Call_name1 hs0 (ld_blt I (okGl_get hg1).1 hm1 bt_dict (callWith_type1 (Call_ (ld_blt I (okGl_get hg2).1 hm2 bt_zip (PyProof.Rows.callWith_type1 (thn (ha p3 pins s σ H _ I h) fun us s1 ⟨vs, H1, I1, r1, q1⟩ => ?_) (by rw [hs1, hs2]) (by rw [hs2]; rfl))))))
  obtain ⟨l1, l2, b1, b2, ks, ws, rfl, sq1, sq2, el, hb, hn, q⟩ := q1
  obtain ⟨u1, u2, rfl, ru1, ru2⟩ := r1.two
  cases ru1
  cases ru2
  obtain ⟨its1, rv1, pl1, _⟩ := I1.sqb sq1
  obtain ⟨its2, rv2, pl2, _⟩ := I1.sqb sq2
  have e1 := rv1.length
  have e2 := rv2.length
  rw [List.length_map] at e1
  have a1 : l1 < s1.heap.objs.size := by obtain ⟨_, e⟩ := pl1.obj; exact Heap.lt_size e
  have a2 : l2 < s1.heap.objs.size := by obtain ⟨_, e⟩ := pl2.obj; exact Heap.lt_size e
  refine call_zip_b pl1 pl2 fun h' hz hTI hTO i1 i2 kp => ?_
  have hsz : s1.heap.objs.size + 5 ≤ h'.objs.size := Heap.lt_size hz
  refine dict_of_zip (s := { s1 with heap := h' }) (ks := ks) (I1.ok.hd hc) (zipApart_new a1 a2) hz hTI ⟨_, _, hTO⟩ i1 i2 (sAt.keep pl1 fun o e => kp _ _ e) (sAt.keep pl2 fun o e => kp _ _ e) (fun i v hv => ?_) (by rw [List.size_toArray]; omega) (by rw [List.size_toArray]; omega) hn hb fun h2 tk hd kp2 => ?_
  · have hv' : its1[i]? = some v := by simpa using hv
    have hi' : i < ks.length := by rw [e1]; exact (List.getElem?_eq_some_iff.mp hv').1
    obtain ⟨u', hu, t, ru⟩ := rv1.get (i := i) (x := V.str ks[i]) (by simp [hi'])
    rw [hv'] at hu
    cases hu
    exact ⟨ks[i], t, by simp [hi'], ru⟩
  · have old : ∀ c o, s1.heap.get? c = some o → h2.get? c = some o := fun c o e => by
      have hlt : c < s1.heap.objs.size := Heap.lt_size e
      exact kp2 c o (Nat.ne_of_lt (Nat.lt_of_lt_of_le hlt (Nat.le_add_right _ 4))) (Nat.ne_of_lt (Nat.lt_of_lt_of_le hlt (Nat.le_add_right _ 3))) (Nat.ne_of_lt hlt) (Nat.ne_of_lt (Nat.lt_of_lt_of_le hlt (Nat.le_add_right _ 1))) (kp _ _ e)
    have hok : ∀ H', ObjOk X.prog X.w H' h2 h'.objs.size (.dK ((ks.map Sum.inr).zip ws)) := fun H' => dk_new (by rw [List.length_zip, List.length_map]; exact Nat.le_trans (by omega : _ ≤ 1000) (by decide)) (beq_eq_false_iff_ne.mpr (Nat.ne_of_gt (Nat.lt_of_lt_of_le I1.big (by omega)))) (laidK_rel (ks := ks) (by simpa using rv2)) hd
    rcases q with q | q
    · exact ⟨.ref h'.objs.size, _, I1.laid (a := h'.objs.size) (t' := tk) (o := .dK ((ks.map Sum.inr).zip ws)) old (by omega) (hok _), rfl, q _ (I1.hok.fresh (by omega))⟩
    · obtain ⟨o, es, ep, ho, _, hdt, _⟩ := hd
      exact ⟨.ref h'.objs.size, _, I1.laid (a := h'.objs.size) (t' := tk) (o := .frz o (.dK ((ks.map Sum.inr).zip ws))) old (by omega) ⟨ho, hok _⟩, rfl, q _ o es ep (I1.hok.fresh (by omega)) hdt⟩
end
end _L2
set_option Elab.async false
set_option linter.all false
set_option maxRecDepth 100000
set_option maxHeartbeats 4000000
namespace _L2
open PySem PySem.Spec PyProof.Rows
section
variable {X : Cx}
theorem vals_strs : ∀ l : List (Str × Tok), Vals ((l.map (·.1)).map V.str) (strValues l)
  | [] => .nil
  | p :: l => .cons ⟨p.2, rfl⟩ (vals_strs l)
noncomputable def rSplit : V → List V → Hp → VK → Prop := fun x xs H Q => ∃ z y, x = .str z ∧ xs = [.str y] ∧ (y.length == 0) = false ∧ z.length ≤ 100000 ∧ ∀ l, H l = none → Q (.ref l) (upd H l (.lst ((Txt.split z y).map V.str)))
theorem mt_split : MtR X "str.split" rSplit := by
  intro pins s σ H x xs v us Q I rx rv h
  obtain ⟨z, y, rfl, rfl, hy, hz, q⟩ := h
  obtain ⟨t, rfl⟩ := rx
  obtain ⟨u, rfl, u', rfl⟩ := rv.one
  have hz' : z.length ≤ sizeLine := Nat.le_trans hz (by decide)
  have hle : (Txt.split z y).length ≤ sizeLine := Nat.le_trans (split_le z y) (Nat.le_trans (Nat.add_le_add_right hz 2) (by decide))
  have fin : ∀ (l : List (Str × Tok)) (tk : Nat), l.map (·.1) = Txt.split z y → EP X pins σ Q (.ref s.heap.objs.size) { s with heap := s.heap.push { cls := .type "list", data := .seq (strValues l).toArray }, toks := tk } := fun l tk e => by
    have hv := vals_strs l
    rw [e] at hv
    exact ⟨.ref s.heap.objs.size, _, I.lnew (t' := tk) hv (by rw [List.length_map]; exact hle), rfl, q _ I.fresh⟩
  cases h1 : (decide (z.length < y.length) || decide (PySem.Builtin.Str.strKind z < PySem.Builtin.Str.strKind y)) with
  | true => exact call_meets F.slot_str_split (typeIs_str _ _ _) F.entry_str_split (F.args_str_split_2 _ _) (meets_str_split_cannot_occur z y t u' h1) (fin [(z, t)] s.toks (if_pos h1).symm)
  | false =>
    cases h2 : (PySem.Builtin.Str.occurrences z y 0 z.length (z.length + 1)).isEmpty with
    | true => exact call_meets F.slot_str_split (typeIs_str _ _ _) F.entry_str_split (F.args_str_split_2 _ _) (meets_str_split_not_found z y t u' h1 hy h2) (fin [(z, t)] s.toks ((if_neg (by rw [h1]; exact Bool.false_ne_true)).trans (if_pos h2)).symm)
    | false =>
      have e : Txt.split z y = PySem.Builtin.Str.partsBetween z (PySem.Builtin.Str.occurrences z y 0 z.length (z.length + 1)) y.length := (if_neg (by rw [h1]; exact Bool.false_ne_true)).trans (if_neg (by rw [h2]; exact Bool.false_ne_true))
      refine call_meets F.slot_str_split (typeIs_str _ _ _) F.entry_str_split (F.args_str_split_2 _ _) (meets_str_split_sep z y t u' h1 hy h2 hz' (by rw [← e]; exact hle)) ?_
      have := fin (numbered s.toks (PySem.Builtin.Str.partsBetween z (PySem.Builtin.Str.occurrences z y 0 z.length (z.length + 1)) y.length))
      rw [← strsFrom_eq] at this
      exact this _ ((numbered_texts _ _).trans e.symm)
noncomputable def rIntT : List V → Hp → VK → Prop := fun xs H Q => ∃ z n, xs = [.str z] ∧ PySem.intText? z = some n ∧ z.length ≤ 640 ∧ Q (.int n) H
theorem call_intT : CallR X (.type "int") rIntT := by
  intro pins s σ H xs us Q I r h
  obtain ⟨z, n, rfl, hn, hz, q⟩ := h
  obtain ⟨u, rfl, t, rfl⟩ := vals1 r
  exact PySem.W.KIN.call_text hn hz ⟨.int n, H, I.tok _, ⟨_, rfl⟩, q⟩
noncomputable def rStrT : List V → Hp → VK → Prop := fun xs H Q => ∃ z, xs = [.str z] ∧ Q (.str z) H
theorem call_strT : CallR X (.type "str") rStrT := by
  intro pins s σ H xs us Q I r h
  obtain ⟨z, rfl, q⟩ := h
  obtain ⟨u, rfl, t, rfl⟩ := vals1 r
  exact PySem.P.str_of_str ⟨.str z, H, I, ⟨_, rfl⟩, q⟩
end
end _L2
set_option Elab.async false
set_option linter.all false
set_option maxRecDepth 100000
set_option maxHeartbeats 4000000
namespace _L2
open PySem PySem.Spec PyProof.Rows
noncomputable def ItI (o : Obj) (a : Addr) (kvs : List (Key × V)) : It :=
  ⟨fun i H => H a = some (.frz o (.dK kvs)) ∧ i < kvs.length, fun i H x H' => ∃ p q, kvs[i]? = some q ∧ x = .ref p ∧ H p = none ∧ H' = upd H p (.tup [kV q.1, q.2]), fun i H => H a = some (.frz o (.dK kvs)) ∧ kvs.length ≤ i⟩
theorem key_back {P : Program} {W : World} {k : Key} {u : Value} (h : (mixKind P W).is k u = true) : RelV (kV k) u := by
  rcases keyIs_shape h with ⟨i, t, rfl, rfl⟩ | ⟨z, t, rfl, rfl⟩
  · exact ⟨t, rfl⟩
  · exact ⟨t, rfl⟩
theorem frz_dict {X : Cx} {pins : List (Addr × Obj)} {σ : _L2.St} {H : Hp} {s : Shared} {a : Addr} {o : Obj} {kvs : List (Key × V)} {es : Array DictEntry} {ep : Nat} (I : Inv X pins σ H s) (h : H a = some (.frz o (.dK kvs))) (he : o.data = .dict es ep) : ∃ vs, KV kvs vs ∧ s.heap.DictAt (mixKind X.prog X.w) a vs ep ∧ (a == sysModules) = false := by
  obtain ⟨hg, _, hlo, vs, hkv, o', es', ep', ho, hc, hd, r⟩ := (show ObjOk X.prog X.w H s.heap a (.frz o (.dK kvs)) from I.hok a _ h)
  rw [hg] at ho
  cases ho
  rw [he] at hd
  cases hd
  exact ⟨vs, hkv, ⟨o, es, hg, hc, he, r⟩, hlo⟩
theorem kv_get {kvs : List (Key × V)} {vs : List (Key × Value)} (h : KV kvs vs) {i : Nat} {q : Key × V} (e : kvs[i]? = some q) : ∃ u, vs[i]? = some (q.1, u) ∧ RelV q.2 u := by
  unfold KV at h
  induction h generalizing i with
  | nil => simp at e
  | cons r t ih =>
    rename_i a b as bs
    cases i with
    | zero =>
      simp only [List.getElem?_cons_zero, Option.some.injEq] at e
      subst e
      refine ⟨b.2, ?_, r.2⟩
      rw [List.getElem?_cons_zero, r.1]
    | succ i => simpa using ih (i := i) (by simpa using e)
theorem items_iter : entryFor table "dict_itemiterator.__iter__" = some Builtin.«dict_keyiterator.__iter__» := entryFor_alias (id' := "dict_keyiterator.__iter__") (by kernel_rfl) rfl (by decide +kernel) (by kernel_rfl)
theorem turn_items {P : Program} {w : World} {K : PySem.W.Frag} {elts : List Expr} {x1 : Nat} {tpos : Pos} {o : Obj} {es : Array DictEntry} {ep : Nat} (a it : Addr) (kvs : List (Key × V)) (he : o.data = .dict es ep) :
    Turn P w K (.Tuple elts x1 tpos) (ItI o a kvs) [it] it (fun i h => ∃ ok ov, IsItemIter h it a i kvs.length ep ok ov) where
  mem := by simp
  obj := fun i h st b hb => by
    obtain ⟨ok, ov, hi⟩ := st
    have z : b = it := by simpa using hb
    subst z
    exact ⟨_, hi, fun v z => by
      have z' : Data.fields _ = Data.cell v := z
      cases z'⟩
  keep := fun i h h' st k => by
    obtain ⟨ok, ov, hi⟩ := st
    exact ⟨ok, ov, k it (by simp) _ hi⟩
  item := by
    intro X hP hw hK hc i pins s σ H E I hf st hg
    subst hP hw hK
    obtain ⟨hH, hlt⟩ := hg
    obtain ⟨ok, ov, hi⟩ := st
    obtain ⟨vs, hkv, hat, hlo⟩ := frz_dict I hH he
    have hle := KV.length hkv
    have hx : kvs[i]? = some kvs[i] := by simp [hlt]
    obtain ⟨u, hu, ru⟩ := kv_get hkv hx
    have f1 := hf it (by simp)
    rw [hle] at hi
    refine wpAny_pyNext_items_item hi hat hu fun key h1 hkey ho1 htup hsz kp => ⟨_, rfl, wpAny_letOwnedTupleGo_items ho1 fun h2 he2 sb2 => ?_⟩
    have hitn : s.heap.objs.size ≠ it := Ne.symm (Nat.ne_of_lt (Heap.lt_size hi))
    have kp2 : ∀ b o, b ∉ [it] → s.heap.get? b = some o → h2.get? b = some o := fun b o hb q => by
      have hb' : b ≠ it := by simpa using hb
      exact (sb2.2 b hb').trans (kp b o hb' q)
    have hnew : h2.get? s.heap.objs.size = some { cls := .type "tuple", data := .seq #[key, u] } := (sb2.2 _ hitn).trans htup
    have nt : ∀ b v, H b = some v → b ∉ [it] := fun b v q hb => by
      have z : b = it := by simpa using hb
      rw [z, f1.1] at q
      cases q
    have hfr := I.fresh
    have U : Un (frs X.stack) [it] H (upd H s.heap.objs.size (.tup [kV kvs[i].1, kvs[i].2])) s.heap h2 :=
      { keep := fun b o q _ _ hb => kp2 b o hb q
        slot := fun b o q _ _ hb => ⟨o.slots, kp2 b o hb q⟩
        free := fun b o q n _ => by rw [upd_ne (Nat.ne_of_lt (Heap.lt_size q))]; exact n
        there := fun b o q hb => ⟨o, kp2 b o hb q⟩
        tups := fun b xs q => by rw [upd_ne (ne_of_none q hfr)]; exact q
        frzs := fun b o xs q => by rw [upd_ne (ne_of_none q hfr)]; exact q
        tbls := fun b ps q => ⟨#[], by rw [upd_ne (ne_of_none q hfr), q]; simp⟩ }
    have hok : HOk X.prog X.w (upd H s.heap.objs.size (.tup [kV kvs[i].1, kvs[i].2])) h2 := fun b v q => by
      by_cases hb : b = s.heap.objs.size
      · subst hb
        rw [upd_same] at q
        cases q
        exact ⟨by show 2 ≤ sizeLine; decide, [key, u], .cons (key_back hkey) (.cons ru .nil), _, hnew, rfl, _, rfl⟩
      · rw [upd_ne hb] at q
        refine (I.hok b v q).stay (fun c v' hc' r => kp2 c v' ?_ r) (fun c r => by rw [upd_ne (ne_of_none r hfr)]; exact r) fun c ys r => by rw [upd_ne (ne_of_none r hfr)]; exact r
        rcases hc' with e | e
        · rw [e]; exact nt b v q
        · exact nt c _ e
    have I2 : Inv X pins σ (upd H s.heap.objs.size (.tup [kV kvs[i].1, kvs[i].2])) { s with heap := h2 } := I.call' rfl U hok I.bare fun b hb => by
      obtain ⟨g0, g1, g2, g3, g4, g5⟩ := hf b hb
      exact ⟨g3, g1, g4, g5⟩
    refine ⟨.ref s.heap.objs.size, _, I2, rfl, ⟨_, kvs[i], hx, rfl, hfr, rfl⟩, ⟨key, u, by rw [hle]; exact he2⟩, fun b hb => ?_⟩
    have z : b = it := by simpa using hb
    rw [z, upd_ne (Ne.symm hitn)]
    exact f1.1
  done := by
    intro X hP hw hK hc i pins s σ H E I hf st hg
    subst hP hw hK
    obtain ⟨hH, hle0⟩ := hg
    obtain ⟨ok, ov, hi⟩ := st
    obtain ⟨vs, hkv, hat, hlo⟩ := frz_dict I hH he
    have hle := KV.length hkv
    obtain ⟨f0, f1, f2, f3, f4, f5⟩ := hf it (by simp)
    rw [hle] at hi
    exact wpAny_pyNext_items_end (I.ok.hd hc) hi hat (by rw [List.getElem?_eq_none_iff]; omega) fun h' eb => ⟨rfl, I.turned (t' := s.toks) (fun b o hb e => eb b o hb e) f0 f1 f3 f4 f5⟩
  self := fun _ _ _ _ _ st h => by
    obtain ⟨ok, ov, hi⟩ := st
    have ty : Shared.TypeIs _ (.ref it) "dict_itemiterator" := ⟨_, hi, rfl⟩
    refine wpAny_pyIter_slot ty F.slot_dict_itemiterator_iter (wpAny_call_entry F.slot_dict_itemiterator_iter ty items_iter ?_ (F.args_dict_itemiterator_iter_1 _))
    change wpAny _ _ (ret (.ref it)) _ _ _
    exact wpAny_pure ⟨_, rfl, "dict_itemiterator", _, ty, F.slot_dict_itemiterator_next.lookup, h⟩
section
variable {X : Cx}
noncomputable def iItems (te : TE) : TI := fun σ H R => te σ H fun x H1 => ∃ a o kvs es ep, x = .ref a ∧ H1 a = some (.frz o (.dK kvs)) ∧ o.data = .dict es ep ∧ R (ItI o a kvs) H1
theorem pi_items {e : Expr} {te : TE} {apos pos : Pos} {elts : List Expr} {x1 : Nat} {tpos : Pos} (he : PE X e te) (hb : attributeBase e "items" X.env (eval e X.env) = eval e X.env) (hl : (apos.endLine == pos.line) = true) :
    PI X (.Tuple elts x1 tpos) (.Call (.Attribute e "items" apos) [] [] pos) (iItems te) := by
  intro pins s σ H R I h
  refine wpAny_Call_method0_late hb hl (thn (he pins s σ H _ I h) fun v s1 ⟨x, H1, I1, r1, q1⟩ => ?_)
  obtain ⟨a, o, kvs, es, ep, rfl, hH, hd, q⟩ := q1
  cases r1
  obtain ⟨vs, hkv, hat, hlo⟩ := frz_dict I1 hH hd
  refine ⟨"dict", "dict.items", PySem.F.plainAttrs_dict, PySem.F.slot_dict_items, PySem.F.type_dict_items, hat.dictOf.typeIs, fun b q => ?_, ?_⟩
  · cases q
    obtain ⟨o', es', ho, hc, _⟩ := hat
    exact ⟨o', ho, hc.2.1⟩
  refine Calls.callWith_builtin rfl (PySem.evalArgs_none ?_)
  refine call_meetsIn PySem.F.slot_dict_items hat.dictOf.typeIs PySem.F.entry_dict_items (PySem.F.args_dict_items_1 _) (meets_dict_items (mixKind X.prog X.w) a hlo) ⟨⟨vs, hat.dictOf⟩, ?_⟩
  change wpAny (model X.prog X.w) X.A (pyIter (.ref s1.heap.objs.size)) _ _ _
  refine wpAny_pyIter_items (s := { s1 with heap := s1.heap.push { cls := .type "dict_items", data := .fields #[.ref a] } }) ⟨_, Heap.get?_push_size _ rfl, rfl, rfl⟩ (hat.push _) ?_
  have z1 : (s1.heap.push { cls := .type "dict_items", data := .fields #[.ref a] }).objs.size = s1.heap.objs.size + 1 := Heap.size_push ..
  have gi := Heap.get?_push_size (s1.heap.push { cls := .type "dict_items", data := .fields #[.ref a] }) (o := { cls := .type "dict_itemiterator", data := .fields #[.none, .bool false, .ref a, .int 0 0, .int vs.length 0, .int ep 0, .none, .none] }) rfl
  have hle := KV.length hkv
  refine ⟨_, [_], _, _, H1, rfl, I1.kept (t' := s1.toks) fun b o e => Heap.get?_push_of_some _ (Heap.get?_push_of_some _ e), turn_items a _ kvs hd, ⟨.none, .none, by rw [hle]; exact gi⟩, fun b hb => ?_, q⟩
  have hb' : b = (s1.heap.push { cls := .type "dict_items", data := .fields #[.ref a] }).objs.size := by simpa using hb
  have hle2 : s1.heap.objs.size ≤ b := by rw [hb', z1]; exact Nat.le_succ _
  exact I1.fpOk hle2 (I1.hok.fresh hle2)
end
end _L2
set_option Elab.async false
set_option linter.all false
set_option maxRecDepth 100000
set_option maxHeartbeats 4000000
namespace _L2
open PySem PySem.Spec PyProof.Rows
section
variable {X : Cx}
noncomputable def pickI (n : Nat) (lo st : Int) : List Nat := sliceRange (max 0 (min lo n)) n st
noncomputable def rStep (K : PySem.W.Frag) : V → Option Int → Option Int → Hp → VK → Prop := fun x lo st H Q => ∃ a xs i k, x = .ref a ∧ lo = some i ∧ st = some k ∧ 0 ≤ i ∧ 0 < k ∧ SqL K H a xs ∧ ∀ p, H p = none → Q (.ref p) (upd H p (.lst ((pickI xs.length i k).filterMap (xs[·]?))))
theorem vals_pick {xs : List V} {its : List Value} (h : Vals xs its) : ∀ ns : List Nat, Vals (ns.filterMap (xs[·]?)) (ns.filterMap (its[·]?))
  | [] => .nil
  | n :: ns => by
    rw [List.filterMap_cons, List.filterMap_cons]
    cases e : xs[n]? with
    | none =>
      rw [h.none_of e]
      exact vals_pick h ns
    | some v =>
      obtain ⟨u, hu, r⟩ := h.get e
      rw [hu]
      exact .cons r (vals_pick h ns)
theorem pe_step {e a b : Expr} {te : TE} {tl ts : TO} {p2 pos : Pos} (he : PE X e te) (hl : PO X (some a) tl) (hs : PO X (some b) ts) :
    PE X (.Subscript e (.Slice (some a) none (some b) p2) pos) (fun σ H Q => te σ H fun x H1 => tl σ H1 fun l H2 => ts σ H2 fun k H3 => rStep X.K x l k H3 Q) := by
  intro pins s σ H Q I h
  refine Subscript_ (thn (he pins s σ H _ I h) fun v s1 ⟨x, H1, I1, r1, q1⟩ => ?_)
  refine wpAny_Slice (thn (hl pins s1 σ H1 _ I1 q1) fun vl s2 ⟨l, H2, I2, pl, q2⟩ => ?_)
  rw [evalPart_none]
  refine wpAny_pure (thn (hs pins s2 σ H2 _ I2 q2) fun vk s3 ⟨k, H3, I3, pk, q3⟩ => ?_)
  obtain ⟨ad, xs, i, n, rfl, rfl, rfl, hi, hn, hq, q⟩ := q3
  cases r1
  have I4 : Inv X pins σ H3 { s3 with heap := s3.heap.push { cls := .type "slice", data := .fields #[vl, .none, vk] } } := I3.kept (t' := s3.toks) fun b ob q => Heap.get?_push_of_some _ q
  obtain ⟨its, rv, pl', hz⟩ := I4.list hq
  have hlen := rv.length
  show wpAny (model X.prog X.w) X.A (subscriptTail e (.Slice (some a) none (some b) p2) (.ref ad) (.ref s3.heap.objs.size)) (EP X pins σ Q) X.xe { s3 with heap := s3.heap.push { cls := .type "slice", data := .fields #[vl, .none, vk] } }
  have hsz : its.toArray.size ≤ sizeLine := by rw [List.size_toArray, ← hlen]; exact hz
  have hpick : slicePick its.toArray (some i) none (some n) = ((pickI xs.length i n).filterMap (its[·]?)).toArray := by
    unfold slicePick pickI sliceBounds
    have h1 : ¬ i < 0 := by omega
    simp only [Option.getD_some, if_neg h1, if_pos hn, List.size_toArray, ← hlen]
    congr 2
    funext j
    simp
  have key := vals_pick rv (pickI xs.length i n)
  have hle : ((pickI xs.length i n).filterMap (xs[·]?)).length ≤ sizeLine := by
    rw [key.length]
    have := slicePick_size_le its.toArray (some i) none (some n)
    rw [hpick, List.size_toArray] at this
    omega
  refine tail_any (ops := [.ref ad, .ref s3.heap.objs.size]) pl'.isList.typeIs slot_list_getitem.lookup (wpAny_getItem_list_slice pl'.isList (Heap.IsSliceOf.new ..) pl .none pk (by intro z; cases z; omega) ?_ hsz) (by with_unfolding_all rfl)
  rw [hpick]
  exact ⟨.ref _, _, I4.lnew (t' := s3.toks) key hle, rfl, q _ I4.fresh⟩
noncomputable def rMulS : R2 := fun x y H Q => ∃ z n, x = .str z ∧ y = .int n ∧ 0 ≤ n ∧ n ≤ 1000 ∧ z.length ≤ 1000 ∧ Q (.str (Txt.mul z n)) H
theorem op_mulS : OpR X (binaryOp .Mult) rMulS := by
  intro pins s σ H x y v u Q I rx ry h
  obtain ⟨z, n, rfl, rfl, h0, h1, h2, q⟩ := h
  obtain ⟨t, rfl⟩ := rx
  obtain ⟨t', rfl⟩ := ry
  have hm : z.length * n.toNat ≤ 1000 * 1000 := Nat.mul_le_mul h2 (by omega)
  refine PySem.SB.mul ⟨?_, fun hn _ => ?_, fun _ _ => ?_⟩ fun t2 k => ⟨.str _, H, I.tok _, ⟨_, rfl⟩, q⟩
  · have e1 : decide (n < -(2 ^ 63 : Int)) = false := decide_eq_false (by omega)
    have e2 : decide (n ≥ 2 ^ 63) = false := decide_eq_false (by omega)
    rw [e1, e2]
    rfl
  · have hz : (z.length : Int) * n ≤ 2 ^ 63 - 1 := by
      have e : (z.length : Int) * n = ((z.length * n.toNat : Nat) : Int) := by rw [Int.natCast_mul, Int.toNat_of_nonneg h0]
      rw [e]
      omega
    have := Int.le_ediv_of_mul_le (show (0 : Int) < n by omega) hz
    omega
  · refine decide_eq_false ?_
    have : (1000 * 1000 : Nat) ≤ sizeLine := by decide
    omega
end
end _L2
set_option Elab.async false
set_option linter.all false
set_option maxRecDepth 100000
set_option maxHeartbeats 4000000
namespace _L3
open PySem PySem.Spec PyProof.Rows _L2
set_option genInjectivity true in
inductive D where
  | non | bl (b : Bool) | int (i : Int) | str (x : Str)
  | tup (ds : List D) | lst (ds : List D) | scr (ds : List D)
  | dF (ks : List Key) (vs : List D)
  | cel (n : Nat)
inductive Cl where
  | lst (ds : List D)
noncomputable abbrev M := List (Option Cl)
set_option genInjectivity true in
inductive Out (α : Type) where
  | ok (a : α) (μ : M) | exc (x : D) (μ : M) | bad
noncomputable def Out.bind {α β : Type} (o : Out α) (f : α → M → Out β) : Out β :=
  match o with
  | .ok a μ => f a μ
  | .exc x μ => .exc x μ
  | .bad => .bad
theorem Out.bind_ok {α β : Type} {o : Out α} {f : α → M → Out β} {b : β} {μ : M} (h : o.bind f = .ok b μ) : ∃ a μ1, o = .ok a μ1 ∧ f a μ1 = .ok b μ := by
  cases o with
  | ok a μ1 => exact ⟨a, μ1, rfl, h⟩
  | exc x μ1 => cases h
  | bad => cases h
structure Wd where
  Z : Hp
  γ : Nat → Addr
section
variable (K : PySem.W.Frag) (w : Wd) (n : Nat)
mutual
noncomputable def Den : D → V → Prop
  | .non, v => v = .non
  | .bl b, v => v = .bl b
  | .int i, v => v = .int i
  | .str x, v => v = .str x
  | .tup ds, v => ∃ a xs, v = .ref a ∧ SqT K w.Z a xs ∧ DenL ds xs
  | .lst ds, v => ∃ a xs, v = .ref a ∧ w.Z a = some (.lst xs) ∧ DenL ds xs
  | .scr ds, v => ∃ a xs, v = .ref a ∧ SqL K w.Z a xs ∧ DenL ds xs
  | .dF ks vs, v => ∃ a o es ep xs, v = .ref a ∧ ks.length = vs.length ∧ o.data = .dict es ep ∧ w.Z a = some (.frz o (.dK (ks.zip xs))) ∧ DenL vs xs
  | .cel k, v => k < n ∧ v = .ref (w.γ k)
noncomputable def DenL : List D → List V → Prop
  | [], vs => vs = []
  | d :: ds, vs => ∃ v ws, vs = v :: ws ∧ Den d v ∧ DenL ds ws
end
noncomputable def Holds (H : Hp) (a : Addr) : Cl → Prop
  | .lst ds => ∃ xs, H a = some (.lst xs) ∧ DenL K w n ds xs
end
structure Ext (w w' : Wd) (n n' : Nat) : Prop where
  z : Same w.Z w'.Z
  g : ∀ i, i < n → w'.γ i = w.γ i
  le : n ≤ n'
theorem Ext.refl (w : Wd) (n : Nat) : Ext w w n n := ⟨Same.refl _, fun _ _ => rfl, Nat.le_refl _⟩
theorem Ext.trans {w w1 w2 : Wd} {n n1 n2 : Nat} (a : Ext w w1 n n1) (b : Ext w1 w2 n1 n2) : Ext w w2 n n2 :=
  ⟨a.z.trans b.z, fun i hi => (b.g i (Nat.lt_of_lt_of_le hi a.le)).trans (a.g i hi), Nat.le_trans a.le b.le⟩
section
variable {K : PySem.W.Frag} {w w' : Wd} {n n' : Nat}
theorem denL_iff : ∀ {ds : List D} {xs : List V}, DenL K w n ds xs ↔ Paired (Den K w n) ds xs
  | [], xs => by
    unfold DenL
    exact ⟨fun h => by subst h; exact .nil, fun h => by cases h; rfl⟩
  | d :: ds, xs => by
    unfold DenL
    constructor
    · rintro ⟨v, ws, rfl, h1, h2⟩
      exact .cons h1 (denL_iff.mp h2)
    · intro h
      cases h with
      | cons h1 h2 => exact ⟨_, _, rfl, h1, denL_iff.mpr h2⟩
mutual
theorem Den.mono (e : Ext w w' n n') : ∀ {d : D} {v : V}, Den K w n d v → Den K w' n' d v
  | .non, _, h => by unfold Den at h ⊢; exact h
  | .bl _, _, h => by unfold Den at h ⊢; exact h
  | .int _, _, h => by unfold Den at h ⊢; exact h
  | .str _, _, h => by unfold Den at h ⊢; exact h
  | .tup ds, _, h => by
    unfold Den at h ⊢
    obtain ⟨a, xs, h1, h2, h3⟩ := h
    exact ⟨a, xs, h1, e.z.tup h2, DenL.mono e h3⟩
  | .lst ds, _, h => by
    unfold Den at h ⊢
    obtain ⟨a, xs, h1, h2, h3⟩ := h
    exact ⟨a, xs, h1, e.z _ _ h2, DenL.mono e h3⟩
  | .scr ds, _, h => by
    unfold Den at h ⊢
    obtain ⟨a, xs, h1, h2, h3⟩ := h
    exact ⟨a, xs, h1, e.z.seq h2, DenL.mono e h3⟩
  | .dF ks vs, _, h => by
    unfold Den at h ⊢
    obtain ⟨a, o, es, ep, xs, h1, h2, h3, h4, h5⟩ := h
    exact ⟨a, o, es, ep, xs, h1, h2, h3, e.z _ _ h4, DenL.mono e h5⟩
  | .cel k, _, h => by
    unfold Den at h ⊢
    exact ⟨Nat.lt_of_lt_of_le h.1 e.le, by rw [e.g k h.1]; exact h.2⟩
theorem DenL.mono (e : Ext w w' n n') : ∀ {ds : List D} {xs : List V}, DenL K w n ds xs → DenL K w' n' ds xs
  | [], _, h => by unfold DenL at h ⊢; exact h
  | d :: ds, _, h => by
    unfold DenL at h ⊢
    obtain ⟨v, ws, h1, h2, h3⟩ := h
    exact ⟨v, ws, h1, Den.mono e h2, DenL.mono e h3⟩
end
theorem Holds.mono {H H' : Hp} {a : Addr} {c : Cl} (e : Ext w w' n n') (ha : H' a = H a) (h : Holds K w n H a c) : Holds K w' n' H' a c := by
  cases c with
  | lst ds => obtain ⟨xs, h1, h2⟩ := h; exact ⟨xs, ha.trans h1, h2.mono e⟩
theorem Holds.some {H : Hp} {a : Addr} {c : Cl} (h : Holds K w n H a c) : ∃ o, H a = some o := by
  cases c with
  | lst ds => obtain ⟨xs, h1, h2⟩ := h; exact ⟨_, h1⟩
end
structure Rep (K : PySem.W.Frag) (w : Wd) (μ : M) (H : Hp) : Prop where
  sub : Same w.Z H
  liv : ∀ k c, μ[k]? = some (some c) → w.Z (w.γ k) = none ∧ Holds K w μ.length H (w.γ k) c
  inj : ∀ i j ci cj, μ[i]? = some (some ci) → μ[j]? = some (some cj) → w.γ i = w.γ j → i = j
section
variable {K : PySem.W.Frag} {w : Wd} {μ : M} {H : Hp}
theorem Rep.znone (R : Rep K w μ H) {p : Addr} (hp : H p = none) : w.Z p = none := R.sub.free hp
theorem Rep.ne (R : Rep K w μ H) {p : Addr} (hp : H p = none) {k : Nat} {c : Cl} (h : μ[k]? = some (some c)) : w.γ k ≠ p := fun e => by
  obtain ⟨o, ho⟩ := (R.liv k c h).2.some
  rw [e, hp] at ho
  cases ho
theorem Rep.frz (R : Rep K w μ H) {p : Addr} (hp : H p = none) (o : HO) : Rep K ⟨upd w.Z p o, w.γ⟩ μ (upd H p o) ∧ Ext w ⟨upd w.Z p o, w.γ⟩ μ.length μ.length := by
  have ex : Ext w ⟨upd w.Z p o, w.γ⟩ μ.length μ.length := ⟨(Same.refl _).upd (R.znone hp), fun _ _ => rfl, Nat.le_refl _⟩
  refine ⟨⟨fun b u h => ?_, fun k c h => ?_, R.inj⟩, ex⟩
  · replace h : upd w.Z p o b = some u := h
    by_cases e : b = p
    · subst e
      rw [upd_same] at h ⊢
      exact h
    · rw [upd_ne e] at h ⊢
      exact R.sub _ _ h
  · have hne := R.ne hp h
    exact ⟨by show upd w.Z p o (w.γ k) = none; rw [upd_ne hne]; exact (R.liv k c h).1, (R.liv k c h).2.mono ex (upd_ne hne)⟩
theorem Rep.cell (R : Rep K w μ H) {p : Addr} (hp : H p = none) (o : HO) (c : Cl) (hc : ∀ w' : Wd, Ext w w' μ.length (μ.length + 1) → Holds K w' (μ.length + 1) (upd H p o) p c) :
    ∃ w' : Wd, Rep K w' (μ ++ [some c]) (upd H p o) ∧ Ext w w' μ.length (μ.length + 1) ∧ w'.γ μ.length = p := by
  have ex : Ext w ⟨w.Z, fun i => if i = μ.length then p else w.γ i⟩ μ.length (μ.length + 1) := ⟨Same.refl _, fun i hi => if_neg (Nat.ne_of_lt hi), Nat.le_succ _⟩
  have hcases : ∀ (k : Nat) (d : Cl), (μ ++ [some c])[k]? = some (some d) → (k < μ.length ∧ μ[k]? = some (some d)) ∨ (k = μ.length ∧ d = c) := fun k d h => by
    by_cases hk : k < μ.length
    · exact .inl ⟨hk, by rwa [List.getElem?_append_left hk] at h⟩
    · rw [List.getElem?_append_right (by omega)] at h
      have hk0 : k - μ.length = 0 := by
        cases e : k - μ.length with
        | zero => rfl
        | succ m => rw [e] at h; simp at h
      rw [hk0] at h
      exact .inr ⟨by omega, by simpa using h.symm⟩
  refine ⟨_, ⟨?_, ?_, ?_⟩, ex, if_pos rfl⟩
  · intro b u h
    have hb : b ≠ p := ne_of_none (R.sub _ _ h) hp
    rw [upd_ne hb]
    exact R.sub _ _ h
  · intro k d h
    have hlen : (μ ++ [some c]).length = μ.length + 1 := by simp
    rw [hlen]
    rcases hcases k d h with ⟨hk, h'⟩ | ⟨rfl, rfl⟩
    · have hne := R.ne hp h'
      have hg : (if k = μ.length then p else w.γ k) = w.γ k := if_neg (Nat.ne_of_lt hk)
      show w.Z (if k = μ.length then p else w.γ k) = none ∧ Holds K _ _ _ (if k = μ.length then p else w.γ k) d
      rw [hg]
      exact ⟨(R.liv k d h').1, (R.liv k d h').2.mono ex (upd_ne hne)⟩
    · show w.Z (if μ.length = μ.length then p else w.γ μ.length) = none ∧ Holds K _ _ _ (if μ.length = μ.length then p else w.γ μ.length) d
      rw [if_pos rfl]
      exact ⟨R.znone hp, hc _ ex⟩
  · intro i j ci cj hi hj e
    have e' : (if i = μ.length then p else w.γ i) = (if j = μ.length then p else w.γ j) := e
    rcases hcases i ci hi with ⟨hi', h1⟩ | ⟨rfl, _⟩ <;> rcases hcases j cj hj with ⟨hj', h2⟩ | ⟨rfl, _⟩
    · rw [if_neg (Nat.ne_of_lt hi'), if_neg (Nat.ne_of_lt hj')] at e'
      exact R.inj i j ci cj h1 h2 e'
    · rw [if_neg (Nat.ne_of_lt hi'), if_pos rfl] at e'
      exact absurd e' (R.ne hp h1)
    · rw [if_pos rfl, if_neg (Nat.ne_of_lt hj')] at e'
      exact absurd e'.symm (R.ne hp h2)
    · rfl
theorem Rep.put (R : Rep K w μ H) {k : Nat} {c0 c : Cl} (hk : μ[k]? = some (some c0)) (o : HO) (hc : Holds K w μ.length (upd H (w.γ k) o) (w.γ k) c) : Rep K w (μ.set k (some c)) (upd H (w.γ k) o) := by
  have hkl : k < μ.length := (List.getElem?_eq_some_iff.mp hk).1
  have hz := (R.liv k c0 hk).1
  have hcases : ∀ (j : Nat) (d : Cl), (μ.set k (some c))[j]? = some (some d) → (j = k ∧ d = c) ∨ (j ≠ k ∧ μ[j]? = some (some d)) := fun j d h => by
    by_cases e : j = k
    · subst e
      rw [List.getElem?_set_self hkl] at h
      exact .inl ⟨rfl, by simpa using h.symm⟩
    · rw [List.getElem?_set_ne (fun z => e z.symm)] at h
      exact .inr ⟨e, h⟩
  refine ⟨fun b u h => ?_, fun j d h => ?_, fun i j ci cj hi hj e => ?_⟩
  · have hb : b ≠ w.γ k := fun z => by rw [z, hz] at h; cases h
    rw [upd_ne hb]
    exact R.sub _ _ h
  · rw [List.length_set]
    rcases hcases j d h with ⟨rfl, rfl⟩ | ⟨hne, h'⟩
    · exact ⟨hz, hc⟩
    · have : w.γ j ≠ w.γ k := fun z => hne (R.inj j k d c0 h' hk z)
      exact ⟨(R.liv j d h').1, (R.liv j d h').2.mono (Ext.refl _ _) (upd_ne this)⟩
  · have l1 : ∃ c', μ[i]? = some (some c') := by
      rcases hcases i ci hi with ⟨rfl, _⟩ | ⟨_, h⟩
      · exact ⟨_, hk⟩
      · exact ⟨_, h⟩
    have l2 : ∃ c', μ[j]? = some (some c') := by
      rcases hcases j cj hj with ⟨rfl, _⟩ | ⟨_, h⟩
      · exact ⟨_, hk⟩
      · exact ⟨_, h⟩
    exact R.inj i j _ _ l1.choose_spec l2.choose_spec e
end
noncomputable abbrev S3 := List (Option D)
noncomputable def SlR3 (K : PySem.W.Frag) (w : Wd) (n : Nat) (o : Option D) (x : Option V) : Prop := ∀ d, o = some d → ∃ v, x = some v ∧ Den K w n d v
noncomputable abbrev DenS (K : PySem.W.Frag) (w : Wd) (n : Nat) (ρ : S3) (σ : _L2.St) : Prop := Paired (SlR3 K w n) ρ σ
section
variable {K : PySem.W.Frag} {w w' : Wd} {n n' : Nat}
theorem DenS.mono (e : Ext w w' n n') : ∀ {ρ : S3} {σ : _L2.St}, DenS K w n ρ σ → DenS K w' n' ρ σ
  | _, _, .nil => .nil
  | _, _, .cons h t => .cons (fun d hd => let ⟨v, h1, h2⟩ := h d hd; ⟨v, h1, h2.mono e⟩) (DenS.mono e t)
theorem DenS.get : ∀ {ρ : S3} {σ : _L2.St} {i : Nat} {d : D}, DenS K w n ρ σ → ρ[i]? = some (some d) → ∃ v, σ[i]? = some (some v) ∧ Den K w n d v
  | _, _, 0, d, .cons h t, e => by
    obtain ⟨v, h1, h2⟩ := h d (by simpa using e)
    exact ⟨v, by simp [h1], h2⟩
  | _, _, i + 1, d, .cons h t, e => by
    obtain ⟨v, h1, h2⟩ := DenS.get (i := i) (d := d) t (by simpa using e)
    exact ⟨v, by simpa using h1, h2⟩
  | _, _, _, _, .nil, e => by simp at e
theorem DenS.set {d : D} {v : V} (hd : Den K w n d v) : ∀ {ρ : S3} {σ : _L2.St} (i : Nat), DenS K w n ρ σ → DenS K w n (ρ.set i (some d)) (σ.set i (some v))
  | _, _, _, .nil => .nil
  | _, _, 0, .cons _ t => .cons (fun d' e => by cases e; exact ⟨v, rfl, hd⟩) t
  | _, _, i + 1, .cons h t => .cons h (DenS.set hd i t)
theorem DenS.drop1 : ∀ {ρ : S3} {σ : _L2.St} (i : Nat), DenS K w n ρ σ → DenS K w n (ρ.set i none) σ
  | _, _, _, .nil => .nil
  | _, _, 0, .cons _ t => .cons (fun d' e => by cases e) t
  | _, _, i + 1, .cons h t => .cons h (DenS.drop1 i t)
noncomputable def forget (fg : List Nat) (ρ : S3) : S3 := fg.foldl (fun r i => r.set i none) ρ
theorem DenS.forget : ∀ (fg : List Nat) {ρ : S3} {σ : _L2.St}, DenS K w n ρ σ → DenS K w n (forget fg ρ) σ
  | [], _, _, h => h
  | i :: fg, _, _, h => DenS.forget fg (h.drop1 i)
theorem DenS.blank : ∀ (k : Nat) {ρ : S3} {σ : _L2.St}, DenS K w n ρ σ → DenS K w n (List.replicate k none ++ ρ) (List.replicate k none ++ σ)
  | 0, _, _, h => h
  | k + 1, _, _, h => by
    rw [List.replicate_succ, List.replicate_succ]
    exact .cons (fun d e => by cases e) (DenS.blank k h)
theorem DenS.start {vs : List V} {ds : List D} (h : DenL K w n ds vs) (m : Nat) : DenS K w n (ds.map some ++ List.replicate m none) (vs.map some ++ List.replicate m none) := by
  have h' := denL_iff.mp h
  clear h
  induction h' with
  | nil =>
    have := DenS.blank (K := K) (w := w) (n := n) m (Paired.nil : DenS K w n [] [])
    simpa using this
  | cons r t ih => exact .cons (fun d e => by cases e; exact ⟨_, rfl, r⟩) ih
end
noncomputable def T3E (K : PySem.W.Frag) (r : S3 → M → Out D) : TE := fun σ H Q => ∃ (w : Wd) (μ : M) (ρ : S3) (d : D) (μ' : M), Rep K w μ H ∧ DenS K w μ.length ρ σ ∧ r ρ μ = .ok d μ' ∧ ∀ w' H' v, Ext w w' μ.length μ'.length → Rep K w' μ' H' → Den K w' μ'.length d v → Q v H'
noncomputable def T3T (K : PySem.W.Frag) (r : S3 → M → Out Bool) : TT := fun σ H Q => ∃ (w : Wd) (μ : M) (ρ : S3) (b : Bool) (μ' : M), Rep K w μ H ∧ DenS K w μ.length ρ σ ∧ r ρ μ = .ok b μ' ∧ ∀ w' H', Ext w w' μ.length μ'.length → Rep K w' μ' H' → Q b H'
noncomputable def T3A (K : PySem.W.Frag) (r : S3 → M → Out (List D)) : TA := fun σ H Q => ∃ (w : Wd) (μ : M) (ρ : S3) (ds : List D) (μ' : M), Rep K w μ H ∧ DenS K w μ.length ρ σ ∧ r ρ μ = .ok ds μ' ∧ ∀ w' H' vs, Ext w w' μ.length μ'.length → Rep K w' μ' H' → DenL K w' μ'.length ds vs → Q vs H'
set_option genInjectivity true in
inductive Fl where
  | nx (ρ : S3) | rt (d : D)
noncomputable def FlOk (K : PySem.W.Frag) (w : Wd) (n : Nat) (H : Hp) (E : Ends) : Fl → Prop
  | .nx ρ => ∀ σ, DenS K w n ρ σ → E.nx σ H
  | .rt d => ∀ v, Den K w n d v → E.rt v H
noncomputable def T3S (K : PySem.W.Frag) (r : S3 → M → Out Fl) : TS := fun E σ H => ∃ (w : Wd) (μ : M) (ρ : S3) (fl : Fl) (μ' : M), Rep K w μ H ∧ DenS K w μ.length ρ σ ∧ r ρ μ = .ok fl μ' ∧ ∀ w' H', Ext w w' μ.length μ'.length → Rep K w' μ' H' → FlOk K w' μ'.length H' E fl
noncomputable abbrev Fn := List D → M → Out D
noncomputable def spOf (K : PySem.W.Frag) (np : Nat) (F : Fn) : Sp := fun vs H Q _ => vs.length = np ∧ ∃ (w : Wd) (μ : M) (ds : List D) (d : D) (μ' : M), Rep K w μ H ∧ DenL K w μ.length ds vs ∧ F ds μ = .ok d μ' ∧ ∀ w' H' v, Ext w w' μ.length μ'.length → Rep K w' μ' H' → Den K w' μ'.length d v → Q v H'
end _L3
set_option Elab.async false
set_option linter.all false
set_option maxRecDepth 100000
set_option maxHeartbeats 4000000
namespace _L3
open PySem PySem.Spec PyProof.Rows _L2
inductive Tg where | nm (i : Nat) | tp (is : List Nat)
inductive IK where | seq | enm | zip | rng1 | rng2 | str | items
inductive Md where | raw | frz | new
inductive Bi where | len | sum | min2 | max2 | list | tuple | int | all | isT (n : String) | listRange | str | lenSet | dictZip
inductive Mt where | append | extend | join | split
inductive E where
  | var (i : Nat) | cst (d : D)
  | bin (op : Operator) (m : Bool) (a b : E)
  | neg (a : E) | not_ (a : E) | and_ (a b : E) | or_ (a b : E)
  | cmp (op : CmpOp) (a b : E) | chain (o1 o2 : CmpOp) (a b c : E)
  | isN (a : E) | notN (a : E)
  | ife (c a b : E)
  | tup (es : List E) | lst (m : Bool) (es : List E)
  | ix (a b : E) | sl (m : Bool) (a : E) (lo hi : List E) | stp (m : Bool) (a : E) (lo st : List E)
  | fld (a : E) (f : Str)
  | call (f : Nat) (md : Md) (es : List E)
  | bi (b : Bi) (m : Bool) (es : List E)
  | mt (b : Mt) (o : E) (es : List E)
  | comp (m : Bool) (own : Nat) (tg : Tg) (ik : IK) (es : List E) (ifs : List E) (elt : E)
  | gl (f : Nat) | gget (f : Nat) (a d : E) | gin (neg : Bool) (f : Nat) (a : E) | gix (f : Nat) (a : E)
inductive S where
  | asg (tg : Tg) (e : E) | setF (o : E) (f : Str) (e : E) | setI (o i e : E) | ex (e : E)
  | ite (c : E) (a b : List S)
  | for_ (tg : Tg) (ik : IK) (es : List E) (body : List S) (fg : List Nat)
  | ret (e : E) | retN | pass | never
inductive Dat where
  | cst (d : D) | dct (kvs : List (Str × D))
structure FnE where
  name : Str
  ps : List Str
  lv : Nat
  F : Fn
  dat : Option Dat
noncomputable def seqL (μ : M) : D → Option (List D)
  | .lst ds => some ds
  | .scr ds => some ds
  | .cel k => match μ[k]? with
    | some (some (.lst ds)) => some ds
    | _ => none
  | _ => none
noncomputable def seqA (μ : M) : D → Option (List D)
  | .tup ds => some ds
  | d => seqL μ d
noncomputable def mkL (m : Bool) (ds : List D) (μ : M) : Out D := if m then .ok (.cel μ.length) (μ ++ [some (.lst ds)]) else .ok (.lst ds) μ
noncomputable def cutD (ds : List D) (lo hi : Option Int) : List D := (ds.drop (HT.sIx ds.length 0 lo)).take (HT.sIx ds.length ds.length hi - HT.sIx ds.length 0 lo)
noncomputable def flatD : D → Option V
  | .non => some .non
  | .bl b => some (.bl b)
  | .int i => some (.int i)
  | .str x => some (.str x)
  | _ => none
noncomputable abbrev CMul3 (i j : Int) : Prop := (-18446744073709551616 < i ∧ i < 18446744073709551616) ∨ (-18446744073709551616 < j ∧ j < 18446744073709551616)
noncomputable abbrev CDiv3 (_ j : Int) : Prop := 0 < j ∧ j < 18446744073709551616
noncomputable abbrev CMod3 (_ j : Int) : Prop := 0 < j
noncomputable abbrev CPow3 (i j : Int) : Prop := 0 ≤ j ∧ j ≤ 1000000 ∧ i.natAbs < 18446744073709551616
noncomputable def intD (C : Int → Int → Prop) (f : Int → Int → Int) (a b : D) (μ : M) : Out D :=
  match a, b with
  | .int i, .int j => @ite _ (C i j) (Classical.propDecidable _) (.ok (.int (f i j)) μ) .bad
  | _, _ => .bad
noncomputable def addD (m : Bool) (a b : D) (μ : M) : Out D :=
  match a, b with
  | .int i, .int j => .ok (.int (i + j)) μ
  | .str x, .str y => @ite _ (x.length + y.length ≤ sizeLine) (Classical.propDecidable _) (.ok (.str (x ++ y)) μ) .bad
  | a, b => match seqL μ a, seqL μ b with
    | some xs, some ys => @ite _ (xs.length + ys.length ≤ sizeLine) (Classical.propDecidable _) (mkL m (xs ++ ys) μ) .bad
    | _, _ => .bad
noncomputable def mulD (a b : D) (μ : M) : Out D :=
  match a, b with
  | .int i, .int j => @ite _ (CMul3 i j) (Classical.propDecidable _) (.ok (.int (i * j)) μ) .bad
  | .str z, .int n => if 0 ≤ n ∧ n ≤ 1000 ∧ z.length ≤ 1000 then .ok (.str (Txt.mul z n)) μ else .bad
  | _, _ => .bad
noncomputable def binD (op : Operator) (m : Bool) : D → D → M → Out D :=
  match op with
  | .Add => addD m
  | .Sub => intD (fun _ _ => True) (· - ·)
  | .Mult => mulD
  | .FloorDiv => intD CDiv3 (· / ·)
  | .Mod => intD CMod3 (· % ·)
  | .Pow => intD CPow3 (fun i j => i ^ j.toNat)
  | _ => fun _ _ _ => .bad
noncomputable def eqDs (f : D → D → Option Bool) : List D → List D → Option Bool
  | x :: xs, y :: ys => match f x y, eqDs f xs ys with
    | some a, some b => some (a && b)
    | _, _ => none
  | _, _ => some true
noncomputable def eqN (f : D → D → Option Bool) (μ : M) (a b : D) : Option Bool :=
  match a, b with
  | .tup xs, .tup ys => (eqDs f xs ys).map (· && xs.length == ys.length)
  | _, _ => none
noncomputable def eqD (μ : M) : Nat → D → D → Option Bool
  | 0, _, _ => none
  | n + 1, a, b => match flatD a, flatD b with
    | some x, some y => some (eqV x y)
    | _, _ => eqN (eqD μ n) μ a b
noncomputable def eqTop (μ : M) (a b : D) : Option Bool :=
  match flatD a, flatD b with
  | some x, some y => if scal x y = true then some (decide (x = y)) else none
  | _, _ => eqN (eqD μ 8) μ a b
noncomputable def inDs (x : V) : List D → Option Bool
  | [] => some false
  | d :: ds => match flatD d, inDs x ds with
    | some y, some r => some (eqV y x || r)
    | _, _ => none
noncomputable def keyD : D → Option Key
  | .int i => some (.inl i)
  | .str x => some (.inr x)
  | _ => none
noncomputable def dictL (μ : M) : D → Option (List Key × List D)
  | .dF ks vs => some (ks, vs)
  | _ => none
noncomputable def getK (k : Key) : List Key → List D → Option D
  | g :: ks, d :: ds => if g = k then some d else getK k ks ds
  | _, _ => none
noncomputable def inD (μ : M) (a b : D) : Option Bool :=
  match seqA μ b with
  | some ds => match flatD a with
    | some x => inDs x ds
    | none => none
  | none => match keyD a, dictL μ b with
    | some k, some (ks, vs) => some (getK k ks vs).isSome
    | _, _ => none
noncomputable def cmpB (op : CmpOp) (a b : D) (μ : M) : Option Bool :=
  match op with
  | .Eq => eqTop μ a b
  | .NotEq => (eqTop μ a b).map (!·)
  | .Lt => match a, b with
    | .int i, .int j => some (decide (i < j))
    | _, _ => none
  | .LtE => match a, b with
    | .int i, .int j => some (decide (i ≤ j))
    | .str i, .str j => some (!decide (j.cps.toList < i.cps.toList))
    | _, _ => none
  | .Gt => match a, b with
    | .int i, .int j => some (decide (j < i))
    | _, _ => none
  | .GtE => match a, b with
    | .int i, .int j => some (decide (j ≤ i))
    | _, _ => none
  | .In => inD μ a b
  | .NotIn => (inD μ a b).map (!·)
  | .Is => none
  | .IsNot => none
noncomputable def cmpD (op : CmpOp) (a b : D) (μ : M) : Out D :=
  match cmpB op a b μ with
  | some r => .ok (.bl r) μ
  | none => .bad
noncomputable def truD (μ : M) : D → Option Bool
  | .bl b => some b
  | _ => none
noncomputable def dixD (a : D) (k : Key) (μ : M) : Out D :=
  match dictL μ a with
  | some (ks, vs) => match getK k ks vs with
    | some d => .ok d μ
    | none => .bad
  | none => .bad
noncomputable def ixD (a b : D) (μ : M) : Out D :=
  match b with
  | .int i => match a with
    | .str z => @ite _ (z.length ≤ sizeLine) (Classical.propDecidable _) (match atI z.cps.toList i with
        | some c => .ok (.str ⟨#[c]⟩) μ
        | none => .bad) .bad
    | a => match seqA μ a with
      | some ds => match atI ds i with
        | some d => .ok d μ
        | none => .bad
      | none => dixD a (.inl i) μ
  | .str k => dixD a (.inr k) μ
  | _ => .bad
noncomputable def slD (m : Bool) (a : D) (lo hi : Option Int) (μ : M) : Out D :=
  match a with
  | .str z => @ite _ (z.length ≤ sizeLine) (Classical.propDecidable _) (.ok (.str (Txt.slice z lo hi)) μ) .bad
  | .tup ds => if HT.sIx ds.length 0 lo = 0 ∧ HT.sIx ds.length ds.length hi = ds.length then .bad else .ok (.tup (cutD ds lo hi)) μ
  | a => match seqL μ a with
    | some ds => mkL m (cutD ds lo hi) μ
    | none => .bad
noncomputable def stpD (m : Bool) (a : D) (lo st : Option Int) (μ : M) : Out D :=
  match lo, st with
  | some i, some k => if 0 ≤ i ∧ 0 < k then match seqL μ a with
      | some ds => mkL m ((pickI ds.length i k).filterMap (ds[·]?)) μ
      | none => .bad
    else .bad
  | _, _ => .bad
noncomputable def blsD : List D → Option (List Bool)
  | [] => some []
  | .bl i :: ds => (blsD ds).map (i :: ·)
  | _ => none
noncomputable def strsD : List D → Option (List Str)
  | [] => some []
  | .str i :: ds => (strsD ds).map (i :: ·)
  | _ => none
noncomputable def tyD (μ : M) : D → Option String
  | .int _ => some "int"
  | .str _ => some "str"
  | .tup _ => some "tuple"
  | _ => none
noncomputable def isTy (n t : String) : Option Bool :=
  if n = "int" then some (t = "int" || t = "bool")
  else if n = "bool" ∨ n = "str" ∨ n = "tuple" then some (t = n)
  else none
noncomputable def lenD (ds : List D) (μ : M) : Out D :=
  match ds with
  | [.str z] => @ite _ (z.length ≤ sizeLine) (Classical.propDecidable _) (.ok (.int z.length) μ) .bad
  | [d] => match seqA μ d with
    | some xs => .ok (.int xs.length) μ
    | none => .bad
  | _ => .bad
noncomputable def minD (ds : List D) (μ : M) : Out D :=
  match ds with
  | [.int i, .int j] => .ok (.int (if j < i then j else i)) μ
  | _ => .bad
noncomputable def maxD (ds : List D) (μ : M) : Out D :=
  match ds with
  | [.int i, .int j] => .ok (.int (if j > i then j else i)) μ
  | _ => .bad
noncomputable def listD (m : Bool) (ds : List D) (μ : M) : Out D :=
  match ds with
  | [d] => match seqA μ d with
    | some xs => mkL m xs μ
    | none => .bad
  | _ => .bad
noncomputable def tupleD (ds : List D) (μ : M) : Out D :=
  match ds with
  | [d] => match seqA μ d with
    | some xs => .ok (.tup xs) μ
    | none => .bad
  | _ => .bad
noncomputable def toIntD (ds : List D) (μ : M) : Out D :=
  match ds with
  | [.int i] => .ok (.int i) μ
  | [.bl k] => .ok (.int (if k then 1 else 0)) μ
  | [.str z] => match PySem.intText? z with
    | some n => if z.length ≤ 640 then .ok (.int n) μ else .bad
    | none => .bad
  | _ => .bad
noncomputable def allD (ds : List D) (μ : M) : Out D :=
  match ds with
  | [d] => match seqL μ d with
    | some xs => match blsD xs with
      | some bs => .ok (.bl (bs.all id)) μ
      | none => .bad
    | none => .bad
  | _ => .bad
noncomputable def isTD (n : String) (ds : List D) (μ : M) : Out D :=
  match ds with
  | [d] => match tyD μ d with
    | some t => match isTy n t with
      | some r => .ok (.bl r) μ
      | none => .bad
    | none => .bad
  | _ => .bad
noncomputable def strD (ds : List D) (μ : M) : Out D :=
  match ds with
  | [.int i] => @ite _ (i.natAbs.log2 < 1920) (Classical.propDecidable _) (.ok (.str (toString i)) μ) .bad
  | [.str z] => .ok (.str z) μ
  | _ => .bad
noncomputable def lenSetD (ds : List D) (μ : M) : Out D :=
  match ds with
  | [d] => match seqA μ d with
    | some xs => match strsD xs with
      | some zs => if zs.length ≤ 1000 then .ok (.int (ddS zs).length) μ else .bad
      | none => .bad
    | none => .bad
  | _ => .bad
noncomputable def dictZipD (m : Bool) (ds : List D) (μ : M) : Out D :=
  match ds with
  | [a, b] => match seqA μ a, seqA μ b with
    | some xs, some ys => match strsD xs with
      | some zs => if zs.length = ys.length ∧ zs.length ≤ 1000 ∧ zs.Nodup then (if m then .bad else .ok (.dF (zs.map .inr) ys) μ) else .bad
      | none => .bad
    | _, _ => .bad
  | _ => .bad
noncomputable def biD (b : Bi) (m : Bool) : List D → M → Out D :=
  match b with
  | .len => lenD
  | .sum => fun _ _ => .bad
  | .min2 => minD
  | .max2 => maxD
  | .list => listD m
  | .tuple => tupleD
  | .int => toIntD
  | .all => allD
  | .isT n => isTD n
  | .listRange => fun _ _ => .bad
  | .str => strD
  | .lenSet => lenSetD
  | .dictZip => dictZipD m
noncomputable def mtTy (b : Mt) (o : D) (μ : M) : Bool :=
  match b, o with
  | .join, .str _ => true
  | .join, _ => false
  | .split, .str _ => true
  | .split, _ => false
  | _, .cel k => match μ[k]? with
    | some (some (.lst _)) => true
    | _ => false
  | _, _ => false
noncomputable def appD (o : D) (ds : List D) (μ : M) : Out D :=
  match o, ds with
  | .cel k, [d] => match μ[k]? with
    | some (some (.lst xs)) => @ite _ (xs.length < sizeLine) (Classical.propDecidable _) (.ok .non (μ.set k (some (.lst (xs ++ [d]))))) .bad
    | _ => .bad
  | _, _ => .bad
noncomputable def extD (o : D) (ds : List D) (μ : M) : Out D :=
  match o, ds with
  | .cel k, [.lst ys] => match μ[k]? with
    | some (some (.lst xs)) => @ite _ (xs.length + ys.length ≤ sizeLine) (Classical.propDecidable _) (.ok .non (μ.set k (some (.lst (xs ++ ys))))) .bad
    | _ => .bad
  | _, _ => .bad
noncomputable def joinD (o : D) (ds : List D) (μ : M) : Out D :=
  match o, ds with
  | .str z, [d] => match seqL μ d with
    | some xs => match strsD xs with
      | some ys => @ite _ ((ys.map (·.length)).sum + ys.length * z.length ≤ 16777216) (Classical.propDecidable _) (.ok (.str (Txt.join z ys)) μ) .bad
      | none => .bad
    | none => .bad
  | _, _ => .bad
noncomputable def splitD (o : D) (ds : List D) (μ : M) : Out D :=
  match o, ds with
  | .str z, [.str y] => @ite _ ((y.length == 0) = false ∧ z.length ≤ 100000) (Classical.propDecidable _) (.ok (.lst ((Txt.split z y).map .str)) μ) .bad
  | _, _ => .bad
noncomputable def mtD (b : Mt) : D → List D → M → Out D :=
  match b with
  | .append => appD
  | .extend => extD
  | .join => joinD
  | .split => splitD
noncomputable def setNs : List Nat → List D → S3 → Option S3
  | [], [], ρ => some ρ
  | i :: is, d :: ds, ρ => setNs is ds (ρ.set i (some d))
  | _, _, _ => none
noncomputable def asgD (tg : Tg) (d : D) (ρ : S3) : Option S3 :=
  match tg, d with
  | .nm i, d => some (ρ.set i (some d))
  | .tp is, .tup ds => setNs is ds ρ
  | _, _ => none
noncomputable def zipD : List D → List D → List D
  | x :: xs, y :: ys => .tup [x, y] :: zipD xs ys
  | _, _ => []
noncomputable def enmD : Nat → List D → List D
  | k, x :: xs => .tup [.int (k : Int), x] :: enmD (k + 1) xs
  | _, [] => []
noncomputable def itSeq (ds : List D) (μ : M) : Option (List D) :=
  match ds with
  | [d] => seqA μ d
  | _ => none
noncomputable def itEnm (ds : List D) (μ : M) : Option (List D) :=
  match ds with
  | [d] => (seqA μ d).map (enmD 0)
  | _ => none
noncomputable def itZip (ds : List D) (μ : M) : Option (List D) :=
  match ds with
  | [d, d'] => match seqA μ d, seqA μ d' with
    | some xs, some ys => some (zipD xs ys)
    | _, _ => none
  | _ => none
noncomputable def itRng1 (ds : List D) (_ : M) : Option (List D) :=
  match ds with
  | [.int j] => @ite _ (-(2 ^ 62) ≤ j ∧ j < 2 ^ 62) (Classical.propDecidable _) (some ((List.range j.toNat).map fun (k : Nat) => .int (k : Int))) none
  | _ => none
noncomputable def itRng2 (ds : List D) (_ : M) : Option (List D) :=
  match ds with
  | [.int i, .int j] => @ite _ (-(2 ^ 62) ≤ i ∧ i < 2 ^ 62 ∧ -(2 ^ 62) ≤ j ∧ j < 2 ^ 62) (Classical.propDecidable _) (some ((List.range (j - i).toNat).map fun (k : Nat) => .int (i + (k : Int)))) none
  | _ => none
noncomputable def itStr (ds : List D) (_ : M) : Option (List D) :=
  match ds with
  | [.str z] => some (z.cps.toList.map fun c => .str ⟨#[c]⟩)
  | _ => none
noncomputable def keyDat : Key → D
  | .inl i => .int i
  | .inr x => .str x
noncomputable def itmD : List Key → List D → List D
  | k :: ks, d :: ds => .tup [keyDat k, d] :: itmD ks ds
  | _, _ => []
noncomputable def itItems (ds : List D) (_ : M) : Option (List D) :=
  match ds with
  | [.dF ks vs] => some (itmD ks vs)
  | _ => none
noncomputable def itD (ik : IK) : List D → M → Option (List D) :=
  match ik with
  | .seq => itSeq
  | .enm => itEnm
  | .zip => itZip
  | .rng1 => itRng1
  | .rng2 => itRng2
  | .str => itStr
  | .items => itItems
noncomputable def stays (ik : IK) (ds : List D) (xs : List D) (μ : M) : Bool := @decide (itD ik ds μ = some xs) (Classical.propDecidable _)
noncomputable def compL (ok : M → Bool) (tg : Tg) (cond : S3 → M → Out Bool) (elt : S3 → M → Out D) (ρ : S3) : List D → M → Out (List D)
  | [], μ => if ok μ then .ok [] μ else .bad
  | d :: ds, μ => if ok μ then match asgD tg d ρ with
      | some ρ1 => (cond ρ1 μ).bind fun b μ1 => if b then (elt ρ1 μ1).bind fun y μ2 => (compL ok tg cond elt ρ ds μ2).bind fun ys μ3 => .ok (y :: ys) μ3 else compL ok tg cond elt ρ ds μ1
      | none => .bad
    else .bad
noncomputable def forL (ok : M → Bool) (tg : Tg) (body : S3 → M → Out Fl) (fg : List Nat) : List D → S3 → M → Out Fl
  | [], ρ, μ => if ok μ then .ok (.nx (forget fg ρ)) μ else .bad
  | d :: ds, ρ, μ => if ok μ then match asgD tg d ρ with
      | some ρ1 => match body ρ1 μ with
        | .ok (.nx ρ2) μ2 => forL ok tg body fg ds (forget fg ρ2) μ2
        | .ok (.rt d) μ2 => .ok (.rt d) μ2
        | .exc x μ2 => .exc x μ2
        | .bad => .bad
      | none => .bad
    else .bad
mutual
noncomputable def frzG (h : Nat → Option D) : D → Option D
  | .tup ds => (frzGs h ds).map .tup
  | .lst ds => (frzGs h ds).map .lst
  | .scr ds => (frzGs h ds).map .scr
  | .dF ks vs => (frzGs h vs).map (.dF ks)
  | .cel k => h k
  | .non => some .non
  | .bl b => some (.bl b)
  | .int i => some (.int i)
  | .str x => some (.str x)
noncomputable def frzGs (h : Nat → Option D) : List D → Option (List D)
  | [] => some []
  | d :: ds => match frzG h d, frzGs h ds with
    | some e, some es => some (e :: es)
    | _, _ => none
end
noncomputable def frzK (μ : M) (n0 : Nat) (keep : List Nat) : Nat → Nat → Option D
  | f, k => if k < n0 then some (.cel k) else if k ∈ keep then none else
    match f with
    | 0 => none
    | f + 1 => match μ[k]? with
      | some (some (.lst ds)) => (frzGs (frzK μ n0 keep f) ds).map .lst
      | _ => none
noncomputable def frzD (μ : M) (n0 : Nat) (d : D) : Option D := frzG (frzK μ n0 [] 4) d
noncomputable def newK : D → List Nat
  | .cel k => [k]
  | .tup ds => ds.filterMap fun d => match d with
    | .cel k => some k
    | _ => none
  | _ => []
noncomputable def celAt (n0 : Nat) (ks : List Nat) (k : Nat) : Option D := (ks.idxOf? k).map fun j => .cel (n0 + j)
noncomputable def keptL (μ : M) (n0 : Nat) (ks : List Nat) : List Nat → Option (List (List D))
  | [] => some []
  | k :: r => match μ[k]? with
    | some (some (.lst ds)) => match frzGs (frzK μ n0 ks 4) ds, keptL μ n0 ks r with
      | some c, some cs => some (c :: cs)
      | _, _ => none
    | _ => none
noncomputable def keptD (μ : M) (n0 : Nat) (ks : List Nat) : D → Option D
  | .cel k => celAt n0 ks k
  | d => frzG (frzK μ n0 ks 4) d
noncomputable def keptDs (μ : M) (n0 : Nat) (ks : List Nat) : List D → Option (List D)
  | [] => some []
  | d :: ds => match keptD μ n0 ks d, keptDs μ n0 ks ds with
    | some e, some es => some (e :: es)
    | _, _ => none
noncomputable def newD (μ : M) (n0 : Nat) (d : D) : Option (D × List (List D)) :=
  if (newK d).Nodup ∧ ∀ k ∈ newK d, n0 ≤ k then
    match keptL μ n0 (newK d) (newK d) with
    | some cs => match d with
      | .cel k => (celAt n0 (newK d) k).map fun d' => (d', cs)
      | .tup ds => (keptDs μ n0 (newK d) ds).map fun es => (.tup es, cs)
      | _ => none
    | none => none
  else none
open Classical in
noncomputable def callD (md : Md) (F : Fn) (ds : List D) (μ : M) : Out D :=
  match md with
  | .raw => F ds μ
  | .frz => match F ds μ with
    | .ok d μ' => if μ'.take μ.length = μ then match frzD μ' μ.length d with
        | some d' => .ok d' μ
        | none => .bad
      else .bad
    | .exc x μ' => if μ'.take μ.length = μ then match frzD μ' μ.length x with
        | some x' => .exc x' μ
        | none => .bad
      else .bad
    | .bad => .bad
  | .new => match (Out.bad : Out D) with
    | .ok d μ' => if μ'.take μ.length = μ then match newD μ' μ.length d with
        | some (d', cs) => .ok d' (μ ++ cs.map fun xs => some (.lst xs))
        | none => .bad
      else .bad
    | .exc x μ' => if μ'.take μ.length = μ then match frzD μ' μ.length x with
        | some x' => .exc x' μ
        | none => .bad
      else .bad
    | .bad => .bad
noncomputable def datG (G : List FnE) (f : Nat) : Option Dat := (G[f]?).bind (·.dat)
noncomputable def lookD (z : Str) : List (Str × D) → Option D
  | [] => none
  | p :: r => if p.1 = z then some p.2 else lookD z r
noncomputable def glD (o : Option Dat) (μ : M) : Out D :=
  match o with
  | some (.cst d) => .ok d μ
  | _ => .bad
noncomputable def ggetD (o : Option Dat) (x y : D) (μ : M) : Out D :=
  match o, x with
  | some (.dct kvs), .str z => .ok ((lookD z kvs).getD y) μ
  | _, _ => .bad
noncomputable def ginD (neg : Bool) (o : Option Dat) (x : D) (μ : M) : Out D :=
  match o, x with
  | some (.dct kvs), .str z => .ok (.bl (if neg then !(lookD z kvs).isSome else (lookD z kvs).isSome)) μ
  | _, _ => .bad
noncomputable def gixD (o : Option Dat) (x : D) (μ : M) : Out D :=
  match o, x with
  | some (.dct kvs), .str z => match lookD z kvs with
    | some d => .ok d μ
    | none => .bad
  | _, _ => .bad
noncomputable def callG (G : List FnE) (f : Nat) (md : Md) (ds : List D) (μ : M) : Out D :=
  match G[f]? with
  | some g => callD md g.F ds μ
  | none => .bad
noncomputable def optI (o : Out (List D)) : Out (Option Int) := o.bind fun ds μ => match ds with
  | [] => .ok none μ
  | [.int i] => .ok (some i) μ
  | _ => .bad
noncomputable def toB (r : S3 → M → Out D) (ρ : S3) (μ : M) : Out Bool := (r ρ μ).bind fun d μ1 => match truD μ1 d with
  | some b => .ok b μ1
  | none => .bad
structure Ev where
  v : S3 → M → Out D
  t : S3 → M → Out Bool
noncomputable def Ev.of (v : S3 → M → Out D) : Ev := ⟨v, toB v⟩
noncomputable section
variable (G : List FnE)
mutual
noncomputable def ev : E → Ev
  | .var i => .of fun ρ μ => match ρ[i]? with
    | some (some d) => .ok d μ
    | _ => .bad
  | .cst d => .of fun _ μ => .ok d μ
  | .bin op m a b => .of fun ρ μ => ((ev a).v ρ μ).bind fun x μ1 => ((ev b).v ρ μ1).bind fun y μ2 => binD op m x y μ2
  | .neg a => .of fun ρ μ => ((ev a).v ρ μ).bind fun x μ1 => match x with
    | .int i => .ok (.int (-i)) μ1
    | _ => .bad
  | .not_ a => ⟨fun ρ μ => ((ev a).v ρ μ).bind fun x μ1 => match x with
    | .bl c => .ok (.bl (!c)) μ1
    | _ => .bad, fun ρ μ => ((ev a).t ρ μ).bind fun c μ1 => .ok (!c) μ1⟩
  | .and_ a b => ⟨fun ρ μ => ((ev a).v ρ μ).bind fun x μ1 => match x with
    | .bl c => if c then (ev b).v ρ μ1 else .ok (.bl false) μ1
    | _ => .bad, fun ρ μ => ((ev a).t ρ μ).bind fun c μ1 => if c then (ev b).t ρ μ1 else .ok false μ1⟩
  | .or_ a b => ⟨fun ρ μ => ((ev a).v ρ μ).bind fun x μ1 => match x with
    | .bl c => if c then .ok (.bl true) μ1 else (ev b).v ρ μ1
    | _ => .bad, fun ρ μ => ((ev a).t ρ μ).bind fun c μ1 => if c then .ok true μ1 else (ev b).t ρ μ1⟩
  | .cmp op a b => .of fun ρ μ => ((ev a).v ρ μ).bind fun x μ1 => ((ev b).v ρ μ1).bind fun y μ2 => cmpD op x y μ2
  | .chain o1 o2 a b c => .of fun ρ μ => ((ev a).v ρ μ).bind fun x μ1 => ((ev b).v ρ μ1).bind fun y μ2 => (cmpD o1 x y μ2).bind fun z μ3 => match z with
    | .bl k => if k then ((ev c).v ρ μ3).bind fun u μ4 => cmpD o2 y u μ4 else .ok (.bl false) μ3
    | _ => .bad
  | .isN a => .of fun ρ μ => ((ev a).v ρ μ).bind fun x μ1 => match x with
    | .non => .ok (.bl true) μ1
    | _ => .ok (.bl false) μ1
  | .notN a => .of fun ρ μ => ((ev a).v ρ μ).bind fun x μ1 => match x with
    | .non => .ok (.bl false) μ1
    | _ => .ok (.bl true) μ1
  | .ife c a b => .of fun ρ μ => ((ev c).t ρ μ).bind fun k μ1 => if k then (ev a).v ρ μ1 else (ev b).v ρ μ1
  | .tup es => .of fun ρ μ => (evL es ρ μ).bind fun ds μ1 => if ds.length ≤ sizeLine then .ok (.tup ds) μ1 else .bad
  | .lst m es => .of fun ρ μ => (evL es ρ μ).bind fun ds μ1 => if ds.length ≤ sizeLine then mkL m ds μ1 else .bad
  | .ix a b => .of fun ρ μ => ((ev a).v ρ μ).bind fun x μ1 => ((ev b).v ρ μ1).bind fun y μ2 => ixD x y μ2
  | .sl m a lo hi => .of fun ρ μ => ((ev a).v ρ μ).bind fun x μ1 => (optI (evL lo ρ μ1)).bind fun l μ2 => (optI (evL hi ρ μ2)).bind fun h μ3 => slD m x l h μ3
  | .stp m a lo st => .of fun ρ μ => ((ev a).v ρ μ).bind fun x μ1 => (optI (evL lo ρ μ1)).bind fun l μ2 => (optI (evL st ρ μ2)).bind fun h μ3 => stpD m x l h μ3
  | .fld a f => .of fun ρ μ => Out.bad
  | .call f md es => .of fun ρ μ => (evL es ρ μ).bind fun ds μ1 => callG G f md ds μ1
  | .bi b m es => .of fun ρ μ => (evL es ρ μ).bind fun ds μ1 => biD b m ds μ1
  | .mt b o es => .of fun ρ μ => ((ev o).v ρ μ).bind fun x μ1 => if mtTy b x μ1 then (evL es ρ μ1).bind fun ds μ2 => mtD b x ds μ2 else .bad
  | .comp m own tg ik es ifs elt => .of fun ρ μ => (evL es ρ μ).bind fun ds μ1 => match itD ik ds μ1 with
    | some xs => if xs.length ≤ sizeLine then (compL (stays ik ds xs) tg (evTs ifs) (ev elt).v (List.replicate own none ++ ρ) xs μ1).bind fun ys μ2 => mkL m ys μ2 else .bad
    | none => .bad
  | .gl f => .of fun _ μ => glD (datG G f) μ
  | .gget f a d => .of fun ρ μ => ((ev a).v ρ μ).bind fun x μ1 => ((ev d).v ρ μ1).bind fun y μ2 => ggetD (datG G f) x y μ2
  | .gin neg f a => .of fun ρ μ => ((ev a).v ρ μ).bind fun x μ1 => ginD neg (datG G f) x μ1
  | .gix f a => .of fun ρ μ => ((ev a).v ρ μ).bind fun x μ1 => gixD (datG G f) x μ1
noncomputable def evL : List E → S3 → M → Out (List D)
  | [], _, μ => .ok [] μ
  | e :: es, ρ, μ => ((ev e).v ρ μ).bind fun d μ1 => (evL es ρ μ1).bind fun ds μ2 => .ok (d :: ds) μ2
noncomputable def evTs : List E → S3 → M → Out Bool
  | [], _, μ => .ok true μ
  | [e], ρ, μ => (ev e).t ρ μ
  | _, _, _ => .bad
end
mutual
noncomputable def run : S → S3 → M → Out Fl
  | .asg tg e, ρ, μ => ((ev G e).v ρ μ).bind fun d μ1 => match asgD tg d ρ with
    | some ρ1 => .ok (.nx ρ1) μ1
    | none => .bad
  | .setF o f e, ρ, μ => .bad
  | .setI o i e, ρ, μ => .bad
  | .ex e, ρ, μ => ((ev G e).v ρ μ).bind fun _ μ1 => .ok (.nx ρ) μ1
  | .ite c a b, ρ, μ => ((ev G c).t ρ μ).bind fun k μ1 => if k then runs a ρ μ1 else runs b ρ μ1
  | .for_ tg ik es body fg, ρ, μ => (evL G es ρ μ).bind fun ds μ1 => match itD ik ds μ1 with
    | some xs => forL (stays ik ds xs) tg (runs body) fg xs ρ μ1
    | none => .bad
  | .ret e, ρ, μ => ((ev G e).v ρ μ).bind fun d μ1 => .ok (.rt d) μ1
  | .retN, _, μ => .ok (.rt .non) μ
  | .pass, ρ, μ => .ok (.nx ρ) μ
  | .never, _, _ => .bad
noncomputable def runs : List S → S3 → M → Out Fl
  | [], ρ, μ => .ok (.nx ρ) μ
  | s :: ss, ρ, μ => match run s ρ μ with
    | .ok (.nx ρ1) μ1 => runs ss ρ1 μ1
    | r => r
end
noncomputable def fnOf (np nl : Nat) (body : List S) : Fn := fun ds μ => if ds.length = np then match runs G body (ds.map some ++ List.replicate nl none) μ with
    | .ok (.rt d) μ1 => .ok d μ1
    | .ok (.nx _) μ1 => .ok .non μ1
    | .exc x μ1 => .exc x μ1
    | .bad => .bad
  else .bad
end
end _L3
set_option Elab.async false
set_option linter.all false
set_option maxRecDepth 100000
set_option maxHeartbeats 4000000
namespace _L3
open PySem PySem.Spec PyProof.Rows _L2
section
variable {K : PySem.W.Frag} {w : Wd} {μ : M} {H : Hp} {n : Nat}
theorem den_flat {d : D} {v x : V} (h : Den K w n d v) (e : flatD d = some x) : v = x ∧ flatV v = true := by
  cases d <;> simp only [flatD, Option.some.injEq] at e <;> first | (subst e; unfold Den at h; subst h; exact ⟨rfl, rfl⟩) | cases e
theorem seqL_sq {d : D} {v : V} {ds : List D} (R : Rep K w μ H) (h : Den K w μ.length d v) (e : seqL μ d = some ds) : ∃ a xs, v = .ref a ∧ SqL K H a xs ∧ DenL K w μ.length ds xs := by
  cases d with
  | lst xs =>
    simp only [seqL, Option.some.injEq] at e
    subst e
    unfold Den at h
    obtain ⟨a, xs, h1, h2, h3⟩ := h
    exact ⟨a, xs, h1, SqL.of (R.sub _ _ h2), h3⟩
  | scr xs =>
    simp only [seqL, Option.some.injEq] at e
    subst e
    unfold Den at h
    obtain ⟨a, xs, h1, h2, h3⟩ := h
    exact ⟨a, xs, h1, R.sub.seq h2, h3⟩
  | cel k =>
    simp only [seqL] at e
    split at e
    · rename_i ys hk
      cases e
      unfold Den at h
      obtain ⟨xs, h1, h2⟩ := (R.liv k _ hk).2
      exact ⟨_, xs, h.2, SqL.of h1, h2⟩
    · cases e
  | _ => cases e
theorem tup_sq {ds : List D} {v : V} (R : Rep K w μ H) (h : Den K w μ.length (.tup ds) v) : ∃ a xs, v = .ref a ∧ SqT K H a xs ∧ DenL K w μ.length ds xs := by
  unfold Den at h
  obtain ⟨a, xs, h1, h2, h3⟩ := h
  exact ⟨a, xs, h1, R.sub.tup h2, h3⟩
theorem seqA_sq {d : D} {v : V} {ds : List D} (R : Rep K w μ H) (h : Den K w μ.length d v) (e : seqA μ d = some ds) : ∃ a xs, v = .ref a ∧ (SqL K H a xs ∨ SqT K H a xs) ∧ DenL K w μ.length ds xs := by
  unfold seqA at e
  split at e
  · cases e
    obtain ⟨a, xs, h1, h2, h3⟩ := tup_sq R h
    exact ⟨a, xs, h1, .inr h2, h3⟩
  · obtain ⟨a, xs, h1, h2, h3⟩ := seqL_sq R h e
    exact ⟨a, xs, h1, .inl h2, h3⟩
theorem denL_len {ds : List D} {xs : List V} (h : DenL K w n ds xs) : ds.length = xs.length := (denL_iff.mp h).length
theorem denL_get : ∀ {ds : List D} {xs : List V} {i : Nat} {d : D}, DenL K w n ds xs → ds[i]? = some d → ∃ v, xs[i]? = some v ∧ Den K w n d v := by
  intro ds xs i d h e
  have h' := denL_iff.mp h
  clear h
  induction h' generalizing i with
  | nil => simp at e
  | cons r t ih =>
    cases i with
    | zero =>
      simp only [List.getElem?_cons_zero, Option.some.injEq] at e
      subst e
      exact ⟨_, rfl, r⟩
    | succ i => simpa using ih (i := i) (by simpa using e)
theorem paired_append {α β : Type} {F : α → β → Prop} : ∀ {us ws : List α} {xs ys : List β}, Paired F us xs → Paired F ws ys → Paired F (us ++ ws) (xs ++ ys)
  | _, _, _, _, .nil, s => s
  | _, _, _, _, .cons r t, s => .cons r (paired_append t s)
theorem paired_take {α β : Type} {F : α → β → Prop} : ∀ {us : List α} {xs : List β} (k : Nat), Paired F us xs → Paired F (us.take k) (xs.take k)
  | _, _, 0, _ => by simp; exact .nil
  | _, _, _ + 1, .nil => .nil
  | _, _, k + 1, .cons r t => .cons r (paired_take k t)
theorem paired_drop {α β : Type} {F : α → β → Prop} : ∀ {us : List α} {xs : List β} (k : Nat), Paired F us xs → Paired F (us.drop k) (xs.drop k)
  | _, _, 0, h => h
  | _, _, _ + 1, .nil => .nil
  | _, _, k + 1, .cons r t => paired_drop k t
theorem DenL.append {ds es : List D} {xs ys : List V} (h : DenL K w n ds xs) (k : DenL K w n es ys) : DenL K w n (ds ++ es) (xs ++ ys) := denL_iff.mpr (paired_append (denL_iff.mp h) (denL_iff.mp k))
theorem DenL.cut {ds : List D} {xs : List V} (h : DenL K w n ds xs) (lo hi : Option Int) : DenL K w n (cutD ds lo hi) (cutV xs lo hi) := by
  unfold cutD cutV
  rw [denL_len h]
  exact denL_iff.mpr (paired_take _ (paired_drop _ (denL_iff.mp h)))
theorem DenL.one {d : D} {v : V} (h : Den K w n d v) : DenL K w n [d] [v] := denL_iff.mpr (.cons h .nil)
theorem denL_bls : ∀ {ds : List D} {xs : List V} {ns : List Bool}, DenL K w n ds xs → blsD ds = some ns → xs = ns.map V.bl
  | [], xs, ns, h, e => by
    cases e
    unfold DenL at h
    exact h
  | .bl i :: ds, xs, ns, h, e => by
    unfold DenL at h
    obtain ⟨v, ws, rfl, h1, h2⟩ := h
    unfold Den at h1
    unfold blsD at e
    cases e2 : blsD ds with
    | none => rw [e2] at e; cases e
    | some ms =>
      rw [e2] at e
      cases e
      rw [h1, denL_bls h2 e2]
      rfl
  | .non :: _, _, _, _, e | .int _ :: _, _, _, _, e | .str _ :: _, _, _, _, e | .tup _ :: _, _, _, _, e | .lst _ :: _, _, _, _, e | .scr _ :: _, _, _, _, e | .dF _ _ :: _, _, _, _, e | .cel _ :: _, _, _, _, e => by cases e
theorem denL_strs : ∀ {ds : List D} {xs : List V} {ns : List Str}, DenL K w n ds xs → strsD ds = some ns → xs = ns.map V.str
  | [], xs, ns, h, e => by
    cases e
    unfold DenL at h
    exact h
  | .str i :: ds, xs, ns, h, e => by
    unfold DenL at h
    obtain ⟨v, ws, rfl, h1, h2⟩ := h
    unfold Den at h1
    unfold strsD at e
    cases e2 : strsD ds with
    | none => rw [e2] at e; cases e
    | some ms =>
      rw [e2] at e
      cases e
      rw [h1, denL_strs h2 e2]
      rfl
  | .non :: _, _, _, _, e | .bl _ :: _, _, _, _, e | .int _ :: _, _, _, _, e | .tup _ :: _, _, _, _, e | .lst _ :: _, _, _, _, e | .scr _ :: _, _, _, _, e | .dF _ _ :: _, _, _, _, e | .cel _ :: _, _, _, _, e => by cases e
noncomputable abbrev Wish (K : PySem.W.Frag) (w : Wd) (n : Nat) (d : D) (μ' : M) (Q : VK) : Prop := ∀ w' H' v, Ext w w' n μ'.length → Rep K w' μ' H' → Den K w' μ'.length d v → Q v H'
theorem wish_frz {Q : VK} {d : D} {p : Addr} {o : HO} (R : Rep K w μ H) (q : Wish K w μ.length d μ Q) (hp : H p = none) (hd : ∀ w', Ext w w' μ.length μ.length → w'.Z p = some o → Den K w' μ.length d (.ref p)) : Q (.ref p) (upd H p o) := by
  obtain ⟨R', x⟩ := R.frz hp o
  exact q _ _ _ x R' (hd _ x upd_same)
theorem wish_here {Q : VK} {d : D} {v : V} (R : Rep K w μ H) (q : Wish K w μ.length d μ Q) (h : Den K w μ.length d v) : Q v H := q w H v (Ext.refl _ _) R h
theorem mkL_snd {m : Bool} {ds : List D} {xs : List V} {d : D} {μ' : M} {Q : VK} (R : Rep K w μ H) (h : DenL K w μ.length ds xs) (e : mkL m ds μ = .ok d μ') (q : Wish K w μ.length d μ' Q) : ∀ p, H p = none → Q (.ref p) (upd H p (.lst xs)) := by
  intro p hp
  cases m with
  | false =>
    simp only [mkL, Bool.false_eq_true, if_false] at e
    cases e
    exact wish_frz R q hp fun w' x hz => by unfold Den; exact ⟨p, xs, rfl, hz, h.mono x⟩
  | true =>
    simp only [mkL, if_true] at e
    cases e
    obtain ⟨w', R', x, hg⟩ := R.cell hp (.lst xs) (.lst ds) (fun w' x => ⟨xs, upd_same, h.mono x⟩)
    have hl : (μ ++ [some (Cl.lst ds)]).length = μ.length + 1 := by simp
    refine q w' _ _ (by rw [hl]; exact x) R' ?_
    unfold Den
    exact ⟨by rw [hl]; exact Nat.lt_succ_self _, by rw [hg]⟩
end
theorem imE {X : Cx} {e : Expr} {t t' : TE} (h : PE X e t) (k : ∀ σ H Q, t' σ H Q → t σ H Q) : PE X e t' := fun pins s σ H Q I hw => h pins s σ H Q I (k σ H Q hw)
theorem imT {X : Cx} {e : Expr} {t t' : TT} (h : PT X e t) (k : ∀ σ H Q, t' σ H Q → t σ H Q) : PT X e t' := fun pins s σ H Q I hw => h pins s σ H Q I (k σ H Q hw)
theorem imW {X : Cx} {e : Expr} {t t' : TT} (h : PW X e t) (k : ∀ σ H Q, t' σ H Q → t σ H Q) : PW X e t' := fun wh pins s σ H Q I hw => h wh pins s σ H Q I (k σ H Q hw)
theorem imA {X : Cx} {e : List Expr} {t t' : TA} (h : PA X e t) (k : ∀ σ H Q, t' σ H Q → t σ H Q) : PA X e t' := fun pos pins s σ H Q I hw => h pos pins s σ H Q I (k σ H Q hw)
theorem imS {X : Cx} {e : Stmt} {t t' : TS} (h : PS X e t) (k : ∀ E σ H, t' E σ H → t E σ H) : PS X e t' := fun pins s σ H Q I hw => h pins s σ H Q I (k Q σ H hw)
theorem imSs {X : Cx} {e : List Stmt} {t t' : TS} (h : PSs X e t) (k : ∀ E σ H, t' E σ H → t E σ H) : PSs X e t' := fun pins s σ H Q I hw => h pins s σ H Q I (k Q σ H hw)
section
variable {K : PySem.W.Frag}
noncomputable def Snd2 (K : PySem.W.Frag) (f : D → D → M → Out D) (r : R2) : Prop := ∀ (w : Wd) (μ : M) (H : Hp) (d1 d2 d : D) (μ' : M) (v1 v2 : V) (Q : VK), Rep K w μ H → Den K w μ.length d1 v1 → Den K w μ.length d2 v2 → f d1 d2 μ = .ok d μ' → Wish K w μ.length d μ' Q → r v1 v2 H Q
theorem t3_op {f : D → D → M → Out D} {r : R2} {ra rb : S3 → M → Out D} (hs : Snd2 K f r) {σ : _L2.St} {H : Hp} {Q : VK} :
    T3E K (fun ρ μ => (ra ρ μ).bind fun x μ1 => (rb ρ μ1).bind fun y μ2 => f x y μ2) σ H Q → tOp r (T3E K ra) (T3E K rb) σ H Q := by
  rintro ⟨w, μ, ρ, d, μ', R, S, e, q⟩
  obtain ⟨x, μ1, e1, e⟩ := Out.bind_ok e
  obtain ⟨y, μ2, e2, e⟩ := Out.bind_ok e
  exact ⟨w, μ, ρ, x, μ1, R, S, e1, fun w1 H1 v1 x1 R1 d1 => ⟨w1, μ1, ρ, y, μ2, R1, S.mono x1, e2, fun w2 H2 v2 x2 R2 d2 => hs w2 μ2 H2 x y d μ' v1 v2 Q R2 (d1.mono x2) d2 e fun w3 H3 v x3 R3 d3 => q w3 H3 v ((x1.trans x2).trans x3) R3 d3⟩⟩
theorem t3_un {f : D → M → Out D} {r : V → Hp → VK → Prop} {ra : S3 → M → Out D} (hs : ∀ (w : Wd) (μ : M) (H : Hp) (d1 d : D) (μ' : M) (v1 : V) (Q : VK), Rep K w μ H → Den K w μ.length d1 v1 → f d1 μ = .ok d μ' → Wish K w μ.length d μ' Q → r v1 H Q) {σ : _L2.St} {H : Hp} {Q : VK} :
    T3E K (fun ρ μ => (ra ρ μ).bind fun x μ1 => f x μ1) σ H Q → T3E K ra σ H fun x H1 => r x H1 Q := by
  rintro ⟨w, μ, ρ, d, μ', R, S, e, q⟩
  obtain ⟨x, μ1, e1, e⟩ := Out.bind_ok e
  exact ⟨w, μ, ρ, x, μ1, R, S, e1, fun w1 H1 v1 x1 R1 d1 => hs w1 μ1 H1 x d μ' v1 Q R1 d1 e fun w3 H3 v x3 R3 d3 => q w3 H3 v (x1.trans x3) R3 d3⟩
end
end _L3
set_option Elab.async false
set_option linter.all false
set_option maxRecDepth 100000
set_option maxHeartbeats 4000000
namespace _L3
open PySem PySem.Spec PyProof.Rows _L2
section
variable {K : PySem.W.Frag} {X : Cx}
theorem snd_int {C : Int → Int → Prop} {f : Int → Int → Int} : Snd2 K (intD C f) (rI C fun i j => .int (f i j)) := by
  intro w μ H d1 d2 d μ' v1 v2 Q R h1 h2 e q
  unfold intD at e
  split at e
  · split at e
    · rename_i hc
      cases e
      unfold Den at h1 h2
      exact ⟨_, _, h1, h2, hc, wish_here R q (by unfold Den; rfl)⟩
    · cases e
  · cases e
noncomputable def rAdd3 (K : PySem.W.Frag) : R2 := fun x y H Q => rI0 (fun i j => .int (i + j)) x y H Q ∨ (∃ i j, x = .str i ∧ y = .str j ∧ i.length + j.length ≤ sizeLine ∧ Q (.str (i ++ j)) H) ∨ rCatS K x y H Q
theorem op_add3 : OpR X (binaryOp .Add) (rAdd3 X.K) := op_add.or (op_add_str.or op_catS)
theorem snd_add {m : Bool} : Snd2 K (addD m) (rAdd3 K) := by
  intro w μ H d1 d2 d μ' v1 v2 Q R h1 h2 e q
  unfold addD at e
  split at e
  · cases e
    unfold Den at h1 h2
    exact .inl ⟨_, _, h1, h2, wish_here R q (by unfold Den; rfl)⟩
  · split at e
    · rename_i hc
      cases e
      unfold Den at h1 h2
      exact .inr (.inl ⟨_, _, h1, h2, hc, wish_here R q (by unfold Den; rfl)⟩)
    · cases e
  · split at e
    · rename_i xs ys e1 e2
      split at e
      · rename_i hc
        obtain ⟨a, us, rfl, s1, l1⟩ := seqL_sq R h1 e1
        obtain ⟨b, ws, rfl, s2, l2⟩ := seqL_sq R h2 e2
        exact .inr (.inr ⟨a, b, us, ws, rfl, rfl, s1, s2, by rw [← denL_len l1, ← denL_len l2]; exact hc, mkL_snd R (l1.append l2) e q⟩)
      · cases e
    · cases e
noncomputable def rMul3 : R2 := fun x y H Q => rI CMul3 (fun i j => .int (i * j)) x y H Q ∨ rMulS x y H Q
theorem snd_mul : Snd2 K mulD rMul3 := by
  intro w μ H d1 d2 d μ' v1 v2 Q R h1 h2 e q
  unfold mulD at e
  split at e
  · split at e
    · rename_i hc
      cases e
      unfold Den at h1 h2
      exact .inl ⟨_, _, h1, h2, hc, wish_here R q (by unfold Den; rfl)⟩
    · cases e
  · split at e
    · rename_i hc
      cases e
      unfold Den at h1 h2
      exact .inr ⟨_, _, h1, h2, hc.1, hc.2.1, hc.2.2, wish_here R q (by unfold Den; rfl)⟩
    · cases e
  · cases e
theorem op_fdivB3 : OpR X (binaryOp .FloorDiv) (rI CDiv3 fun i j => .int (i / j)) := opI fun i j _ _ _ _ _ hc q => by
  have h1 : (0 : Int) < j := hc.1
  have h2 : j < 18446744073709551616 := hc.2
  have h3 : j.natAbs.log2 < 64 := (Nat.log2_lt (by omega)).mpr (by omega)
  exact floordiv_int (by omega) (by rw [Int.fdiv_eq_ediv_of_nonneg i (by omega)]; exact q) (.inl (PyProof.noPylong_of_log2 (by omega)))
theorem opR_imp {f : Value → Value → Sem Value} {r r' : R2} (h : OpR X f r) (k : ∀ x y H Q, r' x y H Q → r x y H Q) : OpR X f r' := fun pins s σ H x y v u Q I rx ry q => h pins s σ H x y v u Q I rx ry (k _ _ _ _ q)
theorem op_mulL3 : OpR X (binaryOp .Mult) (rI CMul3 fun i j => .int (i * j)) := opR_imp op_mul fun x y H Q ⟨i, j, h1, h2, hc, q⟩ => ⟨i, j, h1, h2, by unfold CMul3 at hc; unfold CMul; omega, q⟩
theorem op_powL3 : OpR X (binaryOp .Pow) (rI CPow3 fun i j => .int (i ^ j.toNat)) := opR_imp op_pow fun x y H Q ⟨i, j, h1, h2, hc, q⟩ => ⟨i, j, h1, h2, ⟨hc.1, hc.2.1, by have := hc.2.2; omega⟩, q⟩
theorem bin_ok {op : Operator} {m : Bool} : ∃ r, OpR X (binaryOp op) r ∧ Snd2 X.K (binD op m) r := by
  cases op with
  | Add => exact ⟨_, op_add3, snd_add⟩
  | Sub => exact ⟨_, opR_imp op_sub fun x y H Q ⟨i, j, h1, h2, _, q⟩ => ⟨i, j, h1, h2, q⟩, snd_int⟩
  | Mult => exact ⟨_, (op_mulL3).or op_mulS, snd_mul⟩
  | FloorDiv => exact ⟨_, op_fdivB3, snd_int⟩
  | Mod => exact ⟨_, op_mod, snd_int⟩
  | Pow => exact ⟨_, op_powL3, snd_int⟩
  | _ => exact ⟨fun _ _ _ _ => False, fun _ _ _ _ _ _ _ _ _ _ _ _ h => h.elim, fun _ _ _ _ _ _ _ _ _ _ _ _ _ e _ => by cases e⟩
theorem eqDs_at {A : Around} {s : Shared} {w : Wd} {n : Nat} {f : D → D → Option Bool} (hf : ∀ d1 d2 x y u v b, Den K w n d1 x → Den K w n d2 y → RelV x u → RelV y v → f d1 d2 = some b → SeqAt.EqAt A s u v b) :
    ∀ {ds es : List D} {xs ys : List V} {us vs : List Value} {b : Bool}, DenL K w n ds xs → DenL K w n es ys → Vals xs us → Vals ys vs → eqDs f ds es = some b →
      ∃ g : Nat → Bool, (∀ (j : Nat) (h1 : j < us.length) (h2 : j < vs.length), SeqAt.EqAt A s us[j] vs[j] (g j)) ∧ (List.range (min us.length vs.length)).all g = b := by
  intro ds es xs ys us vs b h1 h2 r1 r2
  have p1 := denL_iff.mp h1
  have p2 := denL_iff.mp h2
  clear h1 h2
  induction p1 generalizing es ys us vs b with
  | nil =>
    intro e
    cases r1
    simp only [eqDs, Option.some.injEq] at e
    subst e
    exact ⟨fun _ => true, fun j h => absurd h (by simp), by simp⟩
  | cons k1 t1 ih =>
    intro e
    cases p2 with
    | nil =>
      cases r2
      simp only [eqDs, Option.some.injEq] at e
      subst e
      exact ⟨fun _ => true, fun j _ h => absurd h (by simp), by simp⟩
    | cons k2 t2 =>
      cases r1 with
      | cons q1 q1' =>
        cases r2 with
        | cons q2 q2' =>
          simp only [eqDs] at e
          split at e
          · rename_i a c ea ec
            cases e
            obtain ⟨g, hg, hb⟩ := ih q1' q2' t2 ec
            refine ⟨fun j => match j with | 0 => a | j + 1 => g j, fun j j1 j2 => ?_, ?_⟩
            · cases j with
              | zero => exact hf _ _ _ _ _ _ _ k1 k2 q1 q2 ea
              | succ j => exact hg j (Nat.lt_of_succ_lt_succ j1) (Nat.lt_of_succ_lt_succ j2)
            · rw [← hb, List.length_cons, List.length_cons, Nat.add_min_add_right, List.range_succ_eq_map, List.all_cons, List.all_map]
              rfl
          · cases e
section
variable {pins : List (Addr × Obj)} {σ : _L2.St} {H : Hp} {s : Shared} {w : Wd} {μ : M}
theorem sqT_inj (I : Inv X pins σ H s) {a : Addr} {xs ys : List V} (h : SqT X.K H a xs) (k : SqT X.K H a ys) : xs = ys := by
  obtain ⟨its, rv, p, _⟩ := I.tuple h
  obtain ⟨its2, rv2, p2, _⟩ := I.tuple k
  obtain ⟨o, g1, _, n1, d1⟩ := p
  obtain ⟨o2, g2, _, n2, d2⟩ := p2
  rw [g1] at g2
  cases g2
  rw [d1] at d2
  have e : its = its2 := by
    injection d2 with e _
    simpa using e
  subst e
  exact Vals.inj rv rv2
theorem eqDs_same {f : D → D → Option Bool} {n : Nat} (hf : ∀ d1 d2 x b, Den X.K w n d1 x → Den X.K w n d2 x → f d1 d2 = some b → b = true) : ∀ {ds es : List D} {xs : List V} {b : Bool}, DenL X.K w n ds xs → DenL X.K w n es xs → eqDs f ds es = some b → b = true := by
  intro ds es xs b h1 h2
  have p1 := denL_iff.mp h1
  have p2 := denL_iff.mp h2
  clear h1 h2
  induction p1 generalizing es b with
  | nil =>
    intro e
    simp only [eqDs, Option.some.injEq] at e
    exact e.symm
  | cons k1 t1 ih =>
    intro e
    cases p2 with
    | cons k2 t2 =>
      simp only [eqDs] at e
      split at e
      · rename_i a c ea ec
        cases e
        rw [hf _ _ _ _ k1 k2 ea, ih t2 ec]
        rfl
      · cases e
theorem eqN_same (I : Inv X pins σ H s) (R : Rep X.K w μ H) {f : D → D → Option Bool} (hf : ∀ d1 d2 x b, Den X.K w μ.length d1 x → Den X.K w μ.length d2 x → f d1 d2 = some b → b = true) {d1 d2 : D} {x : V} {b : Bool} (h1 : Den X.K w μ.length d1 x) (h2 : Den X.K w μ.length d2 x) (e : eqN f μ d1 d2 = some b) : b = true := by
  unfold eqN at e
  split at e
  · rename_i xs ys
    obtain ⟨a, us, e1, s1, l1⟩ := tup_sq R h1
    obtain ⟨c, ws, e2, s2, l2⟩ := tup_sq R h2
    rw [e1] at e2
    cases e2
    have := sqT_inj I s1 s2
    subst this
    cases e3 : eqDs f xs ys with
    | none => rw [e3] at e; cases e
    | some k =>
      rw [e3] at e
      cases e
      rw [eqDs_same hf l1 l2 e3, denL_len l1, denL_len l2]
      simp
  · cases e
theorem eqD_same (I : Inv X pins σ H s) (R : Rep X.K w μ H) : ∀ (n : Nat) (d1 d2 : D) (x : V) (b : Bool), Den X.K w μ.length d1 x → Den X.K w μ.length d2 x → eqD μ n d1 d2 = some b → b = true
  | 0, _, _, _, _, _, _, e => by cases e
  | n + 1, d1, d2, x, b, h1, h2, e => by
    unfold eqD at e
    split at e
    · rename_i x' y' e1 e2
      cases e
      obtain ⟨q1, f1⟩ := den_flat h1 e1
      obtain ⟨q2, f2⟩ := den_flat h2 e2
      rw [← q1, ← q2]
      exact eqV_refl f1
    · exact eqN_same I R (eqD_same I R n) h1 h2 e
theorem eqN_rc (I : Inv X pins σ H s) (R : Rep X.K w μ H) {A : Around} {f : D → D → Option Bool} (hu : A.units < cLine) (hf : ∀ d1 d2 x y u v b, Den X.K w μ.length d1 x → Den X.K w μ.length d2 y → RelV x u → RelV y v → f d1 d2 = some b → SeqAt.EqAt A.in1 s u v b)
    {d1 d2 : D} {x y : V} {b : Bool} (h1 : Den X.K w μ.length d1 x) (h2 : Den X.K w μ.length d2 y) (e : eqN f μ d1 d2 = some b) :
    ∃ a c, x = .ref a ∧ y = .ref c ∧ SeqAt.RcAt A s (.ref a) (.ref c) b ∧ SeqAt.RcNeAt A s (.ref a) (.ref c) (!b) := by
  unfold eqN at e
  split at e
  · rename_i xs ys
    obtain ⟨a, us, rfl, s1, l1⟩ := tup_sq R h1
    obtain ⟨c, ws, rfl, s2, l2⟩ := tup_sq R h2
    cases e3 : eqDs f xs ys with
    | none => rw [e3] at e; cases e
    | some k =>
      rw [e3] at e
      cases e
      obtain ⟨its, rv, p, _⟩ := I.tuple s1
      obtain ⟨its2, rv2, p2, _⟩ := I.tuple s2
      obtain ⟨g, hg, hk⟩ := eqDs_at hf l1 l2 rv rv2 e3
      have hj : ∀ j (h1 : j < its.toArray.size) (h2 : j < its2.toArray.size), SeqAt.EqAt A.in1 s its.toArray[j] its2.toArray[j] (g j) := fun j h1 h2 => by
        have := hg j (by simpa using h1) (by simpa using h2)
        simpa using this
      have t1 := SeqAt.RcAt.tuples (A := A) (e := g) (show s.heap.IsTuple a its.toArray from p) (show s.heap.IsTuple c its2.toArray from p2) hu hj
      have t2 := SeqAt.RcNeAt.tuples (A := A) (e := g) (show s.heap.IsTuple a its.toArray from p) (show s.heap.IsTuple c its2.toArray from p2) hu hj
      have el : (its.toArray.size == its2.toArray.size) = (xs.length == ys.length) := by
        rw [List.size_toArray, List.size_toArray, ← rv.length, ← rv2.length, denL_len l1, denL_len l2]
      have ek : (List.range (min its.toArray.size its2.toArray.size)).all g = k := by simpa using hk
      rw [el, ek] at t1 t2
      exact ⟨a, c, rfl, rfl, t1, t2⟩
  · cases e
theorem eqD_at (I : Inv X pins σ H s) (R : Rep X.K w μ H) : ∀ (n : Nat) {A : Around} (d1 d2 : D) (x y : V) (u v : Value) (b : Bool), A.units + n < cLine →
    Den X.K w μ.length d1 x → Den X.K w μ.length d2 y → RelV x u → RelV y v → eqD μ n d1 d2 = some b → SeqAt.EqAt A s u v b
  | 0, A, d1, d2, x, y, u, v, b, hu, h1, h2, r1, r2, e => by cases e
  | n + 1, A, d1, d2, x, y, u, v, b, hu, h1, h2, r1, r2, e => by
    have hu1 : A.units < cLine := by omega
    unfold eqD at e
    split at e
    · rename_i x' y' e1 e2
      cases e
      obtain ⟨rfl, f1⟩ := den_flat h1 e1
      obtain ⟨rfl, f2⟩ := den_flat h2 e2
      exact eqAt_V r1 r2 f1 f2
    · obtain ⟨a, c, rfl, rfl, t1, _⟩ := eqN_rc I R hu1 (fun d1 d2 x y u v b => eqD_at I R n (A := A.in1) d1 d2 x y u v b (by rw [Around.in1_units]; omega)) h1 h2 e
      cases r1
      cases r2
      by_cases hne : a = c
      · subst hne
        rw [eqN_same I R (eqD_same I R n) h1 h2 e]
        exact SeqAt.EqAt.same _
      · exact SeqAt.EqAt.of_refs hne t1
end
noncomputable def rEqT (K : PySem.W.Frag) (ne : Bool) : R2 := fun x y H Q => (scal x y = true ∧ Q (.bl (if ne then !decide (x = y) else decide (x = y))) H) ∨ ∃ w μ d1 d2 b, Rep K w μ H ∧ Den K w μ.length d1 x ∧ Den K w μ.length d2 y ∧ eqN (eqD μ 8) μ d1 d2 = some b ∧ Q (.bl (if ne then !b else b)) H
theorem op_eq3 (hu : X.A.units + 16 < cLine) : OpR X (compareOp .Eq) (rEqT X.K false) := by
  intro pins s σ H x y v u Q I rx ry h
  rcases h with ⟨hs, q⟩ | ⟨w, μ, d1, d2, b, R, h1, h2, e, q⟩
  · exact op_eq pins s σ H x y v u Q I rx ry ⟨hs, q⟩
  · obtain ⟨a, c, rfl, rfl, t1, _⟩ := eqN_rc I R (A := X.A) (by omega) (fun d1 d2 x y u v b => eqD_at I R 8 (A := X.A.in1) d1 d2 x y u v b (by rw [Around.in1_units]; omega)) h1 h2 e
    cases rx
    cases ry
    exact t1 _ _ _ _ ⟨.bl b, H, I, rfl, q⟩
theorem op_ne3 (hu : X.A.units + 16 < cLine) : OpR X (compareOp .NotEq) (rEqT X.K true) := by
  intro pins s σ H x y v u Q I rx ry h
  rcases h with ⟨hs, q⟩ | ⟨w, μ, d1, d2, b, R, h1, h2, e, q⟩
  · exact op_ne pins s σ H x y v u Q I rx ry ⟨hs, q⟩
  · obtain ⟨a, c, rfl, rfl, _, t2⟩ := eqN_rc I R (A := X.A) (by omega) (fun d1 d2 x y u v b => eqD_at I R 8 (A := X.A.in1) d1 d2 x y u v b (by rw [Around.in1_units]; omega)) h1 h2 e
    cases rx
    cases ry
    exact t2 _ _ _ _ ⟨.bl (!b), H, I, rfl, q⟩
theorem cmpD_ok {op : CmpOp} {a b d : D} {μ μ' : M} (e : cmpD op a b μ = .ok d μ') : ∃ r, cmpB op a b μ = some r ∧ d = .bl r ∧ μ' = μ := by
  unfold cmpD at e
  split at e
  · rename_i r hr
    cases e
    exact ⟨r, hr, rfl, rfl⟩
  · cases e
theorem inDs_v {w : Wd} {n : Nat} {x : V} : ∀ {ds : List D} {xs : List V} {b : Bool}, DenL K w n ds xs → inDs x ds = some b → xs.all flatV = true ∧ inV x xs = b := by
  intro ds xs b h
  have p := denL_iff.mp h
  clear h
  induction p generalizing b with
  | nil =>
    intro e
    cases e
    exact ⟨rfl, rfl⟩
  | cons k t ih =>
    intro e
    simp only [inDs] at e
    split at e
    · rename_i y r e1 e2
      cases e
      obtain ⟨q, f⟩ := den_flat k e1
      obtain ⟨i1, i2⟩ := ih e2
      refine ⟨by rw [List.all_cons, f, i1]; rfl, ?_⟩
      unfold inV at i2 ⊢
      rw [List.any_cons, i2, q]
    · cases e
theorem dictL_rd {w : Wd} {μ : M} {H : Hp} {d : D} {v : V} {ks : List Key} {vs : List D} (R : Rep K w μ H) (h : Den K w μ.length d v) (e : dictL μ d = some (ks, vs)) : ∃ a xs, v = .ref a ∧ ks.length = vs.length ∧ Rd H a (.dK (ks.zip xs)) ∧ DenL K w μ.length vs xs := by
  cases d with
  | dF ks' vs' =>
    simp only [dictL, Option.some.injEq, Prod.mk.injEq] at e
    obtain ⟨rfl, rfl⟩ := e
    unfold Den at h
    obtain ⟨a, o, es, ep, xs, h1, h2, h3, h4, h5⟩ := h
    exact ⟨a, xs, h1, h2, .inr ⟨o, R.sub _ _ h4⟩, h5⟩
  | _ => cases e
theorem getK_val {w : Wd} {n : Nat} (k : Key) : ∀ {ks : List Key} {vs : List D} {xs : List V}, DenL K w n vs xs → ks.length = vs.length → (∀ d, getK k ks vs = some d → ∃ v, valV (ks.zip xs) k = some v ∧ Den K w n d v) ∧ (getK k ks vs = none → valV (ks.zip xs) k = none)
  | [], vs, xs, h, hl => ⟨fun d e => (by cases e), fun _ => rfl⟩
  | g :: ks, [], xs, h, hl => by cases hl
  | g :: ks, d :: vs, xs, h, hl => by
    unfold DenL at h
    obtain ⟨v, ws, rfl, h1, h2⟩ := h
    obtain ⟨i1, i2⟩ := getK_val k h2 (by simpa using hl)
    rw [List.zip_cons_cons]
    by_cases c : g = k
    · have a1 : getK k (g :: ks) (d :: vs) = some d := by unfold getK; rw [if_pos c]
      rw [a1, valV_pos (p := (g, v)) c]
      exact ⟨fun d' e => by cases e; exact ⟨v, rfl, h1⟩, fun e => by cases e⟩
    · have a1 : getK k (g :: ks) (d :: vs) = getK k ks vs := by rw [getK, if_neg c]
      rw [a1, valV_neg (p := (g, v)) c]
      exact ⟨i1, i2⟩
theorem keyD_v {w : Wd} {n : Nat} {d : D} {v : V} {k : Key} (h : Den K w n d v) (e : keyD d = some k) : v = kV k := by
  cases d <;> simp only [keyD, Option.some.injEq] at e <;> first | (subst e; unfold Den at h; exact h) | cases e
theorem snd_in {neg : Bool} : Snd2 K (fun a b μ => match (inD μ a b).map (fun r => if neg then !r else r) with
    | some r => .ok (.bl r) μ
    | none => .bad) (fun x y H Q => rIn K neg x y H Q ∨ rDkIn neg x y H Q) := by
  intro w μ H d1 d2 d μ' v1 v2 Q R h1 h2 e q
  dsimp only at e
  cases e0 : inD μ d1 d2 with
  | none => rw [e0] at e; cases e
  | some r =>
    rw [e0] at e
    cases e
    unfold inD at e0
    split at e0
    · rename_i ds e2
      split at e0
      · rename_i x e1
        obtain ⟨q1, f1⟩ := den_flat h1 e1
        obtain ⟨a, xs, rfl, s2, l2⟩ := seqA_sq R h2 e2
        obtain ⟨i1, i2⟩ := inDs_v l2 e0
        exact .inl ⟨a, xs, rfl, s2, f1, i1, by rw [q1, i2]; exact wish_here R q (by unfold Den; rfl)⟩
      · cases e0
    · split at e0
      · rename_i k ks vs e1 e2
        cases e0
        obtain ⟨a, xs, rfl, hl, hz, l2⟩ := dictL_rd R h2 e2
        obtain ⟨i1, i2⟩ := getK_val k l2 hl
        have es : (valV (ks.zip xs) k).isSome = (getK k ks vs).isSome := by
          cases hg : getK k ks vs with
          | none => rw [i2 hg]; rfl
          | some d =>
            obtain ⟨v, hv, _⟩ := i1 d hg
            rw [hv]
            rfl
        exact .inr ⟨a, _, rfl, .inl ⟨_, k, hz, keyD_v h1 e1, rfl⟩, by rw [es]; exact wish_here R q (by unfold Den; rfl)⟩
      · cases e0
theorem snd_bool {f : D → D → M → Out D} {r : R2} (h : ∀ (w : Wd) (μ : M) (H : Hp) (d1 d2 : D) (b : Bool) (v1 v2 : V) (Q : VK), Rep K w μ H → Den K w μ.length d1 v1 → Den K w μ.length d2 v2 → f d1 d2 μ = .ok (.bl b) μ → Q (.bl b) H → r v1 v2 H Q) (hb : ∀ d1 d2 d μ μ', f d1 d2 μ = .ok d μ' → ∃ b, d = .bl b ∧ μ' = μ) : Snd2 K f r := by
  intro w μ H d1 d2 d μ' v1 v2 Q R h1 h2 e q
  obtain ⟨b, rfl, rfl⟩ := hb _ _ _ _ _ e
  exact h w μ' H d1 d2 b v1 v2 Q R h1 h2 e (wish_here R q (by unfold Den; rfl))
theorem cmp_bl {op : CmpOp} : ∀ d1 d2 d μ μ', cmpD op d1 d2 μ = .ok d μ' → ∃ b, d = .bl b ∧ μ' = μ := fun _ _ _ _ _ e => let ⟨r, _, h1, h2⟩ := cmpD_ok e; ⟨r, h1, h2⟩
theorem cmp_of {op : CmpOp} {a b : D} {μ : M} {r : Bool} (e : cmpD op a b μ = .ok (.bl r) μ) : cmpB op a b μ = some r := by
  obtain ⟨r', h, h1, _⟩ := cmpD_ok e
  cases h1
  exact h
theorem eqTop_r {w : Wd} {μ : M} {H : Hp} {d1 d2 : D} {b : Bool} {v1 v2 : V} {Q : VK} (ne : Bool) (R : Rep K w μ H) (h1 : Den K w μ.length d1 v1) (h2 : Den K w μ.length d2 v2) (e : eqTop μ d1 d2 = some b) (q : Q (.bl (if ne then !b else b)) H) : rEqT K ne v1 v2 H Q := by
  unfold eqTop at e
  split at e
  · rename_i x y e1 e2
    split at e
    · rename_i hs
      cases e
      obtain ⟨rfl, _⟩ := den_flat h1 e1
      obtain ⟨rfl, _⟩ := den_flat h2 e2
      exact .inl ⟨hs, q⟩
    · cases e
  · exact .inr ⟨w, μ, d1, d2, b, R, h1, h2, e, q⟩
theorem cmp_ok {op : CmpOp} (hu : X.A.units + 16 < cLine) : ∃ r, OpR X (compareOp op) r ∧ Snd2 X.K (cmpD op) r := by
  cases op with
  | Eq => exact ⟨_, op_eq3 hu, snd_bool (fun w μ H d1 d2 b v1 v2 Q R h1 h2 e q => eqTop_r false R h1 h2 (cmp_of e) q) cmp_bl⟩
  | NotEq =>
    refine ⟨_, op_ne3 hu, snd_bool (fun w μ H d1 d2 b v1 v2 Q R h1 h2 e q => ?_) cmp_bl⟩
    have e' : (eqTop μ d1 d2).map (!·) = some b := cmp_of e
    cases e2 : eqTop μ d1 d2 with
    | none => rw [e2] at e'; cases e'
    | some c =>
      rw [e2] at e'
      cases e'
      exact eqTop_r true R h1 h2 e2 q
  | Lt =>
    refine ⟨_, op_lt, snd_bool (fun w μ H d1 d2 b v1 v2 Q R h1 h2 e q => ?_) cmp_bl⟩
    have e' := cmp_of e
    simp only [cmpB] at e'
    split at e'
    · cases e'
      unfold Den at h1 h2
      exact ⟨_, _, h1, h2, q⟩
    · cases e'
  | LtE =>
    refine ⟨_, (op_le.or op_le_str), snd_bool (fun w μ H d1 d2 b v1 v2 Q R h1 h2 e q => ?_) cmp_bl⟩
    have e' := cmp_of e
    simp only [cmpB] at e'
    split at e'
    · cases e'
      unfold Den at h1 h2
      exact .inl ⟨_, _, h1, h2, q⟩
    · cases e'
      unfold Den at h1 h2
      exact .inr ⟨_, _, h1, h2, q⟩
    · cases e'
  | Gt =>
    refine ⟨_, op_gt, snd_bool (fun w μ H d1 d2 b v1 v2 Q R h1 h2 e q => ?_) cmp_bl⟩
    have e' := cmp_of e
    simp only [cmpB] at e'
    split at e'
    · cases e'
      unfold Den at h1 h2
      exact ⟨_, _, h1, h2, q⟩
    · cases e'
  | GtE =>
    refine ⟨_, op_ge, snd_bool (fun w μ H d1 d2 b v1 v2 Q R h1 h2 e q => ?_) cmp_bl⟩
    have e' := cmp_of e
    simp only [cmpB] at e'
    split at e'
    · cases e'
      unfold Den at h1 h2
      exact ⟨_, _, h1, h2, q⟩
    · cases e'
  | In =>
    refine ⟨_, op_in_seq.or (op_dkIn (by omega)), fun w μ H d1 d2 d μ' v1 v2 Q R h1 h2 e q => snd_in (neg := false) w μ H d1 d2 d μ' v1 v2 Q R h1 h2 ?_ q⟩
    obtain ⟨r, hr, h3, h4⟩ := cmpD_ok e
    have hr' : inD μ d1 d2 = some r := hr
    dsimp only
    rw [hr', h3, h4]
    rfl
  | NotIn =>
    refine ⟨_, op_notIn_seq.or (op_dkNotIn (by omega)), fun w μ H d1 d2 d μ' v1 v2 Q R h1 h2 e q => snd_in (neg := true) w μ H d1 d2 d μ' v1 v2 Q R h1 h2 ?_ q⟩
    obtain ⟨r, hr, h3, h4⟩ := cmpD_ok e
    have hr' : (inD μ d1 d2).map (!·) = some r := hr
    dsimp only
    rw [h3, h4]
    cases e2 : inD μ d1 d2 with
    | none => rw [e2] at hr'; cases hr'
    | some c =>
      rw [e2] at hr'
      cases hr'
      rfl
  | Is => exact ⟨fun _ _ _ _ => False, fun _ _ _ _ _ _ _ _ _ _ _ _ h => h.elim, fun _ _ _ _ _ _ _ _ _ _ _ _ _ e _ => by obtain ⟨r, hr, _⟩ := cmpD_ok e; cases hr⟩
  | IsNot => exact ⟨fun _ _ _ _ => False, fun _ _ _ _ _ _ _ _ _ _ _ _ h => h.elim, fun _ _ _ _ _ _ _ _ _ _ _ _ _ e _ => by obtain ⟨r, hr, _⟩ := cmpD_ok e; cases hr⟩
theorem denL_atI {w : Wd} {n : Nat} {ds : List D} {xs : List V} {i : Int} {d : D} (h : DenL K w n ds xs) (e : atI ds i = some d) : ∃ v, atI xs i = some v ∧ Den K w n d v := by
  unfold atI at e ⊢
  rw [denL_len h] at e
  cases e2 : ixN xs.length i with
  | none => rw [e2] at e; cases e
  | some j =>
    rw [e2] at e
    exact denL_get h e
theorem dix_snd {w : Wd} {μ μ' : M} {H : Hp} {d1 d : D} {v1 v2 : V} {k : Key} {Q : VK} (R : Rep K w μ H) (h1 : Den K w μ.length d1 v1) (hk : v2 = kV k) (e : dixD d1 k μ = .ok d μ') (q : Wish K w μ.length d μ' Q) : rDkIx v1 v2 H Q := by
  unfold dixD at e
  split at e
  · rename_i ks vs e2
    split at e
    · rename_i d' hd
      obtain ⟨a, xs, rfl, hl, hz, l2⟩ := dictL_rd R h1 e2
      obtain ⟨v, hv, hdv⟩ := (getK_val k l2 hl).1 d' hd
      cases e
      exact ⟨a, v, rfl, .inl ⟨_, k, hz, hk, hv.symm⟩, wish_here R q hdv⟩
    · cases e
  · cases e
theorem ix_ok : Snd2 K ixD (fun x y H Q => rIx K x y H Q ∨ rDkIx x y H Q) := by
  intro w μ H d1 d2 d μ' v1 v2 Q R h1 h2 e q
  unfold ixD at e
  split at e
  · rename_i i
    unfold Den at h2
    split at e
    · rename_i z
      unfold Den at h1
      split at e
      · rename_i hz
        split at e
        · rename_i c hc
          cases e
          exact .inl (.inr (.inr ⟨z, i, c, h1, h2, hz, hc, wish_here R q (by unfold Den; rfl)⟩))
        · cases e
      · cases e
    · split at e
      · rename_i ds hs
        split at e
        · rename_i d' hd
          cases e
          obtain ⟨a, xs, rfl, s1, l1⟩ := seqA_sq R h1 hs
          obtain ⟨v, e1, e2⟩ := denL_atI l1 hd
          rcases s1 with s1 | s1
          · exact .inl (.inl ⟨a, xs, i, v, rfl, h2, s1, e1, wish_here R q e2⟩)
          · exact .inl (.inr (.inl ⟨a, xs, i, v, rfl, h2, s1, e1, wish_here R q e2⟩))
        · cases e
      · exact .inr (dix_snd R h1 (k := .inl i) h2 e q)
  · rename_i k
    unfold Den at h2
    exact .inr (dix_snd R h1 (k := .inr k) h2 e q)
  · cases e
noncomputable def rSl3 (K : PySem.W.Frag) : V → Option Int → Option Int → Hp → VK → Prop := fun x lo hi H Q => rSlS x lo hi H Q ∨ rSlT K x lo hi H Q ∨ rSlL K x lo hi H Q
theorem sl_ok3 : SlR X (rSl3 X.K) := sl_str.or (sl_tup.or sl_list)
theorem sl_snd {m : Bool} {w : Wd} {μ μ' : M} {H : Hp} {d1 d : D} {v1 : V} {lo hi : Option Int} {Q : VK} (R : Rep K w μ H) (h1 : Den K w μ.length d1 v1) (e : slD m d1 lo hi μ = .ok d μ') (q : Wish K w μ.length d μ' Q) : rSl3 K v1 lo hi H Q := by
  unfold slD at e
  split at e
  · split at e
    · rename_i hz
      cases e
      unfold Den at h1
      exact .inl ⟨_, h1, hz, wish_here R q (by unfold Den; rfl)⟩
    · cases e
  · split at e
    · cases e
    · rename_i hz
      cases e
      obtain ⟨a, us, rfl, s1, l1⟩ := tup_sq R h1
      refine .inr (.inl ⟨a, us, rfl, s1, by rw [← denL_len l1]; exact hz, fun p hp => ?_⟩)
      exact wish_frz R q hp fun w' x hz => by unfold Den; exact ⟨p, _, rfl, SqT.of hz, (l1.cut lo hi).mono x⟩
  · split at e
    · rename_i ds hs
      obtain ⟨a, us, rfl, s1, l1⟩ := seqL_sq R h1 hs
      exact .inr (.inr ⟨a, us, rfl, s1, mkL_snd R (l1.cut lo hi) e q⟩)
    · cases e
theorem tru_snd {w : Wd} {μ : M} {H : Hp} {d : D} {v : V} {b : Bool} (R : Rep K w μ H) (h : Den K w μ.length d v) (e : truD μ d = some b) : TruV K v H b := by
  unfold truD at e
  split at e
  · cases e; unfold Den at h; subst h; rfl
  · cases e
end
end _L3
set_option Elab.async false
set_option linter.all false
set_option maxRecDepth 100000
set_option maxHeartbeats 4000000
namespace _L3
open PySem PySem.Spec PyProof.Rows _L2
section
variable {K : PySem.W.Frag} {X : Cx}
theorem t3_nil {σ : _L2.St} {H : Hp} {Q : List V → Hp → Prop} : T3A K (fun _ μ => .ok [] μ) σ H Q → nNil σ H Q := by
  rintro ⟨w, μ, ρ, ds, μ', R, S, e, q⟩
  cases e
  exact q w H [] (Ext.refl _ _) R (by unfold DenL; rfl)
theorem t3_cons {r1 : S3 → M → Out D} {r2 : S3 → M → Out (List D)} {σ : _L2.St} {H : Hp} {Q : List V → Hp → Prop} :
    T3A K (fun ρ μ => (r1 ρ μ).bind fun d μ1 => (r2 ρ μ1).bind fun ds μ2 => .ok (d :: ds) μ2) σ H Q → tCons (T3E K r1) (T3A K r2) σ H Q := by
  rintro ⟨w, μ, ρ, d, μ', R, S, e, q⟩
  obtain ⟨x, μ1, e1, e⟩ := Out.bind_ok e
  obtain ⟨ys, μ2, e2, e⟩ := Out.bind_ok e
  cases e
  exact ⟨w, μ, ρ, x, μ1, R, S, e1, fun w1 H1 v1 x1 R1 d1 => ⟨w1, μ1, ρ, ys, _, R1, S.mono x1, e2, fun w2 H2 vs x2 R2 d2 => q w2 H2 (v1 :: vs) (x1.trans x2) R2 (by unfold DenL; exact ⟨v1, vs, rfl, d1.mono x2, d2⟩)⟩⟩
noncomputable def SndA (K : PySem.W.Frag) (f : List D → M → Out D) (r : List V → Hp → VK → Prop) : Prop := ∀ (w : Wd) (μ : M) (H : Hp) (ds : List D) (d : D) (μ' : M) (vs : List V) (Q : VK), Rep K w μ H → DenL K w μ.length ds vs → f ds μ = .ok d μ' → Wish K w μ.length d μ' Q → r vs H Q
theorem t3_call {f : List D → M → Out D} {r : List V → Hp → VK → Prop} {rl : S3 → M → Out (List D)} (hs : SndA K f r) {σ : _L2.St} {H : Hp} {Q : VK} :
    T3E K (fun ρ μ => (rl ρ μ).bind fun ds μ1 => f ds μ1) σ H Q → T3A K rl σ H fun vs H1 => r vs H1 Q := by
  rintro ⟨w, μ, ρ, d, μ', R, S, e, q⟩
  obtain ⟨ds, μ1, e1, e⟩ := Out.bind_ok e
  exact ⟨w, μ, ρ, ds, μ1, R, S, e1, fun w1 H1 vs x1 R1 d1 => hs w1 μ1 H1 ds d μ' vs Q R1 d1 e fun w3 H3 v x3 R3 d3 => q w3 H3 v (x1.trans x3) R3 d3⟩
theorem den1 {w : Wd} {n : Nat} {d : D} {vs : List V} (h : DenL K w n [d] vs) : ∃ v, vs = [v] ∧ Den K w n d v := by
  unfold DenL at h
  obtain ⟨v, ws, rfl, h1, h2⟩ := h
  unfold DenL at h2
  subst h2
  exact ⟨v, rfl, h1⟩
theorem den2 {w : Wd} {n : Nat} {d e : D} {vs : List V} (h : DenL K w n [d, e] vs) : ∃ v u, vs = [v, u] ∧ Den K w n d v ∧ Den K w n e u := by
  unfold DenL at h
  obtain ⟨v, ws, rfl, h1, h2⟩ := h
  obtain ⟨u, rfl, h3⟩ := den1 h2
  exact ⟨v, u, rfl, h1, h3⟩
theorem snd_tup : SndA K (fun ds μ => if ds.length ≤ sizeLine then .ok (.tup ds) μ else .bad) (fun xs H Q => xs.length ≤ sizeLine ∧ ∀ p, H p = none → Q (.ref p) (upd H p (.tup xs))) := by
  intro w μ H ds d μ' vs Q R h e q
  dsimp only at e
  split at e
  · rename_i hl
    cases e
    refine ⟨by rw [← denL_len h]; exact hl, fun p hp => ?_⟩
    exact wish_frz R q hp fun w' x hz => by unfold Den; exact ⟨p, _, rfl, SqT.of hz, h.mono x⟩
  · cases e
theorem snd_lst {m : Bool} : SndA K (fun ds μ => if ds.length ≤ sizeLine then mkL m ds μ else .bad) (fun xs H Q => xs.length ≤ sizeLine ∧ ∀ p, H p = none → Q (.ref p) (upd H p (.lst xs))) := by
  intro w μ H ds d μ' vs Q R h e q
  dsimp only at e
  split at e
  · rename_i hl
    exact ⟨by rw [← denL_len h]; exact hl, mkL_snd R h e q⟩
  · cases e
noncomputable abbrev rLen3 (K : PySem.W.Frag) : List V → Hp → VK → Prop := fun xs H Q => (∃ p ys, xs = [.ref p] ∧ (SqL K H p ys ∨ SqT K H p ys) ∧ Q (.int ys.length) H) ∨ ∃ z, xs = [.str z] ∧ z.length ≤ sizeLine ∧ Q (.int z.length) H
theorem snd_len : SndA K lenD (rLen3 K) := by
  intro w μ H ds d μ' vs Q R h e q
  unfold lenD at e
  split at e
  · split at e
    · rename_i hz
      cases e
      obtain ⟨v, rfl, h1⟩ := den1 h
      unfold Den at h1
      subst h1
      exact .inr ⟨_, rfl, hz, wish_here R q (by unfold Den; rfl)⟩
    · cases e
  · split at e
    · rename_i xs hs
      cases e
      obtain ⟨v, rfl, h1⟩ := den1 h
      obtain ⟨a, ys, rfl, s1, l1⟩ := seqA_sq R h1 hs
      exact .inl ⟨a, ys, rfl, s1, by rw [← denL_len l1]; exact wish_here R q (by unfold Den; rfl)⟩
    · cases e
  · cases e
theorem snd_min : SndA K minD (fun xs H Q => ∃ i j, xs = [.int i, .int j] ∧ Q (.int (if j < i then j else i)) H) := by
  intro w μ H ds d μ' vs Q R h e q
  unfold minD at e
  split at e
  · cases e
    obtain ⟨v, u, rfl, h1, h2⟩ := den2 h
    unfold Den at h1 h2
    subst h1 h2
    exact ⟨_, _, rfl, wish_here R q (by unfold Den; rfl)⟩
  · cases e
theorem snd_max : SndA K maxD (fun xs H Q => ∃ i j, xs = [.int i, .int j] ∧ Q (.int (if j > i then j else i)) H) := by
  intro w μ H ds d μ' vs Q R h e q
  unfold maxD at e
  split at e
  · cases e
    obtain ⟨v, u, rfl, h1, h2⟩ := den2 h
    unfold Den at h1 h2
    subst h1 h2
    exact ⟨_, _, rfl, wish_here R q (by unfold Den; rfl)⟩
  · cases e
theorem snd_list {m : Bool} : SndA K (listD m) (fun xs H Q => ∃ p ys, xs = [.ref p] ∧ (SqL K H p ys ∨ SqT K H p ys) ∧ ∀ l, H l = none → Q (.ref l) (upd H l (.lst ys))) := by
  intro w μ H ds d μ' vs Q R h e q
  unfold listD at e
  split at e
  · split at e
    · rename_i xs hs
      obtain ⟨v, rfl, h1⟩ := den1 h
      obtain ⟨a, ys, rfl, s1, l1⟩ := seqA_sq R h1 hs
      exact ⟨a, ys, rfl, s1, mkL_snd R l1 e q⟩
    · cases e
  · cases e
theorem snd_tuple : SndA K tupleD (fun xs H Q => ∃ p ys, xs = [.ref p] ∧ ((SqL K H p ys ∧ ∀ l, H l = none → Q (.ref l) (upd H l (.tup ys))) ∨ (SqT K H p ys ∧ Q (.ref p) H))) := by
  intro w μ H ds d μ' vs Q R h e q
  unfold tupleD at e
  split at e
  · rename_i d0
    split at e
    · rename_i xs hs
      cases e
      obtain ⟨v, rfl, h1⟩ := den1 h
      unfold seqA at hs
      split at hs
      · cases hs
        obtain ⟨a, ys, rfl, s1, l1⟩ := tup_sq R h1
        exact ⟨a, ys, rfl, .inr ⟨s1, wish_here R q h1⟩⟩
      · obtain ⟨a, ys, rfl, s1, l1⟩ := seqL_sq R h1 hs
        exact ⟨a, ys, rfl, .inl ⟨s1, fun p hp => wish_frz R q hp fun w' x hz => by unfold Den; exact ⟨p, _, rfl, SqT.of hz, l1.mono x⟩⟩⟩
    · cases e
  · cases e
theorem snd_toInt : SndA K toIntD (fun xs H Q => ((∃ i, xs = [.int i] ∧ Q (.int i) H) ∨ ∃ k, xs = [.bl k] ∧ Q (.int (if k then 1 else 0)) H) ∨ rIntT xs H Q) := by
  intro w μ H ds d μ' vs Q R h e q
  unfold toIntD at e
  split at e
  · cases e
    obtain ⟨v, rfl, h1⟩ := den1 h
    unfold Den at h1
    subst h1
    exact .inl (.inl ⟨_, rfl, wish_here R q (by unfold Den; rfl)⟩)
  · cases e
    obtain ⟨v, rfl, h1⟩ := den1 h
    unfold Den at h1
    subst h1
    exact .inl (.inr ⟨_, rfl, wish_here R q (by unfold Den; rfl)⟩)
  · split at e
    · rename_i n hn
      split at e
      · rename_i hz
        cases e
        obtain ⟨v, rfl, h1⟩ := den1 h
        unfold Den at h1
        subst h1
        exact .inr ⟨_, n, rfl, hn, hz, wish_here R q (by unfold Den; rfl)⟩
      · cases e
    · cases e
  · cases e
theorem snd_all (hc : X.calm = true) : SndA X.K allD (fun xs H Q => X.calm = true ∧ ∃ (p : Addr) (bs : List Bool), xs = [.ref p] ∧ SqL X.K H p (bs.map V.bl) ∧ Q (.bl (bs.all id)) H) := by
  intro w μ H ds d μ' vs Q R h e q
  unfold allD at e
  split at e
  · split at e
    · rename_i xs hs
      split at e
      · rename_i ns hn
        cases e
        obtain ⟨v, rfl, h1⟩ := den1 h
        obtain ⟨a, ys, rfl, s1, l1⟩ := seqL_sq R h1 hs
        have := denL_bls l1 hn
        subst this
        exact ⟨hc, a, ns, rfl, s1, wish_here R q (by unfold Den; rfl)⟩
      · cases e
    · cases e
  · cases e
theorem snd_str : SndA K strD (fun xs H Q => (∃ i, xs = [.int i] ∧ i.natAbs.log2 < 1920 ∧ Q (.str (toString i)) H) ∨ rStrT xs H Q) := by
  intro w μ H ds d μ' vs Q R h e q
  unfold strD at e
  split at e
  · split at e
    · rename_i hz
      cases e
      obtain ⟨v, rfl, h1⟩ := den1 h
      unfold Den at h1
      subst h1
      exact .inl ⟨_, rfl, hz, wish_here R q (by unfold Den; rfl)⟩
    · cases e
  · cases e
    obtain ⟨v, rfl, h1⟩ := den1 h
    unfold Den at h1
    subst h1
    exact .inr ⟨_, rfl, wish_here R q (by unfold Den; rfl)⟩
  · cases e
theorem ty_cases {μ : M} {d : D} {t : String} (e : tyD μ d = some t) : (∃ i, d = .int i ∧ t = "int") ∨ (∃ x, d = .str x ∧ t = "str") ∨ (∃ ds, d = .tup ds ∧ t = "tuple") := by
  cases d with
  | int i => cases e; exact .inl ⟨i, rfl, rfl⟩
  | str x => cases e; exact .inr (.inl ⟨x, rfl, rfl⟩)
  | tup ds => cases e; exact .inr (.inr ⟨ds, rfl, rfl⟩)
  | _ => cases e
theorem kit_of {n t : String} {b : Bool} (ht : t = "int" ∨ t = "str" ∨ t = "tuple") (e : isTy n t = some b) : PySem.W.kitOne K (.type t) (.type n) = some b := by
  unfold isTy at e
  split at e
  · rename_i hn
    subst hn
    rcases ht with rfl | rfl | rfl <;> (cases e; rfl)
  · split at e
    · rename_i hn
      rcases hn with rfl | rfl | rfl <;> rcases ht with rfl | rfl | rfl <;> (cases e; rfl)
    · cases e
noncomputable def rIsT (K : PySem.W.Frag) (n : String) : List V → Hp → VK → Prop := fun xs H Q => ∃ (x : V) (w : Wd) (μ : M) (d : D) (t : String) (b : Bool), xs = [x, .ty n] ∧ Rep K w μ H ∧ Den K w μ.length d x ∧ tyD μ d = some t ∧ isTy n t = some b ∧ Q (.bl b) H
theorem call_isT {n : String} : CallR X (.builtin "isinstance") (rIsT X.K n) := by
  intro pins s σ H xs us Q I r h
  obtain ⟨x, w, μ, d, t, b, rfl, R, hd, ht, hb, q⟩ := h
  obtain ⟨u, u2, rfl, ru, ru2⟩ := r.two
  cases (show u2 = Value.type n from ru2)
  have hk : ∀ hh, PySem.W.kitOne X.K (.type t) (.type n) = some b := fun hh => kit_of hh hb
  have fin : ∀ tk, EP X pins σ Q (.bool b) { s with toks := tk } := fun tk => ⟨.bl b, H, I.tok tk, rfl, q⟩
  rcases ty_cases ht with ⟨i, rfl, rfl⟩ | ⟨y, rfl, rfl⟩ | ⟨ds, rfl, rfl⟩
  · unfold Den at hd
    subst hd
    exact isinst_ok I ru (.int i) (hk (.inl rfl)) fin
  · unfold Den at hd
    subst hd
    exact isinst_ok I ru (.str y) (hk (.inr (.inl rfl))) fin
  · obtain ⟨a, xs, rfl, s1, _⟩ := tup_sq R hd
    cases ru
    obtain ⟨its, _, p, _⟩ := I.tuple s1
    obtain ⟨o, h1, h2, _⟩ := p
    exact PySem.W.kia_one PySem.W.kitx_tuple I.kIn ⟨o, h1, h2⟩ (hk (.inr (.inr rfl))) (fun z => nomatch z) fin
theorem snd_isT {n : String} {w : Wd} {μ μ' : M} {H : Hp} {ds : List D} {d : D} {vs : List V} {Q : VK} (R : Rep K w μ H) (h : DenL K w μ.length ds vs) (e : isTD n ds μ = .ok d μ') (q : Wish K w μ.length d μ' Q) : rIsT K n (vs ++ [.ty n]) H Q := by
  unfold isTD at e
  split at e
  · rename_i d0
    split at e
    · rename_i t ht
      split at e
      · rename_i r hr
        cases e
        obtain ⟨v, rfl, h1⟩ := den1 h
        exact ⟨v, w, μ, d0, t, r, rfl, R, h1, ht, hr, wish_here R q (by unfold Den; rfl)⟩
      · cases e
    · cases e
  · cases e
noncomputable def SndM (K : PySem.W.Frag) (f : D → List D → M → Out D) (r : V → List V → Hp → VK → Prop) : Prop := ∀ (w : Wd) (μ : M) (H : Hp) (o : D) (x : V) (ds : List D) (d : D) (μ' : M) (vs : List V) (Q : VK), Rep K w μ H → Den K w μ.length o x → DenL K w μ.length ds vs → f o ds μ = .ok d μ' → Wish K w μ.length d μ' Q → r x vs H Q
theorem Rep.putL {w : Wd} {μ : M} {H : Hp} {k : Nat} {ds es : List D} {ys : List V} (R : Rep K w μ H) (hk : μ[k]? = some (some (.lst ds))) (h : DenL K w μ.length es ys) : Rep K w (μ.set k (some (.lst es))) (upd H (w.γ k) (.lst ys)) := R.put hk (.lst ys) ⟨ys, upd_same, h⟩
theorem wish_set {w : Wd} {μ : M} {H' : Hp} {k : Nat} {c : Cl} {d : D} {v : V} {Q : VK} (R : Rep K w (μ.set k (some c)) H') (q : Wish K w μ.length d (μ.set k (some c)) Q) (h : Den K w μ.length d v) : Q v H' := by
  have hl : (μ.set k (some c)).length = μ.length := List.length_set
  exact q w H' v (by rw [hl]; exact Ext.refl _ _) R (by rw [hl]; exact h)
theorem snd_app : SndM K appD rAppend := by
  intro w μ H o x ds d μ' vs Q R h1 h2 e q
  unfold appD at e
  split at e
  · rename_i k d0
    split at e
    · rename_i xs hk
      split at e
      · rename_i hz
        cases e
        obtain ⟨v, rfl, h3⟩ := den1 h2
        unfold Den at h1
        obtain ⟨ys, g1, g2⟩ := (R.liv k _ hk).2
        refine ⟨w.γ k, ys, v, h1.2, rfl, g1, by rw [← denL_len g2]; exact hz, ?_⟩
        exact wish_set (R.putL hk (g2.append (DenL.one h3))) q (by unfold Den; rfl)
      · cases e
    · cases e
  · cases e
theorem snd_ext : SndM K extD rExtend := by
  intro w μ H o x ds d μ' vs Q R h1 h2 e q
  unfold extD at e
  split at e
  · rename_i k zs
    split at e
    · rename_i xs hk
      split at e
      · rename_i hz
        cases e
        obtain ⟨v, rfl, h3⟩ := den1 h2
        unfold Den at h1 h3
        obtain ⟨ys, g1, g2⟩ := (R.liv k _ hk).2
        obtain ⟨b, us, rfl, g3, g4⟩ := h3
        refine ⟨w.γ k, b, ys, us, h1.2, rfl, g1, R.sub _ _ g3, by rw [← denL_len g2, ← denL_len g4]; exact hz, ?_⟩
        exact wish_set (R.putL hk (g2.append g4)) q (by unfold Den; rfl)
      · cases e
    · cases e
  · cases e
theorem snd_join : SndM K joinD (rJoin K) := by
  intro w μ H o x ds d μ' vs Q R h1 h2 e q
  unfold joinD at e
  split at e
  · split at e
    · rename_i xs hs
      split at e
      · rename_i ys hy
        split at e
        · rename_i hz
          cases e
          obtain ⟨v, rfl, h3⟩ := den1 h2
          unfold Den at h1
          obtain ⟨a, us, rfl, s1, l1⟩ := seqL_sq R h3 hs
          have := denL_strs l1 hy
          subst this
          exact ⟨_, a, ys, h1, rfl, s1, hz, wish_here R q (by unfold Den; rfl)⟩
        · cases e
      · cases e
    · cases e
  · cases e
theorem denL_str_map {w : Wd} {n : Nat} : ∀ zs : List Str, DenL K w n (zs.map D.str) (zs.map V.str)
  | [] => by unfold DenL; rfl
  | z :: zs => by rw [List.map_cons, List.map_cons]; unfold DenL; exact ⟨_, _, rfl, by unfold Den; rfl, denL_str_map zs⟩
theorem snd_split : SndM K splitD rSplit := by
  intro w μ H o x ds d μ' vs Q R h1 h2 e q
  unfold splitD at e
  split at e
  · rename_i z y
    split at e
    · rename_i hz
      cases e
      obtain ⟨v, rfl, h3⟩ := den1 h2
      unfold Den at h1 h3
      subst h3
      exact ⟨z, y, h1, rfl, hz.1, hz.2, fun p hp => wish_frz R q hp fun w' x hz => by unfold Den; exact ⟨p, _, rfl, hz, denL_str_map _⟩⟩
    · cases e
  · cases e
theorem t3_meth {f : D → List D → M → Out D} {ok : D → M → Bool} {T : String} {r : V → List V → Hp → VK → Prop} {ro : S3 → M → Out D} {rl : S3 → M → Out (List D)} (hs : SndM K f r) (ht : ∀ (w : Wd) (μ : M) (H : Hp) (o : D) (x : V), Rep K w μ H → Den K w μ.length o x → ok o μ = true → tyV K T x H) {σ : _L2.St} {H : Hp} {Q : VK} :
    T3E K (fun ρ μ => (ro ρ μ).bind fun x μ1 => if ok x μ1 then (rl ρ μ1).bind fun ds μ2 => f x ds μ2 else .bad) σ H Q → tBM K T r (T3E K ro) (T3A K rl) σ H Q := by
  rintro ⟨w, μ, ρ, d, μ', R, S, e, q⟩
  obtain ⟨x, μ1, e1, e⟩ := Out.bind_ok e
  split at e
  · rename_i hok
    obtain ⟨ds, μ2, e2, e⟩ := Out.bind_ok e
    exact ⟨w, μ, ρ, x, μ1, R, S, e1, fun w1 H1 v1 x1 R1 d1 => ⟨ht w1 μ1 H1 x v1 R1 d1 hok, ⟨w1, μ1, ρ, ds, μ2, R1, S.mono x1, e2, fun w2 H2 vs x2 R2 d2 => hs w2 μ2 H2 x v1 ds d μ' vs Q R2 (d1.mono x2) d2 e fun w3 H3 v x3 R3 d3 => q w3 H3 v ((x1.trans x2).trans x3) R3 d3⟩⟩⟩
  · cases e
theorem mtTy_list {b : Mt} {w : Wd} {μ : M} {H : Hp} {o : D} {x : V} (hb : b = .append ∨ b = .extend) (R : Rep K w μ H) (h : Den K w μ.length o x) (e : mtTy b o μ = true) : tyV K "list" x H := by
  cases o with
  | cel k =>
    have e' : (match μ[k]? with | some (some (.lst _)) => true | _ => false) = true := by
      rcases hb with rfl | rfl <;> exact e
    split at e'
    · rename_i ds hk
      unfold Den at h
      obtain ⟨ys, g1, g2⟩ := (R.liv k _ hk).2
      rw [h.2]
      exact .inl ⟨rfl, ys, SqL.of g1⟩
    · cases e'
  | _ => rcases hb with rfl | rfl <;> cases e
theorem mtTy_splitS {w : Wd} {μ : M} {H : Hp} {o : D} {x : V} (h : Den K w μ.length o x) (e : mtTy .split o μ = true) : tyV K "str" x H := by
  cases o with
  | str z =>
    unfold Den at h
    subst h
    rfl
  | _ => cases e
theorem mtTy_str {w : Wd} {μ : M} {H : Hp} {o : D} {x : V} (h : Den K w μ.length o x) (e : mtTy .join o μ = true) : tyV K "str" x H := by
  cases o with
  | str z =>
    unfold Den at h
    subst h
    rfl
  | _ => cases e
end
end _L3
set_option Elab.async false
set_option linter.all false
set_option maxRecDepth 100000
set_option maxHeartbeats 4000000
namespace _L3
open PySem PySem.Spec PyProof.Rows _L2
section
variable {K : PySem.W.Frag} {X : Cx}
noncomputable def iAny (K : PySem.W.Frag) (tl : TE) : TI := fun σ H R => tl σ H fun x H1 => ∃ a, x = .ref a ∧ ((∃ xs, SqL K H1 a xs ∧ R (Itl K a) H1) ∨ ∃ xs, SqT K H1 a xs ∧ R (Itt K a) H1)
theorem pi_any {tg e : Expr} {te : TE} (h : PE X e te) : PI X tg e (iAny X.K te) := by
  intro pins s σ H R I hw
  refine thn (h pins s σ H _ I hw) fun v s1 ⟨x, H1, I1, r1, q1⟩ => ?_
  obtain ⟨a, e, q⟩ := q1
  subst e
  cases r1
  rcases q with ⟨xs, hq, q⟩ | ⟨xs, hq, q⟩
  · obtain ⟨its, rv, p, hz⟩ := I1.list hq
    refine wpAny_pyIter_list p.isList ?_
    refine ⟨s1.heap.objs.size, [s1.heap.objs.size], _, _, H1, rfl, I1.kept (t' := s1.toks) fun b o e => Heap.get?_push_of_some _ e, turn_list a _, ⟨_, Heap.get?_push_size _ rfl, rfl, rfl⟩, fun b hb => ?_, q⟩
    have e : b = s1.heap.objs.size := by simpa using hb
    subst e
    exact I1.fpOk (Nat.le_refl _) (I1.hok.fresh (Nat.le_refl _))
  · obtain ⟨its, rv, p, hz⟩ := I1.tuple hq
    refine wpAny_pyIter_tuple (show s1.heap.IsTuple a its.toArray from p) ?_
    refine ⟨s1.heap.objs.size, [s1.heap.objs.size], _, _, H1, rfl, I1.kept (t' := s1.toks) fun b o e => Heap.get?_push_of_some _ e, turn_tuple a _, ⟨_, Heap.get?_push_size _ rfl, rfl, rfl⟩, fun b hb => ?_, q⟩
    have e : b = s1.heap.objs.size := by simpa using hb
    subst e
    exact I1.fpOk (Nat.le_refl _) (I1.hok.fresh (Nat.le_refl _))
theorem imI {tg it : Expr} {t t' : TI} (h : PI X tg it t) (k : ∀ σ H R, t' σ H R → t σ H R) : PI X tg it t' := fun pins s σ H R I hw => h pins s σ H R I (k σ H R hw)
noncomputable def ItOk (K : PySem.W.Frag) (w : Wd) (n : Nat) (ok : M → Bool) (xs : List D) (J : It) : Prop := ∀ (w2 : Wd) (μ2 : M) (H2 : Hp), Ext w w2 n μ2.length → Rep K w2 μ2 H2 → ok μ2 = true →
  J.stop xs.length H2 ∧ ∀ i d, xs[i]? = some d → J.go i H2 ∧ ∀ x H3, J.yld i H2 x H3 → ∃ w3, Ext w2 w3 μ2.length μ2.length ∧ Rep K w3 μ2 H3 ∧ Den K w3 μ2.length d x
noncomputable def T3I (K : PySem.W.Frag) (ik : IK) (r : S3 → M → Out (List D)) : TI := fun σ H R => ∃ (w : Wd) (μ : M) (ρ : S3) (ds : List D) (μ1 : M) (xs : List D), Rep K w μ H ∧ DenS K w μ.length ρ σ ∧ r ρ μ = .ok ds μ1 ∧ itD ik ds μ1 = some xs ∧
  ∀ w' H' J, Ext w w' μ.length μ1.length → Rep K w' μ1 H' → ItOk K w' μ1.length (stays ik ds xs) xs J → R J H'
theorem stays_iff {ik : IK} {ds xs : List D} {μ : M} : stays ik ds xs μ = true ↔ itD ik ds μ = some xs := by
  unfold stays
  exact @decide_eq_true_iff _ (Classical.propDecidable _)
theorem itl_ok {w : Wd} {n : Nat} {ok : M → Bool} {xs : List D} {a : Addr} (h : ∀ (w2 : Wd) (μ2 : M) (H2 : Hp), Ext w w2 n μ2.length → Rep K w2 μ2 H2 → ok μ2 = true → ∃ ys, SqL K H2 a ys ∧ DenL K w2 μ2.length xs ys) : ItOk K w n ok xs (Itl K a) := by
  intro w2 μ2 H2 x2 R2 hk
  obtain ⟨ys, s1, l1⟩ := h w2 μ2 H2 x2 R2 hk
  refine ⟨⟨ys, s1, by rw [← denL_len l1]; exact Nat.le_refl _⟩, fun i d hd => ?_⟩
  obtain ⟨v, e1, e2⟩ := denL_get l1 hd
  refine ⟨⟨ys, v, s1, e1⟩, fun x H3 y => ?_⟩
  obtain ⟨rfl, y⟩ := y
  have := y ys s1
  rw [e1] at this
  cases this
  exact ⟨w2, Ext.refl _ _, R2, e2⟩
theorem itt_ok {w : Wd} {n : Nat} {ok : M → Bool} {xs : List D} {a : Addr} (h : ∀ (w2 : Wd) (μ2 : M) (H2 : Hp), Ext w w2 n μ2.length → Rep K w2 μ2 H2 → ok μ2 = true → ∃ ys, SqT K H2 a ys ∧ DenL K w2 μ2.length xs ys) : ItOk K w n ok xs (Itt K a) := by
  intro w2 μ2 H2 x2 R2 hk
  obtain ⟨ys, s1, l1⟩ := h w2 μ2 H2 x2 R2 hk
  refine ⟨⟨ys, s1, by rw [← denL_len l1]; exact Nat.le_refl _⟩, fun i d hd => ?_⟩
  obtain ⟨v, e1, e2⟩ := denL_get l1 hd
  refine ⟨⟨ys, v, s1, e1⟩, fun x H3 y => ?_⟩
  obtain ⟨rfl, y⟩ := y
  have := y ys s1
  rw [e1] at this
  cases this
  exact ⟨w2, Ext.refl _ _, R2, e2⟩
theorem one_of {r : S3 → M → Out D} {ρ : S3} {μ μ1 : M} {ds : List D} (e : ((r ρ μ).bind fun d μ1 => (Out.ok [] μ1).bind fun ds μ2 => .ok (d :: ds) μ2) = .ok ds μ1) : ∃ d, ds = [d] ∧ r ρ μ = .ok d μ1 := by
  obtain ⟨d, μ2, e1, e⟩ := Out.bind_ok e
  cases e
  exact ⟨d, rfl, e1⟩
theorem pi_seq3 {tg it : Expr} {r : S3 → M → Out D} (h : PE X it (T3E X.K r)) : PI X tg it (T3I X.K .seq (fun ρ μ => (r ρ μ).bind fun d μ1 => (Out.ok [] μ1).bind fun ds μ2 => .ok (d :: ds) μ2)) := by
  refine imI (pi_any h) fun σ H R => ?_
  rintro ⟨w, μ, ρ, ds, μ1, xs, Rp, S, e, ei, q⟩
  obtain ⟨d, rfl, e1⟩ := one_of e
  refine ⟨w, μ, ρ, d, μ1, Rp, S, e1, fun w1 H1 v x1 R1 d1 => ?_⟩
  have ei' : seqA μ1 d = some xs := ei
  by_cases ht : ∃ ds, d = .tup ds
  · obtain ⟨ds, rfl⟩ := ht
    cases ei'
    obtain ⟨a, ys, rfl, s1, l1⟩ := tup_sq R1 d1
    refine ⟨a, rfl, .inr ⟨ys, s1, q w1 H1 _ x1 R1 (itt_ok fun w2 μ2 H2 x2 R2 hk => ?_)⟩⟩
    obtain ⟨a', ys', ea, s2, l2⟩ := tup_sq R2 (d1.mono x2)
    cases ea
    exact ⟨ys', s2, l2⟩
  · have hL : ∀ μ, seqA μ d = seqL μ d := fun μ => by
      cases d with
      | tup ds => exact absurd ⟨ds, rfl⟩ ht
      | _ => rfl
    rw [hL] at ei'
    obtain ⟨a, ys, rfl, s1, l1⟩ := seqL_sq R1 d1 ei'
    refine ⟨a, rfl, .inl ⟨ys, s1, q w1 H1 _ x1 R1 (itl_ok fun w2 μ2 H2 x2 R2 hk => ?_)⟩⟩
    have e2 : seqA μ2 d = some xs := stays_iff.mp hk
    rw [hL] at e2
    obtain ⟨a', ys', ea, s2, l2⟩ := seqL_sq R2 (d1.mono x2) e2
    cases ea
    exact ⟨ys', s2, l2⟩
theorem enm_get : ∀ {ds : List D} {k i : Nat} {d : D}, (enmD k ds)[i]? = some d → ∃ x, ds[i]? = some x ∧ d = .tup [.int ((k + i : Nat) : Int), x]
  | [], _, _, _, e => by simp [enmD] at e
  | x :: ds, k, 0, d, e => by
    simp only [enmD, List.getElem?_cons_zero, Option.some.injEq] at e
    exact ⟨x, rfl, e.symm⟩
  | x :: ds, k, i + 1, d, e => by
    simp only [enmD, List.getElem?_cons_succ] at e
    obtain ⟨y, h1, h2⟩ := enm_get e
    exact ⟨y, by simpa using h1, by rw [h2]; congr 4; omega⟩
theorem enm_len : ∀ (ds : List D) (k : Nat), (enmD k ds).length = ds.length
  | [], _ => rfl
  | x :: ds, k => by simp [enmD, enm_len ds]
noncomputable def isTp : D → Bool
  | .tup _ => true
  | _ => false
theorem seqB_sq {w : Wd} {μ : M} {H : Hp} {d : D} {v : V} {ds : List D} (R : Rep K w μ H) (h : Den K w μ.length d v) (e : seqA μ d = some ds) : ∃ a xs, v = .ref a ∧ SqB (isTp d) K H a xs ∧ DenL K w μ.length ds xs := by
  by_cases ht : ∃ ds, d = .tup ds
  · obtain ⟨es, rfl⟩ := ht
    cases e
    exact tup_sq R h
  · have hL : seqA μ d = seqL μ d ∧ isTp d = false := by
      cases d with
      | tup ds => exact absurd ⟨ds, rfl⟩ ht
      | _ => exact ⟨rfl, rfl⟩
    rw [hL.1] at e
    rw [hL.2]
    exact seqL_sq R h e
theorem pi_enm3 {elts : List Expr} {x1 : Nat} {tpos p pos : Pos} {a : Expr} {r : S3 → M → Out (List D)} (hg : okGl X.env.scope "enumerate" = true) (hm : X.mg "enumerate" = none) (ha : PA X [a] (T3A X.K r)) (hs : notStar a = true) :
    PI X (.Tuple elts x1 tpos) (.Call (.Name "enumerate" p) [a] [] pos) (T3I X.K .enm r) := by
  refine imI (pi_enumB (okGl_get hg).1 hm ha (star_cons hs)) fun σ H R => ?_
  rintro ⟨w, μ, ρ, ds, μ1, xs, Rp, S, e, ei, q⟩
  refine ⟨w, μ, ρ, ds, μ1, Rp, S, e, fun w1 H1 vs x1 R1 d1 => ?_⟩
  replace ei : itEnm ds μ1 = some xs := ei
  unfold itEnm at ei
  split at ei
  case h_2 => cases ei
  rename_i d
  cases e0 : seqA μ1 d with
  | none => rw [e0] at ei; cases ei
  | some ys0 =>
    rw [e0] at ei
    cases ei
    obtain ⟨v, rfl, h1⟩ := den1 d1
    obtain ⟨a, ys, rfl, s1, l1⟩ := seqB_sq R1 h1 e0
    refine ⟨a, _, rfl, ⟨ys, s1⟩, q w1 H1 _ x1 R1 ?_⟩
    intro w2 μ2 H2 x2 R2 hk
    have e2 : (seqA μ2 d).map (enmD 0) = some (enmD 0 ys0) := stays_iff.mp hk
    cases e3 : seqA μ2 d with
    | none => rw [e3] at e2; cases e2
    | some zs =>
      rw [e3] at e2
      have hz : enmD 0 zs = enmD 0 ys0 := by simpa using e2
      obtain ⟨a', ys', ea, s2, l2⟩ := seqB_sq R2 (h1.mono x2) e3
      cases ea
      rw [← hz]
      refine ⟨⟨ys', s2, by rw [← denL_len l2, ← enm_len zs 0]⟩, fun i d' hd => ?_⟩
      obtain ⟨x0, g1, rfl⟩ := enm_get hd
      obtain ⟨u, u1, u2⟩ := denL_get l2 g1
      refine ⟨⟨ys', u, s2, u1⟩, fun x H3 y => ?_⟩
      obtain ⟨p, y0, rfl, hn, rfl, y⟩ := y
      have := y ys' s2
      rw [u1] at this
      cases this
      obtain ⟨R3, x3⟩ := R2.frz hn (.tup [.int (i : Int), u])
      refine ⟨_, x3, R3, ?_⟩
      unfold Den
      refine ⟨p, _, rfl, SqT.of upd_same, ?_⟩
      unfold DenL
      exact ⟨_, _, rfl, by unfold Den; simp, DenL.one (u2.mono x3)⟩
theorem itm_get : ∀ {ks : List Key} {vs : List D} {i : Nat} {d : D}, (itmD ks vs)[i]? = some d → ∃ k v, ks[i]? = some k ∧ vs[i]? = some v ∧ d = .tup [keyDat k, v]
  | [], _, _, _, e => by simp [itmD] at e
  | _ :: _, [], _, _, e => by simp [itmD] at e
  | x :: xs, y :: ys, 0, d, e => by
    simp only [itmD, List.getElem?_cons_zero, Option.some.injEq] at e
    exact ⟨x, y, rfl, rfl, e.symm⟩
  | x :: xs, y :: ys, i + 1, d, e => by
    simp only [itmD, List.getElem?_cons_succ] at e
    obtain ⟨a, b, h1, h2, h3⟩ := itm_get e
    exact ⟨a, b, by simpa using h1, by simpa using h2, h3⟩
theorem itm_len : ∀ (ks : List Key) (vs : List D), (itmD ks vs).length = min ks.length vs.length
  | [], _ => by simp [itmD]
  | _ :: _, [] => by simp [itmD]
  | x :: xs, y :: ys => by simp only [itmD, List.length_cons, itm_len xs ys, Nat.add_min_add_right]
theorem den_key {w : Wd} {n : Nat} (k : Key) : Den K w n (keyDat k) (kV k) := by
  rcases k with i | x <;> (unfold keyDat; dsimp only; unfold Den; rfl)
noncomputable def plainB3 : Expr → Bool
  | .Call _ as _ _ => !as.isEmpty
  | _ => true
theorem base_ok3 {e : Expr} {f : Str} {env : Env} (h : plainB3 e = true) : attributeBase e f env (eval e env) = eval e env := by
  cases e with
  | Call g as ks p =>
    cases as with
    | nil => cases h
    | cons a as => cases g <;> rfl
  | _ => rfl
theorem pi_items3 {elts : List Expr} {x1 : Nat} {tpos apos pos : Pos} {a : Expr} {r : S3 → M → Out D} (hb : plainB3 a = true) (hl : (apos.endLine == pos.line) = true) (h : PE X a (T3E X.K r)) :
    PI X (.Tuple elts x1 tpos) (.Call (.Attribute a "items" apos) [] [] pos) (T3I X.K .items (fun ρ μ => (r ρ μ).bind fun d μ1 => (Out.ok [] μ1).bind fun ds μ2 => .ok (d :: ds) μ2)) := by
  refine imI (pi_items h (base_ok3 hb) hl) fun σ H R => ?_
  rintro ⟨w, μ, ρ, ds, μ1, xs, Rp, S, e, ei, q⟩
  obtain ⟨d, rfl, e1⟩ := one_of e
  refine ⟨w, μ, ρ, d, μ1, Rp, S, e1, fun w1 H1 v x1 R1 d1 => ?_⟩
  replace ei : itItems [d] μ1 = some xs := ei
  unfold itItems at ei
  split at ei
  case h_2 => cases ei
  rename_i ks vs heq
  cases heq
  cases ei
  unfold Den at d1
  obtain ⟨a, o, es, ep, ys, rfl, h2, h3, h4, h5⟩ := d1
  refine ⟨a, o, _, es, ep, rfl, R1.sub _ _ h4, h3, q w1 H1 _ x1 R1 ?_⟩
  intro w2 μ2 H2 x2 R2 hk
  have hz := R2.sub _ _ (x2.z _ _ h4)
  have hle : (ks.zip ys).length = (itmD ks vs).length := by rw [itm_len, List.length_zip, ← denL_len h5]
  refine ⟨⟨hz, by rw [hle]; exact Nat.le_refl _⟩, fun i d' hd => ?_⟩
  obtain ⟨k, v0, g1, g2, rfl⟩ := itm_get hd
  obtain ⟨u, u1, u2⟩ := denL_get h5 g2
  have hp : (ks.zip ys)[i]? = some (k, u) := by rw [List.getElem?_zip_eq_some]; exact ⟨g1, u1⟩
  refine ⟨⟨hz, (List.getElem?_eq_some_iff.mp hp).1⟩, fun x H3 y => ?_⟩
  obtain ⟨p, qq, y0, rfl, hn, rfl⟩ := y
  rw [hp] at y0
  cases y0
  obtain ⟨R3, x3⟩ := R2.frz hn (.tup [kV k, u])
  refine ⟨_, x3, R3, ?_⟩
  unfold Den
  refine ⟨p, _, rfl, SqT.of upd_same, ?_⟩
  unfold DenL
  exact ⟨_, _, rfl, den_key k, DenL.one ((u2.mono x2).mono x3)⟩
theorem zip_get : ∀ {xs ys : List D} {i : Nat} {d : D}, (zipD xs ys)[i]? = some d → ∃ x y, xs[i]? = some x ∧ ys[i]? = some y ∧ d = .tup [x, y]
  | [], _, _, _, e => by simp [zipD] at e
  | _ :: _, [], _, _, e => by simp [zipD] at e
  | x :: xs, y :: ys, 0, d, e => by
    simp only [zipD, List.getElem?_cons_zero, Option.some.injEq] at e
    exact ⟨x, y, rfl, rfl, e.symm⟩
  | x :: xs, y :: ys, i + 1, d, e => by
    simp only [zipD, List.getElem?_cons_succ] at e
    obtain ⟨a, b, h1, h2, h3⟩ := zip_get e
    exact ⟨a, b, by simpa using h1, by simpa using h2, h3⟩
theorem zip_len : ∀ (xs ys : List D), (zipD xs ys).length = min xs.length ys.length
  | [], _ => by simp [zipD]
  | _ :: _, [] => by simp [zipD]
  | x :: xs, y :: ys => by simp only [zipD, List.length_cons, zip_len xs ys, Nat.add_min_add_right]
theorem pi_zip3 {elts : List Expr} {x1 : Nat} {tpos p pos : Pos} {a b : Expr} {r : S3 → M → Out (List D)} (hg : okGl X.env.scope "zip" = true) (hm : X.mg "zip" = none) (ha : PA X [a, b] (T3A X.K r)) (hs : noStars [a, b] = true) :
    PI X (.Tuple elts x1 tpos) (.Call (.Name "zip" p) [a, b] [] pos) (T3I X.K .zip r) := by
  refine imI (qi_zipB hg hm ⟨ha⟩ hs).h fun σ H R => ?_
  rintro ⟨w, μ, ρ, ds, μ1, xs, Rp, S, e, ei, q⟩
  refine ⟨w, μ, ρ, ds, μ1, Rp, S, e, fun w1 H1 vs x1 R1 d1 => ?_⟩
  replace ei : itZip ds μ1 = some xs := ei
  unfold itZip at ei
  split at ei
  case h_2 => cases ei
  rename_i d d'
  split at ei
  case h_2 => cases ei
  rename_i us ws e1 e2
  cases ei
  obtain ⟨v, u, rfl, h1, h2⟩ := den2 d1
  obtain ⟨a, ys, rfl, s1, l1⟩ := seqB_sq R1 h1 e1
  obtain ⟨b, zs, rfl, s2, l2⟩ := seqB_sq R1 h2 e2
  refine ⟨a, b, _, _, rfl, ⟨ys, s1⟩, ⟨zs, s2⟩, q w1 H1 _ x1 R1 ?_⟩
  intro w2 μ2 H2 x2 R2 hk
  have e3 : itZip [d, d'] μ2 = some (zipD us ws) := stays_iff.mp hk
  simp only [itZip] at e3
  split at e3
  case h_2 => cases e3
  rename_i us' ws' e4 e5
  have hz : zipD us' ws' = zipD us ws := by simpa using e3
  obtain ⟨a', ys', ea, s3, l3⟩ := seqB_sq R2 (h1.mono x2) e4
  obtain ⟨b', zs', eb, s4, l4⟩ := seqB_sq R2 (h2.mono x2) e5
  cases ea
  cases eb
  rw [← hz]
  refine ⟨⟨ys', zs', s3, s4, ?_⟩, fun i d' hd => ?_⟩
  · rw [zip_len, denL_len l3, denL_len l4]
    omega
  · obtain ⟨x0, y0, g1, g2, rfl⟩ := zip_get hd
    obtain ⟨p1, p2, p3⟩ := denL_get l3 g1
    obtain ⟨q1, q2, q3⟩ := denL_get l4 g2
    refine ⟨⟨ys', zs', p1, q1, s3, s4, p2, q2⟩, fun x H3 y => ?_⟩
    obtain ⟨p, u0, v0, rfl, hn, rfl, y1, y2⟩ := y
    have t1 := y1 ys' s3
    have t2 := y2 zs' s4
    rw [p2] at t1
    rw [q2] at t2
    cases t1
    cases t2
    obtain ⟨R3, x3⟩ := R2.frz hn (.tup [p1, q1])
    refine ⟨_, x3, R3, ?_⟩
    unfold Den
    refine ⟨p, _, rfl, SqT.of upd_same, ?_⟩
    unfold DenL
    exact ⟨_, _, rfl, p3.mono x3, DenL.one (q3.mono x3)⟩
theorem itr_ok {w : Wd} {n : Nat} {ok : M → Bool} {lo : Int} {m : Nat} : ItOk K w n ok ((List.range m).map fun (k : Nat) => .int (lo + (k : Int))) (Itr lo m) := by
  intro w2 μ2 H2 x2 R2 hk
  refine ⟨(by show m ≤ _; simp), fun i d hd => ?_⟩
  have hi : i < m := by
    have := (List.getElem?_eq_some_iff.mp hd).1
    simpa using this
  have ed : d = .int (lo + (i : Int)) := by
    have : ((List.range m).map fun (k : Nat) => D.int (lo + (k : Int)))[i]? = some (.int (lo + (i : Int))) := by simp [hi]
    rw [this] at hd
    exact (Option.some.inj hd).symm
  subst ed
  refine ⟨hi, fun x H3 y => ?_⟩
  obtain ⟨rfl, rfl⟩ := y
  exact ⟨w2, Ext.refl _ _, R2, by unfold Den; rfl⟩
theorem pi_rng1 {tg : Expr} {p pos : Pos} {a : Expr} {r : S3 → M → Out (List D)} (hg : okGl X.env.scope "range" = true) (hm : X.mg "range" = none) (ha : PA X [a] (T3A X.K r)) (hs : notStar a = true) :
    PI X tg (.Call (.Name "range" p) [a] [] pos) (T3I X.K .rng1 r) := by
  refine imI (pik_range1 hg hm ha hs) fun σ H R => ?_
  rintro ⟨w, μ, ρ, ds, μ1, xs, Rp, S, e, ei, q⟩
  refine ⟨w, μ, ρ, ds, μ1, Rp, S, e, fun w1 H1 vs x1 R1 d1 => ?_⟩
  replace ei : itRng1 ds μ1 = some xs := ei
  unfold itRng1 at ei
  split at ei
  case h_2 => cases ei
  rename_i j
  split at ei
  case isFalse => cases ei
  rename_i hj
  obtain ⟨v, rfl, h1⟩ := den1 d1
  unfold Den at h1
  subst h1
  have e0 : xs = (List.range j.toNat).map fun (k : Nat) => D.int (0 + (k : Int)) := by
    have := Option.some.inj ei
    rw [← this]
    congr 1
    funext k
    rw [Int.zero_add]
  refine ⟨j, rfl, hj.1, hj.2, q w1 H1 _ x1 R1 ?_⟩
  rw [e0]
  exact itr_ok
theorem pi_str3 {tg it : Expr} {r : S3 → M → Out D} (h : PE X it (T3E X.K r)) : PI X tg it (T3I X.K .str (fun ρ μ => (r ρ μ).bind fun d μ1 => (Out.ok [] μ1).bind fun ds μ2 => .ok (d :: ds) μ2)) := by
  refine imI (pi_str h) fun σ H R => ?_
  rintro ⟨w, μ, ρ, ds, μ1, xs, Rp, S, e, ei, q⟩
  obtain ⟨d, rfl, e1⟩ := one_of e
  refine ⟨w, μ, ρ, d, μ1, Rp, S, e1, fun w1 H1 v x1 R1 d1 => ?_⟩
  replace ei : itStr [d] μ1 = some xs := ei
  unfold itStr at ei
  split at ei
  case h_2 => cases ei
  rename_i z hz
  cases hz
  cases ei
  unfold Den at d1
  subst d1
  refine ⟨z, rfl, q w1 H1 _ x1 R1 ?_⟩
  intro w2 μ2 H2 x2 R2 hk
  refine ⟨?_, fun i d hd => ?_⟩
  · show z.cps.size ≤ _
    simp
  · have hd' : (z.cps.toList.map fun c => D.str ⟨#[c]⟩)[i]? = some d := hd
    rw [List.getElem?_map] at hd'
    cases e2 : z.cps.toList[i]? with
    | none => rw [e2] at hd'; cases hd'
    | some c =>
      rw [e2] at hd'
      cases hd'
      have hi : i < z.cps.size := by
        have := (List.getElem?_eq_some_iff.mp e2).1
        simpa using this
      refine ⟨hi, fun x H3 y => ?_⟩
      obtain ⟨rfl, c', hc', rfl⟩ := y
      have : z.cps[i]? = some c := by
        rw [← Array.getElem?_toList]
        exact e2
      rw [this] at hc'
      cases hc'
      exact ⟨w2, Ext.refl _ _, R2, by unfold Den; rfl⟩
noncomputable def TgOk (K : PySem.W.Frag) (tg : Tg) (g : TG) : Prop := ∀ (w : Wd) (μ : M) (H : Hp) (ρ ρ' : S3) (σ : _L2.St) (d : D) (v : V) (Q : _L2.St → Hp → Prop), Rep K w μ H → DenS K w μ.length ρ σ → Den K w μ.length d v → asgD tg d ρ = some ρ' → (∀ σ', DenS K w μ.length ρ' σ' → Q σ' H) → g v σ H Q
theorem drop_cons {α : Type} {xs : List α} {i : Nat} (h : i < xs.length) : ∃ d, xs[i]? = some d ∧ xs.drop i = d :: xs.drop (i + 1) := ⟨xs[i], by simp [h], List.drop_eq_getElem_cons h⟩
theorem compL_ok {ok : M → Bool} {tg : Tg} {cond : S3 → M → Out Bool} {elt : S3 → M → Out D} {ρ : S3} {xs ys : List D} {μ μ' : M} (e : compL ok tg cond elt ρ xs μ = .ok ys μ') : ok μ = true := by
  cases xs <;> (unfold compL at e; split at e <;> first | assumption | cases e)
noncomputable def CInv (K : PySem.W.Frag) (w1 : Wd) (n1 : Nat) (ok : M → Bool) (tg : Tg) (cond : S3 → M → Out Bool) (elt : S3 → M → Out D) (ρ : S3) (xs ys : List D) (μ2 : M) (i : Nat) (vs : List V) (H : Hp) : Prop :=
  i ≤ xs.length ∧ vs.length ≤ i ∧ ∃ (w2 : Wd) (μ : M) (acc rest : List D), Ext w1 w2 n1 μ.length ∧ Rep K w2 μ H ∧ DenL K w2 μ.length acc vs ∧ compL ok tg cond elt ρ (xs.drop i) μ = .ok rest μ2 ∧ acc ++ rest = ys
theorem comp_snd {ok : M → Bool} {tg : Tg} {g : TG} {cond : S3 → M → Out Bool} {elt : S3 → M → Out D} {ρ : S3} {σ : _L2.St} {J : It} {k : Nat} {m : Bool} {xs ys : List D} {w1 : Wd} {μ1 μ2 μ3 : M} {H1 : Hp} {d : D} {Q : VK} (hT : TgOk K tg g) (R1 : Rep K w1 μ1 H1) (S1 : DenS K w1 μ1.length ρ σ)
    (hJ : ItOk K w1 μ1.length ok xs J) (hz : xs.length ≤ sizeLine) (e : compL ok tg cond elt (List.replicate k none ++ ρ) xs μ1 = .ok ys μ2) (em : mkL m ys μ2 = .ok d μ3) (q : Wish K w1 μ1.length d μ3 Q) : Cmp J k g (T3T K cond) (T3E K elt) σ Q H1 := by
  refine ⟨fun i n ys' H => n = xs.length - i ∧ CInv K w1 μ1.length ok tg cond elt (List.replicate k none ++ ρ) xs ys μ2 i ys' H,
    ⟨xs.length, by simp, Nat.zero_le _, Nat.le_refl _, w1, μ1, [], ys, Ext.refl _ _, R1, by unfold DenL; rfl, e, rfl⟩, ?_⟩
  rintro i n ys' H ⟨rfl, hi, hy, w2, μ, acc, rest, x2, R2, l2, ec, ea⟩
  have hok := compL_ok ec
  obtain ⟨hstop, hgo⟩ := hJ w2 μ H x2 R2 hok
  by_cases hlt : i < xs.length
  · obtain ⟨d0, hd0, hdr⟩ := drop_cons hlt
    obtain ⟨g1, g2⟩ := hgo i d0 hd0
    rw [hdr] at ec
    unfold compL at ec
    rw [if_pos hok] at ec
    split at ec
    · rename_i ρ1 has
      obtain ⟨b, μa, eb, ec⟩ := Out.bind_ok ec
      refine .inr ⟨g1, by omega, fun y H' => CInv K w1 μ1.length ok tg cond elt (List.replicate k none ++ ρ) xs ys μ2 (i + 1) (ys' ++ [y]) H', CInv K w1 μ1.length ok tg cond elt (List.replicate k none ++ ρ) xs ys μ2 (i + 1) ys',
        fun y H' r => ⟨xs.length - (i + 1), by omega, rfl, r⟩, fun H' r => ⟨xs.length - (i + 1), by omega, rfl, r⟩, fun x H3 hyl => ?_⟩
      obtain ⟨w3, x3, R3, d3⟩ := g2 x H3 hyl
      refine hT w3 μ H3 _ ρ1 _ d0 x _ R3 ((S1.mono (x2.trans x3)).blank k) d3 has fun σ2 S2 => ?_
      refine ⟨w3, μ, ρ1, b, μa, R3, S2, eb, fun w4 H4 x4 R4 => ?_⟩
      have x14 := (x2.trans x3).trans x4
      dsimp only
      cases b with
      | false =>
        rw [if_neg Bool.false_ne_true]
        rw [if_neg Bool.false_ne_true] at ec
        exact ⟨hlt, by omega, w4, μa, acc, rest, x14, R4, l2.mono (x3.trans x4), ec, ea⟩
      | true =>
        rw [if_pos rfl]
        rw [if_pos rfl] at ec
        obtain ⟨y, μb, ey, ec⟩ := Out.bind_ok ec
        obtain ⟨zs, μc, ez, ec⟩ := Out.bind_ok ec
        cases ec
        refine ⟨w4, μa, ρ1, y, μb, R4, S2.mono x4, ey, fun w5 H5 v5 x5 R5 d5 => ?_⟩
        exact ⟨hlt, by simp; omega, w5, μb, acc ++ [y], zs, x14.trans x5, R5, (l2.mono ((x3.trans x4).trans x5)).append (DenL.one d5), ez, by rw [List.append_assoc]; exact ea⟩
    · cases ec
  · have ei : i = xs.length := by omega
    subst ei
    rw [List.drop_length] at ec
    unfold compL at ec
    rw [if_pos hok] at ec
    cases ec
    rw [List.append_nil] at ea
    subst ea
    exact .inl ⟨hstop, mkL_snd R2 l2 em fun w3 H3 v x3 R3 d3 => q w3 H3 v (x2.trans x3) R3 d3⟩
theorem forL_ok {ok : M → Bool} {tg : Tg} {body : S3 → M → Out Fl} {fg : List Nat} {xs : List D} {ρ : S3} {μ μ' : M} {fl : Fl} (e : forL ok tg body fg xs ρ μ = .ok fl μ') : ok μ = true := by
  cases xs <;> (unfold forL at e; split at e <;> first | assumption | cases e)
noncomputable def LInv (K : PySem.W.Frag) (w1 : Wd) (n1 : Nat) (ok : M → Bool) (tg : Tg) (body : S3 → M → Out Fl) (fg : List Nat) (xs : List D) (fl : Fl) (μ2 : M) (i : Nat) (σ : _L2.St) (H : Hp) : Prop :=
  i ≤ xs.length ∧ ∃ (w2 : Wd) (μ : M) (ρ' : S3), Ext w1 w2 n1 μ.length ∧ Rep K w2 μ H ∧ DenS K w2 μ.length ρ' σ ∧ forL ok tg body fg (xs.drop i) ρ' μ = .ok fl μ2
theorem for_snd {ok : M → Bool} {tg : Tg} {g : TG} {body : S3 → M → Out Fl} {fg : List Nat} {ρ : S3} {σ : _L2.St} {J : It} {xs : List D} {w1 : Wd} {μ1 μ2 : M} {H1 : Hp} {fl : Fl} {E : Ends} (hT : TgOk K tg g) (R1 : Rep K w1 μ1 H1) (S1 : DenS K w1 μ1.length ρ σ)
    (hJ : ItOk K w1 μ1.length ok xs J) (e : forL ok tg body fg xs ρ μ1 = .ok fl μ2) (q : ∀ w' H', Ext w1 w' μ1.length μ2.length → Rep K w' μ2 H' → FlOk K w' μ2.length H' E fl) : Lop J g (T3S K body) E σ H1 := by
  refine ⟨fun i n σ' H => n = xs.length - i ∧ LInv K w1 μ1.length ok tg body fg xs fl μ2 i σ' H,
    ⟨xs.length, by simp, Nat.zero_le _, w1, μ1, ρ, Ext.refl _ _, R1, S1, e⟩, ?_⟩
  rintro i n σ' H ⟨rfl, hi, w2, μ, ρ', x2, R2, S2, ef⟩
  have hok := forL_ok ef
  obtain ⟨hstop, hgo⟩ := hJ w2 μ H x2 R2 hok
  by_cases hlt : i < xs.length
  · obtain ⟨d0, hd0, hdr⟩ := drop_cons hlt
    obtain ⟨g1, g2⟩ := hgo i d0 hd0
    rw [hdr] at ef
    unfold forL at ef
    rw [if_pos hok] at ef
    split at ef
    · rename_i ρ1 has
      refine .inr ⟨g1, LInv K w1 μ1.length ok tg body fg xs fl μ2 (i + 1),
        fun σ'' H' r => ⟨xs.length - (i + 1), by omega, rfl, r⟩, fun x H3 hyl => ?_⟩
      obtain ⟨w3, x3, R3, d3⟩ := g2 x H3 hyl
      refine hT w3 μ H3 _ ρ1 _ d0 x _ R3 (S2.mono x3) d3 has fun σ2 S3' => ?_
      split at ef
      · rename_i ρ2 μa eb
        refine ⟨w3, μ, ρ1, .nx ρ2, μa, R3, S3', eb, fun w4 H4 x4 R4 σ4 S4 => ?_⟩
        exact ⟨hlt, w4, μa, _, (x2.trans x3).trans x4, R4, S4.forget fg, ef⟩
      · rename_i d μa eb
        cases ef
        refine ⟨w3, μ, ρ1, .rt d, _, R3, S3', eb, fun w4 H4 x4 R4 v4 d4 => ?_⟩
        exact q w4 H4 ((x2.trans x3).trans x4) R4 v4 d4
      · cases ef
      · cases ef
    · cases ef
  · have ei : i = xs.length := by omega
    subst ei
    rw [List.drop_length] at ef
    unfold forL at ef
    rw [if_pos hok] at ef
    cases ef
    exact .inl ⟨hstop, q w2 H x2 R2 σ' (S2.forget fg)⟩
end
end _L3
set_option Elab.async false
set_option linter.all false
set_option maxRecDepth 100000
set_option maxHeartbeats 4000000
namespace _L3
open PySem PySem.Spec PyProof.Rows _L2
mutual
noncomputable def Bel (n : Nat) : D → Prop
  | .tup ds => BelL n ds
  | .lst ds => BelL n ds
  | .scr ds => BelL n ds
  | .dF _ vs => BelL n vs
  | .cel k => k < n
  | .non => True
  | .bl _ => True
  | .int _ => True
  | .str _ => True
noncomputable def BelL (n : Nat) : List D → Prop
  | [] => True
  | d :: ds => Bel n d ∧ BelL n ds
end
section
variable {K : PySem.W.Frag}
mutual
theorem den_bel {w : Wd} {n : Nat} : ∀ {d : D} {v : V}, Den K w n d v → Bel n d
  | .non, _, _ => by unfold Bel; trivial
  | .bl _, _, _ => by unfold Bel; trivial
  | .int _, _, _ => by unfold Bel; trivial
  | .str _, _, _ => by unfold Bel; trivial
  | .tup ds, _, h => by unfold Den at h; unfold Bel; obtain ⟨_, _, _, _, h⟩ := h; exact denL_bel h
  | .lst ds, _, h => by unfold Den at h; unfold Bel; obtain ⟨_, _, _, _, h⟩ := h; exact denL_bel h
  | .scr ds, _, h => by unfold Den at h; unfold Bel; obtain ⟨_, _, _, _, h⟩ := h; exact denL_bel h
  | .dF _ ds, _, h => by unfold Den at h; unfold Bel; obtain ⟨_, _, _, _, _, _, _, _, _, h⟩ := h; exact denL_bel h
  | .cel k, _, h => by unfold Den at h; unfold Bel; exact h.1
theorem denL_bel {w : Wd} {n : Nat} : ∀ {ds : List D} {vs : List V}, DenL K w n ds vs → BelL n ds
  | [], _, _ => by unfold BelL; trivial
  | d :: ds, _, h => by unfold DenL at h; unfold BelL; obtain ⟨_, _, _, h1, h2⟩ := h; exact ⟨den_bel h1, denL_bel h2⟩
end
section
variable {w' w'' : Wd} {n' n0 n'' : Nat} (hz : Same w'.Z w''.Z) (hg : ∀ i, i < n0 → w''.γ i = w'.γ i) (hn : n0 ≤ n'')
include hz hg hn
mutual
theorem den_shr : ∀ {d : D} {v : V}, Den K w' n' d v → Bel n0 d → Den K w'' n'' d v
  | .non, _, h, _ => by unfold Den at h ⊢; exact h
  | .bl _, _, h, _ => by unfold Den at h ⊢; exact h
  | .int _, _, h, _ => by unfold Den at h ⊢; exact h
  | .str _, _, h, _ => by unfold Den at h ⊢; exact h
  | .tup ds, _, h, b => by unfold Den at h ⊢; unfold Bel at b; obtain ⟨a, xs, h1, h2, h3⟩ := h; exact ⟨a, xs, h1, hz.tup h2, denL_shr h3 b⟩
  | .lst ds, _, h, b => by unfold Den at h ⊢; unfold Bel at b; obtain ⟨a, xs, h1, h2, h3⟩ := h; exact ⟨a, xs, h1, hz _ _ h2, denL_shr h3 b⟩
  | .scr ds, _, h, b => by unfold Den at h ⊢; unfold Bel at b; obtain ⟨a, xs, h1, h2, h3⟩ := h; exact ⟨a, xs, h1, hz.seq h2, denL_shr h3 b⟩
  | .dF _ ds, _, h, b => by unfold Den at h ⊢; unfold Bel at b; obtain ⟨a, o, es, ep, xs, h1, h2, h3, h4, h5⟩ := h; exact ⟨a, o, es, ep, xs, h1, h2, h3, hz _ _ h4, denL_shr h5 b⟩
  | .cel k, _, h, b => by unfold Den at h ⊢; unfold Bel at b; exact ⟨Nat.lt_of_lt_of_le b hn, by rw [hg k b]; exact h.2⟩
theorem denL_shr : ∀ {ds : List D} {vs : List V}, DenL K w' n' ds vs → BelL n0 ds → DenL K w'' n'' ds vs
  | [], _, h, _ => by unfold DenL at h ⊢; exact h
  | d :: ds, _, h, b => by unfold DenL at h ⊢; unfold BelL at b; obtain ⟨v, ws, h1, h2, h3⟩ := h; exact ⟨v, ws, h1, den_shr h2 b.1, denL_shr h3 b.2⟩
end
end
theorem opt_map {α β : Type} {o : Option α} {f : α → β} {b : β} (h : o.map f = some b) : ∃ a, o = some a ∧ b = f a := by
  cases o with
  | none => cases h
  | some a => exact ⟨a, rfl, by cases h; rfl⟩
section
variable {w' w'' : Wd} {n' n'' : Nat} {h : Nat → Option D} (hz : Same w'.Z w''.Z) (hk : ∀ k d', h k = some d' → k < n' → Den K w'' n'' d' (.ref (w'.γ k)))
include hz hk
mutual
theorem frzG_den : ∀ {d d' : D} {v : V}, frzG h d = some d' → Den K w' n' d v → Den K w'' n'' d' v
  | .non, _, _, e, q => by unfold frzG at e; cases e; unfold Den at q ⊢; exact q
  | .bl _, _, _, e, q => by unfold frzG at e; cases e; unfold Den at q ⊢; exact q
  | .int _, _, _, e, q => by unfold frzG at e; cases e; unfold Den at q ⊢; exact q
  | .str _, _, _, e, q => by unfold frzG at e; cases e; unfold Den at q ⊢; exact q
  | .tup ds, _, _, e, q => by
    unfold frzG at e
    obtain ⟨es, e1, rfl⟩ := opt_map e
    unfold Den at q ⊢
    obtain ⟨a, xs, h1, h2, h3⟩ := q
    exact ⟨a, xs, h1, hz.tup h2, frzGs_den e1 h3⟩
  | .lst ds, _, _, e, q => by
    unfold frzG at e
    obtain ⟨es, e1, rfl⟩ := opt_map e
    unfold Den at q ⊢
    obtain ⟨a, xs, h1, h2, h3⟩ := q
    exact ⟨a, xs, h1, hz _ _ h2, frzGs_den e1 h3⟩
  | .scr ds, _, _, e, q => by
    unfold frzG at e
    obtain ⟨es, e1, rfl⟩ := opt_map e
    unfold Den at q ⊢
    obtain ⟨a, xs, h1, h2, h3⟩ := q
    exact ⟨a, xs, h1, hz.seq h2, frzGs_den e1 h3⟩
  | .dF ks ds, _, _, e, q => by
    unfold frzG at e
    obtain ⟨es, e1, rfl⟩ := opt_map e
    unfold Den at q ⊢
    obtain ⟨a, o, es, ep, xs, h1, h2, h3, h4, h5⟩ := q
    have h6 := frzGs_den e1 h5
    exact ⟨a, o, es, ep, xs, h1, by rw [h2, denL_len h5, denL_len h6], h3, hz _ _ h4, h6⟩
  | .cel k, _, _, e, q => by
    unfold frzG at e
    unfold Den at q
    rw [q.2]
    exact hk k _ e q.1
theorem frzGs_den : ∀ {ds es : List D} {vs : List V}, frzGs h ds = some es → DenL K w' n' ds vs → DenL K w'' n'' es vs
  | [], _, _, e, q => by unfold frzGs at e; cases e; unfold DenL at q ⊢; exact q
  | d :: ds, _, _, e, q => by
    unfold frzGs at e
    split at e
    · rename_i e1 es1 q1 q2
      cases e
      unfold DenL at q ⊢
      obtain ⟨v, ws, h1, h2, h3⟩ := q
      exact ⟨v, ws, h1, frzG_den q1 h2, frzGs_den q2 h3⟩
    · cases e
end
end
theorem holds_bel {w : Wd} {n : Nat} {H : Hp} {a : Addr} {c : Cl} (h : Holds K w n H a c) : (match c with | .lst ds => BelL n ds) := by
  cases c with
  | lst ds => obtain ⟨_, _, h⟩ := h; exact denL_bel h
theorem keptL_get {μ : M} {n0 : Nat} {ks : List Nat} : ∀ {r : List Nat} {cs : List (List D)}, keptL μ n0 ks r = some cs → r.length = cs.length ∧ ∀ (j k : Nat), r[j]? = some k → ∃ ds c, μ[k]? = some (some (.lst ds)) ∧ frzGs (frzK μ n0 ks 4) ds = some c ∧ cs[j]? = some c
  | [], _, e => by unfold keptL at e; cases e; exact ⟨rfl, fun j k h => by simp at h⟩
  | k :: r, _, e => by
    unfold keptL at e
    split at e
    · rename_i ds hk
      split at e
      · rename_i c cs e1 e2
        cases e
        obtain ⟨i1, i2⟩ := keptL_get e2
        refine ⟨by rw [List.length_cons, List.length_cons, i1], fun j k' h => ?_⟩
        cases j with
        | zero =>
          simp only [List.getElem?_cons_zero, Option.some.injEq] at h
          subst h
          exact ⟨ds, c, hk, e1, rfl⟩
        | succ j =>
          obtain ⟨ds', c', g1, g2, g3⟩ := i2 j k' (by simpa using h)
          exact ⟨ds', c', g1, g2, by simpa using g3⟩
      · cases e
    · cases e
theorem nodup_at : ∀ {l : List Nat} {i j k : Nat}, l.Nodup → l[i]? = some k → l[j]? = some k → i = j
  | [], _, _, _, _, h, _ => by simp at h
  | x :: l, 0, 0, _, _, _, _ => rfl
  | x :: l, 0, j + 1, k, nd, h1, h2 => by
    simp only [List.getElem?_cons_zero, Option.some.injEq] at h1
    subst h1
    exact absurd (List.mem_of_getElem? (by simpa using h2)) (List.nodup_cons.mp nd).1
  | x :: l, i + 1, 0, k, nd, h1, h2 => by
    simp only [List.getElem?_cons_zero, Option.some.injEq] at h2
    subst h2
    exact absurd (List.mem_of_getElem? (by simpa using h1)) (List.nodup_cons.mp nd).1
  | x :: l, i + 1, j + 1, k, nd, h1, h2 => congrArg (· + 1) (nodup_at (i := i) (j := j) (k := k) (List.nodup_cons.mp nd).2 (by simpa using h1) (by simpa using h2))
open Classical in
theorem freeze {w w' : Wd} {μ μ' : M} {H H' : Hp} {keep : List Nat} {cs : List (List D)} (R : Rep K w μ H) (x : Ext w w' μ.length μ'.length) (R' : Rep K w' μ' H') (ht : μ'.take μ.length = μ) (nd : keep.Nodup) (ge : ∀ k ∈ keep, μ.length ≤ k)
    (hc : keptL μ' μ.length keep keep = some cs) : ∃ w'' : Wd, Ext w w'' μ.length (μ ++ cs.map fun xs => some (Cl.lst xs)).length ∧ Rep K w'' (μ ++ cs.map fun xs => some (Cl.lst xs)) H' ∧
      (∀ d d' v, Den K w' μ'.length d v → frzG (frzK μ' μ.length keep 4) d = some d' → Den K w'' (μ ++ cs.map fun xs => some (Cl.lst xs)).length d' v) ∧
      (∀ k d', k < μ'.length → celAt μ.length keep k = some d' → Den K w'' (μ ++ cs.map fun xs => some (Cl.lst xs)).length d' (.ref (w'.γ k))) ∧ Same w'.Z w''.Z := by
  obtain ⟨kl, kg⟩ := keptL_get hc
  have hlen : (μ ++ cs.map fun xs => some (Cl.lst xs)).length = μ.length + cs.length := by simp
  have hpre : ∀ i, i < μ.length → μ'[i]? = μ[i]? := fun i hi => by
    have := congrArg (fun l => l[i]?) ht
    simp only [List.getElem?_take, hi, if_true] at this
    exact this
  have hg : ∀ i, (if i < μ.length then w'.γ i else w'.γ (keep.getD (i - μ.length) 0)) = (fun i => if i < μ.length then w'.γ i else w'.γ (keep.getD (i - μ.length) 0)) i := fun _ => rfl
  generalize hw : (⟨fun a => match w'.Z a with
      | some o => some o
      | none => if (∃ k c, μ.length ≤ k ∧ k ∉ keep ∧ μ'[k]? = some (some c) ∧ w'.γ k = a) then H' a else none, fun i => if i < μ.length then w'.γ i else w'.γ (keep.getD (i - μ.length) 0)⟩ : Wd) = w''
  have gLo : ∀ i, i < μ.length → w''.γ i = w'.γ i := fun i hi => by subst hw; exact if_pos hi
  have gHi : ∀ j k, keep[j]? = some k → w''.γ (μ.length + j) = w'.γ k := fun j k hj => by
    subst hw
    show (if μ.length + j < μ.length then _ else w'.γ (keep.getD (μ.length + j - μ.length) 0)) = _
    rw [if_neg (by omega), Nat.add_sub_cancel_left]
    simp [hj]
  have zs : Same w'.Z w''.Z := fun a o h => by
    subst hw
    show (match w'.Z a with | some o => some o | none => _) = some o
    rw [h]
  have zH : ∀ a o, w''.Z a = some o → H' a = some o := fun a o h => by
    subst hw
    replace h : (match w'.Z a with | some o => some o | none => if (∃ k c, μ.length ≤ k ∧ k ∉ keep ∧ μ'[k]? = some (some c) ∧ w'.γ k = a) then H' a else none) = some o := h
    cases e : w'.Z a with
    | some o' =>
      rw [e] at h
      cases h
      exact R'.sub _ _ e
    | none =>
      rw [e] at h
      dsimp only at h
      split at h
      · exact h
      · cases h
  have zF : ∀ k c, μ.length ≤ k → k ∉ keep → μ'[k]? = some (some c) → w''.Z (w'.γ k) = H' (w'.γ k) := fun k c h1 h2 h3 => by
    subst hw
    show (match w'.Z (w'.γ k) with | some o => some o | none => if (∃ k' c, μ.length ≤ k' ∧ k' ∉ keep ∧ μ'[k']? = some (some c) ∧ w'.γ k' = w'.γ k) then H' (w'.γ k) else none) = _
    rw [(R'.liv k c h3).1]
    exact if_pos ⟨k, c, h1, h2, h3, rfl⟩
  have zN : ∀ j c, (j < μ.length ∨ j ∈ keep) → μ'[j]? = some (some c) → w''.Z (w'.γ j) = none := fun j c h1 h3 => by
    subst hw
    show (match w'.Z (w'.γ j) with | some o => some o | none => if (∃ k' c, μ.length ≤ k' ∧ k' ∉ keep ∧ μ'[k']? = some (some c) ∧ w'.γ k' = w'.γ j) then H' (w'.γ j) else none) = _
    rw [(R'.liv j c h3).1]
    refine if_neg ?_
    rintro ⟨k, c', g1, g2, g3, g4⟩
    have := R'.inj k j c' c g3 h3 g4
    subst this
    rcases h1 with h1 | h1
    · omega
    · exact g2 h1
  have nle : μ.length ≤ (μ ++ cs.map fun xs => some (Cl.lst xs)).length := by rw [hlen]; exact Nat.le_add_right _ _
  have fK : ∀ (f k : Nat) (d' : D), frzK μ' μ.length keep f k = some d' → k < μ'.length → Den K w'' (μ ++ cs.map fun xs => some (Cl.lst xs)).length d' (.ref (w'.γ k)) := by
    intro f
    induction f with
    | zero =>
      intro k d' e hk
      unfold frzK at e
      split at e
      · rename_i h0
        cases e
        unfold Den
        exact ⟨Nat.lt_of_lt_of_le h0 nle, by rw [gLo k h0]⟩
      · split at e
        · cases e
        · cases e
    | succ f ih =>
      intro k d' e hk
      unfold frzK at e
      split at e
      · rename_i h0
        cases e
        unfold Den
        exact ⟨Nat.lt_of_lt_of_le h0 nle, by rw [gLo k h0]⟩
      · rename_i h0
        split at e
        · cases e
        · rename_i h1
          dsimp only at e
          split at e
          · rename_i ds hk'
            obtain ⟨es, e1, rfl⟩ := opt_map e
            obtain ⟨xs, g1, g2⟩ := (R'.liv k _ hk').2
            have g3 := frzGs_den zs ih e1 g2
            unfold Den
            exact ⟨_, xs, rfl, (zF k _ (by omega) h1 hk').trans g1, g3⟩
          · cases e
  have hcell : ∀ (i : Nat) (c : Cl), (μ ++ cs.map fun xs => some (Cl.lst xs))[i]? = some (some c) → (i < μ.length ∧ μ'[i]? = some (some c)) ∨ ∃ j k ds es, i = μ.length + j ∧ keep[j]? = some k ∧ μ'[k]? = some (some (.lst ds)) ∧ frzGs (frzK μ' μ.length keep 4) ds = some es ∧ c = .lst es := fun i c h => by
    by_cases hi : i < μ.length
    · rw [List.getElem?_append_left hi] at h
      exact .inl ⟨hi, by rw [hpre i hi]; exact h⟩
    · rw [List.getElem?_append_right (by omega), List.getElem?_map] at h
      cases e : cs[i - μ.length]? with
      | none => rw [e] at h; cases h
      | some es =>
        rw [e] at h
        have hj : i - μ.length < keep.length := by
          rw [kl]
          exact (List.getElem?_eq_some_iff.mp e).1
        obtain ⟨ds, es', g1, g2, g3⟩ := kg (i - μ.length) keep[i - μ.length] (by simp [hj])
        rw [e] at g3
        cases g3
        exact .inr ⟨i - μ.length, _, ds, es, by omega, by simp [hj], g1, g2, by simpa using h.symm⟩
  refine ⟨w'', ⟨x.z.trans zs, fun i hi => (gLo i hi).trans (x.g i hi), nle⟩, ⟨fun a o h => zH a o h, fun i c h => ?_, fun i j ci cj hi hj e => ?_⟩, fun d d' v hd e => frzG_den zs (fK 4) e hd, fun k d' hk e => ?_, zs⟩
  · rcases hcell i c h with ⟨hi, h'⟩ | ⟨j, k, ds, es, rfl, g1, g2, g3, rfl⟩
    · rw [gLo i hi]
      refine ⟨zN i c (.inl hi) h', ?_⟩
      have b := holds_bel (R.liv i c (by rw [← hpre i hi]; exact h')).2
      have hh := (R'.liv i c h').2
      cases c with
      | lst ds => obtain ⟨xs, g1, g2⟩ := hh; exact ⟨xs, g1, denL_shr zs gLo nle g2 b⟩
    · rw [gHi j k g1]
      have hk : k ∈ keep := List.mem_of_getElem? g1
      obtain ⟨xs, q1, q2⟩ := (R'.liv k _ g2).2
      exact ⟨zN k _ (.inr hk) g2, xs, q1, frzGs_den zs (fK 4) g3 q2⟩
  · rcases hcell i ci hi with ⟨hi', h1⟩ | ⟨j1, k1, ds1, es1, rfl, a1, a2, _, _⟩ <;> rcases hcell j cj hj with ⟨hj', h2⟩ | ⟨j2, k2, ds2, es2, rfl, b1, b2, _, _⟩
    · rw [gLo i hi', gLo j hj'] at e
      exact R'.inj i j _ _ h1 h2 e
    · rw [gLo i hi', gHi j2 k2 b1] at e
      have := R'.inj i k2 _ _ h1 b2 e
      have := ge k2 (List.mem_of_getElem? b1)
      omega
    · rw [gHi j1 k1 a1, gLo j hj'] at e
      have := R'.inj k1 j _ _ a2 h2 e
      have := ge k1 (List.mem_of_getElem? a1)
      omega
    · rw [gHi j1 k1 a1, gHi j2 k2 b1] at e
      have hk := R'.inj k1 k2 _ _ a2 b2 e
      subst hk
      rw [nodup_at nd a1 b1]
  · unfold celAt at e
    obtain ⟨j, e1, rfl⟩ := opt_map e
    have hj : keep[j]? = some k := by
      have := List.idxOf?_eq_some_iff.mp e1
      obtain ⟨h1, h2, _⟩ := this
      exact List.getElem?_eq_some_iff.mpr ⟨h1, by simpa using h2⟩
    unfold Den
    refine ⟨?_, by rw [gHi j k hj]⟩
    rw [hlen, ← kl]
    have := (List.getElem?_eq_some_iff.mp hj).1
    omega
end
end _L3
set_option Elab.async false
set_option linter.all false
set_option maxRecDepth 100000
set_option maxHeartbeats 4000000
namespace _L3
open PySem PySem.Spec PyProof.Rows _L2
structure Stt where
  N : List Str
  sc : Scope
  cmp : Bool
noncomputable def biNames : List Str := ["len", "sum", "min", "max", "list", "tuple", "int", "all", "isinstance", "range", "str", "enumerate", "zip", "bool", "dict", "set"]
noncomputable def chkNm (c : Stt) (i : Nat) (e : Expr) : Bool :=
  match e with
  | .Name x _ => if c.cmp then okLoc c.N c.sc i x else okSet c.N c.sc i x
  | _ => false
noncomputable def chkNs (c : Stt) : List Nat → List Expr → Bool
  | [], [] => true
  | i :: is, e :: es => chkNm c i e && chkNs c is es
  | _, _ => false
noncomputable def chkTg (c : Stt) (tg : Tg) (e : Expr) : Bool :=
  match tg, e with
  | .nm i, e => chkNm c i e
  | .tp is, .Tuple es _ _ => chkNs c is es && noStars es
  | _, _ => false
noncomputable def isTupE : Expr → Bool
  | .Tuple .. => true
  | _ => false
noncomputable def asName : Expr → Option Str
  | .Name x _ => some x
  | _ => none
theorem asName_ok {e : Expr} {x : Str} (h : asName e = some x) : ∃ p, e = .Name x p := by
  unfold asName at h
  split at h
  · cases h
    exact ⟨_, rfl⟩
  · cases h
noncomputable def asCall : Expr → Option (Str × List Expr)
  | .Call f as ks _ => match ks with
    | [] => match asName f with
      | some x => some (x, as)
      | none => none
    | _ => none
  | _ => none
theorem asCall_ok {e : Expr} {x : Str} {as : List Expr} (h : asCall e = some (x, as)) : ∃ p q, e = .Call (.Name x p) as [] q := by
  unfold asCall at h
  split at h
  · split at h
    · split at h
      · rename_i y hy
        cases h
        obtain ⟨p, rfl⟩ := asName_ok hy
        exact ⟨p, _, rfl⟩
      · cases h
    · cases h
  · cases h
noncomputable def asMeth0 : Expr → Option (Expr × Str × Pos × Pos)
  | .Call f as ks q => match f, as, ks with
    | .Attribute z n p, [], [] => some (z, n, p, q)
    | _, _, _ => none
  | _ => none
theorem asMeth0_ok {e z : Expr} {n : Str} {p q : Pos} (h : asMeth0 e = some (z, n, p, q)) : e = .Call (.Attribute z n p) [] [] q := by
  unfold asMeth0 at h
  split at h
  · split at h
    · cases h
      rfl
    · cases h
  · cases h
noncomputable def asStep : Expr → Option (Expr × Expr × Expr)
  | .Subscript x y _ => match y with
    | .Slice l u s _ => match l, u, s with
      | some a, none, some b => some (x, a, b)
      | _, _, _ => none
    | _ => none
  | _ => none
theorem asStep_ok {e x a b : Expr} (h : asStep e = some (x, a, b)) : ∃ p q, e = .Subscript x (.Slice (some a) none (some b) p) q := by
  unfold asStep at h
  split at h
  · split at h
    · split at h
      · cases h
        exact ⟨_, _, rfl⟩
      · cases h
    · cases h
  · cases h
noncomputable def itArgs (c : Stt) (ik : IK) (tg it : Expr) : Option (List Expr) :=
  match ik with
  | .seq => some [it]
  | .str => some [it]
  | .items => match asMeth0 it with
    | some (z, n, p, q) => if n == "items" && plainB3 z && (p.endLine == q.line) && isTupE tg then some [z] else none
    | none => none
  | .enm => match asCall it with
    | some (x, [a]) => if x == "enumerate" && okGl c.sc "enumerate" && notStar a && isTupE tg then some [a] else none
    | _ => none
  | .zip => match asCall it with
    | some (x, [a, b]) => if x == "zip" && okGl c.sc "zip" && noStars [a, b] && isTupE tg then some [a, b] else none
    | _ => none
  | .rng1 => match asCall it with
    | some (x, [a]) => if x == "range" && okGl c.sc "range" && notStar a then some [a] else none
    | _ => none
  | .rng2 => none
noncomputable def biName : Bi → Str
  | .len => "len" | .sum => "sum" | .min2 => "min" | .max2 => "max" | .list => "list" | .tuple => "tuple" | .int => "int" | .all => "all" | .isT _ => "isinstance" | .listRange => "list" | .str => "str" | .lenSet => "len" | .dictZip => "dict"
noncomputable def biArgs (c : Stt) (b : Bi) (as : List Expr) : Option (List Expr) :=
  match b with
  | .isT n => match as with
    | [a, t] => match asName t with
      | some x => if x == Str.ofString n && okGl c.sc x && isTn n && notStar a then some [a] else none
      | none => none
    | _ => none
  | .listRange => none
  | .lenSet => match as with
    | [e] => match asCall e with
      | some (x, [a]) => if x == "set" && okGl c.sc "set" && notStar a then some [a] else none
      | _ => none
    | _ => none
  | .dictZip => match as with
    | [e] => match asCall e with
      | some (x, [a, b]) => if x == "zip" && okGl c.sc "zip" && noStars [a, b] then some [a, b] else none
      | _ => none
    | _ => none
  | _ => some as
where isTn (n : String) : Bool := n == "int" || n == "bool" || n == "str" || n == "tuple"
noncomputable def mtName : Mt → Str
  | .append => "append" | .extend => "extend" | .join => "join" | .split => "split"
noncomputable def tgNames : Expr → List Str
  | .Name x _ => [x]
  | .Tuple es _ _ => es.filterMap fun e => match e with
    | .Name x _ => some x
    | _ => none
  | _ => []
noncomputable def innerN (own N : List Str) : List Str := own ++ N.map fun x => if own.contains x then Str.ofString "?" ++ x else x
noncomputable def innerC (c : Stt) (tg : Expr) (scope : Scope) : Stt := ⟨innerN (tgNames tg) c.N, relabelS scope c.sc, true⟩
noncomputable def tst : Expr → Bool
  | .IfExp .. => false
  | _ => true
noncomputable def cstB (d : D) (k : Const) : Bool :=
  match d, k with
  | .int i, .int j => i == j
  | .bl a, .bool b => a == b
  | .non, .none => true
  | .str x, .str y => x == y
  | _, _ => false
noncomputable def plainIx3 : Expr → Bool
  | .Slice .. => false
  | _ => true
theorem plainIx3_ok {b : Expr} (h : plainIx3 b = true) : PlainIx b := by
  intro o i
  cases b <;> first | rfl | cases h
theorem inv_name {P : Str → Pos → Bool} {e : Expr} (h : (match e with
    | .Name x p => P x p
    | _ => false) = true) : ∃ x p, e = .Name x p ∧ P x p = true := by
  split at h
  · exact ⟨_, _, rfl, h⟩
  · cases h
theorem inv_const {P : Const → Nat → Pos → Bool} {e : Expr} (h : (match e with
    | .Constant k n p => P k n p
    | _ => false) = true) : ∃ k n p, e = .Constant k n p ∧ P k n p = true := by
  split at h
  · exact ⟨_, _, _, rfl, h⟩
  · cases h
theorem inv_bin {P : Expr → Operator → Expr → Pos → Bool} {e : Expr} (h : (match e with
    | .BinOp x o y p => P x o y p
    | _ => false) = true) : ∃ x o y p, e = .BinOp x o y p ∧ P x o y p = true := by
  split at h
  · exact ⟨_, _, _, _, rfl, h⟩
  · cases h
theorem inv_not {P : Expr → Bool} {e : Expr} (h : (match e with
    | .UnaryOp .Not x _ => P x
    | _ => false) = true) : ∃ x p, e = .UnaryOp .Not x p ∧ P x = true := by
  split at h
  · exact ⟨_, _, rfl, h⟩
  · cases h
theorem inv_and {P : Expr → Expr → Bool} {R : Expr → Expr → Expr → List Expr → Pos → Bool} {e : Expr} (h : (match e with
    | .BoolOp .And [x, y] _ => P x y
    | .BoolOp .And (x :: y :: z :: rest) p => R x y z rest p
    | _ => false) = true) : (∃ x y p, e = .BoolOp .And [x, y] p ∧ P x y = true) ∨ ∃ x y z rest p, e = .BoolOp .And (x :: y :: z :: rest) p ∧ R x y z rest p = true := by
  split at h
  · exact .inl ⟨_, _, _, rfl, h⟩
  · exact .inr ⟨_, _, _, _, _, rfl, h⟩
  · cases h
theorem inv_or {P : Expr → Expr → Bool} {R : Expr → Expr → Expr → List Expr → Pos → Bool} {e : Expr} (h : (match e with
    | .BoolOp .Or [x, y] _ => P x y
    | .BoolOp .Or (x :: y :: z :: rest) p => R x y z rest p
    | _ => false) = true) : (∃ x y p, e = .BoolOp .Or [x, y] p ∧ P x y = true) ∨ ∃ x y z rest p, e = .BoolOp .Or (x :: y :: z :: rest) p ∧ R x y z rest p = true := by
  split at h
  · exact .inl ⟨_, _, _, rfl, h⟩
  · exact .inr ⟨_, _, _, _, _, rfl, h⟩
  · cases h
theorem inv_cmp {P : Expr → CmpOp → Expr → Bool} {e : Expr} (h : (match e with
    | .Compare x [o] [y] _ => P x o y
    | _ => false) = true) : ∃ x o y p, e = .Compare x [o] [y] p ∧ P x o y = true := by
  split at h
  · exact ⟨_, _, _, _, rfl, h⟩
  · cases h
theorem inv_chain {P : Expr → CmpOp → CmpOp → Expr → Expr → Bool} {e : Expr} (h : (match e with
    | .Compare x [p, q] [y, z] _ => P x p q y z
    | _ => false) = true) : ∃ x p q y z r, e = .Compare x [p, q] [y, z] r ∧ P x p q y z = true := by
  split at h
  · exact ⟨_, _, _, _, _, _, rfl, h⟩
  · cases h
theorem inv_ife {P : Expr → Expr → Expr → Bool} {e : Expr} (h : (match e with
    | .IfExp z x y _ => P z x y
    | _ => false) = true) : ∃ z x y p, e = .IfExp z x y p ∧ P z x y = true := by
  split at h
  · exact ⟨_, _, _, _, rfl, h⟩
  · cases h
theorem inv_tup {P : List Expr → Bool} {e : Expr} (h : (match e with
    | .Tuple xs _ _ => P xs
    | _ => false) = true) : ∃ xs k p, e = .Tuple xs k p ∧ P xs = true := by
  split at h
  · exact ⟨_, _, _, rfl, h⟩
  · cases h
theorem inv_lst {P : List Expr → Bool} {e : Expr} (h : (match e with
    | .List xs _ => P xs
    | _ => false) = true) : ∃ xs p, e = .List xs p ∧ P xs = true := by
  split at h
  · exact ⟨_, _, rfl, h⟩
  · cases h
theorem inv_sub {P : Expr → Expr → Bool} {e : Expr} (h : (match e with
    | .Subscript x y _ => P x y
    | _ => false) = true) : ∃ x y p, e = .Subscript x y p ∧ P x y = true := by
  split at h
  · exact ⟨_, _, _, rfl, h⟩
  · cases h
theorem inv_sl {P : Expr → Option Expr → Option Expr → Bool} {e : Expr} (h : (match e with
    | .Subscript x (.Slice l u none _) _ => P x l u
    | _ => false) = true) : ∃ x l u p q, e = .Subscript x (.Slice l u none p) q ∧ P x l u = true := by
  split at h
  · exact ⟨_, _, _, _, _, rfl, h⟩
  · cases h
theorem inv_call {P : Str → Pos → Expr → List Expr → Pos → Bool} {e : Expr} (h : (match e with
    | .Call (.Name x q) (y :: ys) [] p => P x q y ys p
    | _ => false) = true) : ∃ x q y ys p, e = .Call (.Name x q) (y :: ys) [] p ∧ P x q y ys p = true := by
  split at h
  · exact ⟨_, _, _, _, _, rfl, h⟩
  · cases h
theorem inv_mt {P : Expr → Str → Pos → Expr → List Expr → Pos → Bool} {e : Expr} (h : (match e with
    | .Call (.Attribute z n q) (y :: ys) [] p => P z n q y ys p
    | _ => false) = true) : ∃ z n q y ys p, e = .Call (.Attribute z n q) (y :: ys) [] p ∧ P z n q y ys p = true := by
  split at h
  · exact ⟨_, _, _, _, _, _, rfl, h⟩
  · cases h
theorem inv_comp {P : Expr → Comprehension → Scope → Bool} {e : Expr} (h : (match e with
    | .ListComp el [g] scope _ => P el g scope
    | _ => false) = true) : ∃ el g scope p, e = .ListComp el [g] scope p ∧ P el g scope = true := by
  split at h
  · exact ⟨_, _, _, _, rfl, h⟩
  · cases h
noncomputable def nmG (G : List FnE) (c : Stt) (f : Nat) (x : Str) : Bool :=
  match G[f]? with
  | some g => g.name == x && okGl c.sc x
  | none => false
section
variable (G : List FnE) (j : Nat)
mutual
noncomputable def chk : E → Stt → Expr → Bool
  | .var i, c, e => match e with
    | .Name x _ => okVar c.N c.sc i x
    | _ => false
  | .cst d, _, e => match e with
    | .Constant k _ _ => cstB d k
    | _ => false
  | .bin op _ a b, c, e => match e with
    | .BinOp x o y _ => o == op && chk a c x && chk b c y
    | _ => false
  | .neg _, _, _ => false
  | .not_ a, c, e => match e with
    | .UnaryOp .Not x _ => chk a c x && tst x
    | _ => false
  | .and_ a b, c, e => match e with
    | .BoolOp .And [x, y] _ => chk a c x && tst x && (chk b c y && tst y)
    | .BoolOp .And (x :: y :: z :: rest) p => chk a c x && tst x && chk b c (.BoolOp .And (y :: z :: rest) p)
    | _ => false
  | .or_ a b, c, e => match e with
    | .BoolOp .Or [x, y] _ => chk a c x && tst x && (chk b c y && tst y)
    | .BoolOp .Or (x :: y :: z :: rest) p => chk a c x && tst x && chk b c (.BoolOp .Or (y :: z :: rest) p)
    | _ => false
  | .cmp op a b, c, e => match e with
    | .Compare x [o] [y] _ => o == op && chk a c x && chk b c y && !(behindInMarks o y)
    | _ => false
  | .chain o1 o2 a b d, c, e => match e with
    | .Compare x [p, q] [y, z] _ => p == o1 && q == o2 && chk a c x && chk b c y && chk d c z && !(lastMarks [p, q] [y, z])
    | _ => false
  | .isN _, _, _ => false
  | .notN _, _, _ => false
  | .ife k a b, c, e => match e with
    | .IfExp z x y _ => chk k c z && tst z && chk a c x && chk b c y
    | _ => false
  | .tup es, c, e => match e with
    | .Tuple xs _ _ => chkL es c xs && noStars xs
    | _ => false
  | .lst _ es, c, e => match e with
    | .List xs _ => chkL es c xs && noStars xs
    | _ => false
  | .ix a b, c, e => match e with
    | .Subscript x y _ => chk a c x && chk b c y && plainIx3 y
    | _ => false
  | .sl _ a lo hi, c, e => match e with
    | .Subscript x (.Slice l h none _) _ => chk a c x && chkL lo c l.toList && chkL hi c h.toList
    | _ => false
  | .stp _ a lo st, c, e => match asStep e with
    | some (x, l, s) => chk a c x && chkL lo c [l] && chkL st c [s]
    | none => false
  | .fld _ _, _, _ => false
  | .call f _ es, c, e => match e with
    | .Call (.Name x _) (y :: ys) [] _ => (match G[f]? with
      | some g => g.name == x && okGl c.sc x && es.length == g.ps.length && decide (g.lv ≤ j)
      | none => false) && chkL es c (y :: ys) && noStars (y :: ys)
    | _ => false
  | .bi b _ es, c, e => match e with
    | .Call (.Name x _) (y :: ys) [] _ => biName b == x && okGl c.sc x && noStars (y :: ys) && (match biArgs c b (y :: ys) with
      | some as => chkL es c as
      | none => false)
    | _ => false
  | .mt b o es, c, e => match e with
    | .Call (.Attribute z name apos) (y :: ys) [] cpos => mtName b == name && chk o c z && plainBase z && noStars (y :: ys) && decide (ys.length < 28) && (apos.endLine == cpos.line) && chkL es c (y :: ys)
    | _ => false
  | .comp _ own tg ik es ifs elt, c, e => match e with
    | .ListComp el [g] scope _ => g.is_async == 0 && own == (tgNames g.target).length && csB' c.N c.sc (tgNames g.target) (innerN (tgNames g.target) c.N) scope && decide (innerN (tgNames g.target) c.N).Nodup && notSet g.iter && (match itArgs c ik g.target g.iter with
      | some as => chkL es c as
      | none => false) && chkTg (innerC c g.target scope) tg g.target && chkTs ifs (innerC c g.target scope) g.ifs && chk elt (innerC c g.target scope) el
    | _ => false
  | .gl f, c, e => match e with
    | .Name x _ => nmG G c f x
    | _ => false
  | .gget f a d, c, e => match e with
    | .Call (.Attribute z0 name apos) (y :: ys) [] cpos => name == "get" && (match asName z0, ys with
      | some x, [z] => nmG G c f x && chk d c z && noStars [y, z]
      | _, _ => false) && chk a c y && plainBase z0 && (apos.endLine == cpos.line)
    | _ => false
  | .gin neg f a, c, e => match e with
    | .Compare x [o] [z] _ => o == (if neg then .NotIn else .In) && (match asName z with
      | some y => nmG G c f y
      | none => false) && chk a c x && !(behindInMarks o z)
    | _ => false
  | .gix f a, c, e => match e with
    | .Subscript z y _ => (match asName z with
      | some x => nmG G c f x
      | none => false) && chk a c y && plainIx3 y
    | _ => false
noncomputable def chkL : List E → Stt → List Expr → Bool
  | [], _, [] => true
  | e :: es, c, x :: xs => chk e c x && notStar x && chkL es c xs
  | _, _, _ => false
noncomputable def chkTs : List E → Stt → List Expr → Bool
  | [], _, [] => true
  | [e], c, [x] => chk e c x && tst x
  | _, _, _ => false
end
end
noncomputable def DatOk (K : PySem.W.Frag) (W : World) (mg : Str → Option Value) (x : Str) : Dat → Prop
  | .cst d => ∃ u v, mg x = some u ∧ RelV v u ∧ ∀ wd n, Den K wd n d v
  | .dct kvs => ∃ a xs, mg x = some (.ref a) ∧ MD K W a ((kvs.map (·.1)).zip xs) ∧ ∀ wd n, DenL K wd n (kvs.map (·.2)) xs
structure Ok (G : List FnE) (j : Nat) (c : Stt) (X : Cx) : Prop where
  hN : X.N = c.N
  nd : c.N.Nodup
  sc : X.env.scope = c.sc
  calm : X.calm = true
  room : Room j X.A
  mg : ∀ x ∈ biNames, X.mg x = none
  fns : ∀ (i : Nat) (g : FnE), G[i]? = some g → g.lv ≤ j → Callee X.prog X.w X.K X.mg X.base g.lv g.name g.ps (spOf X.K g.ps.length g.F)
  dts : ∀ (i : Nat) (g : FnE) (d : Dat), G[i]? = some g → g.dat = some d → DatOk X.K X.w X.mg g.name d
  fn : c.cmp = false → ∀ x, X.fn x = true
end _L3
set_option Elab.async false
set_option linter.all false
set_option maxRecDepth 100000
set_option maxHeartbeats 4000000
namespace _L3
open PySem PySem.Spec PyProof.Rows _L2
noncomputable def isBO : Expr → Bool
  | .BoolOp .. => true
  | _ => false
structure Snd (G : List FnE) (X : Cx) (ir : E) (e : Expr) : Prop where
  v : PE X e (T3E X.K (ev G ir).v)
  t : tst e = true → PT X e (T3T X.K (ev G ir).t)
  w : isBO e = true → PW X e (T3T X.K (ev G ir).t)
section
variable {K : PySem.W.Frag} {X : Cx} {G : List FnE} {j : Nat} {c : Stt}
theorem t3_toB {r : S3 → M → Out D} {σ : _L2.St} {H : Hp} {Q : Bool → Hp → Prop} : T3T K (toB r) σ H Q → T3E K r σ H fun x H' => ∃ k, TruV K x H' k ∧ Q k H' := by
  rintro ⟨w, μ, ρ, b, μ', R, S, e, q⟩
  obtain ⟨d, μ1, e1, e⟩ := Out.bind_ok e
  split at e
  · rename_i b' hb
    cases e
    exact ⟨w, μ, ρ, d, _, R, S, e1, fun w1 H1 v x1 R1 d1 => ⟨b, tru_snd R1 d1 hb, q w1 H1 x1 R1⟩⟩
  · cases e
theorem snd_val {e : Expr} {r : S3 → M → Out D} (v : PE X e (T3E X.K r)) (h : truthE e = true) : (tst e = true → PT X e (T3T X.K (toB r))) ∧ (isBO e = true → PW X e (T3T X.K (toB r))) :=
  ⟨fun _ => imT (qt_val ⟨v⟩ h).h fun σ H Q q => t3_toB q, fun hb => by cases e <;> first | (cases hb; done) | (cases h; done)⟩
theorem t3_bl {r : S3 → M → Out D} (hb : ∀ ρ μ d μ', r ρ μ = .ok d μ' → ∃ b, d = .bl b) {σ : _L2.St} {H : Hp} {Q : Bool → Hp → Prop} : T3T K (toB r) σ H Q → T3E K r σ H fun x H' => ∃ k, x = .bl k ∧ Q k H' := by
  rintro ⟨w, μ, ρ, b, μ', R, S, e, q⟩
  obtain ⟨d, μ1, e1, e⟩ := Out.bind_ok e
  obtain ⟨b', rfl⟩ := hb _ _ _ _ e1
  have e' : Out.ok b' μ1 = .ok b μ' := e
  cases e'
  refine ⟨w, μ, ρ, .bl b, _, R, S, e1, fun w1 H1 v x1 R1 d1 => ?_⟩
  unfold Den at d1
  exact ⟨b, d1, q w1 H1 x1 R1⟩
theorem hu_ok (o : Ok G j c X) : X.A.units + 16 < cLine := by
  have := o.room.un
  omega
theorem snd_var {i : Nat} {e : Expr} (o : Ok G j c X) (h : chk G j (.var i) c e = true) : Snd G X (.var i) e := by
  have hh := inv_name (P := fun x _ => okVar c.N c.sc i x) h
  clear h
  obtain ⟨x, pos, rfl, h⟩ := hh
  · have hv : PE X (.Name x pos) (T3E X.K (ev G (.var i)).v) := by
      refine imE (pvk i (by rw [o.hN, o.sc]; exact h)) fun σ H Q => ?_
      rintro ⟨w, μ, ρ, d, μ', R, S, e, q⟩
      have e' : (match ρ[i]? with | some (some d) => Out.ok d μ | _ => .bad) = .ok d μ' := e
      split at e'
      · rename_i d' hd
        cases e'
        obtain ⟨v, h1, h2⟩ := S.get hd
        exact ⟨v, h1, wish_here R q h2⟩
      · cases e'
    exact ⟨hv, (snd_val hv rfl).1, (snd_val hv rfl).2⟩
theorem snd_cst {d : D} {e : Expr} (h : chk G j (.cst d) c e = true) : Snd G X (.cst d) e := by
  have hh := inv_const (P := fun k _ _ => cstB d k) h
  clear h
  obtain ⟨k, kk, pos, rfl, h⟩ := hh
  · have key : ∀ v : V, (∀ w n, Den X.K w n d v) → PE X (.Constant k kk pos) (nC v) → Snd G X (.cst d) (.Constant k kk pos) := fun v hd hp => by
      have hv : PE X (.Constant k kk pos) (T3E X.K (ev G (.cst d)).v) := by
        refine imE hp fun σ H Q => ?_
        rintro ⟨w, μ, ρ, d', μ', R, S, e, q⟩
        have e' : Out.ok d μ = .ok d' μ' := e
        cases e'
        exact wish_here R q (hd _ _)
      exact ⟨hv, (snd_val hv rfl).1, (snd_val hv rfl).2⟩
    unfold cstB at h
    split at h
    · have := eq_of_beq h
      subst this
      exact key _ (fun w n => by unfold Den; rfl) (qe_int).h
    · have := eq_of_beq h
      subst this
      exact key _ (fun w n => by unfold Den; rfl) (qe_bl).h
    · exact key _ (fun w n => by unfold Den; rfl) (qe_non).h
    · have := eq_of_beq h
      subst this
      exact key _ (fun w n => by unfold Den; rfl) (qe_str).h
    · cases h
theorem snd_bin {op : Operator} {m : Bool} {a b : E} {x y : Expr} {pos : Pos} (ha : Snd G X a x) (hb : Snd G X b y) : Snd G X (.bin op m a b) (.BinOp x op y pos) := by
  obtain ⟨r, ho, hs⟩ := bin_ok (X := X) (op := op) (m := m)
  have hv : PE X (.BinOp x op y pos) (T3E X.K (ev G (.bin op m a b)).v) := imE (pe_op ho ha.v hb.v) fun σ H Q q => t3_op hs q
  exact ⟨hv, (snd_val hv rfl).1, (snd_val hv rfl).2⟩
theorem snd_not {a : E} {x : Expr} {pos : Pos} (ht : tst x = true) (ha : Snd G X a x) : Snd G X (.not_ a) (.UnaryOp .Not x pos) := by
  refine ⟨?_, fun _ => ?_, fun h => by cases h⟩
  · refine imE (qe_not ⟨ha.v⟩).h fun σ H Q q => t3_un (r := fun x H Q => ∃ c, x = .bl c ∧ Q (.bl (!c)) H) (fun w μ H d1 d μ' v1 Q R h e q => ?_) q
    split at e
    · cases e
      unfold Den at h
      exact ⟨_, h, wish_here R q (by unfold Den; rfl)⟩
    · cases e
  · refine imT (qt_not ⟨ha.t ht⟩).h fun σ H Q => ?_
    rintro ⟨w, μ, ρ, b, μ', R, S, e, q⟩
    obtain ⟨k, μ1, e1, e⟩ := Out.bind_ok e
    cases e
    exact ⟨w, μ, ρ, k, _, R, S, e1, q⟩
theorem and_v {a b : E} {σ : _L2.St} {H : Hp} {Q : VK} : T3E K (ev G (.and_ a b)).v σ H Q → tAndV (T3E K (ev G a).v) (T3E K (ev G b).v) σ H Q := by
  rintro ⟨w, μ, ρ, d, μ', R, S, e, q⟩
  obtain ⟨x, μ1, e1, e⟩ := Out.bind_ok e
  split at e
  · rename_i k
    refine ⟨w, μ, ρ, _, μ1, R, S, e1, fun w1 H1 v x1 R1 d1 => ?_⟩
    unfold Den at d1
    refine ⟨k, d1, ?_⟩
    cases k with
    | true =>
      rw [if_pos rfl] at e ⊢
      exact ⟨w1, μ1, ρ, d, μ', R1, S.mono x1, e, fun w2 H2 v2 x2 R2 d2 => q w2 H2 v2 (x1.trans x2) R2 d2⟩
    | false =>
      rw [if_neg Bool.false_ne_true] at e ⊢
      cases e
      exact q w1 H1 _ x1 R1 (by unfold Den; rfl)
  · cases e
theorem or_v {a b : E} {σ : _L2.St} {H : Hp} {Q : VK} : T3E K (ev G (.or_ a b)).v σ H Q → tOrV (T3E K (ev G a).v) (T3E K (ev G b).v) σ H Q := by
  rintro ⟨w, μ, ρ, d, μ', R, S, e, q⟩
  obtain ⟨x, μ1, e1, e⟩ := Out.bind_ok e
  split at e
  · rename_i k
    refine ⟨w, μ, ρ, _, μ1, R, S, e1, fun w1 H1 v x1 R1 d1 => ?_⟩
    unfold Den at d1
    refine ⟨k, d1, ?_⟩
    cases k with
    | true =>
      rw [if_pos rfl] at e ⊢
      cases e
      exact q w1 H1 _ x1 R1 (by unfold Den; rfl)
    | false =>
      rw [if_neg Bool.false_ne_true] at e ⊢
      exact ⟨w1, μ1, ρ, d, μ', R1, S.mono x1, e, fun w2 H2 v2 x2 R2 d2 => q w2 H2 v2 (x1.trans x2) R2 d2⟩
  · cases e
theorem and_t {a b : E} {σ : _L2.St} {H : Hp} {Q : Bool → Hp → Prop} : T3T K (ev G (.and_ a b)).t σ H Q → tAnd (T3T K (ev G a).t) (T3T K (ev G b).t) σ H Q := by
  rintro ⟨w, μ, ρ, d, μ', R, S, e, q⟩
  obtain ⟨k, μ1, e1, e⟩ := Out.bind_ok e
  refine ⟨w, μ, ρ, k, μ1, R, S, e1, fun w1 H1 x1 R1 => ?_⟩
  dsimp only
  cases k with
  | true =>
    rw [if_pos rfl] at e ⊢
    exact ⟨w1, μ1, ρ, d, μ', R1, S.mono x1, e, fun w2 H2 x2 R2 => q w2 H2 (x1.trans x2) R2⟩
  | false =>
    rw [if_neg Bool.false_ne_true] at e ⊢
    cases e
    exact q w1 H1 x1 R1
theorem or_t {a b : E} {σ : _L2.St} {H : Hp} {Q : Bool → Hp → Prop} : T3T K (ev G (.or_ a b)).t σ H Q → tOr (T3T K (ev G a).t) (T3T K (ev G b).t) σ H Q := by
  rintro ⟨w, μ, ρ, d, μ', R, S, e, q⟩
  obtain ⟨k, μ1, e1, e⟩ := Out.bind_ok e
  refine ⟨w, μ, ρ, k, μ1, R, S, e1, fun w1 H1 x1 R1 => ?_⟩
  dsimp only
  cases k with
  | true =>
    rw [if_pos rfl] at e ⊢
    cases e
    exact q w1 H1 x1 R1
  | false =>
    rw [if_neg Bool.false_ne_true] at e ⊢
    exact ⟨w1, μ1, ρ, d, μ', R1, S.mono x1, e, fun w2 H2 x2 R2 => q w2 H2 (x1.trans x2) R2⟩
theorem snd_and2 {a b : E} {x y : Expr} {pos : Pos} (h1 : tst x = true) (h2 : tst y = true) (ha : Snd G X a x) (hb : Snd G X b y) : Snd G X (.and_ a b) (.BoolOp .And [x, y] pos) := by
  have hw : PW X (.BoolOp .And [x, y] pos) (T3T X.K (ev G (.and_ a b)).t) := imW (qw_and ⟨ha.t h1⟩ (qw_and1 ⟨hb.t h2⟩)).h fun σ H Q q => and_t q
  exact ⟨imE (qe_and ⟨ha.v⟩ (qe_one ⟨hb.v⟩)).h fun σ H Q q => and_v q, fun _ => hw.pt, fun _ => hw⟩
theorem snd_and3 {a b : E} {x y : Expr} {rest : List Expr} {pos : Pos} (h1 : tst x = true) (ha : Snd G X a x) (hb : Snd G X b (.BoolOp .And (y :: rest) pos)) : Snd G X (.and_ a b) (.BoolOp .And (x :: y :: rest) pos) := by
  have hw : PW X (.BoolOp .And (x :: y :: rest) pos) (T3T X.K (ev G (.and_ a b)).t) := imW (qw_and ⟨ha.t h1⟩ ⟨hb.w rfl⟩).h fun σ H Q q => and_t q
  exact ⟨imE (qe_and ⟨ha.v⟩ ⟨hb.v⟩).h fun σ H Q q => and_v q, fun _ => hw.pt, fun _ => hw⟩
theorem snd_or2 {a b : E} {x y : Expr} {pos : Pos} (h1 : tst x = true) (h2 : tst y = true) (ha : Snd G X a x) (hb : Snd G X b y) : Snd G X (.or_ a b) (.BoolOp .Or [x, y] pos) := by
  have hw : PW X (.BoolOp .Or [x, y] pos) (T3T X.K (ev G (.or_ a b)).t) := imW (qw_or ⟨ha.t h1⟩ (qw_or1 ⟨hb.t h2⟩)).h fun σ H Q q => or_t q
  exact ⟨imE (qe_or ⟨ha.v⟩ (qe_one ⟨hb.v⟩)).h fun σ H Q q => or_v q, fun _ => hw.pt, fun _ => hw⟩
theorem snd_or3 {a b : E} {x y : Expr} {rest : List Expr} {pos : Pos} (h1 : tst x = true) (ha : Snd G X a x) (hb : Snd G X b (.BoolOp .Or (y :: rest) pos)) : Snd G X (.or_ a b) (.BoolOp .Or (x :: y :: rest) pos) := by
  have hw : PW X (.BoolOp .Or (x :: y :: rest) pos) (T3T X.K (ev G (.or_ a b)).t) := imW (qw_or ⟨ha.t h1⟩ ⟨hb.w rfl⟩).h fun σ H Q q => or_t q
  exact ⟨imE (qe_or ⟨ha.v⟩ ⟨hb.v⟩).h fun σ H Q q => or_v q, fun _ => hw.pt, fun _ => hw⟩
theorem snd_cmp {op : CmpOp} {a b : E} {x y : Expr} {pos : Pos} (o : Ok G j c X) (hm : behindInMarks op y = false) (ha : Snd G X a x) (hb : Snd G X b y) : Snd G X (.cmp op a b) (.Compare x [op] [y] pos) := by
  obtain ⟨r, ho, hs⟩ := cmp_ok (X := X) (op := op) (hu_ok o)
  refine ⟨imE (qe_cmp ho ⟨ha.v⟩ ⟨hb.v⟩ hm).h fun σ H Q q => t3_op hs q, fun _ => ?_, fun h => by cases h⟩
  refine imT (qt_cmp ho ⟨ha.v⟩ ⟨hb.v⟩ hm).h fun σ H Q q => t3_op hs (t3_bl (fun ρ μ d μ' e => ?_) q)
  obtain ⟨_, _, _, e⟩ := Out.bind_ok e
  obtain ⟨_, _, _, e⟩ := Out.bind_ok e
  obtain ⟨b, h, _⟩ := cmp_bl _ _ _ _ _ e
  exact ⟨b, h⟩
theorem chain_v {o1 o2 : CmpOp} {a b d : E} {r r' : R2} (hs : Snd2 K (cmpD o1) r) (hs' : Snd2 K (cmpD o2) r') {σ : _L2.St} {H : Hp} {Q : VK} : T3E K (ev G (.chain o1 o2 a b d)).v σ H Q → tChain r r' (T3E K (ev G a).v) (T3E K (ev G b).v) (T3E K (ev G d).v) σ H Q := by
  rintro ⟨w, μ, ρ, d0, μ', R, S, e, q⟩
  obtain ⟨x, μ1, e1, e⟩ := Out.bind_ok e
  obtain ⟨y, μ2, e2, e⟩ := Out.bind_ok e
  obtain ⟨z, μ3, e3, eB⟩ := Out.bind_ok e
  clear e
  obtain ⟨k, rfl, rfl⟩ := cmp_bl _ _ _ _ _ e3
  refine ⟨w, μ, ρ, x, μ1, R, S, e1, fun w1 H1 v1 x1 R1 d1 => ⟨w1, μ1, ρ, y, μ3, R1, S.mono x1, e2, fun w2 H2 v2 x2 R2 d2 => ?_⟩⟩
  refine hs w2 μ3 H2 x y (.bl k) μ3 v1 v2 _ R2 (d1.mono x2) d2 e3 fun w3 H3 v3 x3 R3 d3 => ?_
  unfold Den at d3
  refine ⟨k, d3, ?_⟩
  have e' : (if k then ((ev G d).v ρ μ3).bind fun u μ4 => cmpD o2 y u μ4 else Out.ok (.bl false) μ3) = .ok d0 μ' := eB
  cases k with
  | true =>
    rw [if_pos rfl] at e' ⊢
    obtain ⟨u, μ4, e4, e'⟩ := Out.bind_ok e'
    exact ⟨w3, μ3, ρ, u, μ4, R3, S.mono ((x1.trans x2).trans x3), e4, fun w4 H4 v4 x4 R4 d4 => hs' w4 μ4 H4 y u d0 μ' v2 v4 Q R4 (d2.mono (x3.trans x4)) d4 e' fun w5 H5 v5 x5 R5 d5 => q w5 H5 v5 ((((x1.trans x2).trans x3).trans x4).trans x5) R5 d5⟩
  | false =>
    rw [if_neg Bool.false_ne_true] at e' ⊢
    cases e'
    exact q w3 H3 _ ((x1.trans x2).trans x3) R3 (by unfold Den; rfl)
theorem snd_chain {o1 o2 : CmpOp} {a b d : E} {x y z : Expr} {pos : Pos} (o : Ok G j c X) (hm : lastMarks [o1, o2] [y, z] = false) (ha : Snd G X a x) (hb : Snd G X b y) (hd : Snd G X d z) : Snd G X (.chain o1 o2 a b d) (.Compare x [o1, o2] [y, z] pos) := by
  obtain ⟨r, ho, hs⟩ := cmp_ok (X := X) (op := o1) (hu_ok o)
  obtain ⟨r', ho', hs'⟩ := cmp_ok (X := X) (op := o2) (hu_ok o)
  refine ⟨imE (qe_chain ho ho' ⟨ha.v⟩ ⟨hb.v⟩ ⟨hd.v⟩ hm).h fun σ H Q q => chain_v hs hs' q, fun _ => ?_, fun h => by cases h⟩
  refine imT (qt_chain ho ho' ⟨ha.v⟩ ⟨hb.v⟩ ⟨hd.v⟩ hm).h fun σ H Q q => chain_v hs hs' (t3_bl (fun ρ μ d μ' e => ?_) q)
  obtain ⟨_, _, _, e⟩ := Out.bind_ok e
  obtain ⟨_, _, _, e⟩ := Out.bind_ok e
  obtain ⟨z, _, e3, e⟩ := Out.bind_ok e
  split at e
  · split at e
    · obtain ⟨_, _, _, e⟩ := Out.bind_ok e
      obtain ⟨b, h, _⟩ := cmp_bl _ _ _ _ _ e
      exact ⟨b, h⟩
    · cases e
      exact ⟨_, rfl⟩
  · cases e
theorem snd_ife {k a b : E} {z x y : Expr} {pos : Pos} (ht : tst z = true) (hk : Snd G X k z) (ha : Snd G X a x) (hb : Snd G X b y) : Snd G X (.ife k a b) (.IfExp z x y pos) := by
  refine ⟨imE (qe_ifExp ⟨hk.t ht⟩ ⟨ha.v⟩ ⟨hb.v⟩).h fun σ H Q => ?_, (fun h => by cases h), (fun h => by cases h)⟩
  rintro ⟨w, μ, ρ, d, μ', R, S, e, q⟩
  obtain ⟨k', μ1, e1, e⟩ := Out.bind_ok e
  refine ⟨w, μ, ρ, k', μ1, R, S, e1, fun w1 H1 x1 R1 => ?_⟩
  dsimp only
  cases k' with
  | true =>
    rw [if_pos rfl] at e ⊢
    exact ⟨w1, μ1, ρ, d, μ', R1, S.mono x1, e, fun w2 H2 v2 x2 R2 d2 => q w2 H2 v2 (x1.trans x2) R2 d2⟩
  | false =>
    rw [if_neg Bool.false_ne_true] at e ⊢
    exact ⟨w1, μ1, ρ, d, μ', R1, S.mono x1, e, fun w2 H2 v2 x2 R2 d2 => q w2 H2 v2 (x1.trans x2) R2 d2⟩
theorem snd_tupE {es : List E} {xs : List Expr} {k : Nat} {pos : Pos} (h : PA X xs (T3A X.K (evL G es))) : Snd G X (.tup es) (.Tuple xs k pos) := by
  have hv : PE X (.Tuple xs k pos) (T3E X.K (ev G (.tup es)).v) := imE (pe_tup h) fun σ H Q q => t3_call snd_tup q
  exact ⟨hv, (snd_val hv rfl).1, (snd_val hv rfl).2⟩
theorem snd_lstE {m : Bool} {es : List E} {xs : List Expr} {pos : Pos} (h : PA X xs (T3A X.K (evL G es))) : Snd G X (.lst m es) (.List xs pos) := by
  have hv : PE X (.List xs pos) (T3E X.K (ev G (.lst m es)).v) := imE (pe_lst h) fun σ H Q q => t3_call snd_lst q
  exact ⟨hv, (snd_val hv rfl).1, (snd_val hv rfl).2⟩
theorem snd_ix {a b : E} {x y : Expr} {pos : Pos} (o : Ok G j c X) (hp : plainIx3 y = true) (ha : Snd G X a x) (hb : Snd G X b y) : Snd G X (.ix a b) (.Subscript x y pos) := by
  have hv : PE X (.Subscript x y pos) (T3E X.K (ev G (.ix a b)).v) := imE (pe_ix (ix_seq.or (ix_dk (by have := hu_ok o; omega))) ha.v hb.v (plainIx3_ok hp)) fun σ H Q q => t3_op ix_ok q
  exact ⟨hv, (snd_val hv rfl).1, (snd_val hv rfl).2⟩
end
end _L3
set_option Elab.async false
set_option linter.all false
set_option maxRecDepth 100000
set_option maxHeartbeats 4000000
namespace _L3
open PySem PySem.Spec PyProof.Rows _L2
section
variable {K : PySem.W.Frag} {X : Cx} {G : List FnE} {j : Nat} {c : Stt}
noncomputable def T3O (K : PySem.W.Frag) (r : S3 → M → Out (Option Int)) : TO := fun σ H Q => ∃ (w : Wd) (μ : M) (ρ : S3) (o : Option Int) (μ' : M), Rep K w μ H ∧ DenS K w μ.length ρ σ ∧ r ρ μ = .ok o μ' ∧ ∀ w' H', Ext w w' μ.length μ'.length → Rep K w' μ' H' → Q o H'
theorem imO {e : Option Expr} {t t' : TO} (h : PO X e t) (k : ∀ σ H Q, t' σ H Q → t σ H Q) : PO X e t' := fun pins s σ H Q I hw => h pins s σ H Q I (k σ H Q hw)
theorem po_of {es : List E} {l : Option Expr} (h : ∀ e x, es = [e] → l = some x → PE X x (T3E X.K (ev G e).v)) (hl : es.length = l.toList.length) : PO X l (T3O X.K fun ρ μ => optI (evL G es ρ μ)) := by
  cases l with
  | none =>
    have : es = [] := List.length_eq_zero_iff.mp hl
    subst this
    refine imO po_none fun σ H Q => ?_
    rintro ⟨w, μ, ρ, o, μ', R, S, e, q⟩
    have e' : Out.ok none μ = .ok o μ' := by
      have : evL G [] ρ μ = .ok [] μ := rfl
      unfold optI at e
      dsimp only at e
      rw [this] at e
      exact e
    cases e'
    exact q w H (Ext.refl _ _) R
  | some x =>
    obtain ⟨e1, rfl⟩ : ∃ e1, es = [e1] := List.length_eq_one_iff.mp hl
    refine imO (po_some (h e1 x rfl rfl)) fun σ H Q => ?_
    rintro ⟨w, μ, ρ, o, μ', R, S, e, q⟩
    have e' : (((ev G e1).v ρ μ).bind fun d μ1 => Out.ok [d] μ1).bind (fun ds μ => match ds with
        | [] => .ok none μ
        | [.int i] => .ok (some i) μ
        | _ => .bad) = .ok o μ' := by
      have : evL G [e1] ρ μ = (((ev G e1).v ρ μ).bind fun d μ1 => Out.ok [d] μ1) := rfl
      unfold optI at e
      dsimp only at e
      rw [this] at e
      exact e
    obtain ⟨ds, μ1, e1', e2⟩ := Out.bind_ok e'
    obtain ⟨d, μ2, e3, e4⟩ := Out.bind_ok e1'
    cases e4
    split at e2
    · rename_i hh
      cases hh
    · rename_i i hh
      cases hh
      cases e2
      refine ⟨w, μ, ρ, .int i, _, R, S, e3, fun w1 H1 v x1 R1 d1 => ?_⟩
      unfold Den at d1
      exact ⟨i, d1, q w1 H1 x1 R1⟩
    · cases e2
theorem snd_sl {m : Bool} {a : E} {lo hi : List E} {x : Expr} {l h : Option Expr} {p pos : Pos} (ha : Snd G X a x) (hl : PO X l (T3O X.K fun ρ μ => optI (evL G lo ρ μ))) (hh : PO X h (T3O X.K fun ρ μ => optI (evL G hi ρ μ))) : Snd G X (.sl m a lo hi) (.Subscript x (.Slice l h none p) pos) := by
  have hv : PE X (.Subscript x (.Slice l h none p) pos) (T3E X.K (ev G (.sl m a lo hi)).v) := by
    refine imE (pe_slice sl_ok3 ha.v hl hh) fun σ H Q => ?_
    rintro ⟨w, μ, ρ, d, μ', R, S, e, q⟩
    obtain ⟨d1, μ1, e1, e⟩ := Out.bind_ok e
    obtain ⟨o1, μ2, e2, e⟩ := Out.bind_ok e
    obtain ⟨o2, μ3, e3, e⟩ := Out.bind_ok e
    exact ⟨w, μ, ρ, d1, μ1, R, S, e1, fun w1 H1 v1 x1 R1 k1 => ⟨w1, μ1, ρ, o1, μ2, R1, S.mono x1, e2, fun w2 H2 x2 R2 => ⟨w2, μ2, ρ, o2, μ3, R2, S.mono (x1.trans x2), e3, fun w3 H3 x3 R3 => sl_snd R3 (k1.mono (x2.trans x3)) e fun w4 H4 v4 x4 R4 k4 => q w4 H4 v4 (((x1.trans x2).trans x3).trans x4) R4 k4⟩⟩⟩
  exact ⟨hv, (snd_val hv rfl).1, (snd_val hv rfl).2⟩
theorem den_pick {w : Wd} {n : Nat} {ds : List D} {xs : List V} (h : DenL K w n ds xs) : ∀ ns : List Nat, DenL K w n (ns.filterMap (ds[·]?)) (ns.filterMap (xs[·]?))
  | [] => by unfold DenL; rfl
  | i :: ns => by
    rw [List.filterMap_cons, List.filterMap_cons]
    cases e : ds[i]? with
    | none =>
      have : xs[i]? = none := by
        rw [List.getElem?_eq_none_iff] at e ⊢
        rw [← denL_len h]
        exact e
      rw [this]
      exact den_pick h ns
    | some d =>
      obtain ⟨v, e1, e2⟩ := denL_get h e
      rw [e1]
      unfold DenL
      exact ⟨v, _, rfl, e2, den_pick h ns⟩
theorem stp_snd {m : Bool} {w : Wd} {μ μ' : M} {H : Hp} {d1 d : D} {v1 : V} {lo st : Option Int} {Q : VK} (R : Rep K w μ H) (h1 : Den K w μ.length d1 v1) (e : stpD m d1 lo st μ = .ok d μ') (q : Wish K w μ.length d μ' Q) : rStep K v1 lo st H Q := by
  unfold stpD at e
  split at e
  · rename_i i k
    split at e
    · rename_i hc
      split at e
      · rename_i ds hs
        obtain ⟨a, us, rfl, s1, l1⟩ := seqL_sq R h1 hs
        refine ⟨a, us, i, k, rfl, rfl, rfl, hc.1, hc.2, s1, mkL_snd R ?_ e q⟩
        rw [← denL_len l1]
        exact den_pick l1 _
      · cases e
    · cases e
  · cases e
theorem snd_stp {m : Bool} {a : E} {lo st : List E} {x l h : Expr} {p pos : Pos} (ha : Snd G X a x) (hl : PO X (some l) (T3O X.K fun ρ μ => optI (evL G lo ρ μ))) (hh : PO X (some h) (T3O X.K fun ρ μ => optI (evL G st ρ μ))) : Snd G X (.stp m a lo st) (.Subscript x (.Slice (some l) none (some h) p) pos) := by
  have hv : PE X (.Subscript x (.Slice (some l) none (some h) p) pos) (T3E X.K (ev G (.stp m a lo st)).v) := by
    refine imE (pe_step ha.v hl hh) fun σ H Q => ?_
    rintro ⟨w, μ, ρ, d, μ', R, S, e, q⟩
    obtain ⟨d1, μ1, e1, e⟩ := Out.bind_ok e
    obtain ⟨o1, μ2, e2, e⟩ := Out.bind_ok e
    obtain ⟨o2, μ3, e3, e⟩ := Out.bind_ok e
    exact ⟨w, μ, ρ, d1, μ1, R, S, e1, fun w1 H1 v1 x1 R1 k1 => ⟨w1, μ1, ρ, o1, μ2, R1, S.mono x1, e2, fun w2 H2 x2 R2 => ⟨w2, μ2, ρ, o2, μ3, R2, S.mono (x1.trans x2), e3, fun w3 H3 x3 R3 => stp_snd R3 (k1.mono (x2.trans x3)) e fun w4 H4 v4 x4 R4 k4 => q w4 H4 v4 (((x1.trans x2).trans x3).trans x4) R4 k4⟩⟩⟩
  exact ⟨hv, (snd_val hv rfl).1, (snd_val hv rfl).2⟩
theorem evL_len : ∀ {es : List E} {ρ : S3} {μ μ' : M} {ds : List D}, evL G es ρ μ = .ok ds μ' → ds.length = es.length
  | [], ρ, μ, μ', ds, e => by
    have e' : Out.ok [] μ = .ok ds μ' := e
    cases e'
    rfl
  | x :: es, ρ, μ, μ', ds, e => by
    obtain ⟨d, μ1, e1, e⟩ := Out.bind_ok e
    obtain ⟨ds', μ2, e2, e⟩ := Out.bind_ok e
    cases e
    rw [List.length_cons, List.length_cons, evL_len e2]
theorem call_snd {md : Md} {F : Fn} {np : Nat} {w1 : Wd} {μ1 μ' : M} {H1 : Hp} {ds : List D} {d : D} {vs : List V} {Q : VK} {EX : XK} (hl : ds.length = np) (R1 : Rep K w1 μ1 H1) (l1 : DenL K w1 μ1.length ds vs) (e : callD md F ds μ1 = .ok d μ') (q : Wish K w1 μ1.length d μ' Q) : spOf K np F vs H1 Q EX := by
  refine ⟨by rw [← denL_len l1]; exact hl, ?_⟩
  cases md with
  | raw => exact ⟨w1, μ1, ds, d, μ', R1, l1, e, q⟩
  | frz =>
    simp only [callD] at e
    split at e
    · rename_i d0 μ0 e0
      split at e
      · rename_i ht
        split at e
        · rename_i d' hd'
          cases e
          refine ⟨w1, _, ds, d0, μ0, R1, l1, e0, fun w2 H2 v x2 R2 d2 => ?_⟩
          obtain ⟨w3, x3, R3, f3, _, _⟩ := freeze (keep := []) (cs := []) R1 x2 R2 ht List.nodup_nil (fun k h => by cases h) rfl
          simp only [List.map_nil, List.append_nil] at x3 R3 f3
          exact q w3 H2 v x3 R3 (f3 _ _ _ d2 hd')
        · cases e
      · cases e
    · split at e
      · split at e <;> cases e
      · cases e
    · cases e
  | new =>
    simp only [callD] at e
    cases e
theorem snd_call {f : Nat} {g : FnE} {md : Md} {es : List E} {x : Str} {y : Expr} {ys : List Expr} {p pos : Pos} (o : Ok G j c X) (hf : G[f]? = some g) (hn : g.name = x) (hg : okGl c.sc x = true) (hp : es.length = g.ps.length) (hlv : g.lv ≤ j) (hst : noStars (y :: ys) = true) (h : PA X (y :: ys) (T3A X.K (evL G es))) :
    Snd G X (.call f md es) (.Call (.Name x p) (y :: ys) [] pos) := by
  subst hn
  have hv : PE X (.Call (.Name g.name p) (y :: ys) [] pos) (T3E X.K (ev G (.call f md es)).v) := by
    refine imE (pek_fn (o.fns f g hf hlv) o.room (by rw [o.sc]; exact hg) h hlv hst) fun σ H Q => ?_
    rintro ⟨w, μ, ρ, d, μ', R, S, e, q⟩
    obtain ⟨ds, μ1, e1, e⟩ := Out.bind_ok e
    unfold callG at e
    rw [hf] at e
    refine ⟨w, μ, ρ, ds, μ1, R, S, e1, fun w1 H1 vs x1 R1 d1 => ?_⟩
    show spOf X.K g.ps.length g.F (vs ++ []) H1 Q E0
    rw [List.append_nil]
    exact call_snd ((evL_len e1).trans hp) R1 d1 e fun w2 H2 v x2 R2 d2 => q w2 H2 v (x1.trans x2) R2 d2
  exact ⟨hv, (snd_val hv rfl).1, (snd_val hv rfl).2⟩
theorem denL_map_ints {w : Wd} {n : Nat} : ∀ ks : List Int, DenL K w n (ks.map D.int) (ks.map V.int)
  | [] => by unfold DenL; rfl
  | k :: ks => by rw [List.map_cons, List.map_cons]; unfold DenL; exact ⟨_, _, rfl, by unfold Den; rfl, denL_map_ints ks⟩
end
end _L3
set_option Elab.async false
set_option linter.all false
set_option maxRecDepth 100000
set_option maxHeartbeats 4000000
namespace _L3
open PySem PySem.Spec PyProof.Rows _L2
section
variable {K : PySem.W.Frag} {X : Cx} {G : List FnE} {j : Nat} {c : Stt}
theorem mg_of (o : Ok G j c X) {x : Str} (h : x ∈ biNames) : X.mg x = none := o.mg x h
theorem okGl_of (o : Ok G j c X) {x : Str} (h : okGl c.sc x = true) : okGl X.env.scope x = true := by rw [o.sc]; exact h
theorem snd_lenSet : SndA X.K lenSetD (rLenSet X.K X.prog X.w) := by
  intro w μ H ds d μ' vs Q R h e q
  unfold lenSetD at e
  split at e
  · split at e
    · rename_i xs hs
      split at e
      · rename_i zs hz
        split at e
        · rename_i hl
          cases e
          obtain ⟨v, rfl, h1⟩ := den1 h
          obtain ⟨a, us, rfl, s1, l1⟩ := seqA_sq R h1 hs
          have := denL_strs l1 hz
          subst this
          refine ⟨a, zs, rfl, s1, hl, fun l hn => ⟨l, _, rfl, upd_same, Nat.le_trans (ddS_le zs) hl, ?_⟩⟩
          obtain ⟨R', x⟩ := R.frz hn (SetN X.prog X.w l (ddS zs).length)
          exact q _ _ _ x R' (by unfold Den; rfl)
        · cases e
      · cases e
    · cases e
  · cases e
theorem sqB_of {H : Hp} {a : Addr} {xs : List V} (h : SqL K H a xs ∨ SqT K H a xs) : ∃ b, SqB b K H a xs := by
  rcases h with h | h
  · exact ⟨false, h⟩
  · exact ⟨true, h⟩
theorem snd_dictZip {m : Bool} : SndA K (dictZipD m) (rDictZip K) := by
  intro w μ H ds d μ' vs Q R h e q
  unfold dictZipD at e
  split at e
  · split at e
    · rename_i xs ys hx hy
      split at e
      · rename_i zs hz
        split at e
        · rename_i hc
          obtain ⟨v, u, rfl, h1, h2⟩ := den2 h
          obtain ⟨a, us, rfl, s1, l1⟩ := seqA_sq R h1 hx
          obtain ⟨b, ws, rfl, s2, l2⟩ := seqA_sq R h2 hy
          have := denL_strs l1 hz
          subst this
          obtain ⟨b1, s1⟩ := sqB_of s1
          obtain ⟨b2, s2⟩ := sqB_of s2
          have hk : (zs.map (Sum.inr : Str → Key)).length = ys.length := by rw [List.length_map]; exact hc.1
          refine ⟨a, b, b1, b2, zs, ws, rfl, s1, s2, by rw [← denL_len l2, hc.1], hc.2.1, hc.2.2, ?_⟩
          cases m with
          | false =>
            rw [if_neg Bool.false_ne_true] at e
            cases e
            exact .inr fun l o es ep hl ho => wish_frz R q hl fun w' x hz => by unfold Den; exact ⟨l, o, es, ep, ws, rfl, hk, ho, hz, l2.mono x⟩
          | true =>
            rw [if_pos rfl] at e
            cases e
        · cases e
      · cases e
    · cases e
  · cases e
theorem snd_callB {x : Str} {id : String} {f : List D → M → Out D} {r : List V → Hp → VK → Prop} {es : List E} {y : Expr} {ys : List Expr} {p pos : Pos} (o : Ok G j c X) (hc : CallR X (.builtin id) r) (hs : SndA X.K f r) (hg : okGl c.sc x = true) (hm : x ∈ biNames) (hv : bootBuiltins x = some (.builtin id)) (hst : noStars (y :: ys) = true) (h : PA X (y :: ys) (T3A X.K (evL G es))) :
    PE X (.Call (.Name x p) (y :: ys) [] pos) (T3E X.K fun ρ μ => (evL G es ρ μ).bind fun ds μ1 => f ds μ1) := imE (pek_callB hc (okGl_of o hg) (mg_of o hm) hv h hst) fun σ H Q q => t3_call hs q
theorem snd_callTy {x : Str} {T : String} {f : List D → M → Out D} {r : List V → Hp → VK → Prop} {es : List E} {y : Expr} {ys : List Expr} {p pos : Pos} (o : Ok G j c X) (hc : CallR X (.type T) r) (hs : SndA X.K f r) (hg : okGl c.sc x = true) (hm : x ∈ biNames) (hv : bootBuiltins x = some (.type T)) (hst : noStars (y :: ys) = true) (h : PA X (y :: ys) (T3A X.K (evL G es))) :
    PE X (.Call (.Name x p) (y :: ys) [] pos) (T3E X.K fun ρ μ => (evL G es ρ μ).bind fun ds μ1 => f ds μ1) := imE (pek_callTy hc (okGl_of o hg) (mg_of o hm) hv h hst) fun σ H Q q => t3_call hs q
theorem evL_one {e1 : E} {ρ : S3} {μ μ' : M} {ds : List D} (e : evL G [e1] ρ μ = .ok ds μ') : ∃ d, ds = [d] ∧ (ev G e1).v ρ μ = .ok d μ' := by
  obtain ⟨d, μ1, e1', e⟩ := Out.bind_ok e
  cases e
  exact ⟨d, rfl, e1'⟩
theorem pe_isT {n : String} {e1 : E} {a : Expr} {x : Str} {p q pos : Pos} (o : Ok G j c X) (hg : okGl c.sc "isinstance" = true) (hx : x = Str.ofString n) (hgx : okGl c.sc x = true) (hn : biArgs.isTn n = true) (ha : notStar a = true) (h : PE X a (T3E X.K (ev G e1).v)) :
    PE X (.Call (.Name "isinstance" p) [a, .Name x q] [] pos) (T3E X.K fun ρ μ => (evL G [e1] ρ μ).bind fun ds μ1 => isTD n ds μ1) := by
  subst hx
  have hb' : bootBuiltins (Str.ofString n) = some (.type n) ∧ Str.ofString n ∈ biNames := by
    unfold biArgs.isTn at hn
    simp only [Bool.or_eq_true, beq_iff_eq] at hn
    rcases hn with ((rfl | rfl) | rfl) | rfl
    · exact ⟨bt_int, by decide +kernel⟩
    · exact ⟨bt_bool, by decide +kernel⟩
    · exact ⟨bt_str, by decide +kernel⟩
    · exact ⟨bt_tuple, by decide +kernel⟩
  have h2 : PE X (.Name (Str.ofString n) q) (nC (.ty n)) := (qe_bltn (v := .ty n) (okGl_of o hgx) (mg_of o hb'.2) hb'.1 rfl).h
  have hA : PA X [a, .Name (Str.ofString n) q] (tCons (T3E X.K (ev G e1).v) (tCons (nC (.ty n)) tNil)) := pac h (pac h2 pa_nil) ha
  refine imE (pek_callB (r := rIsT X.K n) call_isT (okGl_of o hg) (mg_of o (by decide +kernel)) bt_isinstance hA (by unfold noStars; simp [ha]; rfl)) fun σ H Q => ?_
  rintro ⟨w, μ, ρ, d, μ', R, S, e, q⟩
  obtain ⟨ds, μ1, e1, e⟩ := Out.bind_ok e
  obtain ⟨d0, rfl, e2⟩ := evL_one e1
  exact ⟨w, μ, ρ, d0, μ1, R, S, e2, fun w1 H1 v x1 R1 d1 => snd_isT R1 (DenL.one d1) e fun w3 H3 v x3 R3 d3 => q w3 H3 v (x1.trans x3) R3 d3⟩
theorem never_bi {e : Expr} {r : S3 → M → Out (List D)} : PE X e (T3E X.K fun ρ μ => (r ρ μ).bind fun _ _ => Out.bad) := fun pins s σ H Q I ⟨w, μ, ρ, d, μ', R, S, e, q⟩ => by
  obtain ⟨_, _, _, e⟩ := Out.bind_ok e
  cases e
theorem snd_bi {b : Bi} {m : Bool} {es : List E} {x : Str} {y : Expr} {ys as : List Expr} {p pos : Pos} (o : Ok G j c X) (hx : biName b = x) (hg : okGl c.sc x = true) (hst : noStars (y :: ys) = true) (hb : biArgs c b (y :: ys) = some as) (hA : PA X as (T3A X.K (evL G es))) (h1 : ∀ e a, es = [e] → as = [a] → PE X a (T3E X.K (ev G e).v)) (hl : es.length = as.length) :
    Snd G X (.bi b m es) (.Call (.Name x p) (y :: ys) [] pos) := by
  subst hx
  have hv : PE X (.Call (.Name (biName b) p) (y :: ys) [] pos) (T3E X.K (ev G (.bi b m es)).v) := by
    cases b with
    | len => cases hb; exact snd_callB o (call_len_seq.or call_len_str) snd_len hg (by decide +kernel) bt_len hst hA
    | sum => cases hb; exact never_bi
    | min2 => cases hb; exact snd_callB o (call_min2 o.calm) snd_min hg (by decide +kernel) bt_min hst hA
    | max2 => cases hb; exact snd_callB o (call_max2 o.calm) snd_max hg (by decide +kernel) bt_max hst hA
    | list => cases hb; exact snd_callTy o call_list_of snd_list hg (by decide +kernel) bt_list hst hA
    | tuple => cases hb; exact snd_callTy o call_tuple_of snd_tuple hg (by decide +kernel) bt_tuple hst hA
    | int => cases hb; exact snd_callTy o (call_int1.or call_intT) snd_toInt hg (by decide +kernel) bt_int hst hA
    | all => cases hb; exact snd_callB o call_all (snd_all o.calm) hg (by decide +kernel) bt_all hst hA
    | str => cases hb; exact snd_callTy o (call_str_int.or call_strT) snd_str hg (by decide +kernel) bt_str hst hA
    | isT n =>
      simp only [biArgs] at hb
      split at hb
      · rename_i a t heq
        split at hb
        · rename_i x hx
          split at hb
          · rename_i hc
            cases hb
            cases heq
            obtain ⟨q, rfl⟩ := asName_ok hx
            simp only [Bool.and_eq_true, beq_iff_eq] at hc
            obtain ⟨⟨⟨c1, c2⟩, c3⟩, c4⟩ := hc
            obtain ⟨e1, rfl⟩ : ∃ e1, es = [e1] := List.length_eq_one_iff.mp hl
            exact pe_isT o hg c1 c2 c3 c4 (h1 e1 _ rfl rfl)
          · cases hb
        · cases hb
      · cases hb
    | listRange => cases hb
    | lenSet =>
      simp only [biArgs] at hb
      split at hb
      · rename_i e heq
        split at hb
        · rename_i x a hx
          split at hb
          · rename_i hc
            cases hb
            cases heq
            obtain ⟨p2, q2, rfl⟩ := asCall_ok hx
            simp only [Bool.and_eq_true, beq_iff_eq] at hc
            obtain ⟨⟨c1, c2⟩, c3⟩ := hc
            subst c1
            exact imE (pe_lenSet o.calm (okGl_of o hg) (mg_of o (by decide +kernel)) (okGl_of o c2) (mg_of o (by decide +kernel)) hA c3) fun σ H Q q => t3_call snd_lenSet q
          · cases hb
        · cases hb
      · cases hb
    | dictZip =>
      simp only [biArgs] at hb
      split at hb
      · rename_i e heq
        split at hb
        · rename_i x a b hx
          split at hb
          · rename_i hc
            cases hb
            cases heq
            obtain ⟨p2, q2, rfl⟩ := asCall_ok hx
            simp only [Bool.and_eq_true, beq_iff_eq] at hc
            obtain ⟨⟨c1, c2⟩, c3⟩ := hc
            subst c1
            exact imE (pe_dictZip o.calm (okGl_of o hg) (mg_of o (by decide +kernel)) (okGl_of o c2) (mg_of o (by decide +kernel)) hA c3) fun σ H Q q => t3_call snd_dictZip q
          · cases hb
        · cases hb
      · cases hb
  exact ⟨hv, (snd_val hv rfl).1, (snd_val hv rfl).2⟩
theorem snd_mt {b : Mt} {ob : E} {es : List E} {z y : Expr} {ys : List Expr} {apos cpos : Pos} (o : Ok G j c X) (hz : Snd G X ob z) (hp : plainBase z = true) (hst : noStars (y :: ys) = true) (hl : ys.length < 28) (hline : (apos.endLine == cpos.line) = true) (hA : PA X (y :: ys) (T3A X.K (evL G es))) :
    Snd G X (.mt b ob es) (.Call (.Attribute z (mtName b) apos) (y :: ys) [] cpos) := by
  have hv : PE X (.Call (.Attribute z (mtName b) apos) (y :: ys) [] cpos) (T3E X.K (ev G (.mt b ob es)).v) := by
    cases b with
    | append => exact imE (qe_bm PySem.F.plainAttrs_list PySem.F.slot_list_append PySem.F.type_list_append mt_append ⟨hz.v⟩ ⟨hA⟩ hp hst hl hline).h fun σ H Q q => t3_meth snd_app (fun w μ H ob x R h e => mtTy_list (.inl rfl) R h e) q
    | extend => exact imE (qe_bm PySem.F.plainAttrs_list PySem.F.slot_list_extend PySem.F.type_list_extend mt_extend ⟨hz.v⟩ ⟨hA⟩ hp hst hl hline).h fun σ H Q q => t3_meth snd_ext (fun w μ H ob x R h e => mtTy_list (.inr rfl) R h e) q
    | split => exact imE (qe_bm PySem.F.plainAttrs_str PySem.F.slot_str_split PySem.F.type_str_split mt_split ⟨hz.v⟩ ⟨hA⟩ hp hst hl hline).h fun σ H Q q => t3_meth snd_split (fun w μ H ob x R h e => mtTy_splitS h e) q
    | join => exact imE (qe_bm PySem.F.plainAttrs_str PySem.F.slot_str_join PySem.F.type_str_join mt_join ⟨hz.v⟩ ⟨hA⟩ hp hst hl hline).h fun σ H Q q => t3_meth snd_join (fun w μ H ob x R h e => mtTy_str h e) q
  exact ⟨hv, (snd_val hv rfl).1, (snd_val hv rfl).2⟩
theorem chkNm_ok {i : Nat} {e : Expr} (o : Ok G j c X) (h : chkNm c i e = true) : PG X e (gName i) ∧ notStar e = true := by
  unfold chkNm at h
  split at h
  · rename_i x pos
    refine ⟨?_, rfl⟩
    split at h
    · exact pgk_own (by rw [o.hN]; exact o.nd) (by rw [o.hN, o.sc]; exact h)
    · rename_i hc
      exact pgk_name (by rw [o.hN]; exact o.nd) (by rw [o.hN, o.sc]; exact h) (o.fn (by simpa using hc) x)
  · cases h
noncomputable def gNs : List Nat → TGs
  | [] => gNil
  | i :: is => gCons (gName i) (gNs is)
theorem chkNs_ok (o : Ok G j c X) : ∀ {is : List Nat} {es : List Expr}, chkNs c is es = true → PGs X es (gNs is) ∧ es.length = is.length
  | [], [], _ => ⟨pgs_nil, rfl⟩
  | [], _ :: _, h => by cases h
  | _ :: _, [], h => by cases h
  | i :: is, e :: es, h => by
    unfold chkNs at h
    simp only [Bool.and_eq_true] at h
    obtain ⟨h1, h2⟩ := h
    obtain ⟨p1, p2⟩ := chkNm_ok o h1
    obtain ⟨q1, q2⟩ := chkNs_ok o h2
    exact ⟨pgs_cons p1 q1 (by rw [asg_cons p2]; rfl), by simp [q2]⟩
theorem setNs_ok {w : Wd} {n : Nat} : ∀ {is : List Nat} {ds : List D} {vs : List V} {ρ ρ' : S3} {σ : _L2.St} {H : Hp} {Q : _L2.St → Hp → Prop}, DenL K w n ds vs → DenS K w n ρ σ → setNs is ds ρ = some ρ' → (∀ σ', DenS K w n ρ' σ' → Q σ' H) → gNs is vs σ H Q ∧ ds.length = is.length
  | [], [], vs, ρ, ρ', σ, H, Q, h, S, e, q => by
    unfold DenL at h
    cases e
    exact ⟨⟨h, q σ S⟩, rfl⟩
  | [], _ :: _, _, _, _, _, _, _, _, _, e, _ => by cases e
  | _ :: _, [], _, _, _, _, _, _, _, _, e, _ => by cases e
  | i :: is, d :: ds, vs, ρ, ρ', σ, H, Q, h, S, e, q => by
    unfold DenL at h
    obtain ⟨v, ws, rfl, h1, h2⟩ := h
    obtain ⟨g1, g2⟩ := setNs_ok (is := is) (H := H) (Q := Q) h2 (S.set h1 i) e q
    exact ⟨⟨v, ws, rfl, g1⟩, by simp [g2]⟩
noncomputable def gOf (K : PySem.W.Frag) : Tg → TG
  | .nm i => gName i
  | .tp is => gTup K is.length (gNs is)
theorem tg_snd (tg : Tg) : TgOk K tg (gOf K tg) := by
  intro w μ H ρ ρ' σ d v Q R S hd e q
  cases tg with
  | nm i =>
    cases e
    exact q _ (S.set hd i)
  | tp is =>
    cases d with
    | tup ds =>
      obtain ⟨a, xs, rfl, s1, l1⟩ := tup_sq R hd
      obtain ⟨g1, g2⟩ := setNs_ok (H := H) (Q := Q) l1 S e q
      exact ⟨a, xs, rfl, s1, by rw [← denL_len l1, g2], g1⟩
    | _ => cases e
theorem tg_ok {tg : Tg} {t : Expr} (o : Ok G j c X) (h : chkTg c tg t = true) : PG X t (gOf X.K tg) ∧ notStar t = true := by
  unfold chkTg at h
  split at h
  · exact chkNm_ok o h
  · rename_i is es k pos
    simp only [Bool.and_eq_true] at h
    obtain ⟨h1, h2⟩ := h
    obtain ⟨p1, p2⟩ := chkNs_ok o h1
    exact ⟨pg_tup o.calm p1 ((asg_len h2).1.trans p2) (asg_len h2).2, rfl⟩
  · cases h
theorem evL_nil : evL G [] = fun _ μ => .ok [] μ := rfl
theorem evL_cons {e : E} {es : List E} : evL G (e :: es) = fun ρ μ => ((ev G e).v ρ μ).bind fun d μ1 => (evL G es ρ μ1).bind fun ds μ2 => .ok (d :: ds) μ2 := rfl
theorem evTs_nil : evTs G [] = fun _ μ => .ok true μ := rfl
theorem evTs_one {e : E} : evTs G [e] = (ev G e).t := rfl
end
end _L3
set_option Elab.async false
set_option linter.all false
set_option maxRecDepth 100000
set_option maxHeartbeats 4000000
namespace _L3
open PySem PySem.Spec PyProof.Rows _L2
section
variable {K : PySem.W.Frag} {X : Cx} {G : List FnE} {j : Nat} {c : Stt}
theorem nmG_ok {f : Nat} {x : Str} (h : nmG G c f x = true) : ∃ g, G[f]? = some g ∧ g.name = x ∧ okGl c.sc x = true := by
  unfold nmG at h
  split at h
  · rename_i g hg
    simp only [Bool.and_eq_true, beq_iff_eq] at h
    exact ⟨g, hg, h.1, h.2⟩
  · cases h
theorem datG_of {f : Nat} {g : FnE} (h : G[f]? = some g) : datG G f = g.dat := by unfold datG; rw [h]; rfl
theorem look_den {wd : Wd} {n : Nat} (z : Str) : ∀ {kvs : List (Str × D)} {xs : List V}, DenL K wd n (kvs.map (·.2)) xs → (∀ d, lookD z kvs = some d → ∃ v, lookS ((kvs.map (·.1)).zip xs) z = some v ∧ Den K wd n d v) ∧ (lookD z kvs = none → lookS ((kvs.map (·.1)).zip xs) z = none)
  | [], xs, h => ⟨fun d e => (by cases e), fun _ => rfl⟩
  | p :: kvs, xs, h => by
    rw [List.map_cons] at h
    unfold DenL at h
    obtain ⟨v, ws, rfl, h1, h2⟩ := h
    obtain ⟨i1, i2⟩ := look_den z h2
    rw [List.map_cons, List.zip_cons_cons]
    by_cases c : p.1 = z
    · have a1 : lookD z (p :: kvs) = some p.2 := by unfold lookD; rw [if_pos c]
      have a2 : lookS ((p.1, v) :: (kvs.map (·.1)).zip ws) z = some v := by simp [lookS, List.find?_cons, c]
      rw [a1, a2]
      exact ⟨fun d e => by cases e; exact ⟨v, rfl, h1⟩, fun e => by cases e⟩
    · have a1 : lookD z (p :: kvs) = lookD z kvs := by rw [lookD, if_neg c]
      have a2 : lookS ((p.1, v) :: (kvs.map (·.1)).zip ws) z = lookS ((kvs.map (·.1)).zip ws) z := by simp [lookS, List.find?_cons, c]
      rw [a1, a2]
      exact ⟨i1, i2⟩
theorem snd_gl {f : Nat} {x : Str} {pos : Pos} (o : Ok G j c X) (h : nmG G c f x = true) : Snd G X (.gl f) (.Name x pos) := by
  obtain ⟨g, hg, rfl, hok⟩ := nmG_ok h
  have hv : PE X (.Name g.name pos) (T3E X.K (ev G (.gl f)).v) := by
    cases hd : g.dat with
    | none =>
      intro pins s σ H Q I hw
      obtain ⟨w, μ, ρ, d, μ', R, S, e, q⟩ := hw
      have e' : glD (datG G f) μ = .ok d μ' := e
      rw [datG_of hg, hd] at e'
      cases e'
    | some t =>
      cases t with
      | dct kvs =>
        intro pins s σ H Q I hw
        obtain ⟨w, μ, ρ, d, μ', R, S, e, q⟩ := hw
        have e' : glD (datG G f) μ = .ok d μ' := e
        rw [datG_of hg, hd] at e'
        cases e'
      | cst d0 =>
        obtain ⟨u, v, hm, rv, hden⟩ := o.dts f g _ hg hd
        refine imE (pek_glob (okGl_of o hok) hm rv) fun σ H Q => ?_
        rintro ⟨w, μ, ρ, d, μ', R, S, e, q⟩
        have e' : glD (datG G f) μ = .ok d μ' := e
        rw [datG_of hg, hd] at e'
        cases e'
        exact wish_here R q (hden _ _)
  exact ⟨hv, (snd_val hv rfl).1, (snd_val hv rfl).2⟩
theorem never_e {e : Expr} {t : TE} (h : ∀ σ H Q, ¬ t σ H Q) : PE X e t := fun pins s σ H Q I hw => (h σ H Q hw).elim
theorem snd_gget {f : Nat} {a d : E} {x : Str} {y z : Expr} {p apos cpos : Pos} (o : Ok G j c X) (h : nmG G c f x = true) (ha : Snd G X a y) (hd : Snd G X d z) (hp : plainBase (.Name x p) = true) (hst : noStars [y, z] = true) (hl : (apos.endLine == cpos.line) = true) :
    Snd G X (.gget f a d) (.Call (.Attribute (.Name x p) "get" apos) [y, z] [] cpos) := by
  obtain ⟨g, hg, rfl, hok⟩ := nmG_ok h
  have hv : PE X (.Call (.Attribute (.Name g.name p) "get" apos) [y, z] [] cpos) (T3E X.K (ev G (.gget f a d)).v) := by
    have bad : (∀ kvs, g.dat ≠ some (.dct kvs)) → PE X (.Call (.Attribute (.Name g.name p) "get" apos) [y, z] [] cpos) (T3E X.K (ev G (.gget f a d)).v) := fun hn => never_e fun σ H Q => by
      rintro ⟨w, μ, ρ, d0, μ', R, S, e, q⟩
      obtain ⟨d1, μ1, e1, e⟩ := Out.bind_ok e
      obtain ⟨d2, μ2, e2, e⟩ := Out.bind_ok e
      rw [datG_of hg] at e
      have hb : ggetD g.dat d1 d2 μ2 = .bad := by
        unfold ggetD
        cases hq : g.dat with
        | none => rfl
        | some t =>
          cases t with
          | cst _ => rfl
          | dct kvs => exact absurd hq (hn kvs)
      rw [hb] at e
      cases e
    cases hdt : g.dat with
    | none => exact bad fun kvs e => by rw [hdt] at e; cases e
    | some t =>
      cases t with
      | cst d0 => exact bad fun kvs e => by rw [hdt] at e; cases e
      | dct kvs =>
        obtain ⟨A, xs, hm, hmd, hden⟩ := o.dts f g _ hg hdt
        refine imE (qe_mdget ⟨pek_glob (v := .ref A) (okGl_of o hok) hm rfl⟩ ⟨ha.v⟩ ⟨hd.v⟩ hp hst hl).h fun σ H Q => ?_
        rintro ⟨w, μ, ρ, d0, μ', R, S, e, q⟩
        obtain ⟨d1, μ1, e1, e⟩ := Out.bind_ok e
        obtain ⟨d2, μ2, e2, e⟩ := Out.bind_ok e
        rw [datG_of hg, hdt] at e
        refine ⟨A, _, rfl, hmd, w, μ, ρ, d1, μ1, R, S, e1, fun w1 H1 v1 x1 R1 k1 => ⟨w1, μ1, ρ, d2, μ2, R1, S.mono x1, e2, fun w2 H2 v2 x2 R2 k2 => ?_⟩⟩
        cases d1 with
        | str zz =>
          have e' : Out.ok ((lookD zz kvs).getD d2) μ2 = .ok d0 μ' := e
          simp only [Out.ok.injEq] at e'
          obtain ⟨rfl, rfl⟩ := e'
          have k1' := k1
          unfold Den at k1'
          refine ⟨zz, k1', ?_⟩
          obtain ⟨l1, l2⟩ := look_den zz (hden w2 μ2.length)
          have q' : ∀ w' H' v, Ext w2 w' μ2.length μ2.length → Rep X.K w' μ2 H' → Den X.K w' μ2.length ((lookD zz kvs).getD d2) v → Q v H' := fun w3 H3 v x3 R3 d3 => q w3 H3 v ((x1.trans x2).trans x3) R3 d3
          cases hlk : lookD zz kvs with
          | none =>
            rw [hlk] at q'
            rw [l2 hlk]
            exact q' w2 H2 v2 (Ext.refl _ _) R2 k2
          | some dd =>
            rw [hlk] at q'
            obtain ⟨v, hv, hdv⟩ := l1 dd hlk
            rw [hv]
            exact q' w2 H2 v (Ext.refl _ _) R2 hdv
        | _ => cases e
  exact ⟨hv, (snd_val hv rfl).1, (snd_val hv rfl).2⟩
theorem snd_gin {neg : Bool} {f : Nat} {a : E} {y : Str} {x : Expr} {p pos : Pos} (o : Ok G j c X) (h : nmG G c f y = true) (ha : Snd G X a x) (hm : behindInMarks (if neg then .NotIn else .In) (.Name y p) = false) :
    Snd G X (.gin neg f a) (.Compare x [if neg then .NotIn else .In] [.Name y p] pos) := by
  obtain ⟨g, hg, rfl, hok⟩ := nmG_ok h
  have key : ∀ {σ : _L2.St} {H : Hp} {Q : VK}, T3E X.K (ev G (.gin neg f a)).v σ H Q → ∃ A xs kvs, g.dat = some (.dct kvs) ∧ X.mg g.name = some (.ref A) ∧ MD X.K X.w A xs ∧ tOp (rMdIn X.K X.w neg) (T3E X.K (ev G a).v) (tC (.ref A)) σ H Q := by
    rintro σ H Q ⟨w, μ, ρ, d0, μ', R, S, e, q⟩
    obtain ⟨d1, μ1, e1, e⟩ := Out.bind_ok e
    rw [datG_of hg] at e
    unfold ginD at e
    split at e
    · rename_i kvs z heq
      cases e
      obtain ⟨A, xs, hmA, hmd, hden⟩ := o.dts f g _ hg heq
      refine ⟨A, _, kvs, heq, hmA, hmd, w, μ, ρ, .str z, _, R, S, e1, fun w1 H1 v1 x1 R1 k1 => ⟨A, _, z, rfl, by unfold Den at k1; exact k1, hmd, ?_⟩⟩
      obtain ⟨l1, l2⟩ := look_den z (hden w1 0)
      have es : (lookS ((kvs.map (·.1)).zip xs) z).isSome = (lookD z kvs).isSome := by
        cases hlk : lookD z kvs with
        | none => rw [l2 hlk]; rfl
        | some dd =>
          obtain ⟨v, hv, _⟩ := l1 dd hlk
          rw [hv]
          rfl
      rw [es]
      exact q w1 H1 _ x1 R1 (by unfold Den; rfl)
    · cases e
  have hb : ∀ ρ μ d μ', (ev G (.gin neg f a)).v ρ μ = .ok d μ' → ∃ b, d = .bl b := by
    intro ρ μ d μ' e
    obtain ⟨d1, μ1, e1, e⟩ := Out.bind_ok e
    unfold ginD at e
    split at e
    · cases e; exact ⟨_, rfl⟩
    · cases e
  have opr : OpR X (compareOp (if neg then .NotIn else .In)) (rMdIn X.K X.w neg) := by
    cases neg
    · exact op_mdIn
    · exact op_mdNotIn
  refine ⟨fun pins s σ H Q I hw => ?_, fun _ pins s σ H Q I hw => ?_, fun h => by cases h⟩
  · obtain ⟨A, xs, kvs, _, hmA, _, t⟩ := key hw
    exact (qe_cmp opr ⟨ha.v⟩ ⟨pek_glob (v := .ref A) (okGl_of o hok) hmA rfl⟩ hm).h pins s σ H Q I t
  · obtain ⟨A, xs, kvs, _, hmA, _, t⟩ := key (t3_bl hb hw)
    exact (qt_cmp opr ⟨ha.v⟩ ⟨pek_glob (v := .ref A) (okGl_of o hok) hmA rfl⟩ hm).h pins s σ H Q I t
theorem snd_gix {f : Nat} {a : E} {x : Str} {y : Expr} {p pos : Pos} (o : Ok G j c X) (h : nmG G c f x = true) (ha : Snd G X a y) (hp : plainIx3 y = true) : Snd G X (.gix f a) (.Subscript (.Name x p) y pos) := by
  obtain ⟨g, hg, rfl, hok⟩ := nmG_ok h
  have hv : PE X (.Subscript (.Name g.name p) y pos) (T3E X.K (ev G (.gix f a)).v) := by
    intro pins s σ H Q I hw
    obtain ⟨w, μ, ρ, d0, μ', R, S, e, q⟩ := hw
    obtain ⟨d1, μ1, e1, e⟩ := Out.bind_ok e
    rw [datG_of hg] at e
    unfold gixD at e
    split at e
    · rename_i kvs z heq
      split at e
      · rename_i dd hlk
        cases e
        obtain ⟨A, xs, hmA, hmd, hden⟩ := o.dts f g _ hg heq
        refine pe_ix ix_md (pek_glob (v := .ref A) (okGl_of o hok) hmA rfl) ha.v (plainIx3_ok hp) pins s σ H Q I ?_
        refine ⟨w, μ, ρ, .str z, _, R, S, e1, fun w1 H1 v1 x1 R1 k1 => ?_⟩
        obtain ⟨v, hv, hdv⟩ := (look_den z (hden w1 μ'.length)).1 _ hlk
        exact ⟨A, _, z, v, rfl, by unfold Den at k1; exact k1, hmd, hv, q w1 H1 v x1 R1 hdv⟩
      · cases e
    · cases e
  exact ⟨hv, (snd_val hv rfl).1, (snd_val hv rfl).2⟩
end
end _L3
set_option Elab.async false
set_option linter.all false
set_option maxRecDepth 100000
set_option maxHeartbeats 4000000
namespace _L3
open PySem PySem.Spec PyProof.Rows _L2
section
variable {K : PySem.W.Frag} {X : Cx} {G : List FnE} {j : Nat} {c : Stt}
theorem it_ok {ik : IK} {es : List E} {tg it : Expr} {as : List Expr} (o : Ok G j c X) (h : itArgs c ik tg it = some as) (hA : PA X as (T3A X.K (evL G es))) (h1 : ∀ e a, es = [e] → as = [a] → PE X a (T3E X.K (ev G e).v)) (hl : es.length = as.length) : PI X tg it (T3I X.K ik (evL G es)) := by
  have e1 : ∀ e, (fun ρ μ => ((ev G e).v ρ μ).bind fun d μ1 => (Out.ok [] μ1).bind fun ds μ2 => Out.ok (d :: ds) μ2) = evL G [e] := fun e => rfl
  cases ik with
  | seq =>
    cases h
    obtain ⟨e0, rfl⟩ : ∃ e0, es = [e0] := List.length_eq_one_iff.mp hl
    rw [← e1]
    exact pi_seq3 (h1 e0 _ rfl rfl)
  | str =>
    cases h
    obtain ⟨e0, rfl⟩ : ∃ e0, es = [e0] := List.length_eq_one_iff.mp hl
    rw [← e1]
    exact pi_str3 (h1 e0 _ rfl rfl)
  | items =>
    simp only [itArgs] at h
    split at h
    · rename_i z n p q hx
      split at h
      · rename_i hc
        cases h
        have hx' := asMeth0_ok hx
        subst hx'
        simp only [Bool.and_eq_true, beq_iff_eq] at hc
        obtain ⟨⟨⟨rfl, c2⟩, c3⟩, c4⟩ := hc
        obtain ⟨e0, rfl⟩ : ∃ e0, es = [e0] := List.length_eq_one_iff.mp hl
        rw [← e1]
        cases tg with
        | Tuple elts k tp => exact pi_items3 c2 (by simpa using c3) (h1 e0 _ rfl rfl)
        | _ => cases c4
      · cases h
    · cases h
  | enm =>
    simp only [itArgs] at h
    split at h
    · rename_i x a hx
      split at h
      · rename_i hc
        cases h
        obtain ⟨p, q, rfl⟩ := asCall_ok hx
        simp only [Bool.and_eq_true, beq_iff_eq] at hc
        obtain ⟨⟨⟨rfl, c2⟩, c3⟩, c4⟩ := hc
        cases tg with
        | Tuple elts k tp => exact pi_enm3 (okGl_of o c2) (mg_of o (by decide +kernel)) hA c3
        | _ => cases c4
      · cases h
    · cases h
  | zip =>
    simp only [itArgs] at h
    split at h
    · rename_i x a b hx
      split at h
      · rename_i hc
        cases h
        obtain ⟨p, q, rfl⟩ := asCall_ok hx
        simp only [Bool.and_eq_true, beq_iff_eq] at hc
        obtain ⟨⟨⟨rfl, c2⟩, c3⟩, c4⟩ := hc
        cases tg with
        | Tuple elts k tp => exact pi_zip3 (okGl_of o c2) (mg_of o (by decide +kernel)) hA c3
        | _ => cases c4
      · cases h
    · cases h
  | rng1 =>
    simp only [itArgs] at h
    split at h
    · rename_i x a hx
      split at h
      · rename_i hc
        cases h
        obtain ⟨p, q, rfl⟩ := asCall_ok hx
        simp only [Bool.and_eq_true, beq_iff_eq] at hc
        obtain ⟨⟨rfl, c2⟩, c3⟩ := hc
        exact pi_rng1 (okGl_of o c2) (mg_of o (by decide +kernel)) hA c3
      · cases h
    · cases h
  | rng2 => cases h
theorem ok_inner {t : Expr} {scope : Scope} (o : Ok G j c X) (hnd : (innerN (tgNames t) c.N).Nodup) (C : Addr) (fp : List Addr) (s : Shared) (H : Hp) : Ok G j (innerC c t scope) (compCx X (innerN (tgNames t) c.N) scope C fp s H) where
  hN := rfl
  nd := hnd
  sc := by
    show relabel scope X.env = relabelS scope c.sc
    rw [relabel_S, o.sc]
  calm := o.calm
  room := o.room
  mg := o.mg
  fns := o.fns
  dts := o.dts
  fn := fun h => by cases h
structure CompOk (G : List FnE) (X : Cx) (tg : Tg) (ik : IK) (es ifs : List E) (elt : E) (own : List Str) (N' : List Str) (scope : Scope) (t it : Expr) (fs : List Expr) (el : Expr) : Prop where
  cs : CompScope X own N' scope
  hit : PI X t it (T3I X.K ik (evL G es))
  hg : ∀ C fp s H, PG (compCx X N' scope C fp s H) t (gOf X.K tg)
  ht : (∀ C fp s H, PTs (compCx X N' scope C fp s H) fs (T3T X.K (evTs G ifs)))
  he : ∀ C fp s H, PE (compCx X N' scope C fp s H) el (T3E X.K (ev G elt).v)
  ns : notSet it = true
theorem comp_t3 {m : Bool} {own : Nat} {tg : Tg} {g : TG} {ik : IK} {es ifs : List E} {elt : E} (hT : TgOk K tg g) {σ : _L2.St} {H : Hp} {Q : VK} : T3E K (ev G (.comp m own tg ik es ifs elt)).v σ H Q → tComp own (T3I K ik (evL G es)) g (T3T K (evTs G ifs)) (T3E K (ev G elt).v) σ H Q := by
  rintro ⟨w, μ, ρ, d, μ', R, S, e, q⟩
  obtain ⟨ds, μ1, e1, e⟩ := Out.bind_ok e
  split at e
  · rename_i xs hx
    split at e
    · rename_i hz
      obtain ⟨ys, μ2, e2, e3⟩ := Out.bind_ok e
      exact ⟨w, μ, ρ, ds, μ1, xs, R, S, e1, hx, fun w1 H1 J x1 R1 hJ => comp_snd hT R1 (S.mono x1) hJ hz e2 e3 fun w2 H2 v x2 R2 d2 => q w2 H2 v (x1.trans x2) R2 d2⟩
    · cases e
  · cases e
theorem snd_comp {m : Bool} {own : List Str} {tg : Tg} {ik : IK} {es ifs : List E} {elt : E} {N' : List Str} {scope : Scope} {t it el : Expr} {fs : List Expr} {pos : Pos} (o : Ok G j c X) (h : CompOk G X tg ik es ifs elt own N' scope t it fs el) : Snd G X (.comp m own.length tg ik es ifs elt) (.ListComp el [⟨t, it, fs, 0⟩] scope pos) := by
  have hv : PE X (.ListComp el [⟨t, it, fs, 0⟩] scope pos) (T3E X.K (ev G (.comp m own.length tg ik es ifs elt)).v) := imE (pe_comp o.calm h.cs h.hit h.hg h.ht h.he (notSet_ok h.ns)) fun σ H Q q => comp_t3 (tg_snd tg) q
  exact ⟨hv, (snd_val hv rfl).1, (snd_val hv rfl).2⟩
end
noncomputable def chkC (G : List FnE) (j : Nat) (own : Nat) (tg : Tg) (ik : IK) (es ifs : List E) (elt : E) (c : Stt) : Expr → Comprehension → Scope → Bool := fun el g scope => g.is_async == 0 && own == (tgNames g.target).length && csB' c.N c.sc (tgNames g.target) (innerN (tgNames g.target) c.N) scope && decide (innerN (tgNames g.target) c.N).Nodup && notSet g.iter && (match itArgs c ik g.target g.iter with
      | some as => chkL G j es c as
      | none => false) && chkTg (innerC c g.target scope) tg g.target && chkTs G j ifs (innerC c g.target scope) g.ifs && chk G j elt (innerC c g.target scope) el
section
variable {G : List FnE} {j : Nat}
mutual
theorem snd : ∀ (ir : E) {c : Stt} {X : Cx} {e : Expr}, Ok G j c X → chk G j ir c e = true → Snd G X ir e
  | .var i, c, X, e, o, h => snd_var o h
  | .cst d, c, X, e, o, h => snd_cst h
  | .bin op m a b, c, X, e, o, h => by
    have hh := inv_bin (P := fun x o y _ => o == op && chk G j a c x && chk G j b c y) h
    clear h
    obtain ⟨x, o', y, p, rfl, h⟩ := hh
    simp only [Bool.and_eq_true, beq_iff_eq] at h
    obtain ⟨⟨rfl, h1⟩, h2⟩ := h
    exact snd_bin (snd a o h1) (snd b o h2)
  | .neg _, c, X, e, o, h => by
    have h' : false = true := h
    cases h'
  | .not_ a, c, X, e, o, h => by
    have hh := inv_not (P := fun x => chk G j a c x && tst x) h
    clear h
    obtain ⟨x, p, rfl, h⟩ := hh
    simp only [Bool.and_eq_true] at h
    exact snd_not h.2 (snd a o h.1)
  | .and_ a b, c, X, e, o, h => by
    have hh := inv_and (P := fun x y => chk G j a c x && tst x && (chk G j b c y && tst y)) (R := fun x y z rest p => chk G j a c x && tst x && chk G j b c (.BoolOp .And (y :: z :: rest) p)) h
    clear h
    rcases hh with ⟨x, y, p, rfl, h⟩ | ⟨x, y, z, rest, p, rfl, h⟩
    · simp only [Bool.and_eq_true] at h
      exact snd_and2 h.1.2 h.2.2 (snd a o h.1.1) (snd b o h.2.1)
    · simp only [Bool.and_eq_true] at h
      exact snd_and3 h.1.2 (snd a o h.1.1) (snd b o h.2)
  | .or_ a b, c, X, e, o, h => by
    have hh := inv_or (P := fun x y => chk G j a c x && tst x && (chk G j b c y && tst y)) (R := fun x y z rest p => chk G j a c x && tst x && chk G j b c (.BoolOp .Or (y :: z :: rest) p)) h
    clear h
    rcases hh with ⟨x, y, p, rfl, h⟩ | ⟨x, y, z, rest, p, rfl, h⟩
    · simp only [Bool.and_eq_true] at h
      exact snd_or2 h.1.2 h.2.2 (snd a o h.1.1) (snd b o h.2.1)
    · simp only [Bool.and_eq_true] at h
      exact snd_or3 h.1.2 (snd a o h.1.1) (snd b o h.2)
  | .cmp op a b, c, X, e, o, h => by
    have hh := inv_cmp (P := fun x o y => o == op && chk G j a c x && chk G j b c y && !(behindInMarks o y)) h
    clear h
    obtain ⟨x, o', y, p, rfl, h⟩ := hh
    simp only [Bool.and_eq_true, beq_iff_eq, Bool.not_eq_true'] at h
    obtain ⟨⟨⟨rfl, h1⟩, h2⟩, h3⟩ := h
    exact snd_cmp o h3 (snd a o h1) (snd b o h2)
  | .chain o1 o2 a b d, c, X, e, o, h => by
    have hh := inv_chain (P := fun x p q y z => p == o1 && q == o2 && chk G j a c x && chk G j b c y && chk G j d c z && !(lastMarks [p, q] [y, z])) h
    clear h
    obtain ⟨x, p, q, y, z, r, rfl, h⟩ := hh
    simp only [Bool.and_eq_true, beq_iff_eq, Bool.not_eq_true'] at h
    obtain ⟨⟨⟨⟨⟨rfl, rfl⟩, h1⟩, h2⟩, h3⟩, h4⟩ := h
    exact snd_chain o h4 (snd a o h1) (snd b o h2) (snd d o h3)
  | .isN _, c, X, e, o, h => by
    have h' : false = true := h
    cases h'
  | .notN _, c, X, e, o, h => by
    have h' : false = true := h
    cases h'
  | .ife k a b, c, X, e, o, h => by
    have hh := inv_ife (P := fun z x y => chk G j k c z && tst z && chk G j a c x && chk G j b c y) h
    clear h
    obtain ⟨z, x, y, p, rfl, h⟩ := hh
    simp only [Bool.and_eq_true] at h
    obtain ⟨⟨⟨h1, h2⟩, h3⟩, h4⟩ := h
    exact snd_ife h2 (snd k o h1) (snd a o h3) (snd b o h4)
  | .tup es, c, X, e, o, h => by
    have hh := inv_tup (P := fun xs => chkL G j es c xs && noStars xs) h
    clear h
    obtain ⟨xs, k, p, rfl, h⟩ := hh
    simp only [Bool.and_eq_true] at h
    exact snd_tupE (sndL es o h.1).1
  | .lst m es, c, X, e, o, h => by
    have hh := inv_lst (P := fun xs => chkL G j es c xs && noStars xs) h
    clear h
    obtain ⟨xs, p, rfl, h⟩ := hh
    simp only [Bool.and_eq_true] at h
    exact snd_lstE (sndL es o h.1).1
  | .ix a b, c, X, e, o, h => by
    have hh := inv_sub (P := fun x y => chk G j a c x && chk G j b c y && plainIx3 y) h
    clear h
    obtain ⟨x, y, p, rfl, h⟩ := hh
    simp only [Bool.and_eq_true] at h
    exact snd_ix o h.2 (snd a o h.1.1) (snd b o h.1.2)
  | .sl m a lo hi, c, X, e, o, h => by
    have hh := inv_sl (P := fun x l u => chk G j a c x && chkL G j lo c l.toList && chkL G j hi c u.toList) h
    clear h
    obtain ⟨x, l, u, p, q, rfl, h⟩ := hh
    simp only [Bool.and_eq_true] at h
    obtain ⟨⟨h1, h2⟩, h3⟩ := h
    have k1 := sndL lo o h2
    have k2 := sndL hi o h3
    exact snd_sl (snd a o h1) (po_of (fun e x e1 e2 => k1.2.1 e x e1 (by rw [e2]; rfl)) k1.2.2) (po_of (fun e x e1 e2 => k2.2.1 e x e1 (by rw [e2]; rfl)) k2.2.2)
  | .stp m a lo st, c, X, e, o, h => by
    have h' : (match asStep e with
      | some (x, l, s) => chk G j a c x && chkL G j lo c [l] && chkL G j st c [s]
      | none => false) = true := h
    clear h
    split at h'
    · rename_i x l s hx
      obtain ⟨p, q, rfl⟩ := asStep_ok hx
      simp only [Bool.and_eq_true] at h'
      obtain ⟨⟨h1, h2⟩, h3⟩ := h'
      have k1 := sndL lo o h2
      have k2 := sndL st o h3
      exact snd_stp (snd a o h1) (po_of (fun e x e1 e2 => k1.2.1 e x e1 (by cases e2; rfl)) k1.2.2) (po_of (fun e x e1 e2 => k2.2.1 e x e1 (by cases e2; rfl)) k2.2.2)
    · cases h'
  | .fld a f, c, X, e, o, h => by
    have h' : false = true := h
    cases h'
  | .call f md es, c, X, e, o, h => by
    have hh := inv_call (P := fun x _ y ys _ => (match G[f]? with
      | some g => g.name == x && okGl c.sc x && es.length == g.ps.length && decide (g.lv ≤ j)
      | none => false) && chkL G j es c (y :: ys) && noStars (y :: ys)) h
    clear h
    obtain ⟨x, q, y, ys, p, rfl, h⟩ := hh
    simp only [Bool.and_eq_true] at h
    obtain ⟨⟨h1, h2⟩, h3⟩ := h
    split at h1
    · rename_i g hg
      simp only [Bool.and_eq_true, beq_iff_eq, decide_eq_true_eq] at h1
      obtain ⟨⟨⟨a1, a2⟩, a3⟩, a4⟩ := h1
      exact snd_call o hg a1 a2 a3 a4 h3 (sndL es o h2).1
    · cases h1
  | .bi b m es, c, X, e, o, h => by
    have hh := inv_call (P := fun x _ y ys _ => biName b == x && okGl c.sc x && noStars (y :: ys) && (match biArgs c b (y :: ys) with
      | some as => chkL G j es c as
      | none => false)) h
    clear h
    obtain ⟨x, q, y, ys, p, rfl, h⟩ := hh
    simp only [Bool.and_eq_true, beq_iff_eq] at h
    obtain ⟨⟨⟨h1, h2⟩, h3⟩, h4⟩ := h
    split at h4
    · rename_i as ha
      have k := sndL es o h4
      exact snd_bi o h1 h2 h3 ha k.1 k.2.1 k.2.2
    · cases h4
  | .mt b ob es, c, X, e, o, h => by
    have hh := inv_mt (P := fun z n q y ys p => mtName b == n && chk G j ob c z && plainBase z && noStars (y :: ys) && decide (ys.length < 28) && (q.endLine == p.line) && chkL G j es c (y :: ys)) h
    clear h
    obtain ⟨z, n, q, y, ys, p, rfl, h⟩ := hh
    simp only [Bool.and_eq_true, beq_iff_eq, decide_eq_true_eq] at h
    obtain ⟨⟨⟨⟨⟨⟨rfl, h1⟩, h2⟩, h3⟩, h4⟩, h5⟩, h6⟩ := h
    exact snd_mt o (snd ob o h1) h2 h3 h4 (by simpa using h5) (sndL es o h6).1
  | .comp m own tg ik es ifs elt, c, X, e, o, h => by
    have hh := inv_comp (P := chkC G j own tg ik es ifs elt c) h
    clear h
    obtain ⟨el, g, scope, p, rfl, h⟩ := hh
    obtain ⟨t, it, fs, kk⟩ := g
    simp only [chkC, Bool.and_eq_true, beq_iff_eq, decide_eq_true_eq] at h
    obtain ⟨⟨⟨⟨⟨⟨⟨⟨rfl, rfl⟩, h1⟩, h2⟩, h3⟩, h4⟩, h5⟩, h6⟩, h7⟩ := h
    split at h4
    · rename_i as ha
      have k := sndL es o h4
      have oi := ok_inner (t := t) (scope := scope) o h2
      exact snd_comp o ⟨csk (by rw [o.hN, o.sc]; exact h1), it_ok o ha k.1 k.2.1 k.2.2, fun C fp s H => (tg_ok (oi C fp s H) h5).1, fun C fp s H => sndT ifs (oi C fp s H) h6, fun C fp s H => (snd elt (oi C fp s H) h7).v, h3⟩
    · cases h4
  | .gl f, c, X, e, o, h => by
    have hh := inv_name (P := fun x _ => nmG G c f x) h
    clear h
    obtain ⟨x, p, rfl, h⟩ := hh
    exact snd_gl o h
  | .gget f a d, c, X, e, o, h => by
    have hh := inv_mt (P := fun z0 name apos y ys cpos => name == "get" && (match asName z0, ys with
      | some x, [z] => nmG G c f x && chk G j d c z && noStars [y, z]
      | _, _ => false) && chk G j a c y && plainBase z0 && (apos.endLine == cpos.line)) h
    clear h
    obtain ⟨z, n, q, y, ys, p, rfl, h⟩ := hh
    simp only [Bool.and_eq_true, beq_iff_eq] at h
    obtain ⟨⟨⟨⟨rfl, h1⟩, h2⟩, h4⟩, h6⟩ := h
    split at h1
    · rename_i x z' hx
      obtain ⟨p', rfl⟩ := asName_ok hx
      simp only [Bool.and_eq_true] at h1
      exact snd_gget o h1.1.1 (snd a o h2) (snd d o h1.1.2) h4 h1.2 (by simpa using h6)
    · cases h1
  | .gin neg f a, c, X, e, o, h => by
    have hh := inv_cmp (P := fun x o z => o == (if neg then .NotIn else .In) && (match asName z with
      | some y => nmG G c f y
      | none => false) && chk G j a c x && !(behindInMarks o z)) h
    clear h
    obtain ⟨x, o', z, p, rfl, h⟩ := hh
    simp only [Bool.and_eq_true, beq_iff_eq, Bool.not_eq_true'] at h
    obtain ⟨⟨⟨rfl, h1⟩, h2⟩, h3⟩ := h
    split at h1
    · rename_i y hy
      obtain ⟨p', rfl⟩ := asName_ok hy
      exact snd_gin o h1 (snd a o h2) h3
    · cases h1
  | .gix f a, c, X, e, o, h => by
    have hh := inv_sub (P := fun z y => (match asName z with
      | some x => nmG G c f x
      | none => false) && chk G j a c y && plainIx3 y) h
    clear h
    obtain ⟨z, y, p, rfl, h⟩ := hh
    simp only [Bool.and_eq_true] at h
    obtain ⟨⟨h1, h2⟩, h3⟩ := h
    split at h1
    · rename_i x hx
      obtain ⟨p', rfl⟩ := asName_ok hx
      exact snd_gix o h1 (snd a o h2) h3
    · cases h1
theorem sndT : ∀ (ifs : List E) {c : Stt} {X : Cx} {xs : List Expr}, Ok G j c X → chkTs G j ifs c xs = true → PTs X xs (T3T X.K (evTs G ifs))
  | [], c, X, xs, o, h => by
    cases xs with
    | nil =>
      intro pins s σ H Q I hw
      refine pts_nil pins s σ H Q I ?_
      rw [evTs_nil] at hw
      obtain ⟨w, μ, ρ, b, μ', R, S, e, q⟩ := hw
      cases e
      exact q w H (Ext.refl _ _) R
    | cons x xs => have h' : false = true := h; cases h'
  | [e], c, X, xs, o, h => by
    match xs, h with
    | [x], h =>
      have h : (chk G j e c x && tst x) = true := h
      simp only [Bool.and_eq_true] at h
      rw [evTs_one]
      exact pts_one ((snd e o h.1).t h.2)
    | [], h => have h' : false = true := h; cases h'
    | _ :: _ :: _, h => have h' : false = true := h; cases h'
  | e :: e' :: es, c, X, xs, o, h => by
    cases xs <;> (have h' : false = true := h; cases h')
theorem sndL : ∀ (es : List E) {c : Stt} {X : Cx} {xs : List Expr}, Ok G j c X → chkL G j es c xs = true → PA X xs (T3A X.K (evL G es)) ∧ (∀ e a, es = [e] → xs = [a] → PE X a (T3E X.K (ev G e).v)) ∧ es.length = xs.length
  | [], c, X, xs, o, h => by
    cases xs with
    | nil => exact ⟨imA pa_nil fun σ H Q q => t3_nil (by rw [evL_nil] at q; exact q), (fun e a h => by cases h), rfl⟩
    | cons x xs => have h' : false = true := h; cases h'
  | e :: es, c, X, xs, o, h => by
    cases xs with
    | nil => have h' : false = true := h; cases h'
    | cons x xs =>
      have h : (chk G j e c x && notStar x && chkL G j es c xs) = true := h
      simp only [Bool.and_eq_true] at h
      have k1 := snd e o h.1.1
      have k2 := sndL es o h.2
      exact ⟨imA (pac k1.v k2.1 h.1.2) fun σ H Q q => t3_cons (by rw [evL_cons] at q; exact q), (fun e' a h1 h2 => by cases h1; cases h2; exact k1.v), by simp [k2.2.2]⟩
end
end
end _L3
set_option Elab.async false
set_option linter.all false
set_option maxRecDepth 100000
set_option maxHeartbeats 4000000
namespace _L3
open PySem PySem.Spec PyProof.Rows _L2
noncomputable def isTuple : Expr → Bool
  | .Tuple .. => true
  | _ => false
noncomputable def swapB (sc : Scope) (y : Str) (py : Pos) (v : Expr) : Bool :=
  match v with
  | .ListComp _ _ s p => sc.names.lookup y == some .local && py.line == p.line && !(s.names.any fun (n, k) => n == y && (k == .local || k == .cell))
  | _ => false
noncomputable def tgV (tg : Tg) (v : Expr) : Bool :=
  match tg with
  | .nm _ => true
  | .tp _ => notComp v && !(isTuple v)
noncomputable def isComp : E → Bool
  | .comp .. => true
  | _ => false
noncomputable def compB (e : E) (v : Expr) : Bool := isComp e || notComp v
section
variable (G : List FnE) (j : Nat)
mutual
noncomputable def chkS : S → Stt → Stmt → Bool
  | .asg tg e, c, st => match st with
    | .Assign [t] v _ => chk G j e c v && chkTg c tg t && !c.cmp && tgV tg v && compB e v
    | _ => false
  | .setF _ _ _, _, _ => false
  | .setI _ _ _, _, _ => false
  | .ex e, c, st => match st with
    | .Expr v _ => chk G j e c v && notComp v
    | _ => false
  | .ite k a b, c, st => match st with
    | .If x ss tt _ => chk G j k c x && tst x && chkSs a c ss && chkSs b c tt
    | _ => false
  | .for_ tg ik es body _, c, st => match st with
    | .For t it ss [] _ => notSet it && (match itArgs c ik t it with
      | some as => chkL G j es c as
      | none => false) && chkTg c tg t && chkSs body c ss
    | _ => false
  | .ret e, c, st => match st with
    | .Return (some v) _ => chk G j e c v
    | _ => false
  | .retN, _, st => match st with
    | .Return none _ => true
    | _ => false
  | .pass, _, st => match st with
    | .Pass _ => true
    | _ => false
  | .never, _, _ => true
noncomputable def chkSs : List S → Stt → List Stmt → Bool
  | [], _, [] => true
  | s :: ss, c, t :: ts => chkS s c t && chkSs ss c ts
  | _, _, _ => false
end
end
theorem inv_asg {P : Expr → Expr → Pos → Bool} {e : Stmt} (h : (match e with
    | .Assign [t] v p => P t v p
    | _ => false) = true) : ∃ t v p, e = .Assign [t] v p ∧ P t v p = true := by
  split at h
  · exact ⟨_, _, _, rfl, h⟩
  · cases h
theorem inv_ex {P : Expr → Bool} {e : Stmt} (h : (match e with
    | .Expr v _ => P v
    | _ => false) = true) : ∃ v p, e = .Expr v p ∧ P v = true := by
  split at h
  · exact ⟨_, _, rfl, h⟩
  · cases h
theorem inv_if {P : Expr → List Stmt → List Stmt → Bool} {e : Stmt} (h : (match e with
    | .If x ss tt _ => P x ss tt
    | _ => false) = true) : ∃ x ss tt p, e = .If x ss tt p ∧ P x ss tt = true := by
  split at h
  · exact ⟨_, _, _, _, rfl, h⟩
  · cases h
theorem inv_for {P : Expr → Expr → List Stmt → Bool} {e : Stmt} (h : (match e with
    | .For t it ss [] _ => P t it ss
    | _ => false) = true) : ∃ t it ss p, e = .For t it ss [] p ∧ P t it ss = true := by
  split at h
  · exact ⟨_, _, _, _, rfl, h⟩
  · cases h
theorem inv_ret {P : Expr → Bool} {e : Stmt} (h : (match e with
    | .Return (some v) _ => P v
    | _ => false) = true) : ∃ v p, e = .Return (some v) p ∧ P v = true := by
  split at h
  · exact ⟨_, _, rfl, h⟩
  · cases h
theorem inv_retN {e : Stmt} (h : (match e with
    | .Return none _ => true
    | _ => false) = true) : ∃ p, e = .Return none p := by
  split at h
  · exact ⟨_, rfl⟩
  · cases h
theorem inv_pass {e : Stmt} (h : (match e with
    | .Pass _ => true
    | _ => false) = true) : ∃ p, e = .Pass p := by
  split at h
  · exact ⟨_, rfl⟩
  · cases h
structure OkS (G : List FnE) (j : Nat) (c : Stt) (X : Cx) : Prop extends Ok G j c X where
  pass : PassesOwn (model X.prog X.w) X.A X.env X.xe
  kd : c.sc.kind = .function
section
variable {K : PySem.W.Frag} {X : Cx} {G : List FnE} {j : Nat} {c : Stt}
theorem t3_asg {tg : Tg} {e : E} {te : TE} {g : TG} (hT : TgOk K tg g) (he : ∀ σ H Q, T3E K (ev G e).v σ H Q → te σ H Q) {E : Ends} {σ : _L2.St} {H : Hp} : T3S K (run G (.asg tg e)) E σ H → tAsg te g E σ H := by
  rintro ⟨w, μ, ρ, fl, μ', R, S, e1, q⟩
  obtain ⟨d, μ1, e2, e1⟩ := Out.bind_ok e1
  refine he σ H _ ⟨w, μ, ρ, d, μ1, R, S, e2, fun w1 H1 v x1 R1 d1 => ?_⟩
  split at e1
  · rename_i ρ1 ha
    cases e1
    exact hT w1 _ H1 ρ ρ1 σ d v E.nx R1 (S.mono x1) d1 ha fun σ' S' => q w1 H1 x1 R1 σ' S'
  · cases e1
theorem swaps_eq {sc : Scope} {y : Str} {py p : Pos} {el : Expr} {gs : List Comprehension} {s : Scope} {l : Nat} (hs : X.env.scope = sc) (hk : sc.kind = .function) : swapsWith (.ListComp el gs s p) (some (.Name y py)) l X.env = pure (swapB sc y py (.ListComp el gs s p)) := by
  have hb : X.env.blockKind = .function := by
    unfold Env.blockKind
    rw [hs, hk]
    rfl
  have hq : X.env.kindOf y = sc.names.lookup y := by
    rw [← hs]
    rfl
  show (pure (X.env.blockKind == .function && X.env.kindOf y == some .local && py.line == p.line && !(s.names.any fun (n, k) => n == y && (k == .local || k == .cell))) : Sem Bool) = _
  rw [hb, hq]
  rfl
theorem stores_tup {es : List Expr} {k : Nat} {p : Pos} {v : Expr} {env : Env} (h : isTuple v = false) : swappedStores [.Tuple es k p] v env = pure none := by
  cases v <;> first | rfl | cases h
theorem snd_asg {tg : Tg} {e : E} {t v : Expr} {pos : Pos} (o : OkS G j c X) (he : chk G j e c v = true) (ht : chkTg c tg t = true) (hcm : c.cmp = false) (hx : tgV tg v = true) (hcp : compB e v = true) : PS X (.Assign [t] v pos) (T3S X.K (run G (.asg tg e))) := by
  have k := snd e o.toOk he
  obtain ⟨hg, hst⟩ := tg_ok o.toOk ht
  cases tg with
  | tp is =>
    simp only [tgV, Bool.and_eq_true, Bool.not_eq_true'] at hx
    have hst2 : swappedStores [t] v X.env = pure none := by
      cases t with
      | Tuple es k p => exact stores_tup hx.2
      | _ => cases ht
    exact imS (ps_asg k.v hg (show swapsWith v (some t) pos.line X.env = pure false from notComp_ok hx.1) hst2 (by rw [asg_cons hst]; rfl)) fun E σ H q => t3_asg (tg_snd _) (fun _ _ _ q => q) q
  | nm i =>
    have ht' : chkNm c i t = true := ht
    unfold chkNm at ht'
    split at ht'
    · rename_i x px
      rw [hcm] at ht'
      have hok : okSet c.N c.sc i x = true := ht'
      have hok' : okSet X.N X.env.scope i x = true := by rw [o.hN, o.sc]; exact hok
      have hnd : X.N.Nodup := by rw [o.hN]; exact o.nd
      have hfn : X.fn x = true := o.fn hcm x
      cases hI : isComp e with
      | false =>
        have hc : notComp v = true := by simpa [compB, hI] using hcp
        exact imS (psk_set hnd hok' k.v hc hfn) fun E σ H q => t3_asg (g := gName i) (tg_snd (.nm i)) (fun _ _ _ q => q) q
      | true =>
        cases e with
        | comp m own tg' ik es ifs elt =>
          have hh := inv_comp (P := chkC G j own tg' ik es ifs elt c) he
          clear he
          obtain ⟨el, g, s, p, rfl, he⟩ := hh
          obtain ⟨t', it, fs, kk⟩ := g
          simp only [chkC, Bool.and_eq_true, beq_iff_eq, decide_eq_true_eq] at he
          obtain ⟨⟨⟨⟨⟨⟨⟨⟨rfl, rfl⟩, h1⟩, h2⟩, h3⟩, h4⟩, h5⟩, h6⟩, h7⟩ := he
          · have hs := swaps_eq (X := X) (sc := c.sc) (y := x) (py := px) (p := p) (el := el) (gs := [⟨t', it, fs, 0⟩]) (s := s) (l := pos.line) o.sc o.kd
            cases hsw : swapB c.sc x px (.ListComp el [⟨t', it, fs, 0⟩] s p) with
            | false =>
              rw [hsw] at hs
              exact imS (ps_set hnd (okSet_get hok').1 (okSet_get hok').2 k.v hs (.inl hfn)) fun E σ H q => t3_asg (g := gName i) (tg_snd (.nm i)) (fun _ _ _ q => q) q
            | true =>
              rw [hsw] at hs
              split at h4
              · rename_i as ha
                have kk := sndL es o.toOk h4
                have oi := ok_inner (t := t') (scope := s) o.toOk h2
                exact imS (ps_setcomp hnd (okSet_get hok').1 (okSet_get hok').2 o.calm (csk (by rw [o.hN, o.sc]; exact h1)) (it_ok o.toOk ha kk.1 kk.2.1 kk.2.2) (fun C fp s H => (tg_ok (oi C fp s H) h5).1) (fun C fp s H => sndT ifs (oi C fp s H) h6) (fun C fp s H => (snd elt (oi C fp s H) h7).v) hs (notSet_ok h3) (.inl hfn))
                  fun E σ H q => t3_asg (g := gName i) (tg_snd (.nm i)) (fun _ _ _ q => comp_t3 (tg_snd tg') q) q
              · cases h4
        | _ => cases hI
    · cases ht'
theorem snd_ex {e : E} {v : Expr} {pos : Pos} (o : OkS G j c X) (he : chk G j e c v = true) (hc : notComp v = true) : PS X (.Expr v pos) (T3S X.K (run G (.ex e))) := by
  refine imS (ps_expr (snd e o.toOk he).v (notComp_ok hc)) fun E σ H => ?_
  rintro ⟨w, μ, ρ, fl, μ', R, S, e1, q⟩
  obtain ⟨d, μ1, a1, e1⟩ := Out.bind_ok e1
  cases e1
  exact ⟨w, μ, ρ, d, _, R, S, a1, fun w1 H1 v1 x1 R1 k1 => q w1 H1 x1 R1 σ (S.mono x1)⟩
theorem snd_ret {e : E} {v : Expr} {pos : Pos} (o : OkS G j c X) (he : chk G j e c v = true) : PS X (.Return (some v) pos) (T3S X.K (run G (.ret e))) := by
  refine imS (ps_ret (snd e o.toOk he).v) fun E σ H => ?_
  rintro ⟨w, μ, ρ, fl, μ', R, S, e1, q⟩
  obtain ⟨d, μ1, a1, e1⟩ := Out.bind_ok e1
  cases e1
  exact ⟨w, μ, ρ, d, _, R, S, a1, fun w1 H1 v1 x1 R1 k1 => q w1 H1 x1 R1 v1 k1⟩
theorem snd_ite {k : E} {a b : List S} {x : Expr} {ss tt : List Stmt} {pos : Pos} (o : OkS G j c X) (hk : chk G j k c x = true) (ht : tst x = true) (ha : PSs X ss (T3S X.K (runs G a))) (hb : PSs X tt (T3S X.K (runs G b))) : PS X (.If x ss tt pos) (T3S X.K (run G (.ite k a b))) := by
  refine imS (ps_if ((snd k o.toOk hk).t ht) ha hb) fun E σ H => ?_
  rintro ⟨w, μ, ρ, fl, μ', R, S, e1, q⟩
  obtain ⟨b', μ1, a1, e1⟩ := Out.bind_ok e1
  refine ⟨w, μ, ρ, b', μ1, R, S, a1, fun w1 H1 x1 R1 => ?_⟩
  dsimp only
  cases b' with
  | true =>
    rw [if_pos rfl] at e1 ⊢
    exact ⟨w1, μ1, ρ, fl, μ', R1, S.mono x1, e1, fun w2 H2 x2 R2 => q w2 H2 (x1.trans x2) R2⟩
  | false =>
    rw [if_neg Bool.false_ne_true] at e1 ⊢
    exact ⟨w1, μ1, ρ, fl, μ', R1, S.mono x1, e1, fun w2 H2 x2 R2 => q w2 H2 (x1.trans x2) R2⟩
theorem snd_for {tg : Tg} {ik : IK} {es : List E} {body : List S} {fg : List Nat} {t it : Expr} {as : List Expr} {ss : List Stmt} {pos : Pos} (o : OkS G j c X) (hn : notSet it = true) (hi : itArgs c ik t it = some as) (hes : chkL G j es c as = true) (ht : chkTg c tg t = true) (hb : PSs X ss (T3S X.K (runs G body))) : PS X (.For t it ss [] pos) (T3S X.K (run G (.for_ tg ik es body fg))) := by
  have k := sndL es o.toOk hes
  refine imS (ps_for o.pass o.calm (it_ok o.toOk hi k.1 k.2.1 k.2.2) (tg_ok o.toOk ht).1 hb (notSet_ok hn)) fun E σ H => ?_
  rintro ⟨w, μ, ρ, fl, μ', R, S, e1, q⟩
  obtain ⟨ds, μ1, a1, e1⟩ := Out.bind_ok e1
  split at e1
  · rename_i xs hx
    exact ⟨w, μ, ρ, ds, μ1, xs, R, S, a1, hx, fun w1 H1 J x1 R1 hJ => for_snd (tg_snd tg) R1 (S.mono x1) hJ e1 fun w2 H2 x2 R2 => q w2 H2 (x1.trans x2) R2⟩
  · cases e1
theorem snd_seq {s : S} {ss : List S} {st : Stmt} {sts : List Stmt} (h1 : PS X st (T3S X.K (run G s))) (h2 : PSs X sts (T3S X.K (runs G ss))) : PSs X (st :: sts) (T3S X.K (runs G (s :: ss))) := by
  refine imSs (pss_cons h1 h2) fun E σ H => ?_
  rintro ⟨w, μ, ρ, fl, μ', R, S, e1, q⟩
  replace e1 : (match run G s ρ μ with
    | .ok (.nx ρ1) μ1 => runs G ss ρ1 μ1
    | r => r) = .ok fl μ' := e1
  cases e2 : run G s ρ μ with
  | exc x μ1 => rw [e2] at e1; cases e1
  | bad => rw [e2] at e1; cases e1
  | ok f1 μ1 =>
    rw [e2] at e1
    refine ⟨w, μ, ρ, f1, μ1, R, S, e2, fun w1 H1 x1 R1 => ?_⟩
    cases f1 with
    | nx ρ1 =>
      intro σ1 S1
      exact ⟨w1, μ1, ρ1, fl, μ', R1, S1, e1, fun w2 H2 x2 R2 => q w2 H2 (x1.trans x2) R2⟩
    | rt d =>
      cases e1
      exact q w1 H1 x1 R1
end
section
variable {G : List FnE} {j : Nat}
mutual
theorem sndS : ∀ (s : S) {c : Stt} {X : Cx} {st : Stmt}, OkS G j c X → chkS G j s c st = true → PS X st (T3S X.K (run G s))
  | .asg tg e, c, X, st, o, h => by
    have hh := inv_asg (P := fun t v _ => chk G j e c v && chkTg c tg t && !c.cmp && tgV tg v && compB e v) h
    clear h
    obtain ⟨t, v, p, rfl, h⟩ := hh
    simp only [Bool.and_eq_true, Bool.not_eq_true'] at h
    exact snd_asg o h.1.1.1.1 h.1.1.1.2 h.1.1.2 h.1.2 h.2
  | .setF _ _ _, c, X, st, o, h => by
    have h' : false = true := h
    cases h'
  | .setI _ _ _, c, X, st, o, h => by
    have h' : false = true := h
    cases h'
  | .ex e, c, X, st, o, h => by
    have hh := inv_ex (P := fun v => chk G j e c v && notComp v) h
    clear h
    obtain ⟨v, p, rfl, h⟩ := hh
    simp only [Bool.and_eq_true] at h
    exact snd_ex o h.1 h.2
  | .ite k a b, c, X, st, o, h => by
    have hh := inv_if (P := fun x ss tt => chk G j k c x && tst x && chkSs G j a c ss && chkSs G j b c tt) h
    clear h
    obtain ⟨x, ss, tt, p, rfl, h⟩ := hh
    simp only [Bool.and_eq_true] at h
    obtain ⟨⟨⟨h1, h2⟩, h3⟩, h4⟩ := h
    exact snd_ite o h1 h2 (sndSs a o h3) (sndSs b o h4)
  | .for_ tg ik es body fg, c, X, st, o, h => by
    have hh := inv_for (P := fun t it ss => notSet it && (match itArgs c ik t it with
      | some as => chkL G j es c as
      | none => false) && chkTg c tg t && chkSs G j body c ss) h
    clear h
    obtain ⟨t, it, ss, p, rfl, h⟩ := hh
    simp only [Bool.and_eq_true] at h
    obtain ⟨⟨⟨h1, h2⟩, h3⟩, h4⟩ := h
    split at h2
    · rename_i as ha
      exact snd_for o h1 ha h2 h3 (sndSs body o h4)
    · cases h2
  | .ret e, c, X, st, o, h => by
    have hh := inv_ret (P := fun v => chk G j e c v) h
    clear h
    obtain ⟨v, p, rfl, h⟩ := hh
    exact snd_ret o h
  | .retN, c, X, st, o, h => by
    have hh := inv_retN h
    clear h
    obtain ⟨p, rfl⟩ := hh
    refine imS ps_retN fun E σ H => ?_
    rintro ⟨w, μ, ρ, fl, μ', R, S, e1, q⟩
    have e2 : Out.ok (Fl.rt D.non) μ = .ok fl μ' := e1
    cases e2
    exact q w H (Ext.refl _ _) R .non (by unfold Den; rfl)
  | .pass, c, X, st, o, h => by
    have hh := inv_pass h
    clear h
    obtain ⟨p, rfl⟩ := hh
    refine imS ps_pass fun E σ H => ?_
    rintro ⟨w, μ, ρ, fl, μ', R, S, e1, q⟩
    have e2 : Out.ok (Fl.nx ρ) μ = .ok fl μ' := e1
    cases e2
    exact q w H (Ext.refl _ _) R σ S
  | .never, c, X, st, o, h => by
    refine imS ps_never fun E σ H => ?_
    rintro ⟨w, μ, ρ, fl, μ', R, S, e1, q⟩
    have e2 : (Out.bad : Out Fl) = .ok fl μ' := e1
    cases e2
theorem sndSs : ∀ (ss : List S) {c : Stt} {X : Cx} {sts : List Stmt}, OkS G j c X → chkSs G j ss c sts = true → PSs X sts (T3S X.K (runs G ss))
  | [], c, X, sts, o, h => by
    cases sts with
    | nil =>
      refine imSs pss_nil fun E σ H => ?_
      rintro ⟨w, μ, ρ, fl, μ', R, S, e1, q⟩
      have e2 : Out.ok (Fl.nx ρ) μ = .ok fl μ' := e1
      cases e2
      exact q w H (Ext.refl _ _) R σ S
    | cons _ _ =>
      have h' : false = true := h
      cases h'
  | s :: ss, c, X, sts, o, h => by
    cases sts with
    | nil =>
      have h' : false = true := h
      cases h'
    | cons t ts =>
      have h' : (chkS G j s c t && chkSs G j ss c ts) = true := h
      clear h
      have h := h'
      simp only [Bool.and_eq_true] at h
      exact snd_seq (sndS s o h.1) (sndSs ss o h.2)
end
end
section
variable {P : Program} {w : World} {K : PySem.W.Frag} {mg : Str → Option Value} {base : Heap}
structure Tab (P : Program) (w : World) (K : PySem.W.Frag) (mg : Str → Option Value) (base : Heap) (j : Nat) (G : List FnE) : Prop where
  hm : ∀ x ∈ biNames, mg x = none
  hf : ∀ (i : Nat) (g : FnE), G[i]? = some g → g.lv ≤ j → _L2.Callee P w K mg base g.lv g.name g.ps (spOf K g.ps.length g.F)
  hd : ∀ (i : Nat) (g : FnE) (d : Dat), G[i]? = some g → g.dat = some d → DatOk K w mg g.name d
theorem fn_ok3 {x qual : Str} {st : Stmt} {f : Addr} {fd : FuncData} {N ps : List Str} {j : Nat} {G : List FnE} {body : List S} (F : Fun K x qual st f fd) (Sc : FnScope N ps (defScope st)) (T : Tab P w K mg base j G) (h : chkSs G j body ⟨N, defScope st, false⟩ (defBody st) = true) :
    FnOk P w K mg base CX0 (j + 1) f fd ps (spOf K ps.length (fnOf G ps.length (N.length - ps.length) body)) := by
  refine F.okQ Sc (fun vs H Q E h => h.1) (fun cdv A outer s H vs Q E hr hsp => ?_)
  refine ⟨T3S K (runs G body), ⟨sndSs body (c := ⟨N, defScope st, false⟩) ⟨⟨rfl, Sc.nd, rfl, rfl, hr, T.hm, T.hf, T.hd, fun _ _ => rfl⟩, PassesOwn.never, Sc.kind⟩ h⟩, ?_⟩
  obtain ⟨hl, w0, μ, ds, d, μ', R, hD, e, q⟩ := hsp
  unfold fnOf at e
  split at e
  · rename_i hn
    have hS : DenS K w0 μ.length (ds.map some ++ List.replicate (N.length - ps.length) none) (_L2.start N vs) := by
      unfold _L2.start
      rw [hl]
      exact DenS.start hD _
    split at e
    · rename_i d1 μ1 e1
      cases e
      exact ⟨w0, μ, _, _, _, R, hS, e1, fun w1 H1 x1 R1 v dv => q w1 H1 v x1 R1 dv⟩
    · rename_i ρ1 μ1 e1
      cases e
      exact ⟨w0, μ, _, _, _, R, hS, e1, fun w1 H1 x1 R1 σ' S' => q w1 H1 .non x1 R1 (by unfold Den; rfl)⟩
    · cases e
    · cases e
  · cases e
theorem law_ok3 {f : Addr} {fd : FuncData} {k : Nat} {F : Fn} (h : FnOk P w K mg base CX0 k f fd ["_law_script"] (spOf K 1 F)) (hF : ∀ ns : List Int, ns.length ≤ 63 → ∃ μ, F [.scr (ns.map D.int)] [] = .ok (.bl true) μ) : FnOk P w K mg base CX0 k f fd ["_law_script"] (spLaw K) := by
  refine h.imp fun vs H Q E => ?_
  rintro ⟨a, ns, rfl, hS, hn, q⟩
  obtain ⟨μ, hm⟩ := hF ns hn
  refine ⟨rfl, ⟨fun b => if b = a then H a else none, fun _ => 0⟩, [], _, _, μ, ⟨fun b o h => ?_, fun k c h => by simp at h, fun i j ci cj h => by simp at h⟩, ?_, hm, fun w' H' v _ _ hv => ?_⟩
  · replace h : (if b = a then H a else none) = some o := h
    split at h
    · rename_i e
      rw [e]
      exact h
    · cases h
  · unfold DenL
    refine ⟨.ref a, [], rfl, ?_, by unfold DenL; rfl⟩
    unfold Den
    refine ⟨a, ns.map V.int, rfl, ?_, denL_map_ints ns⟩
    rcases hS with hS | hS
    · left
      rcases hS with h | ⟨o, h⟩
      · exact .inl (by show (if a = a then H a else none) = _; rw [if_pos rfl]; exact h)
      · exact .inr ⟨o, by show (if a = a then H a else none) = _; rw [if_pos rfl]; exact h⟩
    · exact .inr hS
  · unfold Den at hv
    subst hv
    exact q H'
end
end _L3
set_option Elab.async false
set_option linter.all false
set_option maxRecDepth 100000
set_option maxHeartbeats 4000000
namespace _L3
open PySem PySem.Spec PyProof.Rows _L2
theorem nr {α : Type} {a b : α} (h : a = b) : a = b := h
section
variable {α β : Type}
theorem bind_mk {a : α} {μ : M} {f : α → M → Out β} : (Out.ok a μ).bind f = f a μ := rfl
theorem bind_bad {f : α → M → Out β} : (Out.bad : Out α).bind f = .bad := rfl
end
noncomputable def seqF (o : Out Fl) (k : S3 → M → Out Fl) : Out Fl :=
  match o with
  | .ok (.nx ρ) μ => k ρ μ
  | r => r
noncomputable def finF (o : Out Fl) : Out D :=
  match o with
  | .ok (.rt d) μ => .ok d μ
  | .ok (.nx _) μ => .ok .non μ
  | .exc x μ => .exc x μ
  | .bad => .bad
theorem seqF_nx {ρ : S3} {μ : M} {k : S3 → M → Out Fl} : seqF (.ok (.nx ρ) μ) k = k ρ μ := rfl
theorem seqF_rt {d : D} {μ : M} {k : S3 → M → Out Fl} : seqF (.ok (.rt d) μ) k = .ok (.rt d) μ := rfl
theorem finF_rt {d : D} {μ : M} : finF (.ok (.rt d) μ) = .ok d μ := rfl
theorem finF_nx {ρ : S3} {μ : M} : finF (.ok (.nx ρ) μ) = .ok .non μ := rfl
section
variable {G : List FnE} {ρ : S3} {μ : M}
theorem fnOf_eq {np nl : Nat} {b : List S} {ds : List D} : fnOf G np nl b ds μ = if ds.length = np then finF (runs G b (ds.map some ++ List.replicate nl none) μ) else .bad := rfl
theorem runs_nil : runs G [] ρ μ = .ok (.nx ρ) μ := rfl
theorem runs_cons {s : S} {ss : List S} : runs G (s :: ss) ρ μ = seqF (_L3.run G s ρ μ) (runs G ss) := rfl
noncomputable def asgO (tg : Tg) (ρ : S3) (d : D) (μ : M) : Out Fl :=
  match asgD tg d ρ with
  | some ρ1 => .ok (.nx ρ1) μ
  | none => .bad
theorem run_asg {tg : Tg} {e : E} : _L3.run G (.asg tg e) ρ μ = ((ev G e).v ρ μ).bind fun d μ1 => asgO tg ρ d μ1 := rfl
theorem asgO_nm {i : Nat} {d : D} : asgO (.nm i) ρ d μ = .ok (.nx (ρ.set i (some d))) μ := rfl
theorem run_ex {e : E} : _L3.run G (.ex e) ρ μ = ((ev G e).v ρ μ).bind fun _ μ1 => .ok (.nx ρ) μ1 := rfl
theorem run_ite {c : E} {a b : List S} : _L3.run G (.ite c a b) ρ μ = ((ev G c).t ρ μ).bind fun k μ1 => if k then runs G a ρ μ1 else runs G b ρ μ1 := rfl
theorem run_ret {e : E} : _L3.run G (.ret e) ρ μ = ((ev G e).v ρ μ).bind fun d μ1 => .ok (.rt d) μ1 := rfl
noncomputable def forO (ik : IK) (ds : List D) (tg : Tg) (body : S3 → M → Out Fl) (fg : List Nat) (ρ : S3) (μ : M) : Out Fl :=
  match itD ik ds μ with
  | some xs => forL (stays ik ds xs) tg body fg xs ρ μ
  | none => .bad
theorem forO_of {ik : IK} {ds xs : List D} {tg : Tg} {body : S3 → M → Out Fl} {fg : List Nat} (h : itD ik ds μ = some xs) : forO ik ds tg body fg ρ μ = forL (stays ik ds xs) tg body fg xs ρ μ := by
  unfold forO
  rw [h]
theorem run_for {tg : Tg} {ik : IK} {es : List E} {body : List S} {fg : List Nat} : _L3.run G (.for_ tg ik es body fg) ρ μ = (evL G es ρ μ).bind fun ds μ1 => forO ik ds tg (runs G body) fg ρ μ1 := rfl
theorem ev_cst {d : D} : (ev G (.cst d)).v ρ μ = .ok d μ := rfl
theorem ev_bin {op : Operator} {m : Bool} {a b : E} : (ev G (.bin op m a b)).v ρ μ = ((ev G a).v ρ μ).bind fun x μ1 => ((ev G b).v ρ μ1).bind fun y μ2 => binD op m x y μ2 := rfl
noncomputable def getO (o : Option (Option D)) (μ : M) : Out D :=
  match o with
  | some (some d) => .ok d μ
  | _ => .bad
theorem ev_var {i : Nat} : (ev G (.var i)).v ρ μ = getO ρ[i]? μ := rfl
theorem getO_s {d : D} : getO (some (some d)) μ = .ok d μ := rfl
noncomputable def notD (x : D) (μ : M) : Out D :=
  match x with
  | .bl c => .ok (.bl (!c)) μ
  | _ => .bad
theorem ev_not {a : E} : (ev G (.not_ a)).v ρ μ = ((ev G a).v ρ μ).bind notD := rfl
theorem ev_cmp {op : CmpOp} {a b : E} : (ev G (.cmp op a b)).v ρ μ = ((ev G a).v ρ μ).bind fun x μ1 => ((ev G b).v ρ μ1).bind fun y μ2 => cmpD op x y μ2 := rfl
noncomputable def boD (k : Bool) (o : Out D) (x : D) (μ : M) : Out D :=
  match x with
  | .bl c => if c = k then o else .ok (.bl c) μ
  | _ => .bad
theorem ev_and {a b : E} : (ev G (.and_ a b)).v ρ μ = ((ev G a).v ρ μ).bind fun x μ1 => boD true ((ev G b).v ρ μ1) x μ1 := by
  show ((ev G a).v ρ μ).bind _ = _
  congr 1
  funext x μ1
  cases x with
  | bl c => cases c <;> rfl
  | _ => rfl
theorem ev_or {a b : E} : (ev G (.or_ a b)).v ρ μ = ((ev G a).v ρ μ).bind fun x μ1 => boD false ((ev G b).v ρ μ1) x μ1 := by
  show ((ev G a).v ρ μ).bind _ = _
  congr 1
  funext x μ1
  cases x with
  | bl c => cases c <;> rfl
  | _ => rfl
theorem ev_ife {c a b : E} : (ev G (.ife c a b)).v ρ μ = ((ev G c).t ρ μ).bind fun k μ1 => if k then (ev G a).v ρ μ1 else (ev G b).v ρ μ1 := rfl
theorem ev_tup {es : List E} : (ev G (.tup es)).v ρ μ = (evL G es ρ μ).bind fun ds μ1 => if ds.length ≤ sizeLine then .ok (.tup ds) μ1 else .bad := rfl
theorem ev_lst {m : Bool} {es : List E} : (ev G (.lst m es)).v ρ μ = (evL G es ρ μ).bind fun ds μ1 => if ds.length ≤ sizeLine then mkL m ds μ1 else .bad := rfl
theorem ev_ix {a b : E} : (ev G (.ix a b)).v ρ μ = ((ev G a).v ρ μ).bind fun x μ1 => ((ev G b).v ρ μ1).bind fun y μ2 => ixD x y μ2 := rfl
theorem ev_sl {m : Bool} {a : E} {lo hi : List E} : (ev G (.sl m a lo hi)).v ρ μ = ((ev G a).v ρ μ).bind fun x μ1 => (optI (evL G lo ρ μ1)).bind fun l μ2 => (optI (evL G hi ρ μ2)).bind fun h μ3 => slD m x l h μ3 := rfl
theorem ev_stp {m : Bool} {a : E} {lo hi : List E} : (ev G (.stp m a lo hi)).v ρ μ = ((ev G a).v ρ μ).bind fun x μ1 => (optI (evL G lo ρ μ1)).bind fun l μ2 => (optI (evL G hi ρ μ2)).bind fun h μ3 => stpD m x l h μ3 := rfl
theorem ev_call {f : Nat} {md : Md} {es : List E} : (ev G (.call f md es)).v ρ μ = (evL G es ρ μ).bind fun ds μ1 => callG G f md ds μ1 := rfl
theorem ev_bi {b : Bi} {m : Bool} {es : List E} : (ev G (.bi b m es)).v ρ μ = (evL G es ρ μ).bind fun ds μ1 => biD b m ds μ1 := rfl
theorem ev_mt {b : Mt} {o : E} {es : List E} : (ev G (.mt b o es)).v ρ μ = ((ev G o).v ρ μ).bind fun x μ1 => if mtTy b x μ1 then (evL G es ρ μ1).bind fun ds μ2 => mtD b x ds μ2 else .bad := rfl
noncomputable def compO (m : Bool) (ik : IK) (ds : List D) (tg : Tg) (cond : S3 → M → Out Bool) (elt : S3 → M → Out D) (ρ : S3) (μ : M) : Out D :=
  match itD ik ds μ with
  | some xs => if xs.length ≤ sizeLine then (compL (stays ik ds xs) tg cond elt ρ xs μ).bind fun ys μ2 => mkL m ys μ2 else .bad
  | none => .bad
theorem compO_of {m : Bool} {ik : IK} {ds xs ys : List D} {tg : Tg} {cond : S3 → M → Out Bool} {elt : S3 → M → Out D} {μ2 : M} (h : itD ik ds μ = some xs) (hl : xs.length ≤ sizeLine) (hc : compL (stays ik ds xs) tg cond elt ρ xs μ = .ok ys μ2) : compO m ik ds tg cond elt ρ μ = mkL m ys μ2 := by
  unfold compO
  simp only [h]
  rw [if_pos hl, hc, bind_mk]
theorem ev_comp {m : Bool} {own : Nat} {tg : Tg} {ik : IK} {es ifs : List E} {elt : E} : (ev G (.comp m own tg ik es ifs elt)).v ρ μ = (evL G es ρ μ).bind fun ds μ1 => compO m ik ds tg (evTs G ifs) (ev G elt).v (List.replicate own none ++ ρ) μ1 := rfl
theorem ev_chain {o1 o2 : CmpOp} {a b c : E} : (ev G (.chain o1 o2 a b c)).v ρ μ = ((ev G a).v ρ μ).bind fun x μ1 => ((ev G b).v ρ μ1).bind fun y μ2 => (cmpD o1 x y μ2).bind fun z μ3 => boD true (((ev G c).v ρ μ3).bind fun u μ4 => cmpD o2 y u μ4) z μ3 := by
  show ((ev G a).v ρ μ).bind _ = _
  congr 1
  funext x μ1
  congr 1
  funext y μ2
  congr 1
  funext z μ3
  cases z with
  | bl c => cases c <;> rfl
  | _ => rfl
theorem evL_n : evL G [] ρ μ = .ok [] μ := rfl
theorem evL_c {e : E} {es : List E} : evL G (e :: es) ρ μ = ((ev G e).v ρ μ).bind fun d μ1 => (evL G es ρ μ1).bind fun ds μ2 => .ok (d :: ds) μ2 := rfl
theorem evT_n : evTs G [] ρ μ = .ok true μ := rfl
theorem evT_1 {e : E} : evTs G [e] ρ μ = (ev G e).t ρ μ := rfl
noncomputable def tru (μ : M) (d : D) : Out Bool :=
  match truD μ d with
  | some b => .ok b μ
  | none => .bad
theorem evt_cmp {op : CmpOp} {a b : E} : (ev G (.cmp op a b)).t ρ μ = ((ev G (.cmp op a b)).v ρ μ).bind fun d μ1 => tru μ1 d := rfl
theorem evt_chain {o1 o2 : CmpOp} {a b c : E} : (ev G (.chain o1 o2 a b c)).t ρ μ = ((ev G (.chain o1 o2 a b c)).v ρ μ).bind fun d μ1 => tru μ1 d := rfl
theorem evt_var {i : Nat} : (ev G (.var i)).t ρ μ = ((ev G (.var i)).v ρ μ).bind fun d μ1 => tru μ1 d := rfl
theorem evt_call {f : Nat} {md : Md} {es : List E} : (ev G (.call f md es)).t ρ μ = ((ev G (.call f md es)).v ρ μ).bind fun d μ1 => tru μ1 d := rfl
theorem evt_bi {b : Bi} {m : Bool} {es : List E} : (ev G (.bi b m es)).t ρ μ = ((ev G (.bi b m es)).v ρ μ).bind fun d μ1 => tru μ1 d := rfl
theorem evt_not {a : E} : (ev G (.not_ a)).t ρ μ = ((ev G a).t ρ μ).bind fun c μ1 => .ok (!c) μ1 := rfl
theorem evt_and {a b : E} : (ev G (.and_ a b)).t ρ μ = ((ev G a).t ρ μ).bind fun c μ1 => if c then (ev G b).t ρ μ1 else .ok false μ1 := rfl
theorem evt_or {a b : E} : (ev G (.or_ a b)).t ρ μ = ((ev G a).t ρ μ).bind fun c μ1 => if c then .ok true μ1 else (ev G b).t ρ μ1 := rfl
end
theorem strsD_map : ∀ zs : List Str, strsD (zs.map D.str) = some zs
  | [] => rfl
  | z :: zs => by rw [List.map_cons]; unfold strsD; rw [strsD_map zs]; rfl
section
variable {μ : M}
theorem tru_bl {b : Bool} : tru μ (.bl b) = .ok b μ := rfl
theorem not_bl {b : Bool} : notD (.bl b) μ = .ok (.bl (!b)) μ := rfl
theorem bo_bl {k c : Bool} {o : Out D} : boD k o (.bl c) μ = if c = k then o else .ok (.bl c) μ := rfl
theorem optI_n : optI (.ok [] μ) = .ok none μ := rfl
theorem optI_1 {i : Int} : optI (.ok [.int i] μ) = .ok (some i) μ := rfl
theorem bin_add {m : Bool} {i j : Int} : binD .Add m (.int i) (.int j) μ = .ok (.int (i + j)) μ := nr rfl
theorem bin_sub {m : Bool} {i j : Int} : binD .Sub m (.int i) (.int j) μ = .ok (.int (i - j)) μ := if_pos trivial
theorem bin_mulL {m : Bool} {i j : Int} (h : -18446744073709551616 < i) (h2 : i < 18446744073709551616) : binD .Mult m (.int i) (.int j) μ = .ok (.int (i * j)) μ := if_pos (.inl ⟨h, h2⟩)
theorem bin_mulR {m : Bool} {i j : Int} (h : -18446744073709551616 < j) (h2 : j < 18446744073709551616) : binD .Mult m (.int i) (.int j) μ = .ok (.int (i * j)) μ := if_pos (.inr ⟨h, h2⟩)
theorem bin_div {m : Bool} {i j : Int} (h : 0 < j) (h2 : j < 18446744073709551616) : binD .FloorDiv m (.int i) (.int j) μ = .ok (.int (i / j)) μ := if_pos ⟨h, h2⟩
theorem bin_mod {m : Bool} {i j : Int} (h : 0 < j) : binD .Mod m (.int i) (.int j) μ = .ok (.int (i % j)) μ := if_pos h
theorem bin_pow {m : Bool} {i j : Int} (h : 0 ≤ j) (h1 : j ≤ 1000000) (h2 : i.natAbs < 18446744073709551616) : binD .Pow m (.int i) (.int j) μ = .ok (.int (i ^ j.toNat)) μ := if_pos ⟨h, h1, h2⟩
theorem bin_pow10 {m : Bool} {j : Int} (h : 0 ≤ j) (h1 : j ≤ 1000000) : binD .Pow m (.int 10) (.int j) μ = .ok (.int (10 ^ j.toNat)) μ := bin_pow h h1 (by decide)
theorem bin_adds {m : Bool} {x y : Str} (h : x.length + y.length ≤ sizeLine) : binD .Add m (.str x) (.str y) μ = .ok (.str (x ++ y)) μ := if_pos h
theorem sl_strD {m : Bool} {z : Str} {l h : Option Int} (hz : z.length ≤ sizeLine) : slD m (.str z) l h μ = .ok (.str (Txt.slice z l h)) μ := if_pos hz
theorem join_strs {z : Str} {ys : List Str} (h : (ys.map (·.length)).sum + ys.length * z.length ≤ 16777216) : mtD .join (.str z) [.lst (ys.map D.str)] μ = .ok (.str (Txt.join z ys)) μ := by
  have e : seqL μ (.lst (ys.map D.str)) = some (ys.map D.str) := nr rfl
  simp only [mtD, joinD, e, strsD_map, h, if_true]
theorem cmp_lt {i j : Int} : cmpD .Lt (.int i) (.int j) μ = .ok (.bl (decide (i < j))) μ := nr rfl
theorem cmp_le {i j : Int} : cmpD .LtE (.int i) (.int j) μ = .ok (.bl (decide (i ≤ j))) μ := nr rfl
theorem cmp_gt {i j : Int} : cmpD .Gt (.int i) (.int j) μ = .ok (.bl (decide (j < i))) μ := nr rfl
theorem cmp_ge {i j : Int} : cmpD .GtE (.int i) (.int j) μ = .ok (.bl (decide (j ≤ i))) μ := nr rfl
theorem cmp_eqI {i j : Int} : cmpD .Eq (.int i) (.int j) μ = .ok (.bl (decide (i = j))) μ := by
  show Out.ok (D.bl (decide (V.int i = V.int j))) μ = _
  simp
theorem cmp_eqS {i j : Str} : cmpD .Eq (.str i) (.str j) μ = .ok (.bl (decide (i = j))) μ := by
  show Out.ok (D.bl (decide (V.str i = V.str j))) μ = _
  simp
theorem cmp_neI {i j : Int} : cmpD .NotEq (.int i) (.int j) μ = .ok (.bl (!decide (i = j))) μ := by
  show Out.ok (D.bl (!decide (V.int i = V.int j))) μ = _
  simp
theorem cmp_neS {i j : Str} : cmpD .NotEq (.str i) (.str j) μ = .ok (.bl (!decide (i = j))) μ := by
  show Out.ok (D.bl (!decide (V.str i = V.str j))) μ = _
  simp
theorem mkL_f {ds : List D} : mkL false ds μ = .ok (.lst ds) μ := rfl
theorem mkL_t {ds : List D} : mkL true ds μ = .ok (.cel μ.length) (μ ++ [some (.lst ds)]) := rfl
theorem stays_of {ik : IK} {ds xs : List D} (h : itD ik ds μ = some xs) : stays ik ds xs μ = true := stays_iff.mpr h
theorem cell_last {c : Cl} : (μ ++ [some c])[μ.length]? = some (some c) := by simp
theorem callG_c {g : FnE} {G : List FnE} {f : Nat} {md : Md} {ds : List D} : callG (g :: G) (f + 1) md ds μ = callG G f md ds μ := rfl
theorem callG_z {g : FnE} {G : List FnE} {md : Md} {ds : List D} : callG (g :: G) 0 md ds μ = callD md g.F ds μ := rfl
theorem frz_call {F : Fn} {ds : List D} {d d' : D} {ν : M} (h : F ds μ = .ok d (μ ++ ν)) (hd : frzD (μ ++ ν) μ.length d = some d') : callD .frz F ds μ = .ok d' μ := by
  unfold callD
  simp only [h]
  rw [if_pos (by simp), hd]
theorem frz_same {F : Fn} {ds : List D} {d : D} (h : F ds μ = .ok d μ) (hd : frzD μ μ.length d = some d) : callD .frz F ds μ = .ok d μ := by
  have := frz_call (ν := []) (by rw [List.append_nil]; exact h) (by rw [List.append_nil]; exact hd)
  exact this
end
section
variable {μ : M}
theorem mtTy_join {z : Str} : mtTy .join (.str z) μ = true := rfl
theorem mtTy_split {z : Str} : mtTy .split (.str z) μ = true := rfl
theorem mtTy_app {xs : List D} : mtTy .append (.cel μ.length) (μ ++ [some (.lst xs)]) = true := by simp [mtTy]
theorem mtTy_ext {xs : List D} : mtTy .extend (.cel μ.length) (μ ++ [some (.lst xs)]) = true := by simp [mtTy]
theorem app_last {xs : List D} {d : D} (h : xs.length < sizeLine) : mtD .append (.cel μ.length) [d] (μ ++ [some (.lst xs)]) = .ok .non (μ ++ [some (.lst (xs ++ [d]))]) := by
  simp [mtD, appD, h]
theorem ext_last {xs ys : List D} (h : xs.length + ys.length ≤ sizeLine) : mtD .extend (.cel μ.length) [.lst ys] (μ ++ [some (.lst xs)]) = .ok .non (μ ++ [some (.lst (xs ++ ys))]) := by
  simp [mtD, extD, h]
end
theorem forL_nil {ok : M → Bool} {tg : Tg} {body : S3 → M → Out Fl} {fg : List Nat} {ρ : S3} {μ : M} (h : ok μ = true) : forL ok tg body fg [] ρ μ = .ok (.nx (forget fg ρ)) μ := by
  unfold forL
  rw [if_pos h]
theorem forL_cons {ok : M → Bool} {tg : Tg} {body : S3 → M → Out Fl} {fg : List Nat} {ρ ρ1 ρ2 : S3} {μ μ2 : M} {d : D} {ds : List D} (h : ok μ = true) (ha : asgD tg d ρ = some ρ1) (hb : body ρ1 μ = .ok (.nx ρ2) μ2) : forL ok tg body fg (d :: ds) ρ μ = forL ok tg body fg ds (forget fg ρ2) μ2 := by
  rw [forL, if_pos h, ha]
  simp only [hb]
theorem compL_nil {ok : M → Bool} {tg : Tg} {cond : S3 → M → Out Bool} {elt : S3 → M → Out D} {ρ : S3} {μ : M} (h : ok μ = true) : compL ok tg cond elt ρ [] μ = .ok [] μ := by
  unfold compL
  rw [if_pos h]
theorem compL_cons {ok : M → Bool} {tg : Tg} {cond : S3 → M → Out Bool} {elt : S3 → M → Out D} {ρ ρ1 : S3} {μ : M} {d : D} {ds : List D} (h : ok μ = true) (ha : asgD tg d ρ = some ρ1) : compL ok tg cond elt ρ (d :: ds) μ = (cond ρ1 μ).bind fun b μ1 => if b then (elt ρ1 μ1).bind fun y μ2 => (compL ok tg cond elt ρ ds μ2).bind fun ys μ3 => .ok (y :: ys) μ3 else compL ok tg cond elt ρ ds μ1 := by
  rw [compL, if_pos h, ha]
theorem compL_map {α : Type} {ok : M → Bool} {tg : Tg} {cond : S3 → M → Out Bool} {elt : S3 → M → Out D} {ρ : S3} {μ : M} (h : ok μ = true) {e : α → D} {c : α → Bool} {f : α → D} : ∀ (xs : List α), (∀ x ∈ xs, ∃ ρ1, asgD tg (e x) ρ = some ρ1 ∧ cond ρ1 μ = .ok (c x) μ ∧ (c x = true → elt ρ1 μ = .ok (f x) μ)) →
    compL ok tg cond elt ρ (xs.map e) μ = .ok ((xs.filter c).map f) μ
  | [], _ => compL_nil h
  | x :: xs, hx => by
    obtain ⟨ρ1, h1, h2, h3⟩ := hx x (by simp)
    have ih := compL_map (e := e) (c := c) (f := f) h xs fun y hy => hx y (by simp [hy])
    rw [List.map_cons, compL_cons h h1, h2, bind_mk]
    cases hc : c x with
    | true => rw [if_pos rfl, h3 hc, bind_mk, ih, bind_mk, List.filter_cons_of_pos hc, List.map_cons]
    | false => rw [if_neg Bool.false_ne_true, ih, List.filter_cons_of_neg (by simp [hc])]
theorem comp_map {α : Type} {G : List FnE} {m : Bool} {own : Nat} {tg : Tg} {ik : IK} {es ifs : List E} {elt : E} {ρ : S3} {μ : M} {ds : List D} {xs : List α} {e : α → D} (c : α → Bool) (f : α → D) (he : evL G es ρ μ = .ok ds μ) (hi : itD ik ds μ = some (xs.map e)) (hl : xs.length ≤ sizeLine)
    (h : ∀ x ∈ xs, ∃ ρ1, asgD tg (e x) (List.replicate own none ++ ρ) = some ρ1 ∧ evTs G ifs ρ1 μ = .ok (c x) μ ∧ (c x = true → (ev G elt).v ρ1 μ = .ok (f x) μ)) : (ev G (.comp m own tg ik es ifs elt)).v ρ μ = mkL m ((xs.filter c).map f) μ := by
  rw [ev_comp, he, bind_mk, compO_of hi (by rw [List.length_map]; exact hl) (compL_map (stays_of hi) xs h)]
theorem it_rng1 {n : Nat} {μ : M} (h : n ≤ 1000000) : itD .rng1 [.int (n : Int)] μ = some ((List.range n).map fun (k : Nat) => D.int (k : Int)) := by
  unfold itD itRng1
  dsimp only
  rw [if_pos ⟨by omega, by omega⟩, Int.toNat_natCast]
theorem ix_some {ds : List D} {i : Int} (h0 : 0 ≤ i) (h1 : i < ds.length) {a : D} {μ : M} (ha : seqA μ a = some ds) (hs : ∀ z, a ≠ .str z) : ∃ d ∈ ds, ixD a (.int i) μ = .ok d μ := by
  obtain ⟨n, rfl⟩ : ∃ n : Nat, i = n := ⟨i.toNat, by omega⟩
  have hn : n < ds.length := by omega
  refine ⟨ds[n], List.getElem_mem hn, ?_⟩
  have e : atI ds (n : Int) = some ds[n] := atI_nat (by simp [hn])
  unfold ixD
  cases a <;> first | exact absurd rfl (hs _) | simp only [ha, e]
theorem sz0 : (0 ≤ sizeLine) = True := by rw [sizeLine_eq]; simp
theorem sz1 : (1 ≤ sizeLine) = True := by rw [sizeLine_eq]; simp
theorem sz2 : (2 ≤ sizeLine) = True := by rw [sizeLine_eq]; simp
theorem sz3 : (3 ≤ sizeLine) = True := by rw [sizeLine_eq]; simp
theorem sz4 : (4 ≤ sizeLine) = True := by rw [sizeLine_eq]; simp
theorem sz5 : (5 ≤ sizeLine) = True := by rw [sizeLine_eq]; simp
theorem sz6 : (6 ≤ sizeLine) = True := by rw [sizeLine_eq]; simp
theorem sz7 : (7 ≤ sizeLine) = True := by rw [sizeLine_eq]; simp
theorem sz8 : (8 ≤ sizeLine) = True := by rw [sizeLine_eq]; simp
theorem sz9 : (9 ≤ sizeLine) = True := by rw [sizeLine_eq]; simp
theorem sz10 : (10 ≤ sizeLine) = True := by rw [sizeLine_eq]; simp
theorem sz11 : (11 ≤ sizeLine) = True := by rw [sizeLine_eq]; simp
theorem sz12 : (12 ≤ sizeLine) = True := by rw [sizeLine_eq]; simp
theorem frzGs_map {α : Type} {h : Nat → Option D} {e : α → D} (he : ∀ x, frzG h (e x) = some (e x)) : ∀ xs : List α, frzGs h (xs.map e) = some (xs.map e)
  | [] => by unfold frzGs; rfl
  | x :: xs => by rw [List.map_cons]; unfold frzGs; rw [he x, frzGs_map he xs]
theorem frz_int {h : Nat → Option D} {i : Int} : frzG h (.int i) = some (.int i) := by unfold frzG; rfl
theorem frz_str {h : Nat → Option D} {i : Str} : frzG h (.str i) = some (.str i) := by unfold frzG; rfl
theorem frz_bl {h : Nat → Option D} {i : Bool} : frzG h (.bl i) = some (.bl i) := by unfold frzG; rfl
theorem frz_tup {h : Nat → Option D} {ds es : List D} (k : frzGs h ds = some es) : frzG h (.tup ds) = some (.tup es) := by unfold frzG; rw [k]; rfl
theorem frz_lst {h : Nat → Option D} {ds es : List D} (k : frzGs h ds = some es) : frzG h (.lst ds) = some (.lst es) := by unfold frzG; rw [k]; rfl
theorem frz_cons {h : Nat → Option D} {d e : D} {ds es : List D} (k1 : frzG h d = some e) (k2 : frzGs h ds = some es) : frzGs h (d :: ds) = some (e :: es) := by unfold frzGs; rw [k1, k2]
theorem frz_nil {h : Nat → Option D} : frzGs h [] = some [] := by unfold frzGs; rfl
end _L3
namespace _L3
open PySem PySem.Spec PyProof.Rows _L2
section
variable {G : List FnE} {ρ : S3} {μ : M}
theorem ev_gl {f : Nat} : (ev G (.gl f)).v ρ μ = glD (datG G f) μ := rfl
theorem ev_gget {f : Nat} {a d : E} : (ev G (.gget f a d)).v ρ μ = ((ev G a).v ρ μ).bind fun x μ1 => ((ev G d).v ρ μ1).bind fun y μ2 => ggetD (datG G f) x y μ2 := rfl
theorem ev_gin {neg : Bool} {f : Nat} {a : E} : (ev G (.gin neg f a)).v ρ μ = ((ev G a).v ρ μ).bind fun x μ1 => ginD neg (datG G f) x μ1 := rfl
theorem evt_gin {neg : Bool} {f : Nat} {a : E} : (ev G (.gin neg f a)).t ρ μ = ((ev G (.gin neg f a)).v ρ μ).bind fun d μ1 => tru μ1 d := rfl
theorem ev_gix {f : Nat} {a : E} : (ev G (.gix f a)).v ρ μ = ((ev G a).v ρ μ).bind fun x μ1 => gixD (datG G f) x μ1 := rfl
theorem datG_c {g : FnE} {f : Nat} : datG (g :: G) (f + 1) = datG G f := rfl
theorem datG_z {g : FnE} : datG (g :: G) 0 = g.dat := rfl
theorem gl_cst {d : D} : glD (some (.cst d)) μ = .ok d μ := rfl
theorem gget_dct {kvs : List (Str × D)} {z : Str} {y : D} : ggetD (some (.dct kvs)) (.str z) y μ = .ok ((lookD z kvs).getD y) μ := rfl
theorem gin_dct {kvs : List (Str × D)} {z : Str} : ginD false (some (.dct kvs)) (.str z) μ = .ok (.bl (lookD z kvs).isSome) μ := rfl
theorem gix_dct {kvs : List (Str × D)} {z : Str} {d : D} (h : lookD z kvs = some d) : gixD (some (.dct kvs)) (.str z) μ = .ok d μ := by
  unfold gixD
  simp only [h]
end
end _L3
set_option Elab.async false
set_option linter.all false
set_option maxRecDepth 100000
namespace _L3
open PySem PySem.Spec PyProof.Rows _L2
theorem size_ok {n : Nat} (h : n < 100000) : n ≤ sizeLine := by rw [sizeLine_eq]; omega
noncomputable def isNameB (z : Str) : Bool := decide (1 ≤ z.length) && (decide (z.length ≤ 8) && z.cps.toList.all fun c => decide (97 ≤ c) && decide (c ≤ 122))
noncomputable def sTx (c : List Nat) : Str := ⟨c.toArray⟩
theorem sTx_len (c : List Nat) : (sTx c).length = c.length := by simp [sTx, Str.length]
theorem sTx_app (a b : List Nat) : sTx a ++ sTx b = sTx (a ++ b) := Str.ext' (by rw [Str.cps_append]; simp [sTx])
theorem sTx_inj {a b : List Nat} (h : sTx a = sTx b) : a = b := by
  have := congrArg (fun s : Str => s.cps.toList) h
  simpa [sTx] using this
theorem sTx_of (z : Str) : sTx z.cps.toList = z := by
  cases z
  simp [sTx]
noncomputable def Ltr (c : List Nat) : Prop := ∀ x ∈ c, 97 ≤ x ∧ x ≤ 122
theorem name_sTx {c : List Nat} (h1 : 1 ≤ c.length) (h2 : c.length ≤ 8) (h : Ltr c) : isNameB (sTx c) = true := by
  unfold isNameB
  rw [sTx_len, decide_eq_true h1, decide_eq_true h2, Bool.true_and, Bool.true_and, List.all_eq_true]
  intro x hx
  have hx' : x ∈ c := by simpa [sTx] using hx
  have := h x hx'
  simp [this.1, this.2]
theorem slice_gen (t : List Nat) {a b : Nat} (hab : a ≤ b) (hb : b ≤ t.length) (lo : Option Int) (hlo : Builtin.Str.strSliceIndices lo (some (b : Int)) 1 t.length = Builtin.Str.strSliceIndices (some (a : Int)) (some (b : Int)) 1 t.length) : Txt.slice (sTx t) lo (some (b : Int)) = sTx ((t.drop a).take (b - a)) := by
  have hl : (sTx t).length = t.length := sTx_len t
  have e1 := PySem.StrLaws.strSliceIndices_plain hab (len := t.length) hb
  have e2 := PySem.StrLaws.sliced_plain (sTx t) hab (by rw [hl]; exact hb)
  rw [hl] at e2
  unfold Txt.slice
  rw [hl, hlo, e2]
  have e3 : (Builtin.Str.strSliceIndices (some (a : Int)) (some (b : Int)) 1 t.length).length = b - a := by rw [e1]; simp
  rw [e3]
  have e4 : (sTx t).cps.toList = t := by simp [sTx]
  rw [e4]
  split
  · rename_i h
    have hba : b - a = t.length := by simpa using h
    have ha : a = 0 := by omega
    subst ha
    rw [List.drop_zero, List.take_of_length_le (by omega)]
  · rfl
theorem slice_mid (t : List Nat) {a b : Int} (h0 : 0 ≤ a) (hab : a ≤ b) (hb : b ≤ t.length) : Txt.slice (sTx t) (some a) (some b) = sTx ((t.drop a.toNat).take (b.toNat - a.toNat)) := by
  obtain ⟨x, rfl⟩ : ∃ x : Nat, a = x := ⟨a.toNat, by omega⟩
  obtain ⟨y, rfl⟩ : ∃ y : Nat, b = y := ⟨b.toNat, by omega⟩
  exact slice_gen t (by omega) (by omega) _ rfl
theorem slice_to (t : List Nat) {b : Int} (h0 : 0 ≤ b) (hb : b ≤ t.length) : Txt.slice (sTx t) none (some b) = sTx (t.take b.toNat) := by
  obtain ⟨y, rfl⟩ : ∃ y : Nat, b = y := ⟨b.toNat, by omega⟩
  have := slice_gen t (a := 0) (b := y) (by omega) (by omega) none (by
    have e : max (0 : Int) (min 0 (t.length : Int)) = 0 := by omega
    simp [Builtin.Str.strSliceIndices, e])
  rw [this, List.drop_zero]
  rfl
theorem join_sTx (cs : List Nat) : Txt.join (Str.ofString "") (cs.map fun c => sTx [c]) = sTx cs := by
  have e : ∀ l : List Str, Txt.join (Str.ofString "") l = Str.join (Str.ofString "") l := fun l => by simpa using join_plain_closes (Str.ofString "") l
  rw [e]
  induction cs with
  | nil => rfl
  | cons c r ih =>
    cases r with
    | nil => rfl
    | cons d r =>
      show sTx [c] ++ Str.ofString "" ++ Str.join (Str.ofString "") ((d :: r).map fun c => sTx [c]) = _
      rw [ih]
      refine Str.ext' ?_
      rw [Str.cps_append, Str.cps_append]
      have e0 : (Str.ofString "").cps = #[] := by decide +kernel
      rw [e0]
      simp [sTx]
theorem nodup_range {α : Type} {f : Nat → α} {n : Nat} (h : ∀ i j, i < n → j < n → f i = f j → i = j) : ((List.range n).map f).Nodup := by
  rw [List.Nodup, List.pairwise_map]
  refine List.Pairwise.imp_of_mem (R := fun a b => a < b) (fun {a b} ha hb hab e => ?_) List.pairwise_lt_range
  have := h a b (by simpa using ha) (by simpa using hb) e
  omega
theorem letters26 : (Str.ofString "abcdefghijklmnopqrstuvwxyz").length = 26 := by decide +kernel
theorem letters_at : ∀ n : Nat, n < 26 → (Str.ofString "abcdefghijklmnopqrstuvwxyz").cps.toList[n]? = some (97 + n) := by decide +kernel
theorem ix_let {i : Int} (h0 : 0 ≤ i) (h1 : i < 26) (μ : M) : ixD (.str (Str.ofString "abcdefghijklmnopqrstuvwxyz")) (.int i) μ = .ok (.str (sTx [97 + i.toNat])) μ := by
  obtain ⟨n, rfl⟩ : ∃ n : Nat, i = n := ⟨i.toNat, by omega⟩
  have e : atI (Str.ofString "abcdefghijklmnopqrstuvwxyz").cps.toList (n : Int) = some (97 + n) := atI_nat (letters_at n (by omega))
  unfold ixD
  simp only [if_pos (show (Str.ofString "abcdefghijklmnopqrstuvwxyz").length ≤ sizeLine by rw [letters26]; exact size_ok (by decide)), e]
  rfl
theorem size_small {n : Nat} (h : n ≤ 1000) : n ≤ sizeLine := size_ok (by omega)
theorem add_lst {xs ys : List D} {μ : M} (h : xs.length + ys.length ≤ sizeLine) : binD .Add false (.lst xs) (.lst ys) μ = .ok (.lst (xs ++ ys)) μ := by
  show @ite _ (xs.length + ys.length ≤ sizeLine) (Classical.propDecidable _) (mkL false (xs ++ ys) μ) .bad = _
  rw [if_pos h]
  rfl
theorem filter_ge {zs : List Str} (z : Str) (h : zs.Nodup) : zs.length ≤ (zs.filter fun y => !decide (y = z)).length + 1 := by
  induction zs with
  | nil => simp
  | cons y ys ih =>
    have hy : y ∉ ys ∧ ys.Nodup := by simpa using h
    by_cases e : y = z
    · subst e
      have : ys.filter (fun x => !decide (x = y)) = ys := List.filter_eq_self.mpr fun x hx => by
        have : x ≠ y := fun q => hy.1 (q ▸ hx)
        simp [this]
      rw [List.filter_cons_of_neg (by simp), this]
      simp
    · rw [List.filter_cons_of_pos (by simp [e])]
      have := ih hy.2
      simp only [List.length_cons]
      omega
end _L3
namespace _L3
open PySem PySem.Spec PyProof.Rows _L2
theorem runs_app {G : List FnE} : ∀ (a b : List S) (ρ : S3) (μ : M), runs G (a ++ b) ρ μ = seqF (runs G a ρ μ) (runs G b)
  | [], b, ρ, μ => by rw [List.nil_append, runs_nil, seqF_nx]
  | s :: a, b, ρ, μ => by
    rw [List.cons_append, runs_cons, runs_cons]
    cases _L3.run G s ρ μ with
    | ok fl μ1 =>
      cases fl with
      | nx ρ1 => rw [seqF_nx, seqF_nx]; exact runs_app a b ρ1 μ1
      | rt d => rfl
    | exc x μ1 => rfl
    | bad => rfl
end _L3
set_option Elab.async false
set_option linter.all false
set_option maxRecDepth 100000
namespace _L3
open PySem PySem.Spec PyProof.Rows _L2
noncomputable def emitW (a : List Nat) : List (List Nat) := if a = [] then [] else [a]
noncomputable def wc : List Nat → List Nat → List (List Nat)
  | a, [] => emitW a
  | a, c :: r => if c = 32 then emitW a ++ wc [] r else wc (a ++ [c]) r
theorem wc_free : ∀ (p a r : List Nat), 32 ∉ p → wc a (p ++ r) = wc (a ++ p) r
  | [], a, r, _ => by simp
  | c :: p, a, r, h => by
    have hc : c ≠ 32 := fun e => h (by simp [e])
    rw [List.cons_append, wc, if_neg hc, wc_free p _ r (fun q => h (by simp [q]))]
    simp
theorem wc_blank (a r : List Nat) : wc a (32 :: r) = emitW a ++ wc [] r := by rw [wc, if_pos rfl]
noncomputable def joinC : List (List Nat) → List Nat
  | [] => []
  | [p] => p
  | p :: q :: r => p ++ 32 :: joinC (q :: r)
theorem wc_join : ∀ ps : List (List Nat), (∀ p ∈ ps, 32 ∉ p) → wc [] (joinC ps) = ps.flatMap emitW
  | [], _ => rfl
  | [p], h => by
    have := wc_free p [] [] (h p (by simp))
    rw [List.append_nil, List.nil_append] at this
    show wc [] p = _
    rw [this]
    simp [wc]
  | p :: q :: r, h => by
    rw [joinC, wc_free p [] _ (h p (by simp)), List.nil_append, wc_blank, wc_join (q :: r) fun x hx => h x (by simp [hx])]
    rfl
theorem blank_codes : (Str.ofString " ").cps.toList = [32] := by decide +kernel
theorem join_codes : ∀ zs : List Str, (Str.join (Str.ofString " ") zs).cps.toList = joinC (zs.map fun z => z.cps.toList)
  | [] => rfl
  | [z] => rfl
  | z :: y :: r => by
    show (z ++ Str.ofString " " ++ Str.join (Str.ofString " ") (y :: r)).cps.toList = _
    rw [Str.cps_append, Str.cps_append, Array.toList_append, Array.toList_append, join_codes (y :: r), blank_codes, List.append_assoc]
    rfl
theorem empty_iff (z : Str) : z = Str.ofString "" ↔ z.cps.toList = [] := by
  constructor
  · intro h
    rw [h]
    decide +kernel
  · intro h
    rw [← sTx_of z, h]
    rfl
theorem emit_all : ∀ zs : List Str, ((zs.map fun z => z.cps.toList).flatMap emitW).map sTx = zs.filter fun z => !decide (z = Str.ofString "")
  | [] => rfl
  | z :: zs => by
    rw [List.map_cons, List.flatMap_cons, List.map_append, emit_all zs]
    by_cases h : z = Str.ofString ""
    · rw [List.filter_cons_of_neg (by simp [h]), (empty_iff z).mp h]
      rfl
    · have hc : z.cps.toList ≠ [] := fun e => h ((empty_iff z).mpr e)
      rw [List.filter_cons_of_pos (by simp [h]), emitW, if_neg hc, List.map_singleton, sTx_of]
      rfl
theorem split_words (T : Str) : (Txt.split T (Str.ofString " ")).filter (fun z => !decide (z = Str.ofString "")) = (wc [] T.cps.toList).map sTx := by
  have hb : Str.ofString " " = (⟨#[32]⟩ : Str) := by decide +kernel
  have hj := PySem.StrLaws.join_split T (Str.ofString " ")
  have hf := PySem.StrLaws.split_free T 32
  rw [← hb] at hf
  generalize Txt.split T (Str.ofString " ") = ps at hj hf
  rw [← hj, join_codes, wc_join _ (fun p hp => by
    obtain ⟨z, hz, rfl⟩ := List.mem_map.mp hp
    exact hf z hz), emit_all]
noncomputable def Wd1 (z : Str) : Prop := z.cps.toList ≠ [] ∧ 32 ∉ z.cps.toList ∧ z.length ≤ 12
noncomputable abbrev nTx (n : Int) : Str := Str.ofString (toString n)
theorem digs (m : Nat) : ∀ x ∈ (Nat.toDigits 10 m).map Char.toNat, 48 ≤ x ∧ x ≤ 57 := by
  intro x hx
  obtain ⟨c, hc, rfl⟩ := List.mem_map.mp hx
  exact digit_range (Nat.isDigit_of_mem_toDigits (by decide) (by decide) hc)
theorem dig_head (m : Nat) : ∃ c r, (Nat.toDigits 10 m).map Char.toNat = c :: r ∧ (1 ≤ m → c ≠ 48) := by
  induction m using Nat.strongRecOn with
  | _ m ih =>
    by_cases h : m < 10
    · rw [Nat.toDigits_of_lt_base h]
      refine ⟨_, [], rfl, ?_⟩
      have : ∀ k : Nat, k < 10 → 1 ≤ k → (Nat.digitChar k).toNat ≠ 48 := by decide
      exact this m h
    · obtain ⟨c, r, e, hc⟩ := ih (m / 10) (by omega)
      have t : Nat.toDigits 10 (m / 10) ++ Nat.toDigits 10 (m % 10) = Nat.toDigits 10 (10 * (m / 10) + m % 10) := Nat.toDigits_append_toDigits (by decide) (by omega) (Nat.mod_lt m (by decide))
      rw [Nat.div_add_mod] at t
      rw [← t, List.map_append, e]
      exact ⟨c, _, rfl, fun _ => hc (by omega)⟩
theorem num_codes {n : Int} (h0 : 0 ≤ n) (h1 : n ≤ 999999999999) : ∃ c r, (nTx n).cps.toList = c :: r ∧ (∀ x ∈ c :: r, 48 ≤ x ∧ x ≤ 57) ∧ (nTx n).length ≤ 12 ∧ (c = 48 → r = []) := by
  have hl : (nTx n).length ≤ 12 := toString_length_le h0 (by decide) (by omega : n < 10 ^ 12)
  obtain ⟨m, rfl⟩ := Int.eq_ofNat_of_zero_le h0
  have e : (nTx (m : Int)).cps.toList = _ := PySem.W.KIN.signs_num m
  obtain ⟨c, r, e2, hc⟩ := dig_head m
  have hd := digs m
  rw [e2] at hd e
  refine ⟨c, r, e, hd, hl, fun h48 => ?_⟩
  have hm : m = 0 := by
    by_cases hm : 1 ≤ m
    · exact absurd h48 (hc hm)
    · omega
  subst hm
  have : (Nat.toDigits 10 0).map Char.toNat = [48] := by decide
  rw [this] at e2
  exact (List.cons.inj e2).2.symm
theorem num_int {n : Int} (h0 : 0 ≤ n) (h1 : n ≤ 999999999999) : PySem.intText? (nTx n) = some n := by
  obtain ⟨c, r, e, hd, hl, _⟩ := num_codes h0 h1
  have := PySem.intText_digits (x := nTx n) (by rw [e]; exact hd) (by rw [e]; simp) (by omega)
  obtain ⟨m, rfl⟩ := Int.eq_ofNat_of_zero_le h0
  rw [this, show (nTx (m : Int)).cps.toList = _ from PySem.W.KIN.signs_num m, PySem.W.KIN.val_back]
theorem num_word {n : Int} (h0 : 0 ≤ n) (h1 : n ≤ 999999999999) : Wd1 (nTx n) := by
  obtain ⟨c, r, e, hd, hl, _⟩ := num_codes h0 h1
  refine ⟨by rw [e]; simp, fun h => ?_, hl⟩
  rw [e] at h
  have := hd 32 h
  omega
theorem name_word {z : Str} (h : isNameB z = true) : Wd1 z := by
  unfold isNameB at h
  simp only [Bool.and_eq_true, decide_eq_true_eq, List.all_eq_true] at h
  obtain ⟨h1, h2, h3⟩ := h
  refine ⟨fun e => ?_, fun e => ?_, by omega⟩
  · have : z.length = z.cps.toList.length := by simp [Str.length]
    rw [this, e] at h1
    simp at h1
  · have := (h3 32 e).1
    omega
theorem log_small {n : Int} (h0 : 0 ≤ n) (h1 : n ≤ 999999999999) : n.natAbs.log2 < 1920 := by
  by_cases h : n.natAbs = 0
  · rw [h]; decide
  · have : n.natAbs.log2 < 64 := (Nat.log2_lt h).mpr (by omega)
    omega
noncomputable def flat2 {α : Type} (ls : List (α × α)) : List α := ls.flatMap fun p => [p.1, p.2]
theorem flat2_len {α : Type} : ∀ ls : List (α × α), (flat2 ls).length = 2 * ls.length
  | [] => rfl
  | p :: ls => by
    show (p.1 :: p.2 :: flat2 ls).length = _
    simp only [List.length_cons, flat2_len ls]
    omega
theorem flat2_get {α : Type} : ∀ (ls : List (α × α)) (k : Nat), (flat2 ls)[2 * k]? = (ls.map (·.1))[k]? ∧ (flat2 ls)[1 + 2 * k]? = (ls.map (·.2))[k]?
  | [], k => by simp [flat2]
  | p :: ls, 0 => ⟨rfl, rfl⟩
  | p :: ls, k + 1 => by
    have e1 : 2 * (k + 1) = 2 * k + 1 + 1 := by omega
    have e2 : 1 + 2 * (k + 1) = (1 + 2 * k) + 1 + 1 := by omega
    show (p.1 :: p.2 :: flat2 ls)[2 * (k + 1)]? = _ ∧ (p.1 :: p.2 :: flat2 ls)[1 + 2 * (k + 1)]? = _
    rw [e2, e1, List.getElem?_cons_succ, List.getElem?_cons_succ, List.getElem?_cons_succ, List.getElem?_cons_succ]
    exact flat2_get ls k
theorem pick_all {α : Type} : ∀ l : List α, (List.range l.length).filterMap (fun i => l[i]?) = l
  | [] => rfl
  | a :: l => by
    rw [List.length_cons, List.range_succ_eq_map, List.filterMap_cons, List.getElem?_cons_zero, List.filterMap_map]
    show a :: List.filterMap _ _ = _
    congr 1
    exact pick_all l
theorem pick_0 {α : Type} (ls : List (α × α)) : (pickI (flat2 ls).length 0 2).filterMap ((flat2 ls)[·]?) = ls.map (·.1) := by
  have e : pickI (flat2 ls).length 0 2 = (List.range (ls.map (·.1)).length).map fun k => 2 * k := by
    unfold pickI sliceRange
    rw [flat2_len, List.length_map]
    have h0 : max (0 : Int) (min 0 ((2 * ls.length : Nat) : Int)) = 0 := by omega
    simp only [h0, if_pos (show (2 : Int) > 0 by decide)]
    have hc : (if (0 : Int) < ((2 * ls.length : Nat) : Int) then (((2 * ls.length : Nat) : Int) - 0 + 2 - 1) / 2 else 0).toNat = ls.length := by split <;> omega
    rw [hc]
    refine List.map_congr_left fun k _ => ?_
    omega
  rw [e, List.filterMap_map]
  have : ((fun x => (flat2 ls)[x]?) ∘ fun k => 2 * k) = fun i => (ls.map (·.1))[i]? := funext fun k => (flat2_get ls k).1
  rw [this]
  exact pick_all _
theorem pick_1 {α : Type} (ls : List (α × α)) : (pickI (flat2 ls).length 1 2).filterMap ((flat2 ls)[·]?) = ls.map (·.2) := by
  have e : pickI (flat2 ls).length 1 2 = (List.range (ls.map (·.2)).length).map fun k => 1 + 2 * k := by
    unfold pickI sliceRange
    rw [flat2_len, List.length_map]
    by_cases hz : ls.length = 0
    · rw [hz]
      rfl
    · have h0 : max (0 : Int) (min 1 ((2 * ls.length : Nat) : Int)) = 1 := by omega
      simp only [h0, if_pos (show (2 : Int) > 0 by decide)]
      have hc : (if (1 : Int) < ((2 * ls.length : Nat) : Int) then (((2 * ls.length : Nat) : Int) - 1 + 2 - 1) / 2 else 0).toNat = ls.length := by split <;> omega
      rw [hc]
      refine List.map_congr_left fun k _ => ?_
      omega
  rw [e, List.filterMap_map]
  have : ((fun x => (flat2 ls)[x]?) ∘ fun k => 1 + 2 * k) = fun i => (ls.map (·.2))[i]? := funext fun k => (flat2_get ls k).2
  rw [this]
  exact pick_all _
theorem str_len (x : Str) : x.length = x.cps.toList.length := by simp [Str.length]
end _L3
set_option Elab.async false
set_option linter.all false
set_option maxRecDepth 100000
namespace _K09
open PySem PySem.Spec PyProof.Rows _L2 _L3
noncomputable def top (i : Nat) : Stmt := PySem.Challenge.pw_pointpurse_k09_deeds_written.main.body.getD i (.Pass ⟨0, 0, 0, 0⟩)
noncomputable def e_LONGEST_NAME : FnE := ⟨"LONGEST_NAME", [], 1000000, fun _ _ => .bad, some (.cst (.int 8))⟩
theorem d_LONGEST_NAME : e_LONGEST_NAME.dat = some (.cst (.int 8)) := rfl
noncomputable def e_PARTS : FnE := ⟨"PARTS", [], 1000000, fun _ _ => .bad, some (.dct [("buy", (.tup [(.str "ref"), (.str "day"), (.str "purse"), (.str "lines")])), ("spend", (.tup [(.str "ref"), (.str "day"), (.str "purse"), (.str "points"), (.str "first")])), ("give", (.tup [(.str "ref"), (.str "day"), (.str "purse"), (.str "other"), (.str "points")])), ("change", (.tup [(.str "ref"), (.str "day"), (.str "purse"), (.str "other"), (.str "points")])), ("lend", (.tup [(.str "ref"), (.str "day"), (.str "purse"), (.str "other"), (.str "points"), (.str "end")])), ("back", (.tup [(.str "ref"), (.str "day"), (.str "of")])), ("fix", (.tup [(.str "ref"), (.str "of"), (.str "lines")]))])⟩
noncomputable def e_LEASTS : FnE := ⟨"LEASTS", [], 1000000, fun _ _ => .bad, some (.dct [("day", (.int 0)), ("points", (.int 1)), ("end", (.int 0))])⟩
theorem d_LEASTS : e_LEASTS.dat = some (.dct [("day", (.int 0)), ("points", (.int 1)), ("end", (.int 0))]) := rfl
noncomputable def e_MOST_IN_A_LIST : FnE := ⟨"MOST_IN_A_LIST", [], 1000000, fun _ _ => .bad, some (.cst (.int 8))⟩
theorem d_MOST_IN_A_LIST : e_MOST_IN_A_LIST.dat = some (.cst (.int 8)) := rfl
noncomputable def e_MOST_FIGURES : FnE := ⟨"MOST_FIGURES", [], 1000000, fun _ _ => .bad, some (.cst (.int 12))⟩
theorem d_MOST_FIGURES : e_MOST_FIGURES.dat = some (.cst (.int 12)) := rfl
noncomputable abbrev s_is_number : Stmt := top 1
noncomputable abbrev N_is_number : List Str := ["value", "least"]
theorem sc_is_number : FnScope N_is_number ["value", "least"] (defScope s_is_number) := ⟨rfl, rfl, rfl, by decide +kernel, rfl, by decide +kernel, by decide +kernel⟩
noncomputable def b_is_number : List S :=
    [.ret (.and_ (.bi (.isT "int") false [(.var 0)]) (.and_ (.not_ (.bi (.isT "bool") false [(.var 0)])) (.cmp .GtE (.var 0) (.var 1))))]
noncomputable abbrev G_is_number : List FnE := []
noncomputable def f_is_number : Fn := fnOf G_is_number 2 0 b_is_number
noncomputable def e_is_number : FnE := ⟨"is_number", ["value", "least"], 1, f_is_number, none⟩
theorem c_is_number : chkSs G_is_number 0 b_is_number ⟨N_is_number, defScope s_is_number, false⟩ (defBody s_is_number) = true := by decide +kernel
noncomputable abbrev s_is_tuple_of : Stmt := top 2
noncomputable abbrev N_is_tuple_of : List Str := ["value", "many"]
theorem sc_is_tuple_of : FnScope N_is_tuple_of ["value", "many"] (defScope s_is_tuple_of) := ⟨rfl, rfl, rfl, by decide +kernel, rfl, by decide +kernel, by decide +kernel⟩
noncomputable def b_is_tuple_of : List S :=
    [.ret (.and_ (.bi (.isT "tuple") false [(.var 0)]) (.cmp .Eq (.bi .len false [(.var 0)]) (.var 1)))]
noncomputable abbrev G_is_tuple_of : List FnE := []
noncomputable def f_is_tuple_of : Fn := fnOf G_is_tuple_of 2 0 b_is_tuple_of
noncomputable def e_is_tuple_of : FnE := ⟨"is_tuple_of", ["value", "many"], 1, f_is_tuple_of, none⟩
theorem c_is_tuple_of : chkSs G_is_tuple_of 0 b_is_tuple_of ⟨N_is_tuple_of, defScope s_is_tuple_of, false⟩ (defBody s_is_tuple_of) = true := by decide +kernel
noncomputable abbrev s_are_unlike : Stmt := top 3
noncomputable abbrev N_are_unlike : List Str := ["values"]
theorem sc_are_unlike : FnScope N_are_unlike ["values"] (defScope s_are_unlike) := ⟨rfl, rfl, rfl, by decide +kernel, rfl, by decide +kernel, by decide +kernel⟩
noncomputable def b_are_unlike : List S :=
    [.ret (.cmp .Eq (.bi .lenSet false [(.var 0)]) (.bi .len false [(.var 0)]))]
noncomputable abbrev G_are_unlike : List FnE := []
noncomputable def f_are_unlike : Fn := fnOf G_are_unlike 1 0 b_are_unlike
noncomputable def e_are_unlike : FnE := ⟨"are_unlike", ["values"], 1, f_are_unlike, none⟩
theorem c_are_unlike : chkSs G_are_unlike 0 b_are_unlike ⟨N_are_unlike, defScope s_are_unlike, false⟩ (defBody s_are_unlike) = true := by decide +kernel
noncomputable abbrev s_is_name : Stmt := top 9
noncomputable abbrev N_is_name : List Str := ["text"]
theorem sc_is_name : FnScope N_is_name ["text"] (defScope s_is_name) := ⟨rfl, rfl, rfl, by decide +kernel, rfl, by decide +kernel, by decide +kernel⟩
noncomputable def q_is_name_0 : E := (.comp false 1 (.nm 0) .str [(.var 0)] [] (.chain .LtE .LtE (.cst (.str "a")) (.var 0) (.cst (.str "z"))))
noncomputable def b_is_name : List S :=
    [.ite (.or_ (.not_ (.bi (.isT "str") false [(.var 0)])) (.not_ (.chain .LtE .LtE (.cst (.int 1)) (.bi .len false [(.var 0)]) (.gl 0))))
      [.ret (.cst (.bl false))]
      [],
    .ret (.bi .all false [q_is_name_0])]
noncomputable abbrev G_is_name : List FnE := [e_LONGEST_NAME]
noncomputable def f_is_name : Fn := fnOf G_is_name 1 0 b_is_name
noncomputable def e_is_name : FnE := ⟨"is_name", ["text"], 1, f_is_name, none⟩
theorem c_is_name : chkSs G_is_name 0 b_is_name ⟨N_is_name, defScope s_is_name, false⟩ (defBody s_is_name) = true := by decide +kernel
noncomputable abbrev s_parts_of : Stmt := top 14
noncomputable abbrev N_parts_of : List Str := ["word"]
theorem sc_parts_of : FnScope N_parts_of ["word"] (defScope s_parts_of) := ⟨rfl, rfl, rfl, by decide +kernel, rfl, by decide +kernel, by decide +kernel⟩
noncomputable def b_parts_of : List S :=
    [.ret (.gget 0 (.var 0) (.tup []))]
noncomputable abbrev G_parts_of : List FnE := [e_PARTS]
noncomputable def f_parts_of : Fn := fnOf G_parts_of 1 0 b_parts_of
noncomputable def e_parts_of : FnE := ⟨"parts_of", ["word"], 1, f_parts_of, none⟩
theorem c_parts_of : chkSs G_parts_of 0 b_parts_of ⟨N_parts_of, defScope s_parts_of, false⟩ (defBody s_parts_of) = true := by decide +kernel
noncomputable abbrev s_is_number_part : Stmt := top 15
noncomputable abbrev N_is_number_part : List Str := ["part"]
theorem sc_is_number_part : FnScope N_is_number_part ["part"] (defScope s_is_number_part) := ⟨rfl, rfl, rfl, by decide +kernel, rfl, by decide +kernel, by decide +kernel⟩
noncomputable def b_is_number_part : List S :=
    [.ret (.gin false 0 (.var 0))]
noncomputable abbrev G_is_number_part : List FnE := [e_LEASTS]
noncomputable def f_is_number_part : Fn := fnOf G_is_number_part 1 0 b_is_number_part
noncomputable def e_is_number_part : FnE := ⟨"is_number_part", ["part"], 1, f_is_number_part, none⟩
theorem c_is_number_part : chkSs G_is_number_part 0 b_is_number_part ⟨N_is_number_part, defScope s_is_number_part, false⟩ (defBody s_is_number_part) = true := by decide +kernel
noncomputable abbrev s_is_line : Stmt := top 16
noncomputable abbrev N_is_line : List Str := ["line"]
theorem sc_is_line : FnScope N_is_line ["line"] (defScope s_is_line) := ⟨rfl, rfl, rfl, by decide +kernel, rfl, by decide +kernel, by decide +kernel⟩
noncomputable def b_is_line : List S :=
    [.ret (.and_ (.call 0 .frz [(.var 0), (.cst (.int 2))]) (.and_ (.call 1 .frz [(.ix (.var 0) (.cst (.int 0)))]) (.call 2 .frz [(.ix (.var 0) (.cst (.int 1))), (.cst (.int 0))])))]
noncomputable abbrev G_is_line : List FnE := [e_is_tuple_of, e_is_name, e_is_number]
noncomputable def f_is_line : Fn := fnOf G_is_line 1 0 b_is_line
noncomputable def e_is_line : FnE := ⟨"is_line", ["line"], 2, f_is_line, none⟩
theorem c_is_line : chkSs G_is_line 1 b_is_line ⟨N_is_line, defScope s_is_line, false⟩ (defBody s_is_line) = true := by decide +kernel
noncomputable abbrev s_are_lines : Stmt := top 17
noncomputable abbrev N_are_lines : List Str := ["lines"]
theorem sc_are_lines : FnScope N_are_lines ["lines"] (defScope s_are_lines) := ⟨rfl, rfl, rfl, by decide +kernel, rfl, by decide +kernel, by decide +kernel⟩
noncomputable def q_are_lines_0 : E := (.comp false 1 (.nm 0) .seq [(.var 0)] [] (.call 1 .frz [(.var 0)]))
noncomputable def b_are_lines : List S :=
    [.ite (.or_ (.not_ (.bi (.isT "tuple") false [(.var 0)])) (.not_ (.chain .LtE .LtE (.cst (.int 1)) (.bi .len false [(.var 0)]) (.gl 0))))
      [.ret (.cst (.bl false))]
      [],
    .ret (.bi .all false [q_are_lines_0])]
noncomputable abbrev G_are_lines : List FnE := [e_MOST_IN_A_LIST, e_is_line]
noncomputable def f_are_lines : Fn := fnOf G_are_lines 1 0 b_are_lines
noncomputable def e_are_lines : FnE := ⟨"are_lines", ["lines"], 3, f_are_lines, none⟩
theorem c_are_lines : chkSs G_are_lines 2 b_are_lines ⟨N_are_lines, defScope s_are_lines, false⟩ (defBody s_are_lines) = true := by decide +kernel
noncomputable abbrev s_are_unlike_names : Stmt := top 18
noncomputable abbrev N_are_unlike_names : List Str := ["names"]
theorem sc_are_unlike_names : FnScope N_are_unlike_names ["names"] (defScope s_are_unlike_names) := ⟨rfl, rfl, rfl, by decide +kernel, rfl, by decide +kernel, by decide +kernel⟩
noncomputable def q_are_unlike_names_0 : E := (.comp false 1 (.nm 0) .seq [(.var 0)] [] (.call 1 .frz [(.var 0)]))
noncomputable def b_are_unlike_names : List S :=
    [.ite (.or_ (.not_ (.bi (.isT "tuple") false [(.var 0)])) (.cmp .Gt (.bi .len false [(.var 0)]) (.gl 0)))
      [.ret (.cst (.bl false))]
      [],
    .ret (.and_ (.bi .all false [q_are_unlike_names_0]) (.call 2 .frz [(.var 0)]))]
noncomputable abbrev G_are_unlike_names : List FnE := [e_MOST_IN_A_LIST, e_is_name, e_are_unlike]
noncomputable def f_are_unlike_names : Fn := fnOf G_are_unlike_names 1 0 b_are_unlike_names
noncomputable def e_are_unlike_names : FnE := ⟨"are_unlike_names", ["names"], 2, f_are_unlike_names, none⟩
theorem c_are_unlike_names : chkSs G_are_unlike_names 1 b_are_unlike_names ⟨N_are_unlike_names, defScope s_are_unlike_names, false⟩ (defBody s_are_unlike_names) = true := by decide +kernel
noncomputable abbrev s_is_value_of : Stmt := top 19
noncomputable abbrev N_is_value_of : List Str := ["part", "value"]
theorem sc_is_value_of : FnScope N_is_value_of ["part", "value"] (defScope s_is_value_of) := ⟨rfl, rfl, rfl, by decide +kernel, rfl, by decide +kernel, by decide +kernel⟩
noncomputable def b_is_value_of : List S :=
    [.ite (.cmp .Eq (.var 0) (.cst (.str "lines")))
      [.ret (.call 0 .frz [(.var 1)])]
      [],
    .ite (.cmp .Eq (.var 0) (.cst (.str "first")))
      [.ret (.call 1 .frz [(.var 1)])]
      [],
    .ite (.call 2 .frz [(.var 0)])
      [.ret (.call 3 .frz [(.var 1), (.gix 4 (.var 0))])]
      [],
    .ret (.call 5 .frz [(.var 1)])]
noncomputable abbrev G_is_value_of : List FnE := [e_are_lines, e_are_unlike_names, e_is_number_part, e_is_number, e_LEASTS, e_is_name]
noncomputable def f_is_value_of : Fn := fnOf G_is_value_of 2 0 b_is_value_of
noncomputable def e_is_value_of : FnE := ⟨"is_value_of", ["part", "value"], 4, f_is_value_of, none⟩
theorem c_is_value_of : chkSs G_is_value_of 3 b_is_value_of ⟨N_is_value_of, defScope s_is_value_of, false⟩ (defBody s_is_value_of) = true := by decide +kernel
noncomputable abbrev s_has_its_parts : Stmt := top 20
noncomputable abbrev N_has_its_parts : List Str := ["deed", "parts"]
theorem sc_has_its_parts : FnScope N_has_its_parts ["deed"] (defScope s_has_its_parts) := ⟨rfl, rfl, rfl, by decide +kernel, rfl, by decide +kernel, by decide +kernel⟩
noncomputable def q_has_its_parts_0 : E := (.comp false 2 (.tp [0, 1]) .zip [(.var 1), (.sl false (.var 0) [(.cst (.int 1))] [])] [] (.call 1 .frz [(.var 0), (.var 1)]))
noncomputable def b_has_its_parts : List S :=
    [.ite (.or_ (.not_ (.bi (.isT "tuple") false [(.var 0)])) (.cmp .Eq (.bi .len false [(.var 0)]) (.cst (.int 0))))
      [.ret (.cst (.bl false))]
      [],
    .asg (.nm 1) (.call 0 .frz [(.ix (.var 0) (.cst (.int 0)))]),
    .ite (.or_ (.cmp .Eq (.bi .len false [(.var 1)]) (.cst (.int 0))) (.cmp .NotEq (.bi .len false [(.var 0)]) (.bin .Add false (.bi .len false [(.var 1)]) (.cst (.int 1)))))
      [.ret (.cst (.bl false))]
      [],
    .ret (.bi .all false [q_has_its_parts_0])]
noncomputable abbrev G_has_its_parts : List FnE := [e_parts_of, e_is_value_of]
noncomputable def f_has_its_parts : Fn := fnOf G_has_its_parts 1 1 b_has_its_parts
noncomputable def e_has_its_parts : FnE := ⟨"has_its_parts", ["deed"], 5, f_has_its_parts, none⟩
theorem c_has_its_parts : chkSs G_has_its_parts 4 b_has_its_parts ⟨N_has_its_parts, defScope s_has_its_parts, false⟩ (defBody s_has_its_parts) = true := by decide +kernel
noncomputable abbrev s_named_parts : Stmt := top 21
noncomputable abbrev N_named_parts : List Str := ["deed"]
theorem sc_named_parts : FnScope N_named_parts ["deed"] (defScope s_named_parts) := ⟨rfl, rfl, rfl, by decide +kernel, rfl, by decide +kernel, by decide +kernel⟩
noncomputable def b_named_parts : List S :=
    [.ret (.bi .dictZip false [(.call 0 .frz [(.ix (.var 0) (.cst (.int 0)))]), (.sl false (.var 0) [(.cst (.int 1))] [])])]
noncomputable abbrev G_named_parts : List FnE := [e_parts_of]
noncomputable def f_named_parts : Fn := fnOf G_named_parts 1 0 b_named_parts
noncomputable def e_named_parts : FnE := ⟨"named_parts", ["deed"], 2, f_named_parts, none⟩
theorem c_named_parts : chkSs G_named_parts 1 b_named_parts ⟨N_named_parts, defScope s_named_parts, false⟩ (defBody s_named_parts) = true := by decide +kernel
noncomputable abbrev s_go_together : Stmt := top 22
noncomputable abbrev N_go_together : List Str := ["parts"]
theorem sc_go_together : FnScope N_go_together ["parts"] (defScope s_go_together) := ⟨rfl, rfl, rfl, by decide +kernel, rfl, by decide +kernel, by decide +kernel⟩
noncomputable def b_go_together : List S :=
    [.ite (.and_ (.cmp .In (.cst (.str "other")) (.var 0)) (.cmp .Eq (.ix (.var 0) (.cst (.str "other"))) (.ix (.var 0) (.cst (.str "purse")))))
      [.ret (.cst (.bl false))]
      [],
    .ite (.and_ (.cmp .In (.cst (.str "of")) (.var 0)) (.cmp .Eq (.ix (.var 0) (.cst (.str "of"))) (.ix (.var 0) (.cst (.str "ref")))))
      [.ret (.cst (.bl false))]
      [],
    .ret (.or_ (.cmp .NotIn (.cst (.str "end")) (.var 0)) (.cmp .Gt (.ix (.var 0) (.cst (.str "end"))) (.ix (.var 0) (.cst (.str "day")))))]
noncomputable abbrev G_go_together : List FnE := []
noncomputable def f_go_together : Fn := fnOf G_go_together 1 0 b_go_together
noncomputable def e_go_together : FnE := ⟨"go_together", ["parts"], 1, f_go_together, none⟩
theorem c_go_together : chkSs G_go_together 0 b_go_together ⟨N_go_together, defScope s_go_together, false⟩ (defBody s_go_together) = true := by decide +kernel
noncomputable abbrev s_checked_deed : Stmt := top 23
noncomputable abbrev N_checked_deed : List Str := ["deed"]
theorem sc_checked_deed : FnScope N_checked_deed ["deed"] (defScope s_checked_deed) := ⟨rfl, rfl, rfl, by decide +kernel, rfl, by decide +kernel, by decide +kernel⟩
noncomputable def b_checked_deed : List S :=
    [.ite (.not_ (.call 0 .frz [(.var 0)]))
      [.never]
      [],
    .ite (.not_ (.call 1 .frz [(.call 2 .frz [(.var 0)])]))
      [.never]
      [],
    .ret (.cst (.bl true))]
noncomputable abbrev G_checked_deed : List FnE := [e_has_its_parts, e_go_together, e_named_parts]
noncomputable def f_checked_deed : Fn := fnOf G_checked_deed 1 0 b_checked_deed
noncomputable def e_checked_deed : FnE := ⟨"checked_deed", ["deed"], 6, f_checked_deed, none⟩
theorem c_checked_deed : chkSs G_checked_deed 5 b_checked_deed ⟨N_checked_deed, defScope s_checked_deed, false⟩ (defBody s_checked_deed) = true := by decide +kernel
noncomputable abbrev s_words_in : Stmt := top 26
noncomputable abbrev N_words_in : List Str := ["text"]
theorem sc_words_in : FnScope N_words_in ["text"] (defScope s_words_in) := ⟨rfl, rfl, rfl, by decide +kernel, rfl, by decide +kernel, by decide +kernel⟩
noncomputable def q_words_in_0 : E := (.comp false 1 (.nm 0) .seq [(.mt .split (.var 0) [(.cst (.str " "))])] [(.cmp .NotEq (.var 0) (.cst (.str "")))] (.var 0))
noncomputable def b_words_in : List S :=
    [.ret q_words_in_0]
noncomputable abbrev G_words_in : List FnE := []
noncomputable def f_words_in : Fn := fnOf G_words_in 1 0 b_words_in
noncomputable def e_words_in : FnE := ⟨"words_in", ["text"], 1, f_words_in, none⟩
theorem c_words_in : chkSs G_words_in 0 b_words_in ⟨N_words_in, defScope s_words_in, false⟩ (defBody s_words_in) = true := by decide +kernel
noncomputable abbrev s_is_written_number : Stmt := top 27
noncomputable abbrev N_is_written_number : List Str := ["word"]
theorem sc_is_written_number : FnScope N_is_written_number ["word"] (defScope s_is_written_number) := ⟨rfl, rfl, rfl, by decide +kernel, rfl, by decide +kernel, by decide +kernel⟩
noncomputable def q_is_written_number_0 : E := (.comp false 1 (.nm 0) .str [(.var 0)] [] (.chain .LtE .LtE (.cst (.str "0")) (.var 0) (.cst (.str "9"))))
noncomputable def b_is_written_number : List S :=
    [.ite (.not_ (.chain .LtE .LtE (.cst (.int 1)) (.bi .len false [(.var 0)]) (.gl 0)))
      [.ret (.cst (.bl false))]
      [],
    .ite (.not_ (.bi .all false [q_is_written_number_0]))
      [.ret (.cst (.bl false))]
      [],
    .ret (.or_ (.cmp .Eq (.var 0) (.cst (.str "0"))) (.cmp .NotEq (.ix (.var 0) (.cst (.int 0))) (.cst (.str "0"))))]
noncomputable abbrev G_is_written_number : List FnE := [e_MOST_FIGURES]
noncomputable def f_is_written_number : Fn := fnOf G_is_written_number 1 0 b_is_written_number
noncomputable def e_is_written_number : FnE := ⟨"is_written_number", ["word"], 1, f_is_written_number, none⟩
theorem c_is_written_number : chkSs G_is_written_number 0 b_is_written_number ⟨N_is_written_number, defScope s_is_written_number, false⟩ (defBody s_is_written_number) = true := by decide +kernel
noncomputable abbrev s_words_of : Stmt := top 28
noncomputable abbrev N_words_of : List Str := ["part", "value", "words", "kind", "money"]
theorem sc_words_of : FnScope N_words_of ["part", "value"] (defScope s_words_of) := ⟨rfl, rfl, rfl, by decide +kernel, rfl, by decide +kernel, by decide +kernel⟩
noncomputable def l_words_of_0 : List S :=
    [.ex (.mt .extend (.var 2) [(.lst false [(.var 3), (.bi .str false [(.var 4)])])])]
noncomputable def b_words_of : List S :=
    [.ite (.cmp .Eq (.var 0) (.cst (.str "first")))
      [.ret (.bi .list false [(.var 1)])]
      [],
    .ite (.cmp .Eq (.var 0) (.cst (.str "lines")))
      [.asg (.nm 2) (.lst true []),
      .for_ (.tp [3, 4]) .seq [(.var 1)] l_words_of_0 [3, 4],
      .ret (.var 2)]
      [],
    .ret (.lst false [(.bi .str false [(.var 1)])])]
noncomputable abbrev G_words_of : List FnE := []
noncomputable def f_words_of : Fn := fnOf G_words_of 2 3 b_words_of
noncomputable def e_words_of : FnE := ⟨"words_of", ["part", "value"], 1, f_words_of, none⟩
theorem c_words_of : chkSs G_words_of 0 b_words_of ⟨N_words_of, defScope s_words_of, false⟩ (defBody s_words_of) = true := by decide +kernel
noncomputable abbrev s_deed_text : Stmt := top 29
noncomputable abbrev N_deed_text : List Str := ["deed", "words", "part", "value"]
theorem sc_deed_text : FnScope N_deed_text ["deed"] (defScope s_deed_text) := ⟨rfl, rfl, rfl, by decide +kernel, rfl, by decide +kernel, by decide +kernel⟩
noncomputable def l_deed_text_0 : List S :=
    [.ex (.mt .extend (.var 1) [(.call 1 .frz [(.var 2), (.var 3)])])]
noncomputable def b_deed_text : List S :=
    [.ex (.call 0 .frz [(.var 0)]),
    .asg (.nm 1) (.lst true [(.ix (.var 0) (.cst (.int 0)))]),
    .for_ (.tp [2, 3]) .items [(.call 2 .frz [(.var 0)])] l_deed_text_0 [2, 3],
    .ret (.mt .join (.cst (.str " ")) [(.var 1)])]
noncomputable abbrev G_deed_text : List FnE := [e_checked_deed, e_words_of, e_named_parts]
noncomputable def f_deed_text : Fn := fnOf G_deed_text 1 3 b_deed_text
noncomputable def e_deed_text : FnE := ⟨"deed_text", ["deed"], 7, f_deed_text, none⟩
theorem c_deed_text : chkSs G_deed_text 6 b_deed_text ⟨N_deed_text, defScope s_deed_text, false⟩ (defBody s_deed_text) = true := by decide +kernel
noncomputable abbrev s_read_number : Stmt := top 30
noncomputable abbrev N_read_number : List Str := ["word"]
theorem sc_read_number : FnScope N_read_number ["word"] (defScope s_read_number) := ⟨rfl, rfl, rfl, by decide +kernel, rfl, by decide +kernel, by decide +kernel⟩
noncomputable def b_read_number : List S :=
    [.ite (.not_ (.call 0 .frz [(.var 0)]))
      [.never]
      [],
    .ret (.bi .int false [(.var 0)])]
noncomputable abbrev G_read_number : List FnE := [e_is_written_number]
noncomputable def f_read_number : Fn := fnOf G_read_number 1 0 b_read_number
noncomputable def e_read_number : FnE := ⟨"read_number", ["word"], 2, f_read_number, none⟩
theorem c_read_number : chkSs G_read_number 1 b_read_number ⟨N_read_number, defScope s_read_number, false⟩ (defBody s_read_number) = true := by decide +kernel
noncomputable abbrev s_read_lines : Stmt := top 31
noncomputable abbrev N_read_lines : List Str := ["words", "kinds", "moneys"]
theorem sc_read_lines : FnScope N_read_lines ["words"] (defScope s_read_lines) := ⟨rfl, rfl, rfl, by decide +kernel, rfl, by decide +kernel, by decide +kernel⟩
noncomputable def q_read_lines_0 : E := (.comp false 2 (.tp [0, 1]) .zip [(.var 1), (.var 2)] [] (.tup [(.var 0), (.call 0 .frz [(.var 1)])]))
noncomputable def b_read_lines : List S :=
    [.asg (.nm 1) (.stp false (.var 0) [(.cst (.int 0))] [(.cst (.int 2))]),
    .asg (.nm 2) (.stp false (.var 0) [(.cst (.int 1))] [(.cst (.int 2))]),
    .ite (.cmp .NotEq (.bi .len false [(.var 1)]) (.bi .len false [(.var 2)]))
      [.never]
      [],
    .ret (.bi .tuple false [q_read_lines_0])]
noncomputable abbrev G_read_lines : List FnE := [e_read_number]
noncomputable def f_read_lines : Fn := fnOf G_read_lines 1 2 b_read_lines
noncomputable def e_read_lines : FnE := ⟨"read_lines", ["words"], 3, f_read_lines, none⟩
theorem c_read_lines : chkSs G_read_lines 2 b_read_lines ⟨N_read_lines, defScope s_read_lines, false⟩ (defBody s_read_lines) = true := by decide +kernel
noncomputable abbrev s_read_part : Stmt := top 32
noncomputable abbrev N_read_part : List Str := ["part", "words"]
theorem sc_read_part : FnScope N_read_part ["part", "words"] (defScope s_read_part) := ⟨rfl, rfl, rfl, by decide +kernel, rfl, by decide +kernel, by decide +kernel⟩
noncomputable def b_read_part : List S :=
    [.ite (.cmp .Eq (.var 0) (.cst (.str "first")))
      [.ret (.bi .tuple false [(.var 1)])]
      [],
    .ite (.cmp .Eq (.var 0) (.cst (.str "lines")))
      [.ret (.call 0 .frz [(.var 1)])]
      [],
    .ite (.cmp .NotEq (.bi .len false [(.var 1)]) (.cst (.int 1)))
      [.never]
      [],
    .ite (.call 1 .frz [(.var 0)])
      [.ret (.call 2 .frz [(.ix (.var 1) (.cst (.int 0)))])]
      [],
    .ret (.ix (.var 1) (.cst (.int 0)))]
noncomputable abbrev G_read_part : List FnE := [e_read_lines, e_is_number_part, e_read_number]
noncomputable def f_read_part : Fn := fnOf G_read_part 2 0 b_read_part
noncomputable def e_read_part : FnE := ⟨"read_part", ["part", "words"], 4, f_read_part, none⟩
theorem c_read_part : chkSs G_read_part 3 b_read_part ⟨N_read_part, defScope s_read_part, false⟩ (defBody s_read_part) = true := by decide +kernel
noncomputable abbrev s_read_deed : Stmt := top 33
noncomputable abbrev N_read_deed : List Str := ["text", "words", "values", "ahead", "part", "many", "deed"]
theorem sc_read_deed : FnScope N_read_deed ["text"] (defScope s_read_deed) := ⟨rfl, rfl, rfl, by decide +kernel, rfl, by decide +kernel, by decide +kernel⟩
noncomputable def l_read_deed_0 : List S :=
    [.asg (.nm 5) (.ife (.cmp .In (.var 4) (.tup [(.cst (.str "lines")), (.cst (.str "first"))])) (.bi .len false [(.var 3)]) (.cst (.int 1))),
    .ex (.mt .append (.var 2) [(.call 1 .frz [(.var 4), (.sl false (.var 3) [] [(.var 5)])])]),
    .asg (.nm 3) (.sl false (.var 3) [(.var 5)] [])]
noncomputable def b_read_deed : List S :=
    [.asg (.nm 1) (.call 0 .frz [(.var 0)]),
    .ite (.cmp .Eq (.bi .len false [(.var 1)]) (.cst (.int 0)))
      [.never]
      [],
    .asg (.nm 2) (.lst true [(.ix (.var 1) (.cst (.int 0)))]),
    .asg (.nm 3) (.sl false (.var 1) [(.cst (.int 1))] []),
    .for_ (.nm 4) .seq [(.call 2 .frz [(.ix (.var 1) (.cst (.int 0)))])] l_read_deed_0 [4, 5],
    .ite (.cmp .Gt (.bi .len false [(.var 3)]) (.cst (.int 0)))
      [.never]
      [],
    .asg (.nm 6) (.bi .tuple false [(.var 2)]),
    .ex (.call 3 .frz [(.var 6)]),
    .ret (.var 6)]
noncomputable abbrev G_read_deed : List FnE := [e_words_in, e_read_part, e_parts_of, e_checked_deed]
noncomputable def f_read_deed : Fn := fnOf G_read_deed 1 6 b_read_deed
noncomputable def e_read_deed : FnE := ⟨"read_deed", ["text"], 7, f_read_deed, none⟩
theorem c_read_deed : chkSs G_read_deed 6 b_read_deed ⟨N_read_deed, defScope s_read_deed, false⟩ (defBody s_read_deed) = true := by decide +kernel
noncomputable abbrev s_law_at : Stmt := top 35
noncomputable abbrev N_law_at : List Str := ["_law_script", "_law_k"]
theorem sc_law_at : FnScope N_law_at ["_law_script", "_law_k"] (defScope s_law_at) := ⟨rfl, rfl, rfl, by decide +kernel, rfl, by decide +kernel, by decide +kernel⟩
noncomputable def b_law_at : List S :=
    [.ite (.cmp .Lt (.var 1) (.bi .len false [(.var 0)]))
      [.ret (.ix (.var 0) (.var 1))]
      [],
    .ret (.cst (.int 0))]
noncomputable abbrev G_law_at : List FnE := []
noncomputable def f_law_at : Fn := fnOf G_law_at 2 0 b_law_at
noncomputable def e_law_at : FnE := ⟨"_law_at", ["_law_script", "_law_k"], 1, f_law_at, none⟩
theorem c_law_at : chkSs G_law_at 0 b_law_at ⟨N_law_at, defScope s_law_at, false⟩ (defBody s_law_at) = true := by decide +kernel
noncomputable abbrev s_law_mix : Stmt := top 36
noncomputable abbrev N_law_mix : List Str := ["_law_cell", "_law_k", "_law_factor", "_law_number_here"]
theorem sc_law_mix : FnScope N_law_mix ["_law_cell", "_law_k"] (defScope s_law_mix) := ⟨rfl, rfl, rfl, by decide +kernel, rfl, by decide +kernel, by decide +kernel⟩
noncomputable def b_law_mix : List S :=
    [.asg (.nm 2) (.ix (.lst false [(.cst (.int 48271)), (.cst (.int 69621)), (.cst (.int 16807)), (.cst (.int 40692)), (.cst (.int 30269)), (.cst (.int 62089)), (.cst (.int 45991))]) (.bin .Mod false (.var 1) (.cst (.int 7)))),
    .asg (.nm 3) (.bin .Mod false (.bin .Mult false (.bin .Add false (.bin .Add false (.bin .Mod false (.var 0) (.cst (.int 2147483647))) (.bin .Mult false (.bin .Mult false (.cst (.int 97)) (.var 1)) (.var 1))) (.cst (.int 11))) (.var 2)) (.cst (.int 2147483629))),
    .ret (.bin .Mod false (.bin .Mult false (.var 3) (.var 3)) (.cst (.int 1999999973)))]
noncomputable abbrev G_law_mix : List FnE := []
noncomputable def f_law_mix : Fn := fnOf G_law_mix 2 2 b_law_mix
noncomputable def e_law_mix : FnE := ⟨"_law_mix", ["_law_cell", "_law_k"], 1, f_law_mix, none⟩
theorem c_law_mix : chkSs G_law_mix 0 b_law_mix ⟨N_law_mix, defScope s_law_mix, false⟩ (defBody s_law_mix) = true := by decide +kernel
noncomputable abbrev s_law_names : Stmt := top 37
noncomputable abbrev N_law_names : List Str := ["_law_cell", "_law_many", "_law_letters", "_law_number_here", "_law_tail", "_law_size", "_law_at_here", "_law_signs"]
theorem sc_law_names : FnScope N_law_names ["_law_cell", "_law_many"] (defScope s_law_names) := ⟨rfl, rfl, rfl, by decide +kernel, rfl, by decide +kernel, by decide +kernel⟩
noncomputable def q_law_names_0 : E := (.comp false 1 (.nm 0) .rng1 [(.cst (.int 8))] [] (.ix (.var 3) (.bin .Mod false (.bin .Add false (.bin .FloorDiv false (.var 4) (.bin .Add false (.var 0) (.cst (.int 1)))) (.bin .Mult false (.var 0) (.var 0))) (.cst (.int 26)))))
noncomputable def q_law_names_1 : E := (.comp false 1 (.nm 0) .rng1 [(.var 1)] [] (.sl false (.var 5) [] [(.bin .Add false (.var 0) (.cst (.int 1)))]))
noncomputable def q_law_names_2 : E := (.comp false 1 (.nm 0) .rng1 [(.var 1)] [] (.bin .Add false (.ix (.var 3) (.bin .Mod false (.bin .Add false (.bin .FloorDiv false (.var 4) (.cst (.int 24))) (.var 0)) (.cst (.int 26)))) (.sl false (.var 5) [] [(.var 6)])))
noncomputable def q_law_names_3 : E := (.comp false 1 (.nm 0) .rng1 [(.var 1)] [] (.ix (.var 3) (.bin .Mod false (.bin .Add false (.bin .FloorDiv false (.var 4) (.cst (.int 200))) (.var 0)) (.cst (.int 26)))))
noncomputable def q_law_names_4 : E := (.comp false 1 (.nm 0) .seq [(.var 7)] [] (.bin .Add false (.bin .Add false (.sl false (.var 5) [] [(.var 7)]) (.var 0)) (.sl false (.var 5) [(.var 7)] [(.var 6)])))
noncomputable def b_law_names : List S :=
    [.asg (.nm 2) (.cst (.str "abcdefghijklmnopqrstuvwxyz")),
    .asg (.nm 3) (.call 0 .frz [(.var 0), (.cst (.int 0))]),
    .asg (.nm 4) (.mt .join (.cst (.str "")) [q_law_names_0]),
    .ite (.and_ (.cmp .Eq (.bin .Mod false (.var 3) (.cst (.int 3))) (.cst (.int 0))) (.cmp .Lt (.var 1) (.cst (.int 9))))
      [.ret q_law_names_1]
      [],
    .ite (.cmp .Eq (.bin .Mod false (.var 3) (.cst (.int 3))) (.cst (.int 1)))
      [.asg (.nm 5) (.bin .Mod false (.bin .FloorDiv false (.var 3) (.cst (.int 3))) (.cst (.int 8))),
      .ret q_law_names_2]
      [],
    .asg (.nm 5) (.bin .Mod false (.bin .FloorDiv false (.var 3) (.cst (.int 3))) (.cst (.int 8))),
    .asg (.nm 6) (.bin .Mod false (.bin .FloorDiv false (.var 3) (.cst (.int 24))) (.bin .Add false (.var 5) (.cst (.int 1)))),
    .asg (.nm 7) q_law_names_3,
    .ret q_law_names_4]
noncomputable abbrev G_law_names : List FnE := [e_law_mix]
noncomputable def f_law_names : Fn := fnOf G_law_names 2 6 b_law_names
noncomputable def e_law_names : FnE := ⟨"_law_names", ["_law_cell", "_law_many"], 2, f_law_names, none⟩
theorem c_law_names : chkSs G_law_names 1 b_law_names ⟨N_law_names, defScope s_law_names, false⟩ (defBody s_law_names) = true := by decide +kernel
noncomputable abbrev s_law_number : Stmt := top 38
noncomputable abbrev N_law_number : List Str := ["_law_m", "_law_cell"]
theorem sc_law_number : FnScope N_law_number ["_law_m", "_law_cell"] (defScope s_law_number) := ⟨rfl, rfl, rfl, by decide +kernel, rfl, by decide +kernel, by decide +kernel⟩
noncomputable def b_law_number : List S :=
    [.ret (.ix (.lst false [(.bin .Mod false (.var 0) (.cst (.int 8))), (.bin .Mod false (.var 0) (.cst (.int 3000))), (.bin .Mod false (.var 1) (.bin .Pow false (.cst (.int 10)) (.cst (.int 12)))), (.bin .Sub false (.bin .Pow false (.cst (.int 10)) (.cst (.int 12))) (.cst (.int 1)))]) (.bin .Mod false (.bin .FloorDiv false (.var 0) (.cst (.int 3000))) (.cst (.int 4))))]
noncomputable abbrev G_law_number : List FnE := []
noncomputable def f_law_number : Fn := fnOf G_law_number 2 0 b_law_number
noncomputable def e_law_number : FnE := ⟨"_law_number", ["_law_m", "_law_cell"], 1, f_law_number, none⟩
theorem c_law_number : chkSs G_law_number 0 b_law_number ⟨N_law_number, defScope s_law_number, false⟩ (defBody s_law_number) = true := by decide +kernel
noncomputable abbrev s_law_some_lines : Stmt := top 39
noncomputable abbrev N_law_some_lines : List Str := ["_law_script", "_law_at_here", "_law_names_here", "_law_m", "_law_lines", "_law_k", "_law_n", "_law_money"]
theorem sc_law_some_lines : FnScope N_law_some_lines ["_law_script", "_law_at_here", "_law_names_here"] (defScope s_law_some_lines) := ⟨rfl, rfl, rfl, by decide +kernel, rfl, by decide +kernel, by decide +kernel⟩
noncomputable def l_law_some_lines_0 : List S :=
    [.asg (.nm 6) (.call 0 .frz [(.call 1 .frz [(.var 0), (.bin .Add false (.var 1) (.var 5))]), (.bin .Add false (.cst (.int 5)) (.var 5))]),
    .asg (.nm 7) (.call 2 .frz [(.bin .FloorDiv false (.var 6) (.cst (.int 9))), (.call 1 .frz [(.var 0), (.bin .Add false (.var 1) (.var 5))])]),
    .ex (.mt .append (.var 4) [(.tup [(.ix (.var 2) (.bin .Mod false (.var 6) (.bi .len false [(.var 2)]))), (.var 7)])])]
noncomputable def b_law_some_lines : List S :=
    [.asg (.nm 3) (.call 0 .frz [(.call 1 .frz [(.var 0), (.var 1)]), (.cst (.int 4))]),
    .asg (.nm 4) (.lst true []),
    .for_ (.nm 5) .rng1 [(.bin .Add false (.cst (.int 1)) (.bin .Mod false (.var 3) (.cst (.int 8))))] l_law_some_lines_0 [5, 6, 7],
    .ret (.bi .tuple false [(.var 4)])]
noncomputable abbrev G_law_some_lines : List FnE := [e_law_mix, e_law_at, e_law_number]
noncomputable def f_law_some_lines : Fn := fnOf G_law_some_lines 3 5 b_law_some_lines
noncomputable def e_law_some_lines : FnE := ⟨"_law_some_lines", ["_law_script", "_law_at_here", "_law_names_here"], 2, f_law_some_lines, none⟩
theorem c_law_some_lines : chkSs G_law_some_lines 1 b_law_some_lines ⟨N_law_some_lines, defScope s_law_some_lines, false⟩ (defBody s_law_some_lines) = true := by decide +kernel
noncomputable abbrev s_law_deed : Stmt := top 40
noncomputable abbrev N_law_deed : List Str := ["_law_script", "_law_at_here", "_law_cell", "_law_m", "_law_names_here", "_law_ref", "_law_purse", "_law_other", "_law_of", "_law_day", "_law_n", "_law_points", "_law_word", "_law_unlike", "_law_first", "_law_end"]
theorem sc_law_deed : FnScope N_law_deed ["_law_script", "_law_at_here"] (defScope s_law_deed) := ⟨rfl, rfl, rfl, by decide +kernel, rfl, by decide +kernel, by decide +kernel⟩
noncomputable def q_law_deed_0 : E := (.comp false 1 (.nm 0) .seq [(.var 4)] [(.cmp .NotEq (.var 0) (.var 7))] (.var 0))
noncomputable def q_law_deed_1 : E := (.comp false 1 (.nm 0) .seq [(.var 4)] [(.cmp .NotEq (.var 0) (.var 6))] (.var 0))
noncomputable def q_law_deed_2 : E := (.comp false 2 (.tp [0, 1]) .enm [(.var 4)] [(.cmp .NotIn (.var 1) (.sl false (.var 6) [] [(.var 0)]))] (.var 1))
noncomputable def b_law_deed : List S :=
    [.asg (.nm 2) (.call 0 .frz [(.var 0), (.var 1)]),
    .asg (.nm 3) (.call 1 .frz [(.var 2), (.cst (.int 1))]),
    .asg (.nm 4) (.bin .Add false (.call 2 .frz [(.var 2), (.cst (.int 4))]) (.sl false (.call 2 .frz [(.call 0 .frz [(.var 0), (.bin .Add false (.var 1) (.cst (.int 1)))]), (.cst (.int 8))]) [(.cst (.int 1))] [])),
    .asg (.nm 5) (.ix (.var 4) (.bin .Mod false (.bin .FloorDiv false (.var 3) (.cst (.int 7))) (.bi .len false [(.var 4)]))),
    .asg (.nm 6) (.ix (.var 4) (.bin .Mod false (.bin .FloorDiv false (.var 3) (.cst (.int 80))) (.bi .len false [(.var 4)]))),
    .asg (.nm 7) (.ix (.var 4) (.bin .Mod false (.bin .FloorDiv false (.var 3) (.cst (.int 900))) (.bi .len false [(.var 4)]))),
    .ite (.cmp .Eq (.var 7) (.var 6))
      [.asg (.nm 7) (.ix q_law_deed_0 (.cst (.int 0)))]
      [],
    .asg (.nm 8) (.ix q_law_deed_1 (.bin .Mod false (.bin .FloorDiv false (.var 3) (.cst (.int 40))) (.cst (.int 2)))),
    .asg (.nm 9) (.bi .min2 false [(.bin .Sub false (.bin .Pow false (.cst (.int 10)) (.cst (.int 12))) (.cst (.int 2))), (.call 3 .frz [(.call 1 .frz [(.var 2), (.cst (.int 2))]), (.var 2)])]),
    .asg (.nm 10) (.call 1 .frz [(.call 0 .frz [(.var 0), (.bin .Add false (.var 1) (.cst (.int 1)))]), (.cst (.int 3))]),
    .asg (.nm 11) (.bi .max2 false [(.cst (.int 1)), (.call 3 .frz [(.var 10), (.call 0 .frz [(.var 0), (.bin .Add false (.var 1) (.cst (.int 1)))])])]),
    .asg (.nm 12) (.ix (.lst false [(.cst (.str "buy")), (.cst (.str "spend")), (.cst (.str "give")), (.cst (.str "change")), (.cst (.str "lend")), (.cst (.str "back")), (.cst (.str "fix"))]) (.bin .Mod false (.var 3) (.cst (.int 7)))),
    .ite (.cmp .Eq (.var 12) (.cst (.str "buy")))
      [.ret (.tup [(.var 12), (.var 5), (.var 9), (.var 6), (.call 4 .frz [(.var 0), (.bin .Add false (.var 1) (.cst (.int 2))), (.var 4)])])]
      [],
    .ite (.cmp .Eq (.var 12) (.cst (.str "spend")))
      [.asg (.nm 13) q_law_deed_2,
      .asg (.nm 14) (.sl false (.sl false (.var 13) [(.bin .Mod false (.bin .FloorDiv false (.var 10) (.cst (.int 7))) (.cst (.int 3)))] []) [] [(.bin .Mod false (.bin .FloorDiv false (.var 10) (.cst (.int 21))) (.cst (.int 9)))]),
      .ret (.tup [(.var 12), (.var 5), (.var 9), (.var 6), (.var 11), (.bi .tuple false [(.var 14)])])]
      [],
    .ite (.cmp .Eq (.var 12) (.cst (.str "lend")))
      [.asg (.nm 15) (.bin .Add false (.bin .Add false (.var 9) (.cst (.int 1))) (.ix (.lst false [(.cst (.int 0)), (.bin .Mod false (.var 10) (.cst (.int 50))), (.var 10)]) (.bin .Mod false (.bin .FloorDiv false (.var 10) (.cst (.int 50))) (.cst (.int 3))))),
      .ret (.tup [(.var 12), (.var 5), (.var 9), (.var 6), (.var 7), (.var 11), (.bi .min2 false [(.bin .Sub false (.bin .Pow false (.cst (.int 10)) (.cst (.int 12))) (.cst (.int 1))), (.var 15)])])]
      [],
    .ite (.cmp .Eq (.var 12) (.cst (.str "back")))
      [.ret (.tup [(.var 12), (.var 5), (.var 9), (.var 8)])]
      [],
    .ite (.cmp .Eq (.var 12) (.cst (.str "fix")))
      [.ret (.tup [(.var 12), (.var 5), (.var 8), (.call 4 .frz [(.var 0), (.bin .Add false (.var 1) (.cst (.int 2))), (.var 4)])])]
      [],
    .ret (.tup [(.var 12), (.var 5), (.var 9), (.var 6), (.var 7), (.var 11)])]
noncomputable abbrev G_law_deed : List FnE := [e_law_at, e_law_mix, e_law_names, e_law_number, e_law_some_lines]
noncomputable def f_law_deed : Fn := fnOf G_law_deed 2 14 b_law_deed
noncomputable def e_law_deed : FnE := ⟨"_law_deed", ["_law_script", "_law_at_here"], 3, f_law_deed, none⟩
theorem c_law_deed : chkSs G_law_deed 2 b_law_deed ⟨N_law_deed, defScope s_law_deed, false⟩ (defBody s_law_deed) = true := by decide +kernel
noncomputable abbrev s_law_words : Stmt := top 41
noncomputable abbrev N_law_words : List Str := ["_law_deed_here", "_law_words_here", "_law_part", "_law_one"]
theorem sc_law_words : FnScope N_law_words ["_law_deed_here"] (defScope s_law_words) := ⟨rfl, rfl, rfl, by decide +kernel, rfl, by decide +kernel, by decide +kernel⟩
noncomputable def l_law_words_1 : List S :=
    [.ite (.bi (.isT "tuple") false [(.var 3)])
      [.asg (.nm 1) (.bin .Add true (.var 1) (.lst false [(.ix (.var 3) (.cst (.int 0))), (.bi .str false [(.ix (.var 3) (.cst (.int 1)))])]))]
      [.ex (.mt .append (.var 1) [(.var 3)])]]
noncomputable def l_law_words_0 : List S :=
    [.ite (.bi (.isT "tuple") false [(.var 2)])
      [.for_ (.nm 3) .seq [(.var 2)] l_law_words_1 [3]]
      [.ex (.mt .append (.var 1) [(.bi .str false [(.var 2)])])]]
noncomputable def b_law_words : List S :=
    [.asg (.nm 1) (.lst true []),
    .for_ (.nm 2) .seq [(.var 0)] l_law_words_0 [2, 3],
    .ret (.var 1)]
noncomputable abbrev G_law_words : List FnE := []
noncomputable def f_law_words : Fn := fnOf G_law_words 1 3 b_law_words
noncomputable def e_law_words : FnE := ⟨"_law_words", ["_law_deed_here"], 1, f_law_words, none⟩
theorem c_law_words : chkSs G_law_words 0 b_law_words ⟨N_law_words, defScope s_law_words, false⟩ (defBody s_law_words) = true := by decide +kernel
noncomputable abbrev s_law_alike : Stmt := top 42
noncomputable abbrev N_law_alike : List Str := ["_law_found", "_law_due"]
theorem sc_law_alike : FnScope N_law_alike ["_law_found", "_law_due"] (defScope s_law_alike) := ⟨rfl, rfl, rfl, by decide +kernel, rfl, by decide +kernel, by decide +kernel⟩
noncomputable def q_law_alike_0 : E := (.comp false 1 (.nm 0) .rng1 [(.bi .len false [(.var 1)])] [] (.call 0 .frz [(.ix (.var 1) (.var 0)), (.ix (.var 2) (.var 0))]))
noncomputable def b_law_alike : List S :=
    [.ite (.bi (.isT "tuple") false [(.var 1)])
      [.ite (.or_ (.not_ (.bi (.isT "tuple") false [(.var 0)])) (.cmp .NotEq (.bi .len false [(.var 0)]) (.bi .len false [(.var 1)])))
        [.ret (.cst (.bl false))]
        [],
      .ret (.bi .all false [q_law_alike_0])]
      [],
    .ite (.bi (.isT "int") false [(.var 1)])
      [.ret (.and_ (.bi (.isT "int") false [(.var 0)]) (.and_ (.not_ (.bi (.isT "bool") false [(.var 0)])) (.cmp .Eq (.var 0) (.var 1))))]
      [],
    .ret (.and_ (.bi (.isT "str") false [(.var 0)]) (.cmp .Eq (.var 0) (.var 1)))]
noncomputable def z_law_alike : List S := [.never, .never, .never]
noncomputable def f_law_alike_0 : Fn := fnOf [] 2 0 z_law_alike
noncomputable def e_law_alike_0 : FnE := ⟨"_law_alike", ["_law_found", "_law_due"], 1, f_law_alike_0, none⟩
theorem c_law_alike_0 : chkSs [] 0 z_law_alike ⟨N_law_alike, defScope s_law_alike, false⟩ (defBody s_law_alike) = true := by decide +kernel
noncomputable abbrev G_law_alike_1 : List FnE := [e_law_alike_0]
noncomputable def f_law_alike_1 : Fn := fnOf G_law_alike_1 2 0 b_law_alike
noncomputable def e_law_alike_1 : FnE := ⟨"_law_alike", ["_law_found", "_law_due"], 2, f_law_alike_1, none⟩
theorem c_law_alike_1 : chkSs G_law_alike_1 1 b_law_alike ⟨N_law_alike, defScope s_law_alike, false⟩ (defBody s_law_alike) = true := by decide +kernel
noncomputable abbrev G_law_alike_2 : List FnE := [e_law_alike_1]
noncomputable def f_law_alike_2 : Fn := fnOf G_law_alike_2 2 0 b_law_alike
noncomputable def e_law_alike_2 : FnE := ⟨"_law_alike", ["_law_found", "_law_due"], 3, f_law_alike_2, none⟩
theorem c_law_alike_2 : chkSs G_law_alike_2 2 b_law_alike ⟨N_law_alike, defScope s_law_alike, false⟩ (defBody s_law_alike) = true := by decide +kernel
noncomputable abbrev G_law_alike_3 : List FnE := [e_law_alike_2]
noncomputable def f_law_alike_3 : Fn := fnOf G_law_alike_3 2 0 b_law_alike
noncomputable def e_law_alike_3 : FnE := ⟨"_law_alike", ["_law_found", "_law_due"], 4, f_law_alike_3, none⟩
theorem c_law_alike_3 : chkSs G_law_alike_3 3 b_law_alike ⟨N_law_alike, defScope s_law_alike, false⟩ (defBody s_law_alike) = true := by decide +kernel
noncomputable abbrev G_law_alike : List FnE := [e_law_alike_3]
noncomputable def f_law_alike : Fn := fnOf G_law_alike 2 0 b_law_alike
noncomputable def e_law_alike : FnE := ⟨"_law_alike", ["_law_found", "_law_due"], 5, f_law_alike, none⟩
theorem c_law_alike : chkSs G_law_alike 4 b_law_alike ⟨N_law_alike, defScope s_law_alike, false⟩ (defBody s_law_alike) = true := by decide +kernel
noncomputable abbrev s_law : Stmt := top 43
noncomputable abbrev N_law : List Str := ["_law_script", "_law_at_here", "_law_deed_here", "_law_text"]
theorem sc_law : FnScope N_law ["_law_script"] (defScope s_law) := ⟨rfl, rfl, rfl, by decide +kernel, rfl, by decide +kernel, by decide +kernel⟩
noncomputable def l_law_0 : List S :=
    [.asg (.nm 2) (.call 0 .frz [(.var 0), (.var 1)]),
    .asg (.nm 3) (.call 1 .frz [(.var 2)]),
    .ite (.or_ (.not_ (.bi (.isT "str") false [(.var 3)])) (.cmp .NotEq (.var 3) (.mt .join (.cst (.str " ")) [(.call 2 .frz [(.var 2)])])))
      [.ret (.cst (.bl false))]
      [],
    .ite (.not_ (.call 3 .frz [(.call 4 .frz [(.var 3)]), (.var 2)]))
      [.ret (.cst (.bl false))]
      []]
noncomputable def b_law : List S :=
    [.for_ (.nm 1) .seq [(.tup [(.cst (.int 0)), (.cst (.int 13)), (.cst (.int 26)), (.cst (.int 39))])] l_law_0 [1, 2, 3],
    .ret (.cst (.bl true))]
noncomputable abbrev G_law : List FnE := [e_law_deed, e_deed_text, e_law_words, e_law_alike, e_read_deed]
noncomputable def f_law : Fn := fnOf G_law 1 3 b_law
theorem c_law : chkSs G_law 7 b_law ⟨N_law, defScope s_law, false⟩ (defBody s_law) = true := by decide +kernel
end _K09
set_option Elab.async false
set_option linter.all false
set_option maxRecDepth 100000
namespace _K09
open PySem PySem.Spec PyProof.Rows _L2 _L3
local macro_rules | `(tactic| walk_at "ev") => `(tactic| try simp only [fnOf_eq, sz0, sz1, sz2, sz3, sz4, sz5, sz6, sz7, sz8, sz9, sz10, sz11, sz12, Nat.zero_add, List.length_cons, List.length_nil, Nat.reduceAdd, if_true, if_false, Bool.false_eq_true, List.map_cons, List.map_nil, List.replicate, List.cons_append, List.nil_append, runs_nil, runs_cons, run_asg, run_ex, run_ite, run_ret, run_for, asgO_nm, ev_var, ev_cst, ev_bin, ev_not, ev_cmp, ev_and, ev_or, ev_ife, ev_tup, ev_lst, ev_ix, ev_sl, ev_stp, ev_call, ev_bi, ev_mt, ev_comp, ev_chain, evL_n, evL_c, evT_n, evT_1, evt_cmp, evt_chain, evt_var, evt_call, evt_bi, evt_not, evt_and, evt_or, bind_mk, bind_bad, seqF_nx, seqF_rt, finF_rt, finF_nx, mtTy_join, mtTy_split, mtTy_app, mtTy_ext, tru_bl, not_bl, bo_bl, optI_n, optI_1, bin_add, bin_sub, bin_mod, bin_div, bin_pow10, bin_mulL, Int.reduceLT, Int.reduceLE, Int.reduceNeg, Int.reduceToNat, Int.reducePow, Nat.reduceLT, cmp_lt, cmp_le, cmp_gt, cmp_ge, cmp_eqI, cmp_eqS, cmp_neI, cmp_neS, mkL_f, mkL_t, getO_s, List.getElem?_cons_zero, List.getElem?_cons_succ, List.set_cons_zero, List.set_cons_succ, callG_c, callG_z, ev_gl, ev_gget, ev_gin, evt_gin, ev_gix, datG_c, datG_z, gl_cst, gget_dct, gin_dct, Bool.not_true, Bool.not_false])
noncomputable def scrD (ns : List Int) : D := .scr (ns.map D.int)
theorem at_eq (ns : List Int) (k : Nat) (μ : M) : callD .frz e_law_at.F [scrD ns, .int (k : Int)] μ = .ok (.int (ns.getD k 0)) μ := by
  refine frz_same (F := f_law_at) ?_ frz_int
  unfold f_law_at b_law_at
  walk_at "ev"
  have hl : biD .len false [scrD ns] μ = .ok (.int ns.length) μ := by
    show Out.ok (D.int ((ns.map D.int).length : Int)) μ = _
    rw [List.length_map]
  rw [hl]
  walk_at "ev"
  by_cases h : k < ns.length
  · have e : atI (ns.map D.int) (k : Int) = some (.int (ns.getD k 0)) := atI_nat (by simp [h])
    have hx : ixD (scrD ns) (.int (k : Int)) μ = .ok (.int (ns.getD k 0)) μ := by
      show (match atI (ns.map D.int) (k : Int) with | some d => Out.ok d μ | none => .bad) = _
      rw [e]
    rw [hx]
    simp only [show ((k : Int) < (ns.length : Int)) from by omega, decide_true, if_true]
    walk_at "ev"
  · have : ns.getD k 0 = 0 := by simp [h]
    rw [this]
    simp only [show ¬ ((k : Int) < (ns.length : Int)) from by omega, decide_false, if_false, Bool.false_eq_true]
    walk_at "ev"
theorem mix_ex (c : Int) (k : Int) (h0 : 0 ≤ k) (h1 : k ≤ 1000) (μ : M) : ∃ m : Int, 0 ≤ m ∧ m < 1999999973 ∧ callD .frz e_law_mix.F [.int c, .int k] μ = .ok (.int m) μ := by
  obtain ⟨d, hd, hx⟩ := ix_some (ds := [.int 48271, .int 69621, .int 16807, .int 40692, .int 30269, .int 62089, .int 45991]) (i := k % 7) (by omega) (by show k % 7 < 7; omega) (a := .lst [.int 48271, .int 69621, .int 16807, .int 40692, .int 30269, .int 62089, .int 45991]) (μ := μ) rfl (by simp)
  obtain ⟨n, rfl, hn⟩ : ∃ n : Int, d = .int n ∧ 0 ≤ n ∧ n ≤ 69621 := by
    simp only [List.mem_cons, List.not_mem_nil, or_false] at hd
    rcases hd with rfl | rfl | rfl | rfl | rfl | rfl | rfl <;> exact ⟨_, rfl, by decide, by decide⟩
  refine ⟨((c % 2147483647 + 97 * k * k + 11) * n % 2147483629) * ((c % 2147483647 + 97 * k * k + 11) * n % 2147483629) % 1999999973, by omega, by omega, frz_same (F := f_law_mix) ?_ frz_int⟩
  unfold f_law_mix b_law_mix
  walk_at "ev"
  rw [hx]
  walk_at "ev"
  rw [bin_mulR (i := 97 * k) (by omega) (by omega)]
  walk_at "ev"
  rw [bin_mulR (j := n) (by omega) (by omega)]
  walk_at "ev"
  rw [bin_mulL (by omega) (by omega)]
  walk_at "ev"
noncomputable def lt (i : Int) : Nat := 97 + (i % 26).toNat
theorem lt_ok (i : Int) : 97 ≤ lt i ∧ lt i ≤ 122 := by unfold lt; omega
theorem ix_lt (i : Int) (μ : M) : ixD (.str "abcdefghijklmnopqrstuvwxyz") (.int (i % 26)) μ = .ok (.str (sTx [lt i])) μ := ix_let (by omega) (by omega) μ
noncomputable abbrev nmS (c n m : Int) (o4 o5 o6 o7 : Option D) : S3 := [some (.int c), some (.int n), some (.str "abcdefghijklmnopqrstuvwxyz"), some (.int m), o4, o5, o6, o7]
noncomputable def tlOf (m : Int) : List Nat := (List.range 8).map fun (k : Nat) => lt (m / ((k : Int) + 1) + (k : Int) * (k : Int))
theorem tlOf_len (m : Int) : (tlOf m).length = 8 := by simp [tlOf]
theorem tlOf_ltr (m : Int) : Ltr (tlOf m) := fun x hx => by
  obtain ⟨k, _, rfl⟩ := List.mem_map.mp hx
  exact lt_ok _
theorem names_tail (c n m : Int) (μ : M) : (ev G_law_names q_law_names_0).v (nmS c n m none none none none) μ = .ok (.lst (((tlOf m).map fun c => sTx [c]).map D.str)) μ := by
  unfold q_law_names_0
  have h := comp_map (G := G_law_names) (m := false) (own := 1) (tg := .nm 0) (ik := .rng1) (es := [.cst (.int 8)]) (ifs := []) (elt := (.ix (.var 3) (.bin .Mod false (.bin .Add false (.bin .FloorDiv false (.var 4) (.bin .Add false (.var 0) (.cst (.int 1)))) (.bin .Mult false (.var 0) (.var 0))) (.cst (.int 26))))) (ρ := nmS c n m none none none none) (μ := μ) (ds := [.int 8]) (xs := List.range 8) (e := fun (k : Nat) => D.int (k : Int)) (fun _ => true) (fun (k : Nat) => D.str (sTx [lt (m / ((k : Int) + 1) + (k : Int) * (k : Int))])) (by walk_at "ev") (it_rng1 (n := 8) (by decide)) (size_small (by decide)) fun k hk => ⟨_, rfl, by walk_at "ev", fun _ => by
    have hk' : k < 8 := by simpa using hk
    walk_at "ev"
    rw [bin_div (by omega) (by omega)]
    walk_at "ev"
    rw [bin_mulL (by omega) (by omega)]
    walk_at "ev"
    exact ix_lt _ μ⟩
  rw [h, List.filter_eq_self.mpr fun _ _ => rfl]
  unfold tlOf
  rw [List.map_map, List.map_map]
  rfl
theorem len_pre (t : List Nat) (a : Nat) : (t.take a).length ≤ a := by rw [List.length_take]; exact Nat.min_le_left _ _
theorem len_mid (t : List Nat) (x : Nat) {a b : Nat} (h : a ≤ b) (hb : b ≤ 7) : (t.take a ++ x :: (t.drop a).take (b - a)).length ≤ 8 := by
  have h1 := len_pre t a
  have h2 := len_pre (t.drop a) (b - a)
  rw [List.length_append, List.length_cons]
  omega
theorem uv_nat {u v : Int} (h0 : 0 ≤ u) (h1 : u < v + 1) (h2 : v < 8) : u.toNat ≤ v.toNat ∧ v.toNat ≤ 7 := by omega
theorem names_ex (c : Int) (n : Nat) (hn : n ≤ 8) (μ : M) : ∃ zs : List Str, (zs.length = n ∧ zs.Nodup ∧ ∀ z ∈ zs, isNameB z = true) ∧ callD .frz e_law_names.F [.int c, .int (n : Int)] μ = .ok (.lst (zs.map D.str)) μ := by
  obtain ⟨m, hm0, hm1, hm⟩ := mix_ex c 0 (by decide) (by decide) μ
  have tail := names_tail c n m μ
  have htl := tlOf_len m
  have hlt := tlOf_ltr m
  have hjoin : mtD .join (.str "") [.lst (((tlOf m).map fun c => sTx [c]).map D.str)] μ = .ok (.str (sTx (tlOf m))) μ := by
    rw [join_strs, ← join_sTx]
    · rw [sum_ones (fun y hy => by obtain ⟨x, _, rfl⟩ := List.mem_map.mp hy; exact sTx_len _)]
      have e0 : (Str.ofString "").length = 0 := by decide +kernel
      simp [htl, e0]
  generalize tlOf m = t at *
  have hsz : (sTx t).length ≤ sizeLine := size_small (by rw [sTx_len]; omega)
  have key : ∃ cs : List (List Nat), (cs.length = n ∧ cs.Nodup ∧ ∀ c ∈ cs, 1 ≤ c.length ∧ c.length ≤ 8 ∧ Ltr c) ∧ f_law_names [.int c, .int (n : Int)] μ = .ok (.lst ((cs.map sTx).map D.str)) μ := by
    unfold f_law_names b_law_names
    walk_at "ev"
    rw [hm]
    walk_at "ev"
    rw [tail]
    walk_at "ev"
    rw [hjoin]
    walk_at "ev"
    by_cases c0 : m % 3 = 0
    · refine ⟨(List.range n).map fun k => t.take (k + 1), ⟨by simp, nodup_range fun i j hi hj e => ?_, fun c hc => ?_⟩, ?_⟩
      · have := congrArg List.length e
        rw [List.length_take, List.length_take] at this
        omega
      · obtain ⟨k, hk, rfl⟩ := List.mem_map.mp hc
        have hk' : k < n := by simpa using hk
        exact ⟨by rw [List.length_take]; omega, by rw [List.length_take]; omega, fun x hx => hlt x (List.mem_of_mem_take hx)⟩
      · simp only [c0, decide_true, if_true]
        walk_at "ev"
        simp only [show ((n : Int) < 9) from by omega, decide_true, if_true]
        unfold q_law_names_1
        rw [comp_map (ds := [.int (n : Int)]) (xs := List.range n) (e := fun (k : Nat) => D.int (k : Int)) (fun _ => true) (fun k => D.str (sTx (t.take (k + 1)))) (by walk_at "ev") (it_rng1 (by omega)) (size_small (by simp; omega)) fun k hk => ⟨_, rfl, by walk_at "ev", fun _ => by
          have hk' : k < n := by simpa using hk
          walk_at "ev"
          rw [sl_strD hsz, slice_to t (by omega) (by omega), show ((k : Int) + 1).toNat = k + 1 from by omega]⟩]
        rw [List.filter_eq_self.mpr fun _ _ => rfl]
        walk_at "ev"
        simp [List.map_map]
    · by_cases c1 : m % 3 = 1
      · refine ⟨(List.range n).map fun (k : Nat) => lt (m / 24 + (k : Int)) :: t.take (m / 3 % 8).toNat, ⟨by simp, nodup_range fun i j hi hj e => ?_, fun c hc => ?_⟩, ?_⟩
        · have e1 := (List.cons.inj e).1
          unfold lt at e1
          omega
        · obtain ⟨k, hk, rfl⟩ := List.mem_map.mp hc
          refine ⟨by simp, by rw [List.length_cons, List.length_take]; omega, fun x hx => ?_⟩
          rcases List.mem_cons.mp hx with z | z
          · rw [z]; exact lt_ok _
          · exact hlt x (List.mem_of_mem_take z)
        · simp only [decide_eq_false c0, if_false, Bool.false_eq_true]
          walk_at "ev"
          simp only [decide_eq_true c1, if_true]
          walk_at "ev"
          unfold q_law_names_2
          rw [comp_map (ds := [.int (n : Int)]) (xs := List.range n) (e := fun (k : Nat) => D.int (k : Int)) (fun _ => true) (fun (k : Nat) => D.str (sTx (lt (m / 24 + (k : Int)) :: t.take (m / 3 % 8).toNat))) (by walk_at "ev") (it_rng1 (by omega)) (size_small (by simp; omega)) fun k hk => ⟨_, rfl, by walk_at "ev", fun _ => by
            walk_at "ev"
            rw [ix_lt]
            walk_at "ev"
            rw [sl_strD hsz, slice_to t (by omega) (by omega)]
            walk_at "ev"
            rw [bin_adds (size_small (by rw [sTx_len, sTx_len, List.length_take]; simp; omega)), sTx_app]
            rfl⟩]
          rw [List.filter_eq_self.mpr fun _ _ => rfl]
          walk_at "ev"
          simp [List.map_map]
      · have hv0 : 0 ≤ m / 3 % 8 := Int.emod_nonneg _ (by decide)
        have hv1 : m / 3 % 8 < 8 := Int.emod_lt_of_pos _ (by decide)
        have hu0 : 0 ≤ m / 24 % (m / 3 % 8 + 1) := Int.emod_nonneg _ (Int.ne_of_gt (Int.lt_add_one_of_le hv0))
        have hu1 : m / 24 % (m / 3 % 8 + 1) < m / 3 % 8 + 1 := Int.emod_lt_of_pos _ (Int.lt_add_one_of_le hv0)
        have huv := uv_nat hu0 hu1 hv1
        refine ⟨(List.range n).map fun (k : Nat) => t.take (m / 24 % (m / 3 % 8 + 1)).toNat ++ lt (m / 200 + (k : Int)) :: (t.drop (m / 24 % (m / 3 % 8 + 1)).toNat).take ((m / 3 % 8).toNat - (m / 24 % (m / 3 % 8 + 1)).toNat), ⟨by simp, nodup_range fun i j hi hj e => ?_, fun c hc => ?_⟩, ?_⟩
        · have e1 := (List.cons.inj (List.append_cancel_left e)).1
          unfold lt at e1
          omega
        · obtain ⟨k, hk, rfl⟩ := List.mem_map.mp hc
          refine ⟨by rw [List.length_append, List.length_cons]; exact Nat.le_add_left_of_le (Nat.le_add_left 1 _), len_mid t _ huv.1 huv.2, fun x hx => ?_⟩
          rcases List.mem_append.mp hx with y | y
          · exact hlt x (List.mem_of_mem_take y)
          · rcases List.mem_cons.mp y with y | y
            · rw [y]; exact lt_ok _
            · exact hlt x (List.mem_of_mem_drop (List.mem_of_mem_take y))
        · simp only [decide_eq_false c0, if_false, Bool.false_eq_true]
          walk_at "ev"
          simp only [decide_eq_false c1, if_false, Bool.false_eq_true]
          walk_at "ev"
          rw [bin_mod (j := m / 3 % 8 + 1) (Int.lt_add_one_of_le hv0)]
          walk_at "ev"
          unfold q_law_names_3
          rw [comp_map (ds := [.int (n : Int)]) (xs := List.range n) (e := fun (k : Nat) => D.int (k : Int)) (fun _ => true) (fun (k : Nat) => D.str (sTx [lt (m / 200 + (k : Int))])) (by walk_at "ev") (it_rng1 (by omega)) (size_small (by simp; omega)) fun k hk => ⟨_, rfl, by walk_at "ev", fun _ => by
            walk_at "ev"
            rw [ix_lt]⟩]
          rw [List.filter_eq_self.mpr fun _ _ => rfl]
          walk_at "ev"
          unfold q_law_names_4
          rw [comp_map (ds := [.lst ((List.range n).map fun (k : Nat) => D.str (sTx [lt (m / 200 + (k : Int))]))]) (xs := List.range n) (e := fun (k : Nat) => D.str (sTx [lt (m / 200 + (k : Int))])) (fun _ => true) (fun (k : Nat) => D.str (sTx (t.take (m / 24 % (m / 3 % 8 + 1)).toNat ++ lt (m / 200 + (k : Int)) :: (t.drop (m / 24 % (m / 3 % 8 + 1)).toNat).take ((m / 3 % 8).toNat - (m / 24 % (m / 3 % 8 + 1)).toNat)))) (by walk_at "ev") rfl (size_small (by simp; omega)) fun k hk => ⟨_, rfl, by walk_at "ev", fun _ => by
            walk_at "ev"
            rw [sl_strD hsz, slice_to t hu0 (by omega)]
            walk_at "ev"
            rw [bin_adds (size_small (by rw [sTx_len, sTx_len]; have := len_pre t (m / 24 % (m / 3 % 8 + 1)).toNat; have := huv.1; have := huv.2; simp only [List.length_singleton]; omega)), sTx_app]
            walk_at "ev"
            rw [sl_strD hsz, slice_mid t hu0 (Int.lt_add_one_iff.mp hu1) (by omega)]
            walk_at "ev"
            rw [bin_adds (size_small (by
              rw [sTx_len, sTx_len, List.length_append]
              have := len_pre t (m / 24 % (m / 3 % 8 + 1)).toNat
              have := len_pre (t.drop (m / 24 % (m / 3 % 8 + 1)).toNat) ((m / 3 % 8).toNat - (m / 24 % (m / 3 % 8 + 1)).toNat)
              have := huv.1
              have := huv.2
              simp only [List.length_singleton]
              omega)), sTx_app]
            simp⟩]
          rw [List.filter_eq_self.mpr fun _ _ => rfl]
          walk_at "ev"
          simp [List.map_map]
  obtain ⟨cs, ⟨h1, h2, h3⟩, h4⟩ := key
  refine ⟨cs.map sTx, ⟨by simp [h1], ?_, fun z hz => ?_⟩, frz_same (F := f_law_names) h4 (frz_lst (frzGs_map (fun _ => frz_str) _))⟩
  · rw [List.Nodup, List.pairwise_map]
    exact h2.imp fun {a b} hab e => hab (sTx_inj e)
  · obtain ⟨x, hx, rfl⟩ := List.mem_map.mp hz
    obtain ⟨a1, a2, a3⟩ := h3 x hx
    exact name_sTx a1 a2 a3
set_option Elab.async false
set_option linter.all false
set_option maxRecDepth 100000
noncomputable abbrev strsL (zs : List Str) : D := .lst (zs.map D.str)
theorem max_eq {i j : Int} {μ : M} : biD .max2 false [.int i, .int j] μ = .ok (.int (if j > i then j else i)) μ := nr rfl
theorem min_eq {i j : Int} {μ : M} : biD .min2 false [.int i, .int j] μ = .ok (.int (if j < i then j else i)) μ := nr rfl
theorem len_strs {zs : List Str} {μ : M} : biD .len false [strsL zs] μ = .ok (.int zs.length) μ := nr (by
  show Out.ok (D.int ((zs.map D.str).length : Int)) μ = _
  rw [List.length_map])
theorem at_ex (ns : List Int) (i : Int) (h : 0 ≤ i) : ∃ c : Int, ∀ μ : M, callD .frz e_law_at.F [scrD ns, .int i] μ = .ok (.int c) μ := by
  obtain ⟨n, rfl⟩ : ∃ n : Nat, i = n := ⟨i.toNat, by omega⟩
  exact ⟨_, at_eq ns n⟩
theorem ix_lstI {xs : List Int} {i : Int} (h0 : 0 ≤ i) (h1 : i < xs.length) (μ : M) : ∃ n ∈ xs, ixD (.lst (xs.map D.int)) (.int i) μ = .ok (.int n) μ := by
  obtain ⟨d, hd, e⟩ := ix_some (a := .lst (xs.map D.int)) (ds := xs.map D.int) (i := i) h0 (by simpa using h1) (μ := μ) rfl (by simp)
  obtain ⟨n, hn, rfl⟩ := List.mem_map.mp hd
  exact ⟨n, hn, e⟩
theorem ix_lstS {xs : List Str} {i : Int} (h0 : 0 ≤ i) (h1 : i < xs.length) (μ : M) : ∃ n ∈ xs, ixD (strsL xs) (.int i) μ = .ok (.str n) μ := by
  obtain ⟨d, hd, e⟩ := ix_some (a := strsL xs) (ds := xs.map D.str) (i := i) h0 (by simpa using h1) (μ := μ) rfl (by simp)
  obtain ⟨n, hn, rfl⟩ := List.mem_map.mp hd
  exact ⟨n, hn, e⟩
theorem number_ex (m c : Int) (h : 0 ≤ m) (μ : M) : ∃ v : Int, (0 ≤ v ∧ v ≤ 999999999999) ∧ callD .frz e_law_number.F [.int m, .int c] μ = .ok (.int v) μ := by
  obtain ⟨b, hb, eb⟩ := ix_lstI (xs := [m % 8, m % 3000, c % 1000000000000, 1000000000000 - 1]) (i := m / 3000 % 4) (by omega) (by show _ < (4 : Int); omega) μ
  refine ⟨b, ?_, frz_same (F := f_law_number) ?_ frz_int⟩
  · simp only [List.mem_cons, List.not_mem_nil, or_false] at hb
    rcases hb with rfl | rfl | rfl | rfl <;> omega
  · simp only [List.map_cons, List.map_nil] at eb
    unfold f_law_number b_law_number
    walk_at "ev"
    rw [eb]
    walk_at "ev"
noncomputable abbrev Ln := Str × Int
noncomputable def lnD (p : Ln) : D := .tup [.str p.1, .int p.2]
noncomputable def lnsD (ls : List Ln) : D := .tup (ls.map lnD)
noncomputable def LnOk (p : Ln) : Prop := isNameB p.1 = true ∧ 0 ≤ p.2 ∧ p.2 ≤ 999999999999
theorem frz_ln {h : Nat → Option D} (p : Ln) : frzG h (lnD p) = some (lnD p) := frz_tup (frz_cons frz_str (frz_cons frz_int frz_nil))
theorem frz_lns {h : Nat → Option D} (ls : List Ln) : frzG h (lnsD ls) = some (lnsD ls) := frz_tup (frzGs_map frz_ln ls)
theorem lines_loop (ns : List Int) (a : Nat) (zs : List Str) (hz : 0 < zs.length) (hn : ∀ z ∈ zs, isNameB z = true) (o3 : Option D) (μ : M) (ok : M → Bool) (hok : ∀ ν, ok ν = true) : ∀ (n k : Nat) (ls : List Ln) (o5 o6 o7 : Option D), k + n ≤ 100 → ls.length ≤ 100 - n → (∀ p ∈ ls, LnOk p) →
    ∃ ls' : List Ln, (ls'.length = ls.length + n ∧ ∀ p ∈ ls', LnOk p) ∧ forL ok (.nm 5) (runs G_law_some_lines l_law_some_lines_0) [5, 6, 7] ((List.range' k n).map fun (j : Nat) => D.int (j : Int)) [some (scrD ns), some (.int (a : Int)), some (strsL zs), o3, some (.cel μ.length), o5, o6, o7] (μ ++ [some (.lst (ls.map lnD))])
      = .ok (.nx [some (scrD ns), some (.int (a : Int)), some (strsL zs), o3, some (.cel μ.length), none, none, none]) (μ ++ [some (.lst (ls'.map lnD))])
  | 0, k, ls, o5, o6, o7, _, _, h => ⟨ls, ⟨rfl, h⟩, by
    rw [List.range'_zero, List.map_nil, forL_nil (hok _)]
    rfl⟩
  | n + 1, k, ls, o5, o6, o7, hk, hl, h => by
    obtain ⟨c, hc⟩ := at_ex ns ((a : Int) + (k : Int)) (by omega)
    obtain ⟨m, m0, m1, hm⟩ := mix_ex c (5 + (k : Int)) (by omega) (by omega) (μ ++ [some (.lst (ls.map lnD))])
    obtain ⟨v, hv, ev'⟩ := number_ex (m / 9) c (by omega) (μ ++ [some (.lst (ls.map lnD))])
    have hlen : (0 : Int) < (zs.length : Int) := by omega
    obtain ⟨z, hzm, ez⟩ := ix_lstS (xs := zs) (i := m % (zs.length : Int)) (Int.emod_nonneg _ (by omega)) (Int.emod_lt_of_pos _ hlen) (μ ++ [some (.lst (ls.map lnD))])
    obtain ⟨ls', ⟨i1, i2⟩, ih⟩ := lines_loop ns a zs hz hn o3 μ ok hok n (k + 1) (ls ++ [(z, v)]) none none none (by omega) (by simp; omega) (fun p hp => by
      rcases List.mem_append.mp hp with q | q
      · exact h p q
      · have : p = (z, v) := by simpa using q
        subst this
        exact ⟨hn z hzm, hv.1, hv.2⟩)
    refine ⟨ls', ⟨by rw [i1, List.length_append, List.length_singleton]; omega, i2⟩, ?_⟩
    rw [List.range'_succ, List.map_cons]
    rw [forL_cons (ρ1 := [some (scrD ns), some (.int (a : Int)), some (strsL zs), o3, some (.cel μ.length), some (.int (k : Int)), o6, o7]) (ρ2 := [some (scrD ns), some (.int (a : Int)), some (strsL zs), o3, some (.cel μ.length), some (.int (k : Int)), some (.int m), some (.int v)]) (μ2 := μ ++ [some (.lst ((ls ++ [(z, v)]).map lnD))]) (hok _) rfl ?_]
    · exact ih
    · unfold l_law_some_lines_0
      walk_at "ev"
      rw [hc]
      walk_at "ev"
      rw [hm]
      walk_at "ev"
      rw [hc]
      walk_at "ev"
      rw [ev']
      walk_at "ev"
      rw [len_strs]
      walk_at "ev"
      rw [bin_mod hlen]
      walk_at "ev"
      rw [ez]
      walk_at "ev"
      rw [app_last (size_ok (by simp; omega))]
      walk_at "ev"
      rw [List.map_append]
      rfl
theorem lines_ex (ns : List Int) (a : Nat) (zs : List Str) (hz : 0 < zs.length) (hn : ∀ z ∈ zs, isNameB z = true) (μ : M) : ∃ ls : List Ln, (1 ≤ ls.length ∧ ls.length ≤ 8 ∧ ∀ p ∈ ls, LnOk p) ∧ callD .frz e_law_some_lines.F [scrD ns, .int (a : Int), strsL zs] μ = .ok (lnsD ls) μ := by
  obtain ⟨c, hc⟩ := at_ex ns (a : Int) (by omega)
  obtain ⟨m, m0, m1, hm⟩ := mix_ex c 4 (by decide) (by decide) μ
  have hr : ∀ ν : M, itD .rng1 [.int (1 + m % 8)] ν = some ((List.range' 0 (1 + m % 8).toNat).map fun (j : Nat) => D.int (j : Int)) := fun ν => by
    rw [show (1 + m % 8) = (((1 + m % 8).toNat : Nat) : Int) from by omega, it_rng1 (by omega), List.range_eq_range', Int.toNat_natCast]
  obtain ⟨ls, ⟨h1, h2⟩, h3⟩ := lines_loop ns a zs hz hn (some (.int m)) μ (stays .rng1 [.int (1 + m % 8)] ((List.range' 0 (1 + m % 8).toNat).map fun (j : Nat) => D.int (j : Int))) (fun ν => stays_of (hr ν)) (1 + m % 8).toNat 0 [] none none none (by omega) (by simp) (fun p hp => by cases hp)
  refine ⟨ls, ⟨by rw [h1]; simp; omega, by rw [h1]; simp; omega, h2⟩, frz_call (F := f_law_some_lines) (ν := [some (.lst (ls.map lnD))]) (d := lnsD ls) ?_ (frz_lns ls)⟩
  unfold f_law_some_lines b_law_some_lines
  walk_at "ev"
  rw [hc]
  walk_at "ev"
  rw [hm]
  walk_at "ev"
  rw [forO_of (hr _)]
  have h3' := h3
  rw [List.map_nil] at h3'
  rw [h3']
  walk_at "ev"
  have ht : biD .tuple false [.cel μ.length] (μ ++ [some (.lst (ls.map lnD))]) = .ok (lnsD ls) (μ ++ [some (.lst (ls.map lnD))]) := by
    simp only [biD, _L3.tupleD, seqA, seqL, cell_last]
    rfl
  rw [ht]
  walk_at "ev"
inductive Deed where
  | buy (r : Str) (d : Int) (p : Str) (ls : List Ln)
  | spend (r : Str) (d : Int) (p : Str) (n : Int) (fs : List Str)
  | two (w r : Str) (d : Int) (p o : Str) (n : Int)
  | lend (r : Str) (d : Int) (p o : Str) (n e : Int)
  | back (r : Str) (d : Int) (f : Str)
  | fix (r f : Str) (ls : List Ln)
noncomputable def Deed.dat : Deed → D
  | .buy r d p ls => .tup [.str "buy", .str r, .int d, .str p, lnsD ls]
  | .spend r d p n fs => .tup [.str "spend", .str r, .int d, .str p, .int n, .tup (fs.map D.str)]
  | .two w r d p o n => .tup [.str w, .str r, .int d, .str p, .str o, .int n]
  | .lend r d p o n e => .tup [.str "lend", .str r, .int d, .str p, .str o, .int n, .int e]
  | .back r d f => .tup [.str "back", .str r, .int d, .str f]
  | .fix r f ls => .tup [.str "fix", .str r, .str f, lnsD ls]
noncomputable def LnsOk (ls : List Ln) : Prop := 1 ≤ ls.length ∧ ls.length ≤ 8 ∧ ∀ p ∈ ls, LnOk p
noncomputable def Nm (z : Str) : Prop := isNameB z = true
noncomputable def Num (l n : Int) : Prop := l ≤ n ∧ n ≤ 999999999999
noncomputable def Deed.Ok : Deed → Prop
  | .buy r d p ls => Nm r ∧ Num 0 d ∧ Nm p ∧ LnsOk ls
  | .spend r d p n fs => Nm r ∧ Num 0 d ∧ Nm p ∧ Num 1 n ∧ fs.length ≤ 8 ∧ fs.Nodup ∧ ∀ z ∈ fs, Nm z
  | .two w r d p o n => (w = "give" ∨ w = "change") ∧ Nm r ∧ Num 0 d ∧ Nm p ∧ Nm o ∧ Num 1 n ∧ o ≠ p
  | .lend r d p o n e => Nm r ∧ Num 0 d ∧ Nm p ∧ Nm o ∧ Num 1 n ∧ Num 0 e ∧ o ≠ p ∧ d < e
  | .back r d f => Nm r ∧ Num 0 d ∧ Nm f ∧ f ≠ r
  | .fix r f ls => Nm r ∧ Nm f ∧ LnsOk ls ∧ f ≠ r
theorem frz_deed {h : Nat → Option D} (x : Deed) : frzG h x.dat = some x.dat := by
  cases x with
  | buy r d p ls => exact frz_tup (frz_cons frz_str (frz_cons frz_str (frz_cons frz_int (frz_cons frz_str (frz_cons (frz_lns ls) frz_nil)))))
  | spend r d p n fs => exact frz_tup (frz_cons frz_str (frz_cons frz_str (frz_cons frz_int (frz_cons frz_str (frz_cons frz_int (frz_cons (frz_tup (frzGs_map (fun _ => frz_str) fs)) frz_nil))))))
  | two w r d p o n => exact frz_tup (frz_cons frz_str (frz_cons frz_str (frz_cons frz_int (frz_cons frz_str (frz_cons frz_str (frz_cons frz_int frz_nil))))))
  | lend r d p o n e => exact frz_tup (frz_cons frz_str (frz_cons frz_str (frz_cons frz_int (frz_cons frz_str (frz_cons frz_str (frz_cons frz_int (frz_cons frz_int frz_nil)))))))
  | back r d f => exact frz_tup (frz_cons frz_str (frz_cons frz_str (frz_cons frz_int (frz_cons frz_str frz_nil))))
  | fix r f ls => exact frz_tup (frz_cons frz_str (frz_cons frz_str (frz_cons frz_str (frz_cons (frz_lns ls) frz_nil))))
set_option Elab.async false
set_option linter.all false
set_option maxRecDepth 100000
theorem cut_from {ds : List D} (k : Nat) : _L3.cutD ds (some (k : Int)) none = ds.drop k := by
  unfold _L3.cutD
  rw [HT.sIx_none, HT.sIx_nat]
  rcases Nat.le_total k ds.length with h | h
  · rw [Nat.min_eq_left h]
    exact List.take_of_length_le (by simp)
  · rw [Nat.min_eq_right h, List.drop_of_length_le (Nat.le_refl _), List.drop_of_length_le h, List.take_nil]
theorem cut_to {ds : List D} (k : Nat) : _L3.cutD ds none (some (k : Int)) = ds.take k := by
  unfold _L3.cutD
  rw [HT.sIx_none, HT.sIx_nat]
  simp only [Nat.sub_zero, List.drop_zero]
  rcases Nat.le_total k ds.length with h | h
  · rw [Nat.min_eq_left h]
  · rw [Nat.min_eq_right h, List.take_of_length_le (Nat.le_refl _), List.take_of_length_le h]
theorem sl_from {zs : List Str} (k : Nat) (μ : M) : slD false (strsL zs) (some (k : Int)) none μ = .ok (strsL (zs.drop k)) μ := by
  show mkL false (_L3.cutD (zs.map D.str) (some (k : Int)) none) μ = _
  rw [cut_from, ← List.map_drop]
  rfl
theorem sl_to {zs : List Str} (k : Nat) (μ : M) : slD false (strsL zs) none (some (k : Int)) μ = .ok (strsL (zs.take k)) μ := by
  show mkL false (_L3.cutD (zs.map D.str) none (some (k : Int))) μ = _
  rw [cut_to, ← List.map_take]
  rfl
theorem inDs_strs (x : Str) : ∀ zs : List Str, inDs (.str x) (zs.map D.str) = some (decide (x ∈ zs))
  | [] => rfl
  | z :: zs => by
    rw [List.map_cons]
    unfold inDs
    rw [inDs_strs x zs]
    show some (eqV (.str z) (.str x) || decide (x ∈ zs)) = _
    congr 1
    have : eqV (.str z) (.str x) = decide (x = z) := by
      show (z == x) = _
      by_cases e : x = z
      · subst e; simp
      · simp [e, Ne.symm e]
    rw [this]
    simp
theorem cmp_notin (x : Str) (zs : List Str) (μ : M) : cmpD .NotIn (.str x) (strsL zs) μ = .ok (.bl (!decide (x ∈ zs))) μ := nr (by
  unfold cmpD cmpB
  have : inD μ (.str x) (strsL zs) = some (decide (x ∈ zs)) := by
    unfold inD
    have e : seqA μ (strsL zs) = some (zs.map D.str) := rfl
    simp only [e, flatD]
    exact inDs_strs x zs
  simp only [this, Option.map_some])
theorem enm_strs : ∀ (zs : List Str) (k : Nat), enmD k (zs.map D.str) = (zs.zipIdx k).map fun x => D.tup [.int (x.2 : Int), .str x.1]
  | [], k => rfl
  | z :: zs, k => by
    rw [List.map_cons, List.zipIdx_cons, List.map_cons]
    unfold enmD
    rw [enm_strs zs (k + 1)]
theorem zipIdx_lt {α : Type} : ∀ (zs : List α) (k : Nat), (zs.zipIdx k).Pairwise (fun a b => a.2 < b.2)
  | [], k => by simp
  | z :: zs, k => by
    rw [List.zipIdx_cons, List.pairwise_cons]
    refine ⟨fun b hb => ?_, zipIdx_lt zs (k + 1)⟩
    have := List.le_snd_of_mem_zipIdx hb
    show k < b.2
    omega
noncomputable def firsts (zs : List Str) : List Str := ((zs.zipIdx 0).filter fun x => !decide (x.1 ∈ zs.take x.2)).map (·.1)
theorem firsts_nodup (zs : List Str) : (firsts zs).Nodup := by
  unfold firsts
  rw [List.Nodup, List.pairwise_map]
  refine List.Pairwise.imp_of_mem (R := fun a b => a.2 < b.2) (fun {a b} ha hb hab e => ?_) ((zipIdx_lt zs 0).filter _)
  have ha1 := (List.mem_filter.mp ha).1
  have hb2 := (List.mem_filter.mp hb).2
  have hg : zs[a.2]? = some a.1 := by
    have : (a.1, a.2) ∈ zs.zipIdx := ha1
    rwa [List.mk_mem_zipIdx_iff_getElem?] at this
  have : b.1 ∈ zs.take b.2 := by
    rw [← e]
    refine List.mem_of_getElem? (i := a.2) ?_
    rw [List.getElem?_take_of_lt hab]
    exact hg
  simp [this] at hb2
theorem firsts_sub (zs : List Str) : ∀ z ∈ firsts zs, z ∈ zs := fun z hz => by
  obtain ⟨x, hx, rfl⟩ := List.mem_map.mp hz
  exact List.fst_mem_of_mem_zipIdx (List.mem_filter.mp hx).1
noncomputable abbrev dS (ns : List Int) (a : Nat) (c m : Int) (zs : List Str) (o5 o6 o7 o8 o9 o10 o11 o12 o13 o14 o15 : Option D) : S3 := [some (scrD ns), some (.int (a : Int)), some (.int c), some (.int m), some (strsL zs), o5, o6, o7, o8, o9, o10, o11, o12, o13, o14, o15]
theorem q0_eq (ns : List Int) (a : Nat) (c m : Int) (zs : List Str) (hz : zs.length ≤ 100) (z : Str) (o5 o7 o8 o9 o10 o11 o12 o13 o14 o15 : Option D) (μ : M) : (ev G_law_deed q_law_deed_0).v (dS ns a c m zs o5 (some (.str z)) o7 o8 o9 o10 o11 o12 o13 o14 o15) μ = .ok (strsL (zs.filter fun y => !decide (y = z))) μ := by
  unfold q_law_deed_0
  rw [comp_map (ds := [strsL zs]) (xs := zs) (e := D.str) (fun y => !decide (y = z)) D.str (by walk_at "ev") rfl (size_small (by omega)) fun y hy => ⟨_, rfl, by walk_at "ev", fun _ => by walk_at "ev"⟩]
  rfl
theorem q1_eq (ns : List Int) (a : Nat) (c m : Int) (zs : List Str) (hz : zs.length ≤ 100) (z : Str) (o6 o7 o8 o9 o10 o11 o12 o13 o14 o15 : Option D) (μ : M) : (ev G_law_deed q_law_deed_1).v (dS ns a c m zs (some (.str z)) o6 o7 o8 o9 o10 o11 o12 o13 o14 o15) μ = .ok (strsL (zs.filter fun y => !decide (y = z))) μ := by
  unfold q_law_deed_1
  rw [comp_map (ds := [strsL zs]) (xs := zs) (e := D.str) (fun y => !decide (y = z)) D.str (by walk_at "ev") rfl (size_small (by omega)) fun y hy => ⟨_, rfl, by walk_at "ev", fun _ => by walk_at "ev"⟩]
  rfl
theorem q2_eq (ns : List Int) (a : Nat) (c m : Int) (zs : List Str) (hz : zs.length ≤ 100) (o5 o6 o7 o8 o9 o10 o11 o12 o13 o14 o15 : Option D) (μ : M) : (ev G_law_deed q_law_deed_2).v (dS ns a c m zs o5 o6 o7 o8 o9 o10 o11 o12 o13 o14 o15) μ = .ok (strsL (firsts zs)) μ := by
  unfold q_law_deed_2
  have hi : itD .enm [strsL zs] μ = some ((zs.zipIdx 0).map fun x => D.tup [.int (x.2 : Int), .str x.1]) := by
    show some (enmD 0 (zs.map D.str)) = _
    rw [enm_strs]
  rw [comp_map (ds := [strsL zs]) (xs := zs.zipIdx 0) (e := fun x => D.tup [.int (x.2 : Int), .str x.1]) (fun x => !decide (x.1 ∈ zs.take x.2)) (fun x => D.str x.1) (by walk_at "ev") hi (by rw [List.length_zipIdx]; exact size_small (by omega)) fun x hx => ⟨_, rfl, by
    walk_at "ev"
    rw [sl_to]
    walk_at "ev"
    rw [cmp_notin]
    walk_at "ev", fun _ => by walk_at "ev"⟩]
  unfold firsts
  rw [strsL, List.map_map]
  rfl
theorem few3 {zs ws : List Str} (h : zs.Nodup) (hl : zs.length = 4) (z : Str) : 3 ≤ ((zs ++ ws).filter fun y => !decide (y = z)).length := by
  have := filter_ge z h
  rw [List.filter_append, List.length_append]
  omega
theorem tuple_strs {zs : List Str} {μ : M} : biD .tuple false [strsL zs] μ = .ok (.tup (zs.map D.str)) μ := nr rfl
set_option Elab.async false
set_option linter.all false
set_option maxRecDepth 100000
theorem deed_a (ns : List Int) (a : Nat) (ha : a ≤ 1000) (μ : M) : ∃ (c c1 m : Int) (zs : List Str) (r p o : Str), (0 ≤ m ∧ m < 1999999973 ∧ zs.length = 11 ∧ (∀ z ∈ zs, Nm z) ∧ (∀ z, 3 ≤ (zs.filter fun y => !decide (y = z)).length) ∧ r ∈ zs ∧ p ∈ zs ∧ o ∈ zs) ∧ (∀ ν : M, callD .frz e_law_at.F [scrD ns, .int ((a : Int) + 1)] ν = .ok (.int c1) ν) ∧
    runs G_law_deed (b_law_deed.take 6) [some (scrD ns), some (.int (a : Int)), none, none, none, none, none, none, none, none, none, none, none, none, none, none] μ = .ok (.nx (dS ns a c m zs (some (.str r)) (some (.str p)) (some (.str o)) none none none none none none none none)) μ := by
  obtain ⟨c, hc⟩ := at_ex ns (a : Int) (by omega)
  obtain ⟨c1, hc1⟩ := at_ex ns ((a : Int) + 1) (by omega)
  obtain ⟨m, m0, m1, hm⟩ := mix_ex c 1 (by decide) (by decide) μ
  obtain ⟨z4, ⟨l4, n4, k4⟩, e4⟩ := names_ex c 4 (by decide) μ
  obtain ⟨z8, ⟨l8, n8, k8⟩, e8⟩ := names_ex c1 8 (by decide) μ
  have e4' : callD .frz e_law_names.F [.int c, .int 4] μ = .ok (strsL z4) μ := e4
  have e8' : callD .frz e_law_names.F [.int c1, .int 8] μ = .ok (strsL z8) μ := e8
  have hadd : binD .Add false (strsL z4) (strsL (z8.drop 1)) μ = .ok (strsL (z4 ++ z8.drop 1)) μ := by
    rw [add_lst (by rw [List.length_map, List.length_map, List.length_drop]; exact size_small (by omega)), ← List.map_append]
  have hlen : (z4 ++ z8.drop 1).length = 11 := by rw [List.length_append, List.length_drop]; omega
  have hall : ∀ z ∈ z4 ++ z8.drop 1, Nm z := fun z hz => by
    rcases List.mem_append.mp hz with q | q
    · exact k4 z q
    · exact k8 z (List.mem_of_mem_drop q)
  have h3 := fun z => few3 (ws := z8.drop 1) n4 l4 z
  generalize z4 ++ z8.drop 1 = zs at hadd hlen hall h3
  obtain ⟨r, hr, er⟩ := ix_lstS (xs := zs) (i := m / 7 % (zs.length : Int)) (by rw [hlen]; omega) (by rw [hlen]; omega) μ
  obtain ⟨p, hp, ep⟩ := ix_lstS (xs := zs) (i := m / 80 % (zs.length : Int)) (by rw [hlen]; omega) (by rw [hlen]; omega) μ
  obtain ⟨o, ho, eo⟩ := ix_lstS (xs := zs) (i := m / 900 % (zs.length : Int)) (by rw [hlen]; omega) (by rw [hlen]; omega) μ
  have hpos : (0 : Int) < (zs.length : Int) := by omega
  refine ⟨c, c1, m, zs, r, p, o, ⟨m0, m1, hlen, hall, h3, hr, hp, ho⟩, hc1, ?_⟩
  have hs : slD false (strsL z8) (some 1) none μ = .ok (strsL (z8.drop 1)) μ := sl_from 1 μ
  show runs G_law_deed [_, _, _, _, _, _] _ _ = _
  walk_at "ev"
  rw [hc]
  walk_at "ev"
  rw [hm]
  walk_at "ev"
  rw [e4']
  walk_at "ev"
  rw [hc1]
  walk_at "ev"
  rw [e8']
  walk_at "ev"
  rw [hs]
  walk_at "ev"
  rw [hadd]
  walk_at "ev"
  rw [len_strs]
  walk_at "ev"
  rw [bin_mod hpos]
  walk_at "ev"
  rw [er]
  walk_at "ev"
  rw [len_strs]
  walk_at "ev"
  rw [bin_mod hpos]
  walk_at "ev"
  rw [ep]
  walk_at "ev"
  rw [len_strs]
  walk_at "ev"
  rw [bin_mod hpos]
  walk_at "ev"
  rw [eo]
  walk_at "ev"
theorem deed_b (ns : List Int) (a : Nat) (c m : Int) (zs : List Str) (hz : zs.length ≤ 100) (h3 : ∀ z, 3 ≤ (zs.filter fun y => !decide (y = z)).length) (r p o : Str) (ho : o ∈ zs) (μ : M) : ∃ o' : Str, (o' ∈ zs ∧ o' ≠ p) ∧
    runs G_law_deed ((b_law_deed.drop 6).take 1) (dS ns a c m zs (some (.str r)) (some (.str p)) (some (.str o)) none none none none none none none none) μ = .ok (.nx (dS ns a c m zs (some (.str r)) (some (.str p)) (some (.str o')) none none none none none none none none)) μ := by
  by_cases e : o = p
  · obtain ⟨o', h1, h2⟩ := ix_lstS (xs := zs.filter fun y => !decide (y = p)) (i := 0) (by decide) (by have := h3 p; omega) μ
    have hm := List.mem_filter.mp h1
    refine ⟨o', ⟨hm.1, by simpa using hm.2⟩, ?_⟩
    have hq := q0_eq ns a c m zs hz p (some (.str r)) (some (.str o)) none none none none none none none none μ
    show runs G_law_deed [_] _ _ = _
    walk_at "ev"
    simp only [decide_eq_true e, if_true]
    walk_at "ev"
    rw [hq]
    walk_at "ev"
    rw [h2]
    walk_at "ev"
  · refine ⟨o, ⟨ho, e⟩, ?_⟩
    show runs G_law_deed [_] _ _ = _
    walk_at "ev"
    simp only [decide_eq_false e, if_false, Bool.false_eq_true]
    walk_at "ev"
noncomputable def thn (l : List S) : List S :=
  match l with
  | .ite _ a _ :: _ => a
  | _ => []
theorem deed_c (ns : List Int) (a : Nat) (ha : a ≤ 1000) (c c1 m : Int) (m0 : 0 ≤ m) (zs : List Str) (hz : zs.length = 11) (hn : ∀ z ∈ zs, Nm z) (h3 : ∀ z, 3 ≤ (zs.filter fun y => !decide (y = z)).length) (r p o : Str) (hr : r ∈ zs) (hp : p ∈ zs) (ho : o ∈ zs) (hop : o ≠ p)
    (hc1 : ∀ ν : M, callD .frz e_law_at.F [scrD ns, .int ((a : Int) + 1)] ν = .ok (.int c1) ν) (μ : M) : ∃ x : Deed, x.Ok ∧ finF (runs G_law_deed (b_law_deed.drop 7) (dS ns a c m zs (some (.str r)) (some (.str p)) (some (.str o)) none none none none none none none none) μ) = .ok x.dat μ := by
  obtain ⟨f, hf1, hf2⟩ := ix_lstS (xs := zs.filter fun y => !decide (y = r)) (i := m / 40 % 2) (by omega) (by have := h3 r; omega) μ
  have hff := List.mem_filter.mp hf1
  have hfr : f ≠ r := by simpa using hff.2
  have hq := q1_eq ns a c m zs (by omega) r (some (.str p)) (some (.str o)) none none none none none none none none μ
  obtain ⟨k, k0, k1, hk⟩ := mix_ex c 2 (by decide) (by decide) μ
  obtain ⟨d0, ⟨d1, d2⟩, hd⟩ := number_ex k c k0 μ
  obtain ⟨n, n0, n1, hnn⟩ := mix_ex c1 3 (by decide) (by decide) μ
  obtain ⟨q0, ⟨q1, q2⟩, hqq⟩ := number_ex n c1 n0 μ
  have hday : Num 0 (if d0 < 1000000000000 - 2 then d0 else 1000000000000 - 2) := by unfold Num; split <;> omega
  have hday2 : (if d0 < 1000000000000 - 2 then d0 else 1000000000000 - 2) ≤ (999999999998 : Int) := by split <;> omega
  have hpts : Num 1 (if q0 > 1 then q0 else 1) := by unfold Num; split <;> omega
  generalize hDay : (if d0 < 1000000000000 - 2 then d0 else 1000000000000 - 2) = day at hday hday2
  generalize hPts : (if q0 > 1 then q0 else 1) = pts at hpts
  obtain ⟨ls, hls, els⟩ := lines_ex ns (a + 2) zs (by omega) hn μ
  have els' : callD .frz e_law_some_lines.F [scrD ns, .int ((a : Int) + 2), strsL zs] μ = .ok (lnsD ls) μ := els
  have h7 : m % 7 = 0 ∨ m % 7 = 1 ∨ m % 7 = 2 ∨ m % 7 = 3 ∨ m % 7 = 4 ∨ m % 7 = 5 ∨ m % 7 = 6 := by omega
  have hw : ∀ (i : Nat) (w : Str), m % 7 = (i : Int) → [Str.ofString "buy", Str.ofString "spend", Str.ofString "give", Str.ofString "change", Str.ofString "lend", Str.ofString "back", Str.ofString "fix"][i]? = some w → ixD (.lst [.str "buy", .str "spend", .str "give", .str "change", .str "lend", .str "back", .str "fix"]) (.int (m % 7)) μ = .ok (.str w) μ := fun i w hi hiw => by
    rw [hi]
    have e : atI ([Str.ofString "buy", Str.ofString "spend", Str.ofString "give", Str.ofString "change", Str.ofString "lend", Str.ofString "back", Str.ofString "fix"].map D.str) (i : Int) = some (.str w) := atI_nat (by rw [List.getElem?_map, hiw]; rfl)
    show (match atI ([Str.ofString "buy", Str.ofString "spend", Str.ofString "give", Str.ofString "change", Str.ofString "lend", Str.ofString "back", Str.ofString "fix"].map D.str) (i : Int) with | some d => Out.ok d μ | none => .bad) = _
    rw [e]
  have pre : ∀ w : Str, ixD (.lst [.str "buy", .str "spend", .str "give", .str "change", .str "lend", .str "back", .str "fix"]) (.int (m % 7)) μ = .ok (.str w) μ → runs G_law_deed ((b_law_deed.drop 7).take 5) (dS ns a c m zs (some (.str r)) (some (.str p)) (some (.str o)) none none none none none none none none) μ = .ok (.nx (dS ns a c m zs (some (.str r)) (some (.str p)) (some (.str o)) (some (.str f)) (some (.int day)) (some (.int n)) (some (.int pts)) (some (.str w)) none none none)) μ := fun w hw => by
    show runs G_law_deed [_, _, _, _, _] _ _ = _
    walk_at "ev"
    rw [hq]
    walk_at "ev"
    rw [hf2]
    walk_at "ev"
    rw [hk]
    walk_at "ev"
    rw [hd]
    walk_at "ev"
    rw [min_eq, hDay]
    walk_at "ev"
    rw [hc1]
    walk_at "ev"
    rw [hnn]
    walk_at "ev"
    rw [hc1]
    walk_at "ev"
    rw [hqq]
    walk_at "ev"
    rw [max_eq, hPts]
    walk_at "ev"
    rw [hw]
    walk_at "ev"
  have sp : ∀ w : Str, ixD (.lst [.str "buy", .str "spend", .str "give", .str "change", .str "lend", .str "back", .str "fix"]) (.int (m % 7)) μ = .ok (.str w) μ → runs G_law_deed (b_law_deed.drop 7) (dS ns a c m zs (some (.str r)) (some (.str p)) (some (.str o)) none none none none none none none none) μ = runs G_law_deed (b_law_deed.drop 12) (dS ns a c m zs (some (.str r)) (some (.str p)) (some (.str o)) (some (.str f)) (some (.int day)) (some (.int n)) (some (.int pts)) (some (.str w)) none none none) μ := fun w hw => by
    rw [show b_law_deed.drop 7 = (b_law_deed.drop 7).take 5 ++ b_law_deed.drop 12 from rfl, runs_app, pre w hw, seqF_nx]
  have rN := hn r hr
  have pN := hn p hp
  have oN := hn o ho
  have fN := hn f hff.1
  rcases h7 with h | h | h | h | h | h | h
  · refine ⟨.buy r day p ls, ⟨rN, hday, pN, hls⟩, ?_⟩
    rw [sp _ (hw 0 _ h rfl), show finF (runs G_law_deed (b_law_deed.drop 12) (dS ns a c m zs (some (.str r)) (some (.str p)) (some (.str o)) (some (.str f)) (some (.int day)) (some (.int n)) (some (.int pts)) (some (.str "buy")) none none none) μ) = finF (seqF (runs G_law_deed (thn (b_law_deed.drop 12)) (dS ns a c m zs (some (.str r)) (some (.str p)) (some (.str o)) (some (.str f)) (some (.int day)) (some (.int n)) (some (.int pts)) (some (.str "buy")) none none none) μ) (runs G_law_deed (b_law_deed.drop 13))) from nr rfl]
    simp only [thn, b_law_deed, List.drop_succ_cons, List.drop_zero]
    walk_at "ev"
    rw [els']
    walk_at "ev"
    rfl
  · have hu := q2_eq ns a c m zs (by omega) (some (.str r)) (some (.str p)) (some (.str o)) (some (.str f)) (some (.int day)) (some (.int n)) (some (.int pts)) (some (.str "spend")) none none none μ
    have hs1 : slD false (strsL (firsts zs)) (some (n / 7 % 3)) none μ = .ok (strsL ((firsts zs).drop (n / 7 % 3).toNat)) μ := by
      have := sl_from (zs := firsts zs) (n / 7 % 3).toNat μ
      rwa [Int.toNat_of_nonneg (by omega)] at this
    have hs2 : slD false (strsL ((firsts zs).drop (n / 7 % 3).toNat)) none (some (n / 21 % 9)) μ = .ok (strsL (((firsts zs).drop (n / 7 % 3).toNat).take (n / 21 % 9).toNat)) μ := by
      have := sl_to (zs := (firsts zs).drop (n / 7 % 3).toNat) (n / 21 % 9).toNat μ
      rwa [Int.toNat_of_nonneg (by omega)] at this
    have hsub : ∀ z ∈ ((firsts zs).drop (n / 7 % 3).toNat).take (n / 21 % 9).toNat, Nm z := fun z hz => hn z (firsts_sub zs z (List.mem_of_mem_drop (List.mem_of_mem_take hz)))
    have hnd : (((firsts zs).drop (n / 7 % 3).toNat).take (n / 21 % 9).toNat).Nodup := ((firsts_nodup zs).sublist (List.drop_sublist _ _)).sublist (List.take_sublist _ _)
    have hle : (((firsts zs).drop (n / 7 % 3).toNat).take (n / 21 % 9).toNat).length ≤ 8 := by
      rw [List.length_take]
      omega
    generalize ((firsts zs).drop (n / 7 % 3).toNat).take (n / 21 % 9).toNat = fs at hs2 hsub hnd hle
    refine ⟨.spend r day p pts fs, ⟨rN, hday, pN, hpts, hle, hnd, hsub⟩, ?_⟩
    rw [sp _ (hw 1 _ h rfl), show finF (runs G_law_deed (b_law_deed.drop 12) (dS ns a c m zs (some (.str r)) (some (.str p)) (some (.str o)) (some (.str f)) (some (.int day)) (some (.int n)) (some (.int pts)) (some (.str "spend")) none none none) μ) = finF (seqF (runs G_law_deed (thn (b_law_deed.drop 13)) (dS ns a c m zs (some (.str r)) (some (.str p)) (some (.str o)) (some (.str f)) (some (.int day)) (some (.int n)) (some (.int pts)) (some (.str "spend")) none none none) μ) (runs G_law_deed (b_law_deed.drop 14))) from nr rfl]
    simp only [thn, b_law_deed, List.drop_succ_cons, List.drop_zero]
    walk_at "ev"
    rw [hu]
    walk_at "ev"
    rw [hs1]
    walk_at "ev"
    rw [hs2]
    walk_at "ev"
    rw [tuple_strs]
    walk_at "ev"
    rfl
  · refine ⟨.two "give" r day p o pts, ⟨.inl rfl, rN, hday, pN, oN, hpts, hop⟩, ?_⟩
    rw [sp _ (hw 2 _ h rfl)]
    exact nr rfl
  · refine ⟨.two "change" r day p o pts, ⟨.inr rfl, rN, hday, pN, oN, hpts, hop⟩, ?_⟩
    rw [sp _ (hw 3 _ h rfl)]
    exact nr rfl
  · obtain ⟨e, he, ee⟩ := ix_lstI (xs := [0, n % 50, n]) (i := n / 50 % 3) (by omega) (by show _ < (3 : Int); omega) μ
    have he0 : 0 ≤ e := by
      simp only [List.mem_cons, List.not_mem_nil, or_false] at he
      rcases he with rfl | rfl | rfl <;> omega
    simp only [List.map_cons, List.map_nil] at ee
    have hend : Num 0 (if day + 1 + e < 1000000000000 - 1 then day + 1 + e else 1000000000000 - 1) ∧ day < (if day + 1 + e < 1000000000000 - 1 then day + 1 + e else 1000000000000 - 1) := by
      unfold Num at hday ⊢
      split <;> omega
    refine ⟨.lend r day p o pts (if day + 1 + e < 1000000000000 - 1 then day + 1 + e else 1000000000000 - 1), ⟨rN, hday, pN, oN, hpts, hend.1, hop, hend.2⟩, ?_⟩
    rw [sp _ (hw 4 _ h rfl), show finF (runs G_law_deed (b_law_deed.drop 12) (dS ns a c m zs (some (.str r)) (some (.str p)) (some (.str o)) (some (.str f)) (some (.int day)) (some (.int n)) (some (.int pts)) (some (.str "lend")) none none none) μ) = finF (seqF (runs G_law_deed (thn (b_law_deed.drop 14)) (dS ns a c m zs (some (.str r)) (some (.str p)) (some (.str o)) (some (.str f)) (some (.int day)) (some (.int n)) (some (.int pts)) (some (.str "lend")) none none none) μ) (runs G_law_deed (b_law_deed.drop 15))) from nr rfl]
    simp only [thn, b_law_deed, List.drop_succ_cons, List.drop_zero]
    walk_at "ev"
    rw [ee]
    walk_at "ev"
    rw [min_eq]
    walk_at "ev"
    rfl
  · refine ⟨.back r day f, ⟨rN, hday, fN, hfr⟩, ?_⟩
    rw [sp _ (hw 5 _ h rfl)]
    exact nr rfl
  · refine ⟨.fix r f ls, ⟨rN, fN, hls, hfr⟩, ?_⟩
    rw [sp _ (hw 6 _ h rfl), show finF (runs G_law_deed (b_law_deed.drop 12) (dS ns a c m zs (some (.str r)) (some (.str p)) (some (.str o)) (some (.str f)) (some (.int day)) (some (.int n)) (some (.int pts)) (some (.str "fix")) none none none) μ) = finF (seqF (runs G_law_deed (thn (b_law_deed.drop 16)) (dS ns a c m zs (some (.str r)) (some (.str p)) (some (.str o)) (some (.str f)) (some (.int day)) (some (.int n)) (some (.int pts)) (some (.str "fix")) none none none) μ) (runs G_law_deed (b_law_deed.drop 17))) from nr rfl]
    simp only [thn, b_law_deed, List.drop_succ_cons, List.drop_zero]
    walk_at "ev"
    rw [els']
    walk_at "ev"
    rfl
theorem deed_ex (ns : List Int) (a : Nat) (ha : a ≤ 1000) (μ : M) : ∃ x : Deed, x.Ok ∧ callD .frz e_law_deed.F [scrD ns, .int (a : Int)] μ = .ok x.dat μ := by
  obtain ⟨c, c1, m, zs, r, p, o, ⟨m0, m1, hz, hn, h3, hr, hp, ho⟩, hc1, eA⟩ := deed_a ns a ha μ
  obtain ⟨o', ⟨ho', hop⟩, eB⟩ := deed_b ns a c m zs (by omega) h3 r p o ho μ
  obtain ⟨x, hx, eC⟩ := deed_c ns a ha c c1 m m0 zs hz hn h3 r p o' hr hp ho' hop hc1 μ
  refine ⟨x, hx, frz_same (F := f_law_deed) ?_ (frz_deed x)⟩
  unfold f_law_deed
  rw [fnOf_eq, if_pos (show [scrD ns, D.int (a : Int)].length = 2 from rfl), show b_law_deed = b_law_deed.take 6 ++ ((b_law_deed.drop 6).take 1 ++ b_law_deed.drop 7) from rfl, runs_app, show ([scrD ns, D.int (a : Int)].map some ++ List.replicate 14 none) = [some (scrD ns), some (.int (a : Int)), none, none, none, none, none, none, none, none, none, none, none, none, none, none] from rfl, eA, seqF_nx, runs_app, eB, seqF_nx]
  exact eC
set_option Elab.async false
set_option linter.all false
set_option maxRecDepth 100000
theorem isT_tup {ds : List D} {μ : M} : biD (.isT "tuple") false [.tup ds] μ = .ok (.bl true) μ := nr rfl
theorem isT_str {z : Str} {μ : M} : biD (.isT "str") false [.str z] μ = .ok (.bl true) μ := nr rfl
theorem isT_int {i : Int} {μ : M} : biD (.isT "int") false [.int i] μ = .ok (.bl true) μ := nr rfl
theorem isT_intb {i : Int} {μ : M} : biD (.isT "bool") false [.int i] μ = .ok (.bl false) μ := nr rfl
theorem len_tup {ds : List D} {μ : M} : biD .len false [.tup ds] μ = .ok (.int ds.length) μ := nr rfl
theorem len_str {z : Str} {μ : M} (h : z.length ≤ sizeLine) : biD .len false [.str z] μ = .ok (.int z.length) μ := if_pos h
theorem all_bls {bs : List Bool} {μ : M} : biD .all false [.lst (bs.map D.bl)] μ = .ok (.bl (bs.all id)) μ := nr (by
  have : blsD (bs.map D.bl) = some bs := by
    induction bs with
    | nil => rfl
    | cons b bs ih => rw [List.map_cons]; unfold blsD; rw [ih]; rfl
  simp only [biD, allD, seqL, this])
theorem le_str {x y : Str} {μ : M} : cmpD .LtE (.str x) (.str y) μ = .ok (.bl (!decide (y.cps.toList < x.cps.toList))) μ := nr rfl
theorem sign_ok (c : Nat) : (!decide ([c] < (Str.ofString "a").cps.toList)) = decide (97 ≤ c) ∧ (!decide ((Str.ofString "z").cps.toList < [c])) = decide (c ≤ 122) := by
  have ea : (Str.ofString "a").cps.toList = [97] := by decide +kernel
  have ez : (Str.ofString "z").cps.toList = [122] := by decide +kernel
  rw [ea, ez]
  have e1 : ([c] < [97]) ↔ c < 97 := by simp [List.cons_lt_cons_iff]
  have e2 : ([122] < [c]) ↔ 122 < c := by simp [List.cons_lt_cons_iff]
  constructor
  · rw [Bool.eq_iff_iff]
    simp [e1]
  · rw [Bool.eq_iff_iff]
    simp [e2]
theorem is_name_eq (z : Str) (h : z.length ≤ 1000) (μ : M) : callD .frz e_is_name.F [.str z] μ = .ok (.bl (isNameB z)) μ := by
  refine frz_same (F := f_is_name) ?_ frz_bl
  have hq : (ev G_is_name q_is_name_0).v [some (.str z)] μ = .ok (.lst ((z.cps.toList.map fun c => decide (97 ≤ c) && decide (c ≤ 122)).map D.bl)) μ := by
    unfold q_is_name_0
    rw [comp_map (ds := [.str z]) (xs := z.cps.toList) (e := fun c => D.str ⟨#[c]⟩) (fun _ => true) (fun c => D.bl (decide (97 ≤ c) && decide (c ≤ 122))) (by walk_at "ev") rfl (by
      have : z.cps.toList.length = z.length := by simp [Str.length]
      rw [this]
      exact size_small h) fun c hc => ⟨_, rfl, by walk_at "ev", fun _ => by
      walk_at "ev"
      rw [le_str]
      walk_at "ev"
      rw [(sign_ok c).1]
      by_cases e : 97 ≤ c
      · simp only [decide_eq_true e, if_true]
        rw [le_str, (sign_ok c).2, Bool.true_and]
      · simp only [decide_eq_false e, if_false, Bool.false_eq_true, Bool.false_and]⟩]
    rw [List.filter_eq_self.mpr fun _ _ => rfl, List.map_map]
    rfl
  unfold f_is_name b_is_name
  walk_at "ev"
  rw [isT_str]
  walk_at "ev"
  rw [len_str (size_small h), d_LONGEST_NAME]
  walk_at "ev"
  by_cases h1 : 1 ≤ z.length
  · simp only [show ((1 : Int) ≤ (z.length : Int)) from by omega, decide_true, if_true]
    walk_at "ev"
    by_cases h2 : z.length ≤ 8
    · simp only [show ((z.length : Int) ≤ 8) from by omega, decide_true, if_true]
      walk_at "ev"
      rw [hq]
      walk_at "ev"
      rw [all_bls]
      walk_at "ev"
      unfold isNameB
      rw [decide_eq_true h1, decide_eq_true h2, Bool.true_and, Bool.true_and, List.all_map]
      rfl
    · simp only [show ¬ ((z.length : Int) ≤ 8) from by omega, decide_false, if_false, Bool.false_eq_true]
      walk_at "ev"
      unfold isNameB
      rw [decide_eq_false h2, Bool.false_and, Bool.and_false]
  · simp only [show ¬ ((1 : Int) ≤ (z.length : Int)) from by omega, decide_false, if_false, Bool.false_eq_true]
    walk_at "ev"
    unfold isNameB
    rw [decide_eq_false h1, Bool.false_and]
theorem nm_len {z : Str} (h : Nm z) : z.length ≤ 1000 := by
  unfold Nm isNameB at h
  simp only [Bool.and_eq_true, decide_eq_true_eq] at h
  omega
theorem is_name_true {z : Str} (h : Nm z) (μ : M) : callD .frz e_is_name.F [.str z] μ = .ok (.bl true) μ := by
  rw [is_name_eq z (nm_len h), h]
theorem is_number_eq (i l : Int) (μ : M) : callD .frz e_is_number.F [.int i, .int l] μ = .ok (.bl (decide (l ≤ i))) μ := by
  refine frz_same (F := f_is_number) ?_ frz_bl
  unfold f_is_number b_is_number
  walk_at "ev"
  rw [isT_int]
  walk_at "ev"
  rw [isT_intb]
  walk_at "ev"
theorem is_line_true {p : Ln} (h : LnOk p) (μ : M) : callD .frz e_is_line.F [lnD p] μ = .ok (.bl true) μ := by
  refine frz_same (F := f_is_line) ?_ frz_bl
  have h1 : callD .frz e_is_tuple_of.F [lnD p, .int 2] μ = .ok (.bl true) μ := by
    refine frz_same (F := f_is_tuple_of) ?_ frz_bl
    unfold f_is_tuple_of b_is_tuple_of lnD
    walk_at "ev"
    rw [isT_tup]
    walk_at "ev"
    rw [len_tup]
    walk_at "ev"
    rfl
  have i0 : ixD (lnD p) (.int 0) μ = .ok (.str p.1) μ := nr rfl
  have i1 : ixD (lnD p) (.int 1) μ = .ok (.int p.2) μ := nr rfl
  unfold f_is_line b_is_line
  walk_at "ev"
  rw [h1]
  walk_at "ev"
  rw [i0]
  walk_at "ev"
  rw [is_name_true h.1]
  walk_at "ev"
  rw [i1]
  walk_at "ev"
  rw [is_number_eq]
  walk_at "ev"
  rw [decide_eq_true h.2.1]
theorem are_lines_true {ls : List Ln} (h : LnsOk ls) (μ : M) : callD .frz e_are_lines.F [lnsD ls] μ = .ok (.bl true) μ := by
  refine frz_same (F := f_are_lines) ?_ frz_bl
  obtain ⟨h1, h2, h3⟩ := h
  have hq : (ev G_are_lines q_are_lines_0).v [some (lnsD ls)] μ = .ok (.lst ((ls.map fun _ => true).map D.bl)) μ := by
    unfold q_are_lines_0
    rw [comp_map (ds := [lnsD ls]) (xs := ls) (e := lnD) (fun _ => true) (fun _ => D.bl true) (by walk_at "ev") rfl (size_small (by omega)) fun p hp => ⟨_, rfl, by walk_at "ev", fun _ => by
      walk_at "ev"
      rw [is_line_true (h3 p hp)]⟩]
    rw [List.filter_eq_self.mpr fun _ _ => rfl, List.map_map]
    rfl
  have hl : biD .len false [lnsD ls] μ = .ok (.int ls.length) μ := by
    unfold lnsD
    rw [len_tup, List.length_map]
  have ht : biD (.isT "tuple") false [lnsD ls] μ = .ok (.bl true) μ := isT_tup
  unfold f_are_lines b_are_lines
  walk_at "ev"
  rw [ht]
  walk_at "ev"
  rw [hl, d_MOST_IN_A_LIST]
  walk_at "ev"
  simp only [show ((1 : Int) ≤ (ls.length : Int)) from by omega, show ((ls.length : Int) ≤ 8) from by omega, decide_true, if_true]
  walk_at "ev"
  try simp only [show ((1 : Int) ≤ (ls.length : Int)) from by omega, show ((ls.length : Int) ≤ 8) from by omega, decide_true, if_true]
  walk_at "ev"
  rw [hq]
  walk_at "ev"
  rw [all_bls]
  walk_at "ev"
  rw [List.all_map]
  congr 2
  simp
theorem unlike_true {fs : List Str} (h : fs.length ≤ 8) (hn : fs.Nodup) (hN : ∀ z ∈ fs, Nm z) (μ : M) : callD .frz e_are_unlike_names.F [.tup (fs.map D.str)] μ = .ok (.bl true) μ := by
  refine frz_same (F := f_are_unlike_names) ?_ frz_bl
  have hq : (ev G_are_unlike_names q_are_unlike_names_0).v [some (.tup (fs.map D.str))] μ = .ok (.lst ((fs.map fun _ => true).map D.bl)) μ := by
    unfold q_are_unlike_names_0
    rw [comp_map (ds := [.tup (fs.map D.str)]) (xs := fs) (e := D.str) (fun _ => true) (fun _ => D.bl true) (by walk_at "ev") rfl (size_small (by omega)) fun p hp => ⟨_, rfl, by walk_at "ev", fun _ => by
      walk_at "ev"
      rw [is_name_true (hN p hp)]⟩]
    rw [List.filter_eq_self.mpr fun _ _ => rfl, List.map_map]
    rfl
  have hs : biD .lenSet false [.tup (fs.map D.str)] μ = .ok (.int fs.length) μ := by
    simp only [biD, lenSetD, seqA, strsD_map, show fs.length ≤ 1000 from by omega, if_true, ddS_nodup hn]
  have hu : callD .frz e_are_unlike.F [.tup (fs.map D.str)] μ = .ok (.bl true) μ := by
    refine frz_same (F := f_are_unlike) ?_ frz_bl
    unfold f_are_unlike b_are_unlike
    walk_at "ev"
    rw [hs]
    walk_at "ev"
    rw [len_tup]
    walk_at "ev"
    simp
  unfold f_are_unlike_names b_are_unlike_names
  walk_at "ev"
  rw [isT_tup]
  walk_at "ev"
  rw [len_tup, d_MOST_IN_A_LIST]
  walk_at "ev"
  simp only [List.length_map, show ¬ ((8 : Int) < (fs.length : Int)) from by omega, decide_false, if_false, Bool.false_eq_true]
  walk_at "ev"
  rw [hq]
  walk_at "ev"
  rw [all_bls]
  walk_at "ev"
  have : (fs.map fun _ => true).all id = true := by simp
  simp only [this, if_true]
  rw [hu]
  walk_at "ev"
theorem pw_l (p : Str) (h1 : decide (p = Str.ofString "lines") = false) (h2 : decide (p = Str.ofString "first") = false) (v : D) (μ : M) (b : Bool) (hp : (lookD p [("day", .int 0), ("points", .int 1), ("end", .int 0)]).isSome = false) (hv : callD .frz e_is_name.F [v] μ = .ok (.bl b) μ) : callD .frz e_is_value_of.F [.str p, v] μ = .ok (.bl b) μ := by
  refine frz_same (F := f_is_value_of) ?_ frz_bl
  have hn : callD .frz e_is_number_part.F [.str p] μ = .ok (.bl false) μ := by
    refine frz_same (F := f_is_number_part) ?_ frz_bl
    unfold f_is_number_part b_is_number_part
    walk_at "ev"
    rw [d_LEASTS]
    walk_at "ev"
    rw [hp]
  unfold f_is_value_of b_is_value_of
  walk_at "ev"
  simp only [h1, h2, if_false, Bool.false_eq_true]
  walk_at "ev"
  simp only [h1, h2, if_false, Bool.false_eq_true]
  walk_at "ev"
  rw [hn]
  walk_at "ev"
  rw [hv]
  walk_at "ev"
theorem pw_n (p : Str) (h1 : decide (p = Str.ofString "lines") = false) (h2 : decide (p = Str.ofString "first") = false) (v l : Int) (μ : M) (hp : lookD p [("day", .int 0), ("points", .int 1), ("end", .int 0)] = some (.int l)) : callD .frz e_is_value_of.F [.str p, .int v] μ = .ok (.bl (decide (l ≤ v))) μ := by
  refine frz_same (F := f_is_value_of) ?_ frz_bl
  have hn : callD .frz e_is_number_part.F [.str p] μ = .ok (.bl true) μ := by
    refine frz_same (F := f_is_number_part) ?_ frz_bl
    unfold f_is_number_part b_is_number_part
    walk_at "ev"
    rw [d_LEASTS]
    walk_at "ev"
    rw [hp]
    rfl
  unfold f_is_value_of b_is_value_of
  walk_at "ev"
  simp only [h1, h2, if_false, Bool.false_eq_true]
  walk_at "ev"
  simp only [h1, h2, if_false, Bool.false_eq_true]
  walk_at "ev"
  rw [hn]
  walk_at "ev"
  rw [d_LEASTS, gix_dct hp]
  walk_at "ev"
  rw [is_number_eq]
  walk_at "ev"
theorem val_lines {ls : List Ln} (h : LnsOk ls) (μ : M) : callD .frz e_is_value_of.F [.str "lines", lnsD ls] μ = .ok (.bl true) μ := by
  refine frz_same (F := f_is_value_of) ?_ frz_bl
  unfold f_is_value_of b_is_value_of
  walk_at "ev"
  simp only [decide_true, if_true]
  walk_at "ev"
  rw [are_lines_true h]
  walk_at "ev"
theorem val_first {fs : List Str} (h : fs.length ≤ 8) (hn : fs.Nodup) (hN : ∀ z ∈ fs, Nm z) (μ : M) : callD .frz e_is_value_of.F [.str "first", .tup (fs.map D.str)] μ = .ok (.bl true) μ := by
  refine frz_same (F := f_is_value_of) ?_ frz_bl
  unfold f_is_value_of b_is_value_of
  walk_at "ev"
  simp only [show decide (Str.ofString "first" = Str.ofString "lines") = false from by decide +kernel, if_false, Bool.false_eq_true]
  walk_at "ev"
  simp only [decide_true, if_true]
  walk_at "ev"
  rw [unlike_true h hn hN]
  walk_at "ev"
theorem val_ref {z : Str} (h : Nm z) (μ : M) : callD .frz e_is_value_of.F [.str "ref", .str z] μ = .ok (.bl true) μ := pw_l _ (by decide +kernel) (by decide +kernel) _ μ _ (by decide +kernel) (is_name_true h μ)
theorem val_purse {z : Str} (h : Nm z) (μ : M) : callD .frz e_is_value_of.F [.str "purse", .str z] μ = .ok (.bl true) μ := pw_l _ (by decide +kernel) (by decide +kernel) _ μ _ (by decide +kernel) (is_name_true h μ)
theorem val_other {z : Str} (h : Nm z) (μ : M) : callD .frz e_is_value_of.F [.str "other", .str z] μ = .ok (.bl true) μ := pw_l _ (by decide +kernel) (by decide +kernel) _ μ _ (by decide +kernel) (is_name_true h μ)
theorem val_of {z : Str} (h : Nm z) (μ : M) : callD .frz e_is_value_of.F [.str "of", .str z] μ = .ok (.bl true) μ := pw_l _ (by decide +kernel) (by decide +kernel) _ μ _ (by decide +kernel) (is_name_true h μ)
theorem val_day {n : Int} (h : Num 0 n) (μ : M) : callD .frz e_is_value_of.F [.str "day", .int n] μ = .ok (.bl true) μ := by rw [pw_n _ (by decide +kernel) (by decide +kernel) n 0 μ rfl, decide_eq_true h.1]
theorem val_points {n : Int} (h : Num 1 n) (μ : M) : callD .frz e_is_value_of.F [.str "points", .int n] μ = .ok (.bl true) μ := by rw [pw_n _ (by decide +kernel) (by decide +kernel) n 1 μ rfl, decide_eq_true h.1]
theorem val_end {n : Int} (h : Num 0 n) (μ : M) : callD .frz e_is_value_of.F [.str "end", .int n] μ = .ok (.bl true) μ := by rw [pw_n _ (by decide +kernel) (by decide +kernel) n 0 μ rfl, decide_eq_true h.1]
set_option Elab.async false
set_option linter.all false
set_option maxRecDepth 100000
noncomputable def partsT : List (Str × D) := [("buy", (.tup [(.str "ref"), (.str "day"), (.str "purse"), (.str "lines")])), ("spend", (.tup [(.str "ref"), (.str "day"), (.str "purse"), (.str "points"), (.str "first")])), ("give", (.tup [(.str "ref"), (.str "day"), (.str "purse"), (.str "other"), (.str "points")])), ("change", (.tup [(.str "ref"), (.str "day"), (.str "purse"), (.str "other"), (.str "points")])), ("lend", (.tup [(.str "ref"), (.str "day"), (.str "purse"), (.str "other"), (.str "points"), (.str "end")])), ("back", (.tup [(.str "ref"), (.str "day"), (.str "of")])), ("fix", (.tup [(.str "ref"), (.str "of"), (.str "lines")]))]
theorem d_parts : e_PARTS.dat = some (.dct partsT) := rfl
theorem zipD_strs : ∀ (qs : List Str) (vs : List D), zipD (qs.map D.str) vs = (qs.zip vs).map fun p => D.tup [.str p.1, p.2]
  | [], vs => by unfold zipD; rfl
  | q :: qs, [] => by unfold zipD; rfl
  | q :: qs, v :: vs => by
    rw [List.map_cons, List.zip_cons_cons, List.map_cons]
    unfold zipD
    rw [zipD_strs qs vs]
theorem parts_eq {w : Str} {qs : List Str} (h : lookD w partsT = some (.tup (qs.map D.str))) (μ : M) : callD .frz e_parts_of.F [.str w] μ = .ok (.tup (qs.map D.str)) μ := by
  refine frz_same (F := f_parts_of) ?_ (frz_tup (frzGs_map (fun _ => frz_str) _))
  unfold f_parts_of b_parts_of
  walk_at "ev"
  rw [d_parts]
  walk_at "ev"
  rw [h]
  rfl
theorem sl_tail {w : D} {vs : List D} (μ : M) : slD false (.tup (w :: vs)) (some 1) none μ = .ok (.tup vs) μ := by
  have hc : _L3.cutD (w :: vs) (some 1) none = vs := cut_from (ds := w :: vs) 1
  have hs : HT.sIx (w :: vs).length 0 (some (1 : Int)) = 1 := by
    have := HT.sIx_nat (n := (w :: vs).length) (d := 0) (k := 1)
    rw [show (some (1 : Int)) = some ((1 : Nat) : Int) from rfl]
    rw [HT.sIx_nat]
    simp
  show (if HT.sIx (w :: vs).length 0 (some (1 : Int)) = 0 ∧ HT.sIx (w :: vs).length (w :: vs).length none = (w :: vs).length then Out.bad else Out.ok (D.tup (_L3.cutD (w :: vs) (some 1) none)) μ) = _
  rw [if_neg (by rw [hs]; simp), hc]
theorem ix_zero {w : D} {vs : List D} (μ : M) : ixD (.tup (w :: vs)) (.int 0) μ = .ok w μ := by
  have e : atI (w :: vs) ((0 : Nat) : Int) = some w := atI_nat rfl
  show (match atI (w :: vs) (0 : Int) with | some d => Out.ok d μ | none => .bad) = _
  rw [show ((0 : Int)) = ((0 : Nat) : Int) from rfl, e]
theorem has_parts {w : Str} {qs : List Str} {vs : List D} (h : lookD w partsT = some (.tup (qs.map D.str))) (h0 : 0 < qs.length) (hl : qs.length ≤ 100) (hv : vs.length = qs.length) (μ : M) (ha : ∀ p ∈ qs.zip vs, callD .frz e_is_value_of.F [.str p.1, p.2] μ = .ok (.bl true) μ) : callD .frz e_has_its_parts.F [.tup (.str w :: vs)] μ = .ok (.bl true) μ := by
  refine frz_same (F := f_has_its_parts) ?_ frz_bl
  have hi : itD .zip [.tup (qs.map D.str), .tup vs] μ = some ((qs.zip vs).map fun p => D.tup [.str p.1, p.2]) := by
    show some (zipD (qs.map D.str) vs) = _
    rw [zipD_strs]
  have hq : (ev G_has_its_parts q_has_its_parts_0).v [some (.tup (.str w :: vs)), some (.tup (qs.map D.str))] μ = .ok (.lst (((qs.zip vs).map fun _ => true).map D.bl)) μ := by
    unfold q_has_its_parts_0
    rw [comp_map (ds := [.tup (qs.map D.str), .tup vs]) (xs := qs.zip vs) (e := fun p => D.tup [.str p.1, p.2]) (fun _ => true) (fun _ => D.bl true) (by
      walk_at "ev"
      rw [sl_tail]
      walk_at "ev") hi (by rw [List.length_zip]; exact size_small (by omega)) fun p hp => ⟨_, rfl, by walk_at "ev", fun _ => by
      walk_at "ev"
      rw [ha p hp]⟩]
    rw [List.filter_eq_self.mpr fun _ _ => rfl, List.map_map]
    rfl
  unfold f_has_its_parts b_has_its_parts
  walk_at "ev"
  rw [isT_tup]
  walk_at "ev"
  rw [len_tup]
  walk_at "ev"
  simp only [show ¬ (((vs.length + 1 : Nat) : Int) = 0) from by omega, decide_false, if_false, Bool.false_eq_true]
  walk_at "ev"
  rw [ix_zero]
  walk_at "ev"
  rw [parts_eq h]
  walk_at "ev"
  rw [len_tup]
  walk_at "ev"
  simp only [List.length_map, show ¬ ((qs.length : Int) = 0) from by omega, decide_false, if_false, Bool.false_eq_true]
  walk_at "ev"
  rw [len_tup]
  walk_at "ev"
  rw [len_tup]
  walk_at "ev"
  simp only [List.length_map, List.length_cons, show (((vs.length + 1 : Nat) : Int) = (qs.length : Int) + 1) from by omega, decide_true, Bool.not_true, if_false, Bool.false_eq_true]
  walk_at "ev"
  rw [hq]
  walk_at "ev"
  rw [all_bls]
  walk_at "ev"
  congr 2
  simp
theorem named_eq {w : Str} {qs : List Str} {vs : List D} (h : lookD w partsT = some (.tup (qs.map D.str))) (hl : qs.length ≤ 100) (hn : qs.Nodup) (hv : vs.length = qs.length) (hf : ∀ g, frzGs g vs = some vs) (μ : M) : callD .frz e_named_parts.F [.tup (.str w :: vs)] μ = .ok (.dF (qs.map Sum.inr) vs) μ := by
  refine frz_same (F := f_named_parts) ?_ (by show frzG _ (.dF _ _) = _; unfold frzG; rw [hf]; rfl)
  have hz : biD .dictZip false [.tup (qs.map D.str), .tup vs] μ = .ok (.dF (qs.map Sum.inr) vs) μ := by
    simp only [biD, dictZipD, seqA, strsD_map, if_pos (show qs.length = vs.length ∧ qs.length ≤ 1000 ∧ qs.Nodup from ⟨hv.symm, by omega, hn⟩), Bool.false_eq_true, if_false]
  unfold f_named_parts b_named_parts
  walk_at "ev"
  rw [ix_zero]
  walk_at "ev"
  rw [parts_eq h]
  walk_at "ev"
  rw [sl_tail]
  walk_at "ev"
  rw [hz]
  walk_at "ev"
theorem in_dF {k : Str} {ks : List Key} {vs : List D} {μ : M} : cmpD .In (.str k) (.dF ks vs) μ = .ok (.bl (getK (.inr k) ks vs).isSome) μ := nr rfl
theorem notIn_dF {k : Str} {ks : List Key} {vs : List D} {μ : M} : cmpD .NotIn (.str k) (.dF ks vs) μ = .ok (.bl (!(getK (.inr k) ks vs).isSome)) μ := nr rfl
theorem ix_dF {k : Str} {ks : List Key} {vs : List D} {d : D} {μ : M} (h : getK (.inr k) ks vs = some d) : ixD (.dF ks vs) (.str k) μ = .ok d μ := by
  show dixD (.dF ks vs) (.inr k) μ = _
  unfold dixD
  simp only [dictL, h]
theorem go_true {ks : List Key} {vs : List D} (hO : getK (.inr "other") ks vs = none ∨ ∃ x y : Str, getK (.inr "other") ks vs = some (.str x) ∧ getK (.inr "purse") ks vs = some (.str y) ∧ x ≠ y)
    (hF : getK (.inr "of") ks vs = none ∨ ∃ x y : Str, getK (.inr "of") ks vs = some (.str x) ∧ getK (.inr "ref") ks vs = some (.str y) ∧ x ≠ y)
    (hE : getK (.inr "end") ks vs = none ∨ ∃ x y : Int, getK (.inr "end") ks vs = some (.int x) ∧ getK (.inr "day") ks vs = some (.int y) ∧ y < x) (μ : M) : callD .frz e_go_together.F [.dF ks vs] μ = .ok (.bl true) μ := by
  refine frz_same (F := f_go_together) ?_ frz_bl
  have c1 : (ev G_go_together (.and_ (.cmp .In (.cst (.str "other")) (.var 0)) (.cmp .Eq (.ix (.var 0) (.cst (.str "other"))) (.ix (.var 0) (.cst (.str "purse")))))).t [some (.dF ks vs)] μ = .ok false μ := by
    walk_at "ev"
    rw [in_dF]
    walk_at "ev"
    rcases hO with h | ⟨x, y, h1, h2, h3⟩
    · rw [h]
      rfl
    · rw [h1, ix_dF h1]
      walk_at "ev"
      rw [ix_dF h2]
      walk_at "ev"
      simp only [Option.isSome_some, if_true, decide_eq_false h3]
  have c2 : (ev G_go_together (.and_ (.cmp .In (.cst (.str "of")) (.var 0)) (.cmp .Eq (.ix (.var 0) (.cst (.str "of"))) (.ix (.var 0) (.cst (.str "ref")))))).t [some (.dF ks vs)] μ = .ok false μ := by
    walk_at "ev"
    rw [in_dF]
    walk_at "ev"
    rcases hF with h | ⟨x, y, h1, h2, h3⟩
    · rw [h]
      rfl
    · rw [h1, ix_dF h1]
      walk_at "ev"
      rw [ix_dF h2]
      walk_at "ev"
      simp only [Option.isSome_some, if_true, decide_eq_false h3]
  have c3 : (ev G_go_together (.or_ (.cmp .NotIn (.cst (.str "end")) (.var 0)) (.cmp .Gt (.ix (.var 0) (.cst (.str "end"))) (.ix (.var 0) (.cst (.str "day")))))).v [some (.dF ks vs)] μ = .ok (.bl true) μ := by
    walk_at "ev"
    rw [notIn_dF]
    walk_at "ev"
    rcases hE with h | ⟨x, y, h1, h2, h3⟩
    · rw [h]
      rfl
    · rw [h1, ix_dF h1]
      walk_at "ev"
      rw [ix_dF h2]
      walk_at "ev"
      simp only [Option.isSome_some, Bool.not_true, if_true, decide_eq_true h3]
  unfold f_go_together b_go_together
  rw [fnOf_eq, if_pos (show [D.dF ks vs].length = 1 from rfl)]
  show finF (runs G_go_together _ [some (.dF ks vs)] μ) = _
  rw [runs_cons, run_ite, c1, bind_mk, if_neg Bool.false_ne_true, runs_nil, seqF_nx, runs_cons, run_ite, c2, bind_mk, if_neg Bool.false_ne_true, runs_nil, seqF_nx, runs_cons, run_ret, c3]
  rfl
theorem checked_of {w : Str} {qs : List Str} {vs : List D} (h : lookD w partsT = some (.tup (qs.map D.str))) (h0 : 0 < qs.length) (hl : qs.length ≤ 100) (hn : qs.Nodup) (hv : vs.length = qs.length) (hf : ∀ g, frzGs g vs = some vs) (μ : M)
    (ha : ∀ p ∈ qs.zip vs, callD .frz e_is_value_of.F [.str p.1, p.2] μ = .ok (.bl true) μ)
    (hO : getK (.inr "other") (qs.map Sum.inr) vs = none ∨ ∃ x y : Str, getK (.inr "other") (qs.map Sum.inr) vs = some (.str x) ∧ getK (.inr "purse") (qs.map Sum.inr) vs = some (.str y) ∧ x ≠ y)
    (hF : getK (.inr "of") (qs.map Sum.inr) vs = none ∨ ∃ x y : Str, getK (.inr "of") (qs.map Sum.inr) vs = some (.str x) ∧ getK (.inr "ref") (qs.map Sum.inr) vs = some (.str y) ∧ x ≠ y)
    (hE : getK (.inr "end") (qs.map Sum.inr) vs = none ∨ ∃ x y : Int, getK (.inr "end") (qs.map Sum.inr) vs = some (.int x) ∧ getK (.inr "day") (qs.map Sum.inr) vs = some (.int y) ∧ y < x) : callD .frz e_checked_deed.F [.tup (.str w :: vs)] μ = .ok (.bl true) μ := by
  refine frz_same (F := f_checked_deed) ?_ frz_bl
  unfold f_checked_deed b_checked_deed
  walk_at "ev"
  rw [has_parts h h0 hl hv μ ha]
  walk_at "ev"
  rw [named_eq h hl hn hv hf]
  walk_at "ev"
  rw [go_true hO hF hE]
  walk_at "ev"
theorem zip_all {P : Str × D → Prop} {qs : List Str} {vs : List D} (h : Paired (fun q v => P (q, v)) qs vs) : ∀ p ∈ qs.zip vs, P p := by
  induction h with
  | nil => intro p hp; cases hp
  | cons h t ih =>
    intro p hp
    rw [List.zip_cons_cons] at hp
    rcases List.mem_cons.mp hp with e | e
    · rw [e]; exact h
    · exact ih p e
theorem checked_true (x : Deed) (h : x.Ok) (μ : M) : callD .frz e_checked_deed.F [x.dat] μ = .ok (.bl true) μ := by
  have fr : ∀ {w : Str} {vs : List D}, x.dat = .tup (.str w :: vs) → ∀ g, frzGs g vs = some vs := fun {w vs} e g => by
    have := frz_deed (h := g) x
    rw [e] at this
    unfold frzG at this
    obtain ⟨es, h1, h2⟩ := opt_map this
    unfold frzGs at h1
    split at h1
    · rename_i a b ha hb
      cases h1
      cases h2
      exact hb
    · cases h1
  cases x with
  | buy r d p ls =>
    obtain ⟨h1, h2, h3, h4⟩ := h
    exact checked_of (qs := ["ref", "day", "purse", "lines"]) rfl (by decide) (by decide) (by decide +kernel) rfl (fr rfl) μ (zip_all (.cons (val_ref h1 μ) (.cons (val_day h2 μ) (.cons (val_purse h3 μ) (.cons (val_lines h4 μ) .nil))))) (.inl rfl) (.inl rfl) (.inl rfl)
  | spend r d p n fs =>
    obtain ⟨h1, h2, h3, h4, h5, h6, h7⟩ := h
    exact checked_of (qs := ["ref", "day", "purse", "points", "first"]) rfl (by decide) (by decide) (by decide +kernel) rfl (fr rfl) μ (zip_all (.cons (val_ref h1 μ) (.cons (val_day h2 μ) (.cons (val_purse h3 μ) (.cons (val_points h4 μ) (.cons (val_first h5 h6 h7 μ) .nil)))))) (.inl rfl) (.inl rfl) (.inl rfl)
  | two w r d p o n =>
    obtain ⟨h0, h1, h2, h3, h4, h5, h6⟩ := h
    have hl : lookD w partsT = some (.tup ([Str.ofString "ref", Str.ofString "day", Str.ofString "purse", Str.ofString "other", Str.ofString "points"].map D.str)) := by
      rcases h0 with rfl | rfl <;> rfl
    exact checked_of hl (by decide) (by decide) (by decide +kernel) rfl (fr rfl) μ (zip_all (.cons (val_ref h1 μ) (.cons (val_day h2 μ) (.cons (val_purse h3 μ) (.cons (val_other h4 μ) (.cons (val_points h5 μ) .nil)))))) (.inr ⟨o, p, rfl, rfl, h6⟩) (.inl rfl) (.inl rfl)
  | lend r d p o n e =>
    obtain ⟨h1, h2, h3, h4, h5, h6, h7, h8⟩ := h
    exact checked_of (qs := ["ref", "day", "purse", "other", "points", "end"]) rfl (by decide) (by decide) (by decide +kernel) rfl (fr rfl) μ (zip_all (.cons (val_ref h1 μ) (.cons (val_day h2 μ) (.cons (val_purse h3 μ) (.cons (val_other h4 μ) (.cons (val_points h5 μ) (.cons (val_end h6 μ) .nil))))))) (.inr ⟨o, p, rfl, rfl, h7⟩) (.inl rfl) (.inr ⟨e, d, rfl, rfl, h8⟩)
  | back r d f =>
    obtain ⟨h1, h2, h3, h4⟩ := h
    exact checked_of (qs := ["ref", "day", "of"]) rfl (by decide) (by decide) (by decide +kernel) rfl (fr rfl) μ (zip_all (.cons (val_ref h1 μ) (.cons (val_day h2 μ) (.cons (val_of h3 μ) .nil)))) (.inl rfl) (.inr ⟨f, r, rfl, rfl, h4⟩) (.inl rfl)
  | fix r f ls =>
    obtain ⟨h1, h2, h3, h4⟩ := h
    exact checked_of (qs := ["ref", "of", "lines"]) rfl (by decide) (by decide) (by decide +kernel) rfl (fr rfl) μ (zip_all (.cons (val_ref h1 μ) (.cons (val_of h2 μ) (.cons (val_lines h3 μ) .nil)))) (.inl rfl) (.inr ⟨f, r, rfl, rfl, h4⟩) (.inl rfl)
set_option Elab.async false
set_option linter.all false
set_option maxRecDepth 100000
inductive PV where
  | nm (z : Str) | num (n : Int) | lns (ls : List Ln) | fst (fs : List Str)
noncomputable def PV.dat : PV → D
  | .nm z => .str z
  | .num n => .int n
  | .lns ls => lnsD ls
  | .fst fs => .tup (fs.map D.str)
noncomputable def lnP (p : Ln) : Str × Str := (p.1, nTx p.2)
noncomputable def PV.ws : PV → List Str
  | .nm z => [z]
  | .num n => [nTx n]
  | .lns ls => flat2 (ls.map lnP)
  | .fst fs => fs
noncomputable def PV.one : PV → Bool
  | .nm _ => true
  | .num _ => true
  | _ => false
noncomputable def PV.Ok : PV → Prop
  | .nm z => Nm z
  | .num n => Num 0 n
  | .lns ls => LnsOk ls
  | .fst fs => fs.length ≤ 8 ∧ ∀ z ∈ fs, Nm z
noncomputable def Fits (q : Str) : PV → Prop
  | .nm _ => q = "ref" ∨ q = "purse" ∨ q = "other" ∨ q = "of"
  | .num _ => q = "day" ∨ q = "points" ∨ q = "end"
  | .lns _ => q = "lines"
  | .fst _ => q = "first"
inductive Sh : List Str → List PV → Prop
  | nil : Sh [] []
  | one {q : Str} {v : PV} {qs : List Str} {vs : List PV} : Fits q v → v.Ok → v.one = true → Sh qs vs → Sh (q :: qs) (v :: vs)
  | last {q : Str} {v : PV} : Fits q v → v.Ok → v.one = false → Sh [q] [v]
noncomputable def Deed.w : Deed → Str
  | .buy .. => "buy"
  | .spend .. => "spend"
  | .two w .. => w
  | .lend .. => "lend"
  | .back .. => "back"
  | .fix .. => "fix"
noncomputable def Deed.qs : Deed → List Str
  | .buy .. => ["ref", "day", "purse", "lines"]
  | .spend .. => ["ref", "day", "purse", "points", "first"]
  | .two .. => ["ref", "day", "purse", "other", "points"]
  | .lend .. => ["ref", "day", "purse", "other", "points", "end"]
  | .back .. => ["ref", "day", "of"]
  | .fix .. => ["ref", "of", "lines"]
noncomputable def Deed.pv : Deed → List PV
  | .buy r d p ls => [.nm r, .num d, .nm p, .lns ls]
  | .spend r d p n fs => [.nm r, .num d, .nm p, .num n, .fst fs]
  | .two w r d p o n => [.nm r, .num d, .nm p, .nm o, .num n]
  | .lend r d p o n e => [.nm r, .num d, .nm p, .nm o, .num n, .num e]
  | .back r d f => [.nm r, .num d, .nm f]
  | .fix r f ls => [.nm r, .nm f, .lns ls]
noncomputable def Deed.words (x : Deed) : List Str := (PV.nm x.w :: x.pv).flatMap PV.ws
theorem dat_eq (x : Deed) : x.dat = .tup ((PV.nm x.w :: x.pv).map PV.dat) := by cases x <;> rfl
theorem look_eq (x : Deed) (h : x.Ok) : lookD x.w partsT = some (.tup (x.qs.map D.str)) := by
  cases x with
  | two w r d p o n =>
    obtain ⟨h0, _⟩ := h
    rcases h0 with rfl | rfl <;> rfl
  | _ => rfl
theorem num_up {n : Int} (h : Num 1 n) : Num 0 n := ⟨by have := h.1; omega, h.2⟩
theorem sh_eq (x : Deed) (h : x.Ok) : Sh x.qs x.pv := by
  cases x with
  | buy r d p ls =>
    obtain ⟨h1, h2, h3, h4⟩ := h
    exact .one (.inl rfl) h1 rfl (.one (.inl rfl) h2 rfl (.one (.inr (.inl rfl)) h3 rfl (.last rfl h4 rfl)))
  | spend r d p n fs =>
    obtain ⟨h1, h2, h3, h4, h5, h6, h7⟩ := h
    exact .one (.inl rfl) h1 rfl (.one (.inl rfl) h2 rfl (.one (.inr (.inl rfl)) h3 rfl (.one (.inr (.inl rfl)) (num_up h4) rfl (.last rfl ⟨h5, h7⟩ rfl))))
  | two w r d p o n =>
    obtain ⟨h0, h1, h2, h3, h4, h5, h6⟩ := h
    exact .one (.inl rfl) h1 rfl (.one (.inl rfl) h2 rfl (.one (.inr (.inl rfl)) h3 rfl (.one (.inr (.inr (.inl rfl))) h4 rfl (.one (.inr (.inl rfl)) (num_up h5) rfl .nil))))
  | lend r d p o n e =>
    obtain ⟨h1, h2, h3, h4, h5, h6, h7, h8⟩ := h
    exact .one (.inl rfl) h1 rfl (.one (.inl rfl) h2 rfl (.one (.inr (.inl rfl)) h3 rfl (.one (.inr (.inr (.inl rfl))) h4 rfl (.one (.inr (.inl rfl)) (num_up h5) rfl (.one (.inr (.inr rfl)) h6 rfl .nil)))))
  | back r d f =>
    obtain ⟨h1, h2, h3, h4⟩ := h
    exact .one (.inl rfl) h1 rfl (.one (.inl rfl) h2 rfl (.one (.inr (.inr (.inr rfl))) h3 rfl .nil))
  | fix r f ls =>
    obtain ⟨h1, h2, h3, h4⟩ := h
    exact .one (.inl rfl) h1 rfl (.one (.inr (.inr (.inr rfl))) h2 rfl (.last rfl h3 rfl))
theorem flat2_mem {α : Type} {x : α} : ∀ {ls : List (α × α)}, x ∈ flat2 ls → ∃ p ∈ ls, x = p.1 ∨ x = p.2
  | [], h => by cases h
  | p :: ls, h => by
    have h' : x ∈ p.1 :: p.2 :: flat2 ls := h
    rcases List.mem_cons.mp h' with e | h'
    · exact ⟨p, by simp, .inl e⟩
    · rcases List.mem_cons.mp h' with e | h'
      · exact ⟨p, by simp, .inr e⟩
      · obtain ⟨q, hq, e⟩ := flat2_mem h'
        exact ⟨q, by simp [hq], e⟩
theorem pv_words {v : PV} (h : v.Ok) : (∀ z ∈ v.ws, Wd1 z) ∧ v.ws.length ≤ 16 := by
  cases v with
  | nm z => exact ⟨fun y hy => by rw [List.mem_singleton.mp hy]; exact name_word h, by show 1 ≤ 16; decide⟩
  | num n => exact ⟨fun y hy => by rw [List.mem_singleton.mp hy]; exact num_word h.1 h.2, by show 1 ≤ 16; decide⟩
  | lns ls =>
    obtain ⟨_, h2, h3⟩ := h
    refine ⟨fun y hy => ?_, ?_⟩
    · obtain ⟨p, hp, e⟩ := flat2_mem hy
      obtain ⟨l, hl, rfl⟩ := List.mem_map.mp hp
      have := h3 l hl
      rcases e with rfl | rfl
      · exact name_word this.1
      · exact num_word this.2.1 this.2.2
    · show (flat2 (ls.map lnP)).length ≤ 16
      rw [flat2_len, List.length_map]
      omega
  | fst fs => exact ⟨fun y hy => name_word (h.2 y hy), by show fs.length ≤ 16; have := h.1; omega⟩
theorem sh_words {qs : List Str} {vs : List PV} (h : Sh qs vs) : (∀ z ∈ vs.flatMap PV.ws, Wd1 z) ∧ (vs.flatMap PV.ws).length ≤ vs.length + 16 ∧ qs.length = vs.length := by
  induction h with
  | nil => exact ⟨fun z hz => by simp at hz, by simp, rfl⟩
  | @one q v qs vs f o h1 t ih =>
    obtain ⟨i1, i2, i3⟩ := ih
    obtain ⟨w1, w2⟩ := pv_words o
    rw [List.flatMap_cons]
    refine ⟨fun z hz => ?_, ?_, by rw [List.length_cons, List.length_cons, i3]⟩
    · rcases List.mem_append.mp hz with e | e
      · exact w1 z e
      · exact i1 z e
    · have : v.ws.length = 1 := by cases v <;> first | rfl | cases h1
      rw [List.length_append, this, List.length_cons]
      omega
  | @last q v f o h1 =>
    obtain ⟨w1, w2⟩ := pv_words o
    rw [List.flatMap_cons, List.flatMap_nil, List.append_nil]
    exact ⟨w1, by show _ ≤ 1 + 16; omega, rfl⟩
theorem word_w (x : Deed) (h : x.Ok) : Wd1 x.w := by
  cases x with
  | two w r d p o n =>
    obtain ⟨h0, _⟩ := h
    rcases h0 with rfl | rfl
    · exact name_word (z := "give") (by decide +kernel)
    · exact name_word (z := "change") (by decide +kernel)
  | buy => exact name_word (z := "buy") (by decide +kernel)
  | spend => exact name_word (z := "spend") (by decide +kernel)
  | lend => exact name_word (z := "lend") (by decide +kernel)
  | back => exact name_word (z := "back") (by decide +kernel)
  | fix => exact name_word (z := "fix") (by decide +kernel)
theorem words_eq (x : Deed) : x.words = x.w :: x.pv.flatMap PV.ws := rfl
theorem words_ok (x : Deed) (h : x.Ok) : (∀ z ∈ x.words, Wd1 z) ∧ x.words.length ≤ 30 := by
  obtain ⟨i1, i2, _⟩ := sh_words (sh_eq x h)
  have hl : x.pv.length ≤ 6 := by
    cases x <;> (simp only [Deed.pv, List.length_cons, List.length_nil]; omega)
  rw [words_eq]
  refine ⟨fun z hz => ?_, by rw [List.length_cons]; omega⟩
  rcases List.mem_cons.mp hz with e | e
  · rw [e]; exact word_w x h
  · exact i1 z e
theorem qs_ok (x : Deed) : x.qs.Nodup ∧ x.qs.length ≤ 100 := by cases x <;> (simp only [Deed.qs]; exact ⟨by decide +kernel, by decide⟩)
theorem frz_pv {h : Nat → Option D} (v : PV) : frzG h v.dat = some v.dat := by
  cases v with
  | nm z => exact frz_str
  | num n => exact frz_int
  | lns ls => exact frz_lns ls
  | fst fs => exact frz_tup (frzGs_map (fun _ => frz_str) fs)
theorem frz_cell {ν : M} {n0 k : Nat} {ds : List D} (hk : n0 ≤ k) (h : ν[k]? = some (some (.lst ds))) (hd : ∀ g, frzGs g ds = some ds) : frzD ν n0 (.cel k) = some (.lst ds) := by
  unfold frzD
  unfold frzG
  unfold frzK
  rw [if_neg (by omega), if_neg (by simp)]
  simp only [h, hd]
  rfl
theorem frz_strs (zs : List Str) (g : Nat → Option D) : frzGs g (zs.map D.str) = some (zs.map D.str) := frzGs_map (fun _ => frz_str) zs
theorem add_cel {ν : M} {xs ys : List D} (h : xs.length + ys.length ≤ sizeLine) : binD .Add true (.cel ν.length) (.lst ys) (ν ++ [some (Cl.lst xs)]) = .ok (.cel (ν ++ [some (Cl.lst xs)]).length) (ν ++ [some (Cl.lst xs)] ++ [some (Cl.lst (xs ++ ys))]) := by
  have e : seqL (ν ++ [some (Cl.lst xs)]) (.cel ν.length) = some xs := by simp only [seqL, cell_last]
  show (match seqL (ν ++ [some (Cl.lst xs)]) (.cel ν.length), seqL (ν ++ [some (Cl.lst xs)]) (.lst ys) with
    | some a, some b => @ite _ (a.length + b.length ≤ sizeLine) (Classical.propDecidable _) (mkL true (a ++ b) (ν ++ [some (Cl.lst xs)])) .bad
    | _, _ => .bad) = _
  rw [e]
  show @ite _ (xs.length + ys.length ≤ sizeLine) (Classical.propDecidable _) (mkL true (xs ++ ys) (ν ++ [some (Cl.lst xs)])) .bad = _
  rw [if_pos h, mkL_t]
theorem isT_strT {z : Str} {μ : M} : biD (.isT "tuple") false [.str z] μ = .ok (.bl false) μ := nr rfl
theorem isT_intT {i : Int} {μ : M} : biD (.isT "tuple") false [.int i] μ = .ok (.bl false) μ := nr rfl
theorem isT_ln {p : Ln} {μ : M} : biD (.isT "tuple") false [lnD p] μ = .ok (.bl true) μ := nr rfl
theorem str_str {z : Str} {μ : M} : biD .str false [.str z] μ = .ok (.str z) μ := nr rfl
theorem str_int {n : Int} (h : Num 0 n) {μ : M} : biD .str false [.int n] μ = .ok (.str (nTx n)) μ := if_pos (log_small h.1 h.2)
theorem ln_0 {p : Ln} {μ : M} : ixD (lnD p) (.int 0) μ = .ok (.str p.1) μ := nr rfl
theorem ln_1 {p : Ln} {μ : M} : ixD (lnD p) (.int 1) μ = .ok (.int p.2) μ := nr rfl
theorem lw_lns (d0 d2 : Option D) (μ : M) (ok : M → Bool) (hok : ∀ ν, ok ν = true) : ∀ (ls : List Ln) (κ : M) (ws : List Str) (o3 : Option D), (∀ p ∈ ls, LnOk p) → ws.length + 2 * ls.length ≤ 1000 →
    ∃ κ' : M, forL ok (.nm 3) (runs G_law_words l_law_words_1) [3] (ls.map lnD) [d0, some (.cel (μ ++ κ).length), d2, o3] (μ ++ κ ++ [some (.lst (ws.map D.str))]) = .ok (.nx [d0, some (.cel (μ ++ κ').length), d2, none]) (μ ++ κ' ++ [some (.lst ((ws ++ flat2 (ls.map lnP)).map D.str))])
  | [], κ, ws, o3, _, _ => ⟨κ, by
    rw [List.map_nil, forL_nil (hok _)]
    show _ = Out.ok (Fl.nx _) (μ ++ κ ++ [some (.lst ((ws ++ []).map D.str))])
    rw [List.append_nil]
    rfl⟩
  | p :: ls, κ, ws, o3, h, hl => by
    obtain ⟨_, p1, p2⟩ := h p (by simp)
    simp only [List.length_cons] at hl
    obtain ⟨κ', ih⟩ := lw_lns d0 d2 μ ok hok ls (κ ++ [some (.lst (ws.map D.str))]) (ws ++ [p.1, nTx p.2]) none (fun q hq => h q (by simp [hq])) (by simp; omega)
    refine ⟨κ', ?_⟩
    rw [List.map_cons, forL_cons (ρ1 := [d0, some (.cel (μ ++ κ).length), d2, some (lnD p)]) (ρ2 := [d0, some (.cel (μ ++ κ ++ [some (Cl.lst (ws.map D.str))]).length), d2, some (lnD p)]) (μ2 := μ ++ κ ++ [some (.lst (ws.map D.str))] ++ [some (.lst (ws.map D.str ++ [D.str p.1, D.str (nTx p.2)]))]) (hok _) rfl ?_]
    · have e : forget [3] [d0, some (.cel (μ ++ κ ++ [some (Cl.lst (ws.map D.str))]).length), d2, some (lnD p)] = [d0, some (.cel (μ ++ κ ++ [some (Cl.lst (ws.map D.str))]).length), d2, none] := rfl
      rw [e]
      rw [← List.append_assoc, List.map_append] at ih
      rw [List.map_cons, show flat2 (lnP p :: ls.map lnP) = [p.1, nTx p.2] ++ flat2 (ls.map lnP) from rfl, ← List.append_assoc]
      exact ih
    · unfold l_law_words_1
      walk_at "ev"
      rw [isT_ln]
      walk_at "ev"
      rw [ln_0]
      walk_at "ev"
      rw [ln_1]
      walk_at "ev"
      rw [str_int ⟨p1, p2⟩]
      walk_at "ev"
      rw [add_cel (size_ok (by simp; omega))]
      walk_at "ev"
theorem lw_fst (d0 d2 : Option D) (ν : M) (ok : M → Bool) (hok : ∀ ν, ok ν = true) : ∀ (fs ws : List Str) (o3 : Option D), ws.length + fs.length ≤ 1000 →
    forL ok (.nm 3) (runs G_law_words l_law_words_1) [3] (fs.map D.str) [d0, some (.cel ν.length), d2, o3] (ν ++ [some (.lst (ws.map D.str))]) = .ok (.nx [d0, some (.cel ν.length), d2, none]) (ν ++ [some (.lst ((ws ++ fs).map D.str))])
  | [], ws, o3, _ => by
    rw [List.map_nil, forL_nil (hok _), List.append_nil]
    rfl
  | p :: fs, ws, o3, hl => by
    simp only [List.length_cons] at hl
    have ih := lw_fst d0 d2 ν ok hok fs (ws ++ [p]) none (by simp; omega)
    rw [List.map_cons, forL_cons (ρ1 := [d0, some (.cel ν.length), d2, some (.str p)]) (ρ2 := [d0, some (.cel ν.length), d2, some (.str p)]) (μ2 := ν ++ [some (.lst ((ws ++ [p]).map D.str))]) (hok _) rfl ?_]
    · rw [show ws ++ p :: fs = ws ++ [p] ++ fs from by simp]
      exact ih
    · unfold l_law_words_1
      walk_at "ev"
      rw [isT_strT]
      walk_at "ev"
      rw [app_last (size_ok (by simp; omega))]
      walk_at "ev"
      rw [List.map_append]
      rfl
noncomputable def PV.Lo : PV → Prop
  | .nm _ => True
  | .num n => Num 0 n
  | .lns ls => ls.length ≤ 8 ∧ ∀ p ∈ ls, LnOk p
  | .fst fs => fs.length ≤ 8
theorem lw_out (d0 : Option D) (μ : M) (ok : M → Bool) (hok : ∀ ν, ok ν = true) : ∀ (vs : List PV) (κ : M) (ws : List Str) (o2 o3 : Option D), (∀ v ∈ vs, v.Lo) → ws.length + 16 * vs.length ≤ 1000 →
    ∃ κ' : M, forL ok (.nm 2) (runs G_law_words l_law_words_0) [2, 3] (vs.map PV.dat) [d0, some (.cel (μ ++ κ).length), o2, o3] (μ ++ κ ++ [some (.lst (ws.map D.str))]) = .ok (.nx [d0, some (.cel (μ ++ κ').length), none, none]) (μ ++ κ' ++ [some (.lst ((ws ++ vs.flatMap PV.ws).map D.str))])
  | [], κ, ws, o2, o3, _, _ => ⟨κ, by
    rw [List.map_nil, forL_nil (hok _), List.flatMap_nil, List.append_nil]
    rfl⟩
  | v :: vs, κ, ws, o2, o3, h, hl => by
    simp only [List.length_cons] at hl
    have hv := h v (by simp)
    obtain ⟨κ1, o3', e1, hw⟩ : ∃ (κ1 : M) (o3' : Option D), runs G_law_words l_law_words_0 [d0, some (.cel (μ ++ κ).length), some v.dat, o3] (μ ++ κ ++ [some (.lst (ws.map D.str))]) = .ok (.nx [d0, some (.cel (μ ++ κ1).length), some v.dat, o3']) (μ ++ κ1 ++ [some (.lst ((ws ++ v.ws).map D.str))]) ∧ v.ws.length ≤ 16 := by
      cases v with
      | nm z =>
        refine ⟨κ, o3, ?_, by show 1 ≤ 16; decide⟩
        unfold l_law_words_0 PV.dat
        walk_at "ev"
        rw [isT_strT]
        walk_at "ev"
        rw [str_str]
        walk_at "ev"
        rw [app_last (size_ok (by simp; omega))]
        walk_at "ev"
        rw [List.map_append]
        rfl
      | num n =>
        refine ⟨κ, o3, ?_, by show 1 ≤ 16; decide⟩
        unfold l_law_words_0 PV.dat
        walk_at "ev"
        rw [isT_intT]
        walk_at "ev"
        rw [str_int hv]
        walk_at "ev"
        rw [app_last (size_ok (by simp; omega))]
        walk_at "ev"
        rw [List.map_append]
        rfl
      | lns ls =>
        obtain ⟨h8, hL⟩ := hv
        have hi : ∀ ν : M, itD .seq [PV.dat (.lns ls)] ν = some (ls.map lnD) := fun ν => rfl
        have ht : ∀ ν : M, biD (.isT "tuple") false [PV.dat (.lns ls)] ν = .ok (.bl true) ν := fun ν => isT_tup
        obtain ⟨κ1, e⟩ := lw_lns d0 (some (PV.dat (.lns ls))) μ (stays .seq [PV.dat (.lns ls)] (ls.map lnD)) (fun ν => stays_of (hi ν)) ls κ ws o3 hL (by omega)
        refine ⟨κ1, none, ?_, ?_⟩
        · unfold l_law_words_0
          walk_at "ev"
          rw [ht]
          walk_at "ev"
          rw [forO_of (hi _), e]
          rfl
        · show (flat2 (ls.map lnP)).length ≤ 16
          rw [flat2_len, List.length_map]
          omega
      | fst fs =>
        have hi : ∀ ν : M, itD .seq [PV.dat (.fst fs)] ν = some (fs.map D.str) := fun ν => rfl
        have ht : ∀ ν : M, biD (.isT "tuple") false [PV.dat (.fst fs)] ν = .ok (.bl true) ν := fun ν => isT_tup
        have h8 : fs.length ≤ 8 := hv
        have e := lw_fst d0 (some (PV.dat (.fst fs))) (μ ++ κ) (stays .seq [PV.dat (.fst fs)] (fs.map D.str)) (fun ν => stays_of (hi ν)) fs ws o3 (by omega)
        refine ⟨κ, none, ?_, by show fs.length ≤ 16; omega⟩
        unfold l_law_words_0
        walk_at "ev"
        rw [ht]
        walk_at "ev"
        rw [forO_of (hi _), e]
        rfl
    obtain ⟨κ', ih⟩ := lw_out d0 μ ok hok vs κ1 (ws ++ v.ws) none none (fun u hu => h u (by simp [hu])) (by simp; omega)
    refine ⟨κ', ?_⟩
    rw [List.map_cons, forL_cons (ρ1 := [d0, some (.cel (μ ++ κ).length), some v.dat, o3]) (hok _) rfl e1, List.flatMap_cons, ← List.append_assoc]
    exact ih
theorem lo_of {v : PV} (h : v.Ok) : v.Lo := by
  cases v with
  | nm z => trivial
  | num n => exact h
  | lns ls => exact ⟨h.2.1, h.2.2⟩
  | fst fs => exact h.1
theorem sh_lo {qs : List Str} {vs : List PV} (h : Sh qs vs) : ∀ v ∈ vs, v.Lo := by
  induction h with
  | nil => intro v hv; cases hv
  | one f o h1 t ih =>
    intro v hv
    rcases List.mem_cons.mp hv with e | e
    · rw [e]; exact lo_of o
    · exact ih v e
  | last f o h1 =>
    intro v hv
    rw [List.mem_singleton.mp hv]
    exact lo_of o
theorem words_law (x : Deed) (h : x.Ok) (μ : M) : callD .frz e_law_words.F [x.dat] μ = .ok (strsL x.words) μ := by
  have hl : x.pv.length ≤ 6 := by
    cases x <;> (simp only [Deed.pv, List.length_cons, List.length_nil]; omega)
  have hi : ∀ ν : M, itD .seq [x.dat] ν = some ((PV.nm x.w :: x.pv).map PV.dat) := fun ν => by rw [dat_eq]; rfl
  obtain ⟨κ, e⟩ := lw_out (some x.dat) μ (stays .seq [x.dat] ((PV.nm x.w :: x.pv).map PV.dat)) (fun ν => stays_of (hi ν)) (PV.nm x.w :: x.pv) [] [] none none (fun v hv => by
    rcases List.mem_cons.mp hv with q | q
    · rw [q]; trivial
    · exact sh_lo (sh_eq x h) v q) (by simp; omega)
  rw [List.append_nil, List.map_nil, List.nil_append] at e
  refine frz_call (F := f_law_words) (d := .cel (μ ++ κ).length) (ν := κ ++ [some (.lst (x.words.map D.str))]) ?_ ?_
  · unfold f_law_words b_law_words
    walk_at "ev"
    rw [forO_of (hi _), e]
    walk_at "ev"
    rw [← List.append_assoc]
    rfl
  · rw [← List.append_assoc]
    exact frz_cell (by simp) cell_last (frz_strs _)
set_option Elab.async false
set_option linter.all false
set_option maxRecDepth 100000
theorem fits_one {q : Str} {v : PV} (f : Fits q v) (h : v.one = true) : q ≠ "first" ∧ q ≠ "lines" := by
  cases v with
  | nm z => rcases f with rfl | rfl | rfl | rfl <;> exact ⟨by decide +kernel, by decide +kernel⟩
  | num n => rcases f with rfl | rfl | rfl <;> exact ⟨by decide +kernel, by decide +kernel⟩
  | _ => cases h
theorem wo_loop (q : Option D) (d1 : Option D) (μ : M) (ok : M → Bool) (hok : ∀ ν, ok ν = true) : ∀ (ls : List Ln) (ws : List Str) (o3 o4 : Option D), (∀ p ∈ ls, LnOk p) → ws.length + 2 * ls.length ≤ 1000 →
    forL ok (.tp [3, 4]) (runs G_words_of l_words_of_0) [3, 4] (ls.map lnD) [q, d1, some (.cel μ.length), o3, o4] (μ ++ [some (.lst (ws.map D.str))]) = .ok (.nx [q, d1, some (.cel μ.length), none, none]) (μ ++ [some (.lst ((ws ++ flat2 (ls.map lnP)).map D.str))])
  | [], ws, o3, o4, _, _ => by
    rw [List.map_nil, forL_nil (hok _)]
    show _ = Out.ok (Fl.nx _) (μ ++ [some (.lst ((ws ++ []).map D.str))])
    rw [List.append_nil]
    rfl
  | p :: ls, ws, o3, o4, h, hl => by
    obtain ⟨_, p1, p2⟩ := h p (by simp)
    simp only [List.length_cons] at hl
    have ih := wo_loop q d1 μ ok hok ls (ws ++ [p.1, nTx p.2]) none none (fun q hq => h q (by simp [hq])) (by simp; omega)
    rw [List.map_cons, forL_cons (ρ1 := [q, d1, some (.cel μ.length), some (.str p.1), some (.int p.2)]) (ρ2 := [q, d1, some (.cel μ.length), some (.str p.1), some (.int p.2)]) (μ2 := μ ++ [some (.lst ((ws ++ [p.1, nTx p.2]).map D.str))]) (hok _) rfl ?_]
    · rw [List.map_cons, show flat2 (lnP p :: ls.map lnP) = [p.1, nTx p.2] ++ flat2 (ls.map lnP) from rfl, ← List.append_assoc]
      exact ih
    · unfold l_words_of_0
      walk_at "ev"
      rw [str_int ⟨p1, p2⟩]
      walk_at "ev"
      rw [ext_last (size_ok (by simp; omega))]
      walk_at "ev"
      rw [List.map_append]
      rfl
theorem words_of_eq {q : Str} {v : PV} (f : Fits q v) (h : v.Ok) (μ : M) : callD .frz e_words_of.F [.str q, v.dat] μ = .ok (strsL v.ws) μ := by
  cases v with
  | nm z =>
    obtain ⟨h1, h2⟩ := fits_one f rfl
    refine frz_same (F := f_words_of) ?_ (frz_lst (frz_strs [z] _))
    unfold f_words_of b_words_of PV.dat
    walk_at "ev"
    simp only [decide_eq_false h1, decide_eq_false h2, if_false, Bool.false_eq_true]
    walk_at "ev"
    simp only [decide_eq_false h2, if_false, Bool.false_eq_true]
    walk_at "ev"
    rw [str_str]
    walk_at "ev"
    rfl
  | num n =>
    obtain ⟨h1, h2⟩ := fits_one f rfl
    refine frz_same (F := f_words_of) ?_ (frz_lst (frz_strs [nTx n] _))
    unfold f_words_of b_words_of PV.dat
    walk_at "ev"
    simp only [decide_eq_false h1, decide_eq_false h2, if_false, Bool.false_eq_true]
    walk_at "ev"
    simp only [decide_eq_false h2, if_false, Bool.false_eq_true]
    walk_at "ev"
    rw [str_int h]
    walk_at "ev"
    rfl
  | lns ls =>
    obtain ⟨_, h8, hL⟩ := h
    have f' : q = "lines" := f
    subst f'
    have hi : ∀ ν : M, itD .seq [PV.dat (.lns ls)] ν = some (ls.map lnD) := fun ν => rfl
    have e := wo_loop (some (.str "lines")) (some (PV.dat (.lns ls))) μ (stays .seq [PV.dat (.lns ls)] (ls.map lnD)) (fun ν => stays_of (hi ν)) ls [] none none hL (by simp; omega)
    rw [List.map_nil, List.nil_append] at e
    refine frz_call (F := f_words_of) (d := .cel μ.length) (ν := [some (.lst ((flat2 (ls.map lnP)).map D.str))]) ?_ (frz_cell (Nat.le_refl _) cell_last (frz_strs _))
    unfold f_words_of b_words_of
    walk_at "ev"
    simp only [show ¬ (Str.ofString "lines" = Str.ofString "first") from by decide +kernel, decide_false, decide_true, if_true, if_false, Bool.false_eq_true]
    walk_at "ev"
    simp only [decide_true, if_true]
    walk_at "ev"
    rw [forO_of (hi _), e]
    walk_at "ev"
  | fst fs =>
    have f' : q = "first" := f
    subst f'
    refine frz_same (F := f_words_of) ?_ (frz_lst (frz_strs fs _))
    have hb : biD .list false [PV.dat (.fst fs)] μ = .ok (strsL fs) μ := nr rfl
    unfold f_words_of b_words_of
    walk_at "ev"
    simp only [decide_true, if_true]
    walk_at "ev"
    rw [hb]
    walk_at "ev"
    rfl
theorem itm_eq : ∀ (qs : List Str) (vs : List PV), itmD (qs.map Sum.inr) (vs.map PV.dat) = (qs.zip vs).map fun p => D.tup [.str p.1, p.2.dat]
  | [], vs => by simp [itmD]
  | q :: qs, [] => by simp [itmD]
  | q :: qs, v :: vs => by
    rw [List.map_cons, List.map_cons, List.zip_cons_cons, List.map_cons]
    unfold itmD
    rw [itm_eq qs vs]
    rfl
theorem dt_loop (d0 : Option D) (μ : M) (ok : M → Bool) (hok : ∀ ν, ok ν = true) : ∀ (l : List (Str × PV)) (ws : List Str) (o2 o3 : Option D), (∀ p ∈ l, Fits p.1 p.2 ∧ p.2.Ok) → ws.length + 16 * l.length ≤ 1000 →
    forL ok (.tp [2, 3]) (runs G_deed_text l_deed_text_0) [2, 3] (l.map fun p => D.tup [.str p.1, p.2.dat]) [d0, some (.cel μ.length), o2, o3] (μ ++ [some (.lst (ws.map D.str))]) = .ok (.nx [d0, some (.cel μ.length), none, none]) (μ ++ [some (.lst ((ws ++ l.flatMap fun p => p.2.ws).map D.str))])
  | [], ws, o2, o3, _, _ => by
    rw [List.map_nil, forL_nil (hok _), List.flatMap_nil, List.append_nil]
    rfl
  | p :: l, ws, o2, o3, h, hl => by
    obtain ⟨f, o⟩ := h p (by simp)
    simp only [List.length_cons] at hl
    have hw := (pv_words o).2
    have ih := dt_loop d0 μ ok hok l (ws ++ p.2.ws) none none (fun q hq => h q (by simp [hq])) (by simp; omega)
    rw [List.map_cons, forL_cons (ρ1 := [d0, some (.cel μ.length), some (.str p.1), some p.2.dat]) (ρ2 := [d0, some (.cel μ.length), some (.str p.1), some p.2.dat]) (μ2 := μ ++ [some (.lst ((ws ++ p.2.ws).map D.str))]) (hok _) rfl ?_]
    · rw [List.flatMap_cons, ← List.append_assoc]
      exact ih
    · unfold l_deed_text_0
      walk_at "ev"
      rw [words_of_eq f o]
      walk_at "ev"
      rw [ext_last (size_ok (by simp; omega))]
      walk_at "ev"
      rw [List.map_append]
theorem sh_zip {qs : List Str} {vs : List PV} (h : Sh qs vs) : (∀ p ∈ qs.zip vs, Fits p.1 p.2 ∧ p.2.Ok) ∧ ((qs.zip vs).flatMap fun p => p.2.ws) = vs.flatMap PV.ws := by
  induction h with
  | nil => exact ⟨fun p hp => by simp at hp, rfl⟩
  | one f o h1 t ih =>
    rw [List.zip_cons_cons, List.flatMap_cons, List.flatMap_cons, ih.2]
    refine ⟨fun p hp => ?_, rfl⟩
    rcases List.mem_cons.mp hp with e | e
    · rw [e]; exact ⟨f, o⟩
    · exact ih.1 p e
  | last f o h1 =>
    refine ⟨fun p hp => ?_, rfl⟩
    rw [List.zip_cons_cons, List.zip_nil_left] at hp
    rw [List.mem_singleton.mp hp]
    exact ⟨f, o⟩
theorem sum_le {zs : List Str} (h : ∀ z ∈ zs, Wd1 z) : (zs.map (·.length)).sum ≤ 12 * zs.length := by
  induction zs with
  | nil => simp
  | cons z zs ih =>
    have := (h z (by simp)).2.2
    have := ih fun y hy => h y (by simp [hy])
    rw [List.map_cons, List.sum_cons, List.length_cons]
    omega
noncomputable def Deed.text (x : Deed) : Str := Txt.join " " x.words
theorem one_len : (Str.ofString " ").length = 1 := by decide +kernel
theorem join_bd (x : Deed) (h : x.Ok) : (x.words.map (·.length)).sum + x.words.length * (Str.ofString " ").length ≤ 16777216 := by
  obtain ⟨h1, h2⟩ := words_ok x h
  have := sum_le h1
  rw [one_len]
  omega
theorem pv_len (x : Deed) : x.pv.length ≤ 6 := by
  cases x <;> (simp only [Deed.pv, List.length_cons, List.length_nil]; omega)
theorem text_eq (x : Deed) (h : x.Ok) (μ : M) : callD .frz e_deed_text.F [x.dat] μ = .ok (.str x.text) μ := by
  have hs := sh_eq x h
  obtain ⟨z1, z2⟩ := sh_zip hs
  have hle := pv_len x
  have hn : callD .frz e_named_parts.F [x.dat] (μ ++ [some (.lst [D.str x.w])]) = .ok (.dF (x.qs.map Sum.inr) (x.pv.map PV.dat)) (μ ++ [some (.lst [D.str x.w])]) := by
    rw [dat_eq]
    exact named_eq (look_eq x h) (qs_ok x).2 (qs_ok x).1 (by rw [List.length_map]; exact (sh_words hs).2.2.symm) (fun g => frzGs_map (fun v => frz_pv v) _) _
  have hi : ∀ ν : M, itD .items [.dF (x.qs.map Sum.inr) (x.pv.map PV.dat)] ν = some ((x.qs.zip x.pv).map fun p => D.tup [.str p.1, p.2.dat]) := fun ν => by
    show some (itmD _ _) = _
    rw [itm_eq]
  have e := dt_loop (some x.dat) μ (stays .items [.dF (x.qs.map Sum.inr) (x.pv.map PV.dat)] ((x.qs.zip x.pv).map fun p => D.tup [.str p.1, p.2.dat])) (fun ν => stays_of (hi ν)) (x.qs.zip x.pv) [x.w] none none z1 (by
    rw [List.length_zip]
    simp only [List.length_singleton]
    omega)
  rw [z2, List.map_singleton] at e
  have h0 : ixD x.dat (.int 0) μ = .ok (.str x.w) μ := by
    rw [dat_eq]
    exact ix_zero μ
  have hj : mtD .join (.str " ") [.cel μ.length] (μ ++ [some (.lst (x.words.map D.str))]) = .ok (.str x.text) (μ ++ [some (.lst (x.words.map D.str))]) := by
    simp only [mtD, joinD, seqL, cell_last, strsD_map, if_pos (join_bd x h)]
    rfl
  refine frz_call (F := f_deed_text) (d := .str x.text) (ν := [some (.lst (x.words.map D.str))]) ?_ frz_str
  unfold f_deed_text b_deed_text
  walk_at "ev"
  rw [checked_true x h]
  walk_at "ev"
  rw [h0]
  walk_at "ev"
  rw [hn]
  walk_at "ev"
  rw [forO_of (hi _), e]
  walk_at "ev"
  rw [show (D.str x.w :: List.map D.str (x.pv.flatMap PV.ws)) = x.words.map D.str from rfl, hj]
  walk_at "ev"
set_option Elab.async false
set_option linter.all false
set_option maxRecDepth 100000
theorem words_in_eq (T : Str) (hT : T.length ≤ 10000) (μ : M) : callD .frz e_words_in.F [.str T] μ = .ok (strsL ((wc [] T.cps.toList).map sTx)) μ := by
  refine frz_same (F := f_words_in) ?_ (frz_lst (frz_strs _ _))
  have hs : mtD .split (.str T) [.str " "] μ = .ok (.lst ((Txt.split T " ").map D.str)) μ := if_pos ⟨by decide +kernel, by omega⟩
  have hle : (Txt.split T (Str.ofString " ")).length ≤ sizeLine := Nat.le_trans (split_le T _) (size_ok (by omega))
  have hq : (ev G_words_in q_words_in_0).v [some (.str T)] μ = .ok (.lst (((wc [] T.cps.toList).map sTx).map D.str)) μ := by
    unfold q_words_in_0
    rw [comp_map (ds := [.lst ((Txt.split T " ").map D.str)]) (xs := Txt.split T " ") (e := D.str) (fun z => !decide (z = Str.ofString "")) D.str (by
      walk_at "ev"
      rw [hs]
      walk_at "ev") rfl hle fun z hz => ⟨_, rfl, by walk_at "ev", fun _ => by walk_at "ev"⟩]
    rw [split_words]
    rfl
  unfold f_words_in b_words_in
  walk_at "ev"
  rw [hq]
  walk_at "ev"
theorem dsign_ok (c : Nat) : (!decide ([c] < (Str.ofString "0").cps.toList)) = decide (48 ≤ c) ∧ (!decide ((Str.ofString "9").cps.toList < [c])) = decide (c ≤ 57) := by
  have ea : (Str.ofString "0").cps.toList = [48] := by decide +kernel
  have ez : (Str.ofString "9").cps.toList = [57] := by decide +kernel
  rw [ea, ez]
  have e1 : ([c] < [48]) ↔ c < 48 := by simp [List.cons_lt_cons_iff]
  have e2 : ([57] < [c]) ↔ 57 < c := by simp [List.cons_lt_cons_iff]
  constructor
  · rw [Bool.eq_iff_iff]
    simp [e1]
  · rw [Bool.eq_iff_iff]
    simp [e2]
theorem written_true {n : Int} (h : Num 0 n) (μ : M) : callD .frz e_is_written_number.F [.str (nTx n)] μ = .ok (.bl true) μ := by
  obtain ⟨c, r, e, hd, hl, hz⟩ := num_codes h.1 h.2
  have h1 : 1 ≤ (nTx n).length := by rw [str_len, e]; simp
  generalize hg : nTx n = z at *
  refine frz_same (F := f_is_written_number) ?_ frz_bl
  have hq : (ev G_is_written_number q_is_written_number_0).v [some (.str z)] μ = .ok (.lst ((z.cps.toList.map fun _ => true).map D.bl)) μ := by
    unfold q_is_written_number_0
    rw [comp_map (ds := [.str z]) (xs := z.cps.toList) (e := fun c => D.str ⟨#[c]⟩) (fun _ => true) (fun c => D.bl true) (by walk_at "ev") rfl (by
      rw [← str_len]
      exact size_small (by omega)) fun c' hc => ⟨_, rfl, by walk_at "ev", fun _ => by
      rw [e] at hc
      have hb := hd c' hc
      walk_at "ev"
      rw [le_str]
      walk_at "ev"
      rw [(dsign_ok c').1]
      simp only [decide_eq_true hb.1, if_true]
      rw [le_str, (dsign_ok c').2, decide_eq_true hb.2]⟩]
    rw [List.filter_eq_self.mpr fun _ _ => rfl, List.map_map]
    rfl
  have h0 : ixD (.str z) (.int 0) μ = .ok (.str (sTx [c])) μ := by
    have hat : atI z.cps.toList ((0 : Nat) : Int) = some c := atI_nat (by rw [e]; rfl)
    unfold ixD
    simp only [if_pos (show z.length ≤ sizeLine from size_small (by omega))]
    rw [show ((0 : Int)) = ((0 : Nat) : Int) from rfl, hat]
    rfl
  unfold f_is_written_number b_is_written_number
  walk_at "ev"
  rw [len_str (size_small (by omega)), d_MOST_FIGURES]
  walk_at "ev"
  simp only [show ((1 : Int) ≤ (z.length : Int)) from by omega, show ((z.length : Int) ≤ 12) from by omega, decide_true, if_true]
  walk_at "ev"
  try simp only [show ((1 : Int) ≤ (z.length : Int)) from by omega, show ((z.length : Int) ≤ 12) from by omega, decide_true, if_true]
  walk_at "ev"
  rw [hq]
  walk_at "ev"
  rw [all_bls]
  walk_at "ev"
  have hT : (z.cps.toList.map fun _ => true).all id = true := by simp
  simp only [hT, Bool.not_true, if_false, Bool.false_eq_true]
  walk_at "ev"
  by_cases hzz : z = Str.ofString "0"
  · simp only [decide_eq_true hzz, if_false, Bool.true_eq_false]
    walk_at "ev"
  · rw [h0]
    walk_at "ev"
    have : ¬ (sTx [c] = Str.ofString "0") := fun q => hzz (by
      have hc : c = 48 := by
        have h48 : Str.ofString "0" = sTx [48] := by decide +kernel
        rw [h48] at q
        simpa using sTx_inj q
      rw [← sTx_of z, e, hz hc]
      exact q)
    simp only [decide_eq_false hzz, decide_eq_false this, if_true, Bool.not_false]
    walk_at "ev"
theorem read_number_eq {n : Int} (h : Num 0 n) (μ : M) : callD .frz e_read_number.F [.str (nTx n)] μ = .ok (.int n) μ := by
  obtain ⟨c, r, e, hd, hl, hz⟩ := num_codes h.1 h.2
  have hi : biD .int false [.str (nTx n)] μ = .ok (.int n) μ := by
    simp only [biD, toIntD, num_int h.1 h.2]
    rw [if_pos (by omega)]
  refine frz_same (F := f_read_number) ?_ frz_int
  unfold f_read_number b_read_number
  walk_at "ev"
  rw [written_true h]
  walk_at "ev"
  rw [hi]
  walk_at "ev"
theorem zipD_lns (ls : List Ln) : zipD ((ls.map lnP).map (·.1) |>.map D.str) ((ls.map lnP).map (·.2) |>.map D.str) = ls.map fun p => D.tup [.str p.1, .str (nTx p.2)] := by
  induction ls with
  | nil => rfl
  | cons p ls ih =>
    simp only [List.map_cons]
    unfold zipD
    rw [ih]
    rfl
theorem stp_strs (zs : List (Str × Str)) (μ : M) : stpD false (strsL (flat2 zs)) (some 0) (some 2) μ = .ok (strsL (zs.map (·.1))) μ ∧ stpD false (strsL (flat2 zs)) (some 1) (some 2) μ = .ok (strsL (zs.map (·.2))) μ := by
  have hf : (flat2 zs).map D.str = flat2 (zs.map fun p => (D.str p.1, D.str p.2)) := by
    induction zs with
    | nil => rfl
    | cons p zs ih =>
      show D.str p.1 :: D.str p.2 :: (flat2 zs).map D.str = D.str p.1 :: D.str p.2 :: flat2 (zs.map fun p => (D.str p.1, D.str p.2))
      rw [ih]
  constructor
  · show Out.ok (D.lst ((pickI ((flat2 zs).map D.str).length 0 2).filterMap (((flat2 zs).map D.str)[·]?))) μ = _
    rw [hf, pick_0, List.map_map]
    show _ = Out.ok (D.lst ((zs.map (·.1)).map D.str)) μ
    rw [List.map_map]
    rfl
  · show Out.ok (D.lst ((pickI ((flat2 zs).map D.str).length 1 2).filterMap (((flat2 zs).map D.str)[·]?))) μ = _
    rw [hf, pick_1, List.map_map]
    show _ = Out.ok (D.lst ((zs.map (·.2)).map D.str)) μ
    rw [List.map_map]
    rfl
theorem read_lines_eq {ls : List Ln} (h : LnsOk ls) (μ : M) : callD .frz e_read_lines.F [strsL (flat2 (ls.map lnP))] μ = .ok (lnsD ls) μ := by
  obtain ⟨_, h8, hL⟩ := h
  refine frz_same (F := f_read_lines) ?_ (frz_lns ls)
  obtain ⟨s0, s1⟩ := stp_strs (ls.map lnP) μ
  generalize strsL (flat2 (ls.map lnP)) = d0 at *
  have hq : (ev G_read_lines q_read_lines_0).v [some d0, some (strsL ((ls.map lnP).map (·.1))), some (strsL ((ls.map lnP).map (·.2)))] μ = .ok (.lst (ls.map lnD)) μ := by
    unfold q_read_lines_0
    rw [comp_map (ds := [strsL ((ls.map lnP).map (·.1)), strsL ((ls.map lnP).map (·.2))]) (xs := ls) (e := fun p => D.tup [.str p.1, .str (nTx p.2)]) (fun _ => true) lnD (by walk_at "ev") (by
      show some (zipD _ _) = _
      rw [zipD_lns]) (size_small (by omega)) fun p hp => ⟨_, rfl, by walk_at "ev", fun _ => by
      have := hL p hp
      walk_at "ev"
      rw [read_number_eq ⟨this.2.1, this.2.2⟩]
      walk_at "ev"
      rfl⟩]
    rw [List.filter_eq_self.mpr fun _ _ => rfl]
    rfl
  have ht : biD .tuple false [.lst (ls.map lnD)] μ = .ok (lnsD ls) μ := nr rfl
  unfold f_read_lines b_read_lines
  walk_at "ev"
  rw [s0]
  walk_at "ev"
  rw [s1]
  walk_at "ev"
  rw [len_strs]
  walk_at "ev"
  rw [len_strs]
  walk_at "ev"
  simp only [List.length_map, decide_true, Bool.not_true, if_false, Bool.false_eq_true]
  walk_at "ev"
  rw [hq]
  walk_at "ev"
  rw [ht]
  walk_at "ev"
theorem numpart_eq (q : Str) (μ : M) : callD .frz e_is_number_part.F [.str q] μ = .ok (.bl (lookD q [("day", (.int 0)), ("points", (.int 1)), ("end", (.int 0))]).isSome) μ := by
  refine frz_same (F := f_is_number_part) ?_ frz_bl
  unfold f_is_number_part b_is_number_part
  walk_at "ev"
  rw [d_LEASTS]
  walk_at "ev"
theorem ix_one {z : Str} (μ : M) : ixD (strsL [z]) (.int 0) μ = .ok (.str z) μ := nr rfl
theorem read_part_eq {q : Str} {v : PV} (f : Fits q v) (h : v.Ok) (μ : M) : callD .frz e_read_part.F [.str q, strsL v.ws] μ = .ok v.dat μ := by
  refine frz_same (F := f_read_part) ?_ (frz_pv v)
  cases v with
  | nm z =>
    obtain ⟨h1, h2⟩ := fits_one f rfl
    have hn : callD .frz e_is_number_part.F [.str q] μ = .ok (.bl false) μ := by
      rw [numpart_eq]
      rcases f with rfl | rfl | rfl | rfl <;> rfl
    unfold f_read_part b_read_part PV.ws
    walk_at "ev"
    simp only [decide_eq_false h1, if_false, Bool.false_eq_true]
    walk_at "ev"
    simp only [decide_eq_false h2, if_false, Bool.false_eq_true]
    walk_at "ev"
    rw [len_strs]
    walk_at "ev"
    simp only [List.length_singleton, show (((1 : Nat) : Int) = 1) from rfl, decide_true, Bool.not_true, if_false, Bool.false_eq_true]
    walk_at "ev"
    rw [hn]
    walk_at "ev"
    rw [ix_one]
    walk_at "ev"
    rfl
  | num n =>
    obtain ⟨h1, h2⟩ := fits_one f rfl
    have hn : callD .frz e_is_number_part.F [.str q] μ = .ok (.bl true) μ := by
      rw [numpart_eq]
      rcases f with rfl | rfl | rfl <;> rfl
    unfold f_read_part b_read_part PV.ws
    walk_at "ev"
    simp only [decide_eq_false h1, if_false, Bool.false_eq_true]
    walk_at "ev"
    simp only [decide_eq_false h2, if_false, Bool.false_eq_true]
    walk_at "ev"
    rw [len_strs]
    walk_at "ev"
    simp only [List.length_singleton, show (((1 : Nat) : Int) = 1) from rfl, decide_true, Bool.not_true, if_false, Bool.false_eq_true]
    walk_at "ev"
    rw [hn]
    walk_at "ev"
    rw [ix_one]
    walk_at "ev"
    rw [read_number_eq h]
    walk_at "ev"
    rfl
  | lns ls =>
    have f' : q = "lines" := f
    subst f'
    unfold f_read_part b_read_part PV.ws
    walk_at "ev"
    simp only [show ¬ (Str.ofString "lines" = Str.ofString "first") from by decide +kernel, decide_false, decide_true, if_true, if_false, Bool.false_eq_true]
    walk_at "ev"
    try simp only [decide_true, if_true]
    walk_at "ev"
    rw [read_lines_eq h]
    walk_at "ev"
    rfl
  | fst fs =>
    have f' : q = "first" := f
    subst f'
    have hb : biD .tuple false [strsL fs] μ = .ok (PV.dat (.fst fs)) μ := nr rfl
    unfold f_read_part b_read_part PV.ws
    walk_at "ev"
    simp only [decide_true, if_true]
    walk_at "ev"
    rw [hb]
    walk_at "ev"
set_option Elab.async false
set_option linter.all false
set_option maxRecDepth 100000
theorem many_one {q : Str} {v : PV} (f : Fits q v) (h : v.one = true) (μ : M) : cmpD .In (.str q) (.tup [.str "lines", .str "first"]) μ = .ok (.bl false) μ := by
  cases v with
  | nm z => rcases f with rfl | rfl | rfl | rfl <;> rfl
  | num n => rcases f with rfl | rfl | rfl <;> rfl
  | _ => cases h
theorem many_all {q : Str} {v : PV} (f : Fits q v) (h : v.one = false) (μ : M) : cmpD .In (.str q) (.tup [.str "lines", .str "first"]) μ = .ok (.bl true) μ := by
  cases v with
  | lns z => cases (show q = "lines" from f); rfl
  | fst n => cases (show q = "first" from f); rfl
  | _ => cases h
theorem one_ws {v : PV} (h : v.one = true) : ∃ z, v.ws = [z] := by
  cases v with
  | nm z => exact ⟨z, rfl⟩
  | num n => exact ⟨_, rfl⟩
  | _ => cases h
theorem sl_to1 {zs : List Str} (μ : M) : slD false (strsL zs) none (some 1) μ = .ok (strsL (zs.take 1)) μ := sl_to 1 μ
theorem sl_from1 {zs : List Str} (μ : M) : slD false (strsL zs) (some 1) none μ = .ok (strsL (zs.drop 1)) μ := sl_from 1 μ
theorem rd_loop (d0 d1 o6 : Option D) (μ : M) (ok : M → Bool) (hok : ∀ ν, ok ν = true) {qs : List Str} {vs : List PV} (h : Sh qs vs) : ∀ (ds : List D) (o4 o5 : Option D), ds.length + vs.length ≤ 100 →
    forL ok (.nm 4) (runs G_read_deed l_read_deed_0) [4, 5] (qs.map D.str) [d0, d1, some (.cel μ.length), some (strsL (vs.flatMap PV.ws)), o4, o5, o6] (μ ++ [some (.lst ds)]) = .ok (.nx [d0, d1, some (.cel μ.length), some (strsL []), none, none, o6]) (μ ++ [some (.lst (ds ++ vs.map PV.dat))]) := by
  induction h with
  | nil =>
    intro ds o4 o5 _
    rw [List.map_nil, forL_nil (hok _), List.map_nil, List.append_nil]
    rfl
  | @one q v qs vs f o h1 t ih =>
    intro ds o4 o5 hl
    simp only [List.length_cons] at hl
    obtain ⟨z, hz⟩ := one_ws h1
    have hr := read_part_eq f o (μ ++ [some (.lst ds)])
    rw [hz] at hr
    rw [List.map_cons, forL_cons (ρ1 := [d0, d1, some (.cel μ.length), some (strsL ((v :: vs).flatMap PV.ws)), some (.str q), o5, o6]) (ρ2 := [d0, d1, some (.cel μ.length), some (strsL (vs.flatMap PV.ws)), some (.str q), some (.int 1), o6]) (μ2 := μ ++ [some (.lst (ds ++ [v.dat]))]) (hok _) rfl ?_]
    · have := ih (ds ++ [v.dat]) none none (by simp; omega)
      rw [List.map_cons, show ds ++ v.dat :: vs.map PV.dat = ds ++ [v.dat] ++ vs.map PV.dat from by simp]
      exact this
    · unfold l_read_deed_0
      walk_at "ev"
      rw [many_one f h1]
      walk_at "ev"
      rw [sl_to1]
      walk_at "ev"
      rw [List.flatMap_cons, hz, show ([z] ++ vs.flatMap PV.ws).take 1 = [z] from rfl, hr]
      walk_at "ev"
      rw [app_last (size_ok (by omega))]
      walk_at "ev"
      rw [show z :: vs.flatMap PV.ws = [z] ++ vs.flatMap PV.ws from rfl, sl_from1]
      walk_at "ev"
      rfl
  | @last q v f o h1 =>
    intro ds o4 o5 hl
    have hr := read_part_eq f o (μ ++ [some (.lst ds)])
    have hw : [v].flatMap PV.ws = v.ws := by simp
    rw [hw]
    rw [List.map_cons, List.map_nil, forL_cons (ρ1 := [d0, d1, some (.cel μ.length), some (strsL v.ws), some (.str q), o5, o6]) (ρ2 := [d0, d1, some (.cel μ.length), some (strsL []), some (.str q), some (.int (v.ws.length : Int)), o6]) (μ2 := μ ++ [some (.lst (ds ++ [v.dat]))]) (hok _) rfl ?_, forL_nil (hok _)]
    · rfl
    · unfold l_read_deed_0
      walk_at "ev"
      rw [many_all f h1]
      walk_at "ev"
      rw [len_strs]
      walk_at "ev"
      rw [sl_to, List.take_length]
      walk_at "ev"
      rw [hr]
      walk_at "ev"
      rw [app_last (size_ok (by omega))]
      walk_at "ev"
      rw [sl_from, List.drop_length]
      walk_at "ev"
theorem ix_w {w : Str} {ws : List Str} (μ : M) : ixD (strsL (w :: ws)) (.int 0) μ = .ok (.str w) μ := by
  have e : atI ((w :: ws).map D.str) ((0 : Nat) : Int) = some (.str w) := atI_nat rfl
  show (match atI ((w :: ws).map D.str) (0 : Int) with | some d => Out.ok d μ | none => .bad) = _
  rw [show ((0 : Int)) = ((0 : Nat) : Int) from rfl, e]
theorem read_deed_eq (x : Deed) (h : x.Ok) (T : Str) (hT : T.length ≤ 10000) (hw : (wc [] T.cps.toList).map sTx = x.words) (μ : M) : callD .frz e_read_deed.F [.str T] μ = .ok x.dat μ := by
  have hs := sh_eq x h
  have hle := pv_len x
  have hi : ∀ ν : M, itD .seq [.tup (x.qs.map D.str)] ν = some (x.qs.map D.str) := fun ν => rfl
  have e := rd_loop (some (.str T)) (some (strsL x.words)) none μ (stays .seq [.tup (x.qs.map D.str)] (x.qs.map D.str)) (fun ν => stays_of (hi ν)) hs [D.str x.w] none none (by simp; omega)
  have hin : callD .frz e_words_in.F [.str T] μ = .ok (strsL x.words) μ := by rw [words_in_eq T hT, hw]
  have ht : biD .tuple false [.cel μ.length] (μ ++ [some (.lst ([D.str x.w] ++ x.pv.map PV.dat))]) = .ok x.dat (μ ++ [some (.lst ([D.str x.w] ++ x.pv.map PV.dat))]) := by
    simp only [biD, _L3.tupleD, seqA, seqL, cell_last]
    rw [dat_eq]
    rfl
  refine frz_call (F := f_read_deed) (d := x.dat) (ν := [some (.lst ([D.str x.w] ++ x.pv.map PV.dat))]) ?_ (frz_deed x)
  unfold f_read_deed b_read_deed
  walk_at "ev"
  rw [hin]
  walk_at "ev"
  rw [len_strs]
  walk_at "ev"
  simp only [show ¬ ((x.words.length : Int) = 0) from by rw [words_eq, List.length_cons]; omega, decide_false, if_false, Bool.false_eq_true]
  walk_at "ev"
  rw [show ixD (strsL x.words) (.int 0) μ = .ok (.str x.w) μ from ix_w μ]
  walk_at "ev"
  rw [sl_from1]
  walk_at "ev"
  rw [show ∀ ν, ixD (strsL x.words) (.int 0) ν = .ok (.str x.w) ν from fun ν => ix_w ν]
  walk_at "ev"
  rw [parts_eq (look_eq x h)]
  walk_at "ev"
  rw [forO_of (hi _), show x.words.drop 1 = x.pv.flatMap PV.ws from rfl, e]
  walk_at "ev"
  rw [len_strs]
  walk_at "ev"
  simp only [show decide ((0 : Int) < ((0 : Nat) : Int)) = false from rfl, if_false, Bool.false_eq_true]
  walk_at "ev"
  try rw [show D.str x.w :: x.pv.map PV.dat = [D.str x.w] ++ x.pv.map PV.dat from rfl]
  rw [ht]
  walk_at "ev"
  rw [checked_true x h]
  walk_at "ev"
set_option Elab.async false
set_option linter.all false
set_option maxRecDepth 100000
theorem al_int (G : List FnE) (n : Int) (μ : M) : fnOf G 2 0 b_law_alike [.int n, .int n] μ = .ok (.bl true) μ := by
  unfold b_law_alike
  walk_at "ev"
  rw [isT_intT]
  walk_at "ev"
  rw [isT_int]
  walk_at "ev"
  rw [isT_int]
  walk_at "ev"
  rw [isT_intb]
  walk_at "ev"
  simp only [decide_true]
theorem isT_strI {z : Str} {μ : M} : biD (.isT "int") false [.str z] μ = .ok (.bl false) μ := nr rfl
theorem al_str (G : List FnE) (n : Str) (μ : M) : fnOf G 2 0 b_law_alike [.str n, .str n] μ = .ok (.bl true) μ := by
  unfold b_law_alike
  walk_at "ev"
  rw [isT_strT]
  walk_at "ev"
  rw [isT_strI]
  walk_at "ev"
  rw [isT_str]
  walk_at "ev"
  simp only [decide_true]
theorem ix_at {ds : List D} {k : Nat} (h : k < ds.length) (μ : M) : ixD (.tup ds) (.int (k : Int)) μ = .ok ds[k] μ := by
  have e : atI ds (k : Int) = some ds[k] := atI_nat (by simp [h])
  show (match atI ds (k : Int) with | some d => Out.ok d μ | none => .bad) = _
  rw [e]
theorem al_tup (e : FnE) (ds : List D) (μ : M) (h : ∀ d ∈ ds, callD .frz e.F [d, d] μ = .ok (.bl true) μ) (hl : ds.length ≤ 100) : fnOf [e] 2 0 b_law_alike [.tup ds, .tup ds] μ = .ok (.bl true) μ := by
  have hq : (ev [e] q_law_alike_0).v [some (.tup ds), some (.tup ds)] μ = .ok (.lst (((List.range ds.length).map fun _ => true).map D.bl)) μ := by
    unfold q_law_alike_0
    rw [comp_map (ds := [.int (ds.length : Int)]) (xs := List.range ds.length) (e := fun (k : Nat) => D.int (k : Int)) (fun _ => true) (fun _ => D.bl true) (by
      walk_at "ev"
      rw [len_tup]
      walk_at "ev") (it_rng1 (by omega)) (size_small (by simp; omega)) fun k hk => ⟨_, rfl, by walk_at "ev", fun _ => by
      have hk' : k < ds.length := by simpa using hk
      walk_at "ev"
      rw [ix_at hk']
      walk_at "ev"
      rw [ix_at hk']
      walk_at "ev"
      rw [h _ (List.getElem_mem hk')]⟩]
    rw [List.filter_eq_self.mpr fun _ _ => rfl, List.map_map]
    rfl
  unfold b_law_alike
  walk_at "ev"
  rw [isT_tup]
  walk_at "ev"
  rw [isT_tup]
  walk_at "ev"
  rw [len_tup]
  walk_at "ev"
  rw [len_tup]
  walk_at "ev"
  simp only [decide_true, Bool.not_true, if_false, Bool.false_eq_true]
  walk_at "ev"
  rw [hq]
  walk_at "ev"
  rw [all_bls]
  walk_at "ev"
  have hT : ((List.range ds.length).map fun _ => true).all id = true := by simp
  rw [hT]
theorem al_pv (v : PV) (h : v.Lo) (μ : M) : callD .frz e_law_alike_3.F [v.dat, v.dat] μ = .ok (.bl true) μ := by
  refine frz_same (F := f_law_alike_3) ?_ frz_bl
  cases v with
  | nm z => exact al_str _ z μ
  | num n => exact al_int _ n μ
  | lns ls =>
    refine al_tup _ _ μ (fun d hd => ?_) (by rw [List.length_map]; have := h.1; omega)
    obtain ⟨p, _, rfl⟩ := List.mem_map.mp hd
    refine frz_same (F := f_law_alike_2) ?_ frz_bl
    refine al_tup _ [.str p.1, .int p.2] μ (fun d hd => ?_) (by show 2 ≤ 100; decide)
    simp only [List.mem_cons, List.not_mem_nil, or_false] at hd
    rcases hd with rfl | rfl
    · exact frz_same (F := f_law_alike_1) (al_str _ _ μ) frz_bl
    · exact frz_same (F := f_law_alike_1) (al_int _ _ μ) frz_bl
  | fst fs =>
    refine al_tup _ _ μ (fun d hd => ?_) (by rw [List.length_map]; have : fs.length ≤ 8 := h; omega)
    obtain ⟨z, _, rfl⟩ := List.mem_map.mp hd
    exact frz_same (F := f_law_alike_2) (al_str _ _ μ) frz_bl
theorem alike_true (x : Deed) (h : x.Ok) (μ : M) : callD .frz e_law_alike.F [x.dat, x.dat] μ = .ok (.bl true) μ := by
  refine frz_same (F := f_law_alike) ?_ frz_bl
  have hle := pv_len x
  rw [dat_eq]
  refine al_tup _ _ μ (fun d hd => ?_) (by simp; omega)
  obtain ⟨v, hv, rfl⟩ := List.mem_map.mp hd
  rcases List.mem_cons.mp hv with e | e
  · rw [e]; exact al_pv (.nm x.w) trivial μ
  · exact al_pv v (sh_lo (sh_eq x h) v e) μ
theorem joinC_len : ∀ ps : List (List Nat), (joinC ps).length ≤ (ps.map (·.length)).sum + ps.length
  | [] => by simp [joinC]
  | [p] => by simp [joinC]
  | p :: q :: r => by
    have := joinC_len (q :: r)
    rw [joinC, List.length_append, List.length_cons, List.map_cons, List.sum_cons, List.length_cons (a := p)]
    omega
theorem text_codes (x : Deed) : x.text.cps.toList = joinC (x.words.map fun z => z.cps.toList) := by
  have e : Txt.join (Str.ofString " ") x.words = Str.join (Str.ofString " ") x.words := by simpa using join_plain_closes (Str.ofString " ") x.words
  unfold Deed.text
  rw [e, join_codes]
theorem text_len (x : Deed) (h : x.Ok) : x.text.length ≤ 10000 := by
  obtain ⟨h1, h2⟩ := words_ok x h
  have h3 := sum_le h1
  have h4 := joinC_len (x.words.map fun z => z.cps.toList)
  rw [List.map_map, List.length_map] at h4
  have e : (List.length ∘ fun z : Str => z.cps.toList) = fun z : Str => z.length := funext fun z => (str_len z).symm
  rw [str_len, text_codes]
  have h5 : ((x.words.map ((fun p => p.length) ∘ fun z : Str => z.cps.toList))).sum ≤ 12 * x.words.length := by
    rw [show ((fun p : List Nat => p.length) ∘ fun z : Str => z.cps.toList) = fun z : Str => z.length from funext fun z => (str_len z).symm]
    exact h3
  omega
theorem text_words (x : Deed) (h : x.Ok) : (wc [] x.text.cps.toList).map sTx = x.words := by
  obtain ⟨h1, _⟩ := words_ok x h
  rw [text_codes, wc_join _ fun p hp => by
    obtain ⟨z, hz, rfl⟩ := List.mem_map.mp hp
    exact (h1 z hz).2.1]
  rw [emit_all]
  exact List.filter_eq_self.mpr fun z hz => by
    have : ¬ (z = Str.ofString "") := fun e => (h1 z hz).1 ((empty_iff z).mp e)
    simp [this]
theorem law_loop (ns : List Int) (ok : M → Bool) (hok : ok [] = true) : ∀ (as : List Nat) (o1 o2 o3 : Option D), (∀ a ∈ as, a ≤ 1000) → forL ok (.nm 1) (runs G_law l_law_0) [1, 2, 3] (as.map fun (a : Nat) => D.int (a : Int)) [some (scrD ns), o1, o2, o3] [] = .ok (.nx [some (scrD ns), none, none, none]) []
  | [], o1, o2, o3, _ => by
    rw [List.map_nil, forL_nil hok]
    rfl
  | a :: as, o1, o2, o3, h => by
    obtain ⟨x, hx, ex⟩ := deed_ex ns a (h a (by simp)) []
    have ew := words_law x hx []
    have er := read_deed_eq x hx x.text (text_len x hx) (text_words x hx) []
    have et := text_eq x hx []
    have ea := alike_true x hx []
    rw [List.map_cons, forL_cons (ρ1 := [some (scrD ns), some (.int (a : Int)), o2, o3]) (ρ2 := [some (scrD ns), some (.int (a : Int)), some x.dat, some (.str x.text)]) (μ2 := []) hok rfl ?_]
    · exact law_loop ns ok hok as none none none fun b hb => h b (by simp [hb])
    · unfold l_law_0
      walk_at "ev"
      rw [ex]
      walk_at "ev"
      rw [et]
      walk_at "ev"
      rw [isT_str]
      walk_at "ev"
      rw [ew]
      walk_at "ev"
      rw [join_strs (join_bd x hx)]
      walk_at "ev"
      simp only [show Txt.join (Str.ofString " ") x.words = x.text from rfl, decide_true, Bool.not_true, if_false, Bool.false_eq_true]
      walk_at "ev"
      rw [er]
      walk_at "ev"
      rw [ea]
      walk_at "ev"
theorem law_true (ns : List Int) (hn : ns.length ≤ 63) : ∃ μ, f_law [.scr (ns.map D.int)] [] = .ok (.bl true) μ := by
  refine ⟨[], ?_⟩
  show f_law [scrD ns] [] = _
  have hi : ∀ μ : M, itD .seq [.tup [.int 0, .int 13, .int 26, .int 39]] μ = some (([0, 13, 26, 39] : List Nat).map fun (a : Nat) => D.int (a : Int)) := fun μ => rfl
  have hl := law_loop ns (stays .seq [.tup [.int 0, .int 13, .int 26, .int 39]] (([0, 13, 26, 39] : List Nat).map fun (a : Nat) => D.int (a : Int))) (stays_of (hi _)) [0, 13, 26, 39] none none none (by decide)
  unfold f_law b_law
  walk_at "ev"
  rw [forO_of (hi _), hl]
  walk_at "ev"
end _K09
set_option Elab.async false
set_option linter.all false
set_option maxRecDepth 100000
namespace _K09
open PySem PySem.Spec PyProof.Rows _L2 _L3
theorem len1 {α : Type} {us : List α} (h : us.length = 1) : ∃ a0, us = [a0] := by
  obtain ⟨a0, us, rfl⟩ := List.exists_cons_of_length_pos (l := us) (by rw [h]; decide)
  replace h : us.length = 0 := Nat.succ.inj h
  cases List.length_eq_zero_iff.mp h
  exact ⟨_, rfl⟩
theorem len2 {α : Type} {us : List α} (h : us.length = 2) : ∃ a0 a1, us = [a0, a1] := by
  obtain ⟨a0, us, rfl⟩ := List.exists_cons_of_length_pos (l := us) (by rw [h]; decide)
  replace h : us.length = 1 := Nat.succ.inj h
  obtain ⟨a1, us, rfl⟩ := List.exists_cons_of_length_pos (l := us) (by rw [h]; decide)
  replace h : us.length = 0 := Nat.succ.inj h
  cases List.length_eq_zero_iff.mp h
  exact ⟨_, _, rfl⟩
theorem len3 {α : Type} {us : List α} (h : us.length = 3) : ∃ a0 a1 a2, us = [a0, a1, a2] := by
  obtain ⟨a0, us, rfl⟩ := List.exists_cons_of_length_pos (l := us) (by rw [h]; decide)
  replace h : us.length = 2 := Nat.succ.inj h
  obtain ⟨a1, us, rfl⟩ := List.exists_cons_of_length_pos (l := us) (by rw [h]; decide)
  replace h : us.length = 1 := Nat.succ.inj h
  obtain ⟨a2, us, rfl⟩ := List.exists_cons_of_length_pos (l := us) (by rw [h]; decide)
  replace h : us.length = 0 := Nat.succ.inj h
  cases List.length_eq_zero_iff.mp h
  exact ⟨_, _, _, rfl⟩
theorem tab_nil {P : Program} {w : World} {K : PySem.W.Frag} {mg : Str → Option Value} {base : Heap} {j : Nat} (hm : ∀ x ∈ biNames, mg x = none) : Tab P w K mg base j [] := ⟨hm, fun i g h => by simp at h, fun i g d h => by simp at h⟩
theorem tab_cons {P : Program} {w : World} {K : PySem.W.Frag} {mg : Str → Option Value} {base : Heap} {j : Nat} {g : FnE} {G : List FnE} (hn : g.dat = none) (c : _L2.Callee P w K mg base g.lv g.name g.ps (spOf K g.ps.length g.F)) (T : Tab P w K mg base j G) : Tab P w K mg base j (g :: G) := ⟨T.hm, fun i g' h hl => by
  cases i with
  | zero =>
    simp at h
    subst h
    exact c
  | succ i => exact T.hf i g' (by simpa using h) hl, fun i g' d h hd => by
  cases i with
  | zero =>
    simp at h
    subst h
    rw [hn] at hd
    cases hd
  | succ i => exact T.hd i g' d (by simpa using h) hd⟩
theorem tab_dat {P : Program} {w : World} {K : PySem.W.Frag} {mg : Str → Option Value} {base : Heap} {j : Nat} {g : FnE} {G : List FnE} {hs : g.dat.isSome = true} (hl : ¬ 1000000 ≤ j) (c : DatOk K w mg g.name (g.dat.get hs)) (T : Tab P w K mg base j G) (h0 : g.lv = 1000000 := by rfl) : Tab P w K mg base j (g :: G) := ⟨T.hm, fun i g' h hlv => by
  cases i with
  | zero =>
    simp at h
    subst h
    exact absurd (h0 ▸ hlv) hl
  | succ i => exact T.hf i g' (by simpa using h) hlv, fun i g' d h hd => by
  cases i with
  | zero =>
    simp at h
    subst h
    have e : g.dat.get hs = d := by simp [hd]
    rw [← e]
    exact c
  | succ i => exact T.hd i g' d (by simpa using h) hd⟩
set_option maxHeartbeats 0 in
theorem all_mk {l : PySem.W.OpenLaw} {w : World} {K : PySem.W.Frag} {h : Heap} {mg : Str → Option Value}
    {fa : Addr}
    {f1 : Addr} {od1 an1 : Option Addr} {sl1 : Array (Option Value)} {oc1 kV1 dc1 pm1 cd1 ct1 : Value}
    {f2 : Addr} {od2 an2 : Option Addr} {sl2 : Array (Option Value)} {oc2 kV2 dc2 pm2 cd2 ct2 : Value}
    {f3 : Addr} {od3 an3 : Option Addr} {sl3 : Array (Option Value)} {oc3 kV3 dc3 pm3 cd3 ct3 : Value}
    {f4 : Addr} {od4 an4 : Option Addr} {sl4 : Array (Option Value)} {oc4 kV4 dc4 pm4 cd4 ct4 : Value}
    {f5 : Addr} {od5 an5 : Option Addr} {sl5 : Array (Option Value)} {oc5 kV5 dc5 pm5 cd5 ct5 : Value}
    {f6 : Addr} {od6 an6 : Option Addr} {sl6 : Array (Option Value)} {oc6 kV6 dc6 pm6 cd6 ct6 : Value}
    {f7 : Addr} {od7 an7 : Option Addr} {sl7 : Array (Option Value)} {oc7 kV7 dc7 pm7 cd7 ct7 : Value}
    {f8 : Addr} {od8 an8 : Option Addr} {sl8 : Array (Option Value)} {oc8 kV8 dc8 pm8 cd8 ct8 : Value}
    {f9 : Addr} {od9 an9 : Option Addr} {sl9 : Array (Option Value)} {oc9 kV9 dc9 pm9 cd9 ct9 : Value}
    {f10 : Addr} {od10 an10 : Option Addr} {sl10 : Array (Option Value)} {oc10 kV10 dc10 pm10 cd10 ct10 : Value}
    {f11 : Addr} {od11 an11 : Option Addr} {sl11 : Array (Option Value)} {oc11 kV11 dc11 pm11 cd11 ct11 : Value}
    {f12 : Addr} {od12 an12 : Option Addr} {sl12 : Array (Option Value)} {oc12 kV12 dc12 pm12 cd12 ct12 : Value}
    {f13 : Addr} {od13 an13 : Option Addr} {sl13 : Array (Option Value)} {oc13 kV13 dc13 pm13 cd13 ct13 : Value}
    {f14 : Addr} {od14 an14 : Option Addr} {sl14 : Array (Option Value)} {oc14 kV14 dc14 pm14 cd14 ct14 : Value}
    {f15 : Addr} {od15 an15 : Option Addr} {sl15 : Array (Option Value)} {oc15 kV15 dc15 pm15 cd15 ct15 : Value}
    {f16 : Addr} {od16 an16 : Option Addr} {sl16 : Array (Option Value)} {oc16 kV16 dc16 pm16 cd16 ct16 : Value}
    {f17 : Addr} {od17 an17 : Option Addr} {sl17 : Array (Option Value)} {oc17 kV17 dc17 pm17 cd17 ct17 : Value}
    {f18 : Addr} {od18 an18 : Option Addr} {sl18 : Array (Option Value)} {oc18 kV18 dc18 pm18 cd18 ct18 : Value}
    {f19 : Addr} {od19 an19 : Option Addr} {sl19 : Array (Option Value)} {oc19 kV19 dc19 pm19 cd19 ct19 : Value}
    {f20 : Addr} {od20 an20 : Option Addr} {sl20 : Array (Option Value)} {oc20 kV20 dc20 pm20 cd20 ct20 : Value}
    {f21 : Addr} {od21 an21 : Option Addr} {sl21 : Array (Option Value)} {oc21 kV21 dc21 pm21 cd21 ct21 : Value}
    {f22 : Addr} {od22 an22 : Option Addr} {sl22 : Array (Option Value)} {oc22 kV22 dc22 pm22 cd22 ct22 : Value}
    {f23 : Addr} {od23 an23 : Option Addr} {sl23 : Array (Option Value)} {oc23 kV23 dc23 pm23 cd23 ct23 : Value}
    {f24 : Addr} {od24 an24 : Option Addr} {sl24 : Array (Option Value)} {oc24 kV24 dc24 pm24 cd24 ct24 : Value}
    {f25 : Addr} {od25 an25 : Option Addr} {sl25 : Array (Option Value)} {oc25 kV25 dc25 pm25 cd25 ct25 : Value}
    {f26 : Addr} {od26 an26 : Option Addr} {sl26 : Array (Option Value)} {oc26 kV26 dc26 pm26 cd26 ct26 : Value}
    {f27 : Addr} {od27 an27 : Option Addr} {sl27 : Array (Option Value)} {oc27 kV27 dc27 pm27 cd27 ct27 : Value}
    {f28 : Addr} {od28 an28 : Option Addr} {sl28 : Array (Option Value)} {oc28 kV28 dc28 pm28 cd28 ct28 : Value}
    {f29 : Addr} {od29 an29 : Option Addr} {sl29 : Array (Option Value)} {oc29 kV29 dc29 pm29 cd29 ct29 : Value}
    {f30 : Addr} {od30 an30 : Option Addr} {sl30 : Array (Option Value)} {oc30 kV30 dc30 pm30 cd30 ct30 : Value}
    {f35 : Addr} {od35 an35 : Option Addr} {sl35 : Array (Option Value)} {oc35 kV35 dc35 pm35 cd35 ct35 : Value}
    {tD1 : Tok}
    {pD2 : Addr} {mD2 : Nat}
    {hD2_0 : Int} {kD2_0 : Tok}
    {pD2_0 : Addr} {ddD2_0 : Option Addr} {nD2_0 : Nat} {slD2_0 : Array (Option Value)}
    {tD2_0_0 : Tok}
    {tD2_0_1 : Tok}
    {tD2_0_2 : Tok}
    {tD2_0_3 : Tok}
    {hD2_1 : Int} {kD2_1 : Tok}
    {pD2_1 : Addr} {ddD2_1 : Option Addr} {nD2_1 : Nat} {slD2_1 : Array (Option Value)}
    {tD2_1_0 : Tok}
    {tD2_1_1 : Tok}
    {tD2_1_2 : Tok}
    {tD2_1_3 : Tok}
    {tD2_1_4 : Tok}
    {hD2_2 : Int} {kD2_2 : Tok}
    {pD2_2 : Addr} {ddD2_2 : Option Addr} {nD2_2 : Nat} {slD2_2 : Array (Option Value)}
    {tD2_2_0 : Tok}
    {tD2_2_1 : Tok}
    {tD2_2_2 : Tok}
    {tD2_2_3 : Tok}
    {tD2_2_4 : Tok}
    {hD2_3 : Int} {kD2_3 : Tok}
    {pD2_3 : Addr} {ddD2_3 : Option Addr} {nD2_3 : Nat} {slD2_3 : Array (Option Value)}
    {tD2_3_0 : Tok}
    {tD2_3_1 : Tok}
    {tD2_3_2 : Tok}
    {tD2_3_3 : Tok}
    {tD2_3_4 : Tok}
    {hD2_4 : Int} {kD2_4 : Tok}
    {pD2_4 : Addr} {ddD2_4 : Option Addr} {nD2_4 : Nat} {slD2_4 : Array (Option Value)}
    {tD2_4_0 : Tok}
    {tD2_4_1 : Tok}
    {tD2_4_2 : Tok}
    {tD2_4_3 : Tok}
    {tD2_4_4 : Tok}
    {tD2_4_5 : Tok}
    {hD2_5 : Int} {kD2_5 : Tok}
    {pD2_5 : Addr} {ddD2_5 : Option Addr} {nD2_5 : Nat} {slD2_5 : Array (Option Value)}
    {tD2_5_0 : Tok}
    {tD2_5_1 : Tok}
    {tD2_5_2 : Tok}
    {hD2_6 : Int} {kD2_6 : Tok}
    {pD2_6 : Addr} {ddD2_6 : Option Addr} {nD2_6 : Nat} {slD2_6 : Array (Option Value)}
    {tD2_6_0 : Tok}
    {tD2_6_1 : Tok}
    {tD2_6_2 : Tok}
    {pD3 : Addr} {mD3 : Nat}
    {hD3_0 : Int} {kD3_0 : Tok}
    {tD3_0 : Tok}
    {hD3_1 : Int} {kD3_1 : Tok}
    {tD3_1 : Tok}
    {hD3_2 : Int} {kD3_2 : Tok}
    {tD3_2 : Tok}
    {tD4 : Tok}
    {tD5 : Tok}
    (X : K.In h) (G : h.Ns mainGlobals mg) (hfa : mg "law" = some (.ref fa))
    (a1 : PySem.W.nsIn K mainGlobals "is_number" = some (some (.ref f1)))
    (l1 : K.lookup f1 = some ⟨oc1, od1, .func (PySem.W.fnOf "is_number" "is_number" (defArgs s_is_number) (defBody s_is_number) (defScope s_is_number) .none kV1 dc1 pm1 an1 cd1 ct1), sl1⟩) (c1 : PySem.W.codeIn K cd1 "is_number" = true) (k1 : PySem.W.keepIn K (.ref f1) = true)
    (a2 : PySem.W.nsIn K mainGlobals "is_tuple_of" = some (some (.ref f2)))
    (l2 : K.lookup f2 = some ⟨oc2, od2, .func (PySem.W.fnOf "is_tuple_of" "is_tuple_of" (defArgs s_is_tuple_of) (defBody s_is_tuple_of) (defScope s_is_tuple_of) .none kV2 dc2 pm2 an2 cd2 ct2), sl2⟩) (c2 : PySem.W.codeIn K cd2 "is_tuple_of" = true) (k2 : PySem.W.keepIn K (.ref f2) = true)
    (a3 : PySem.W.nsIn K mainGlobals "are_unlike" = some (some (.ref f3)))
    (l3 : K.lookup f3 = some ⟨oc3, od3, .func (PySem.W.fnOf "are_unlike" "are_unlike" (defArgs s_are_unlike) (defBody s_are_unlike) (defScope s_are_unlike) .none kV3 dc3 pm3 an3 cd3 ct3), sl3⟩) (c3 : PySem.W.codeIn K cd3 "are_unlike" = true) (k3 : PySem.W.keepIn K (.ref f3) = true)
    (a4 : PySem.W.nsIn K mainGlobals "is_name" = some (some (.ref f4)))
    (l4 : K.lookup f4 = some ⟨oc4, od4, .func (PySem.W.fnOf "is_name" "is_name" (defArgs s_is_name) (defBody s_is_name) (defScope s_is_name) .none kV4 dc4 pm4 an4 cd4 ct4), sl4⟩) (c4 : PySem.W.codeIn K cd4 "is_name" = true) (k4 : PySem.W.keepIn K (.ref f4) = true)
    (a5 : PySem.W.nsIn K mainGlobals "parts_of" = some (some (.ref f5)))
    (l5 : K.lookup f5 = some ⟨oc5, od5, .func (PySem.W.fnOf "parts_of" "parts_of" (defArgs s_parts_of) (defBody s_parts_of) (defScope s_parts_of) .none kV5 dc5 pm5 an5 cd5 ct5), sl5⟩) (c5 : PySem.W.codeIn K cd5 "parts_of" = true) (k5 : PySem.W.keepIn K (.ref f5) = true)
    (a6 : PySem.W.nsIn K mainGlobals "is_number_part" = some (some (.ref f6)))
    (l6 : K.lookup f6 = some ⟨oc6, od6, .func (PySem.W.fnOf "is_number_part" "is_number_part" (defArgs s_is_number_part) (defBody s_is_number_part) (defScope s_is_number_part) .none kV6 dc6 pm6 an6 cd6 ct6), sl6⟩) (c6 : PySem.W.codeIn K cd6 "is_number_part" = true) (k6 : PySem.W.keepIn K (.ref f6) = true)
    (a7 : PySem.W.nsIn K mainGlobals "is_line" = some (some (.ref f7)))
    (l7 : K.lookup f7 = some ⟨oc7, od7, .func (PySem.W.fnOf "is_line" "is_line" (defArgs s_is_line) (defBody s_is_line) (defScope s_is_line) .none kV7 dc7 pm7 an7 cd7 ct7), sl7⟩) (c7 : PySem.W.codeIn K cd7 "is_line" = true) (k7 : PySem.W.keepIn K (.ref f7) = true)
    (a8 : PySem.W.nsIn K mainGlobals "are_lines" = some (some (.ref f8)))
    (l8 : K.lookup f8 = some ⟨oc8, od8, .func (PySem.W.fnOf "are_lines" "are_lines" (defArgs s_are_lines) (defBody s_are_lines) (defScope s_are_lines) .none kV8 dc8 pm8 an8 cd8 ct8), sl8⟩) (c8 : PySem.W.codeIn K cd8 "are_lines" = true) (k8 : PySem.W.keepIn K (.ref f8) = true)
    (a9 : PySem.W.nsIn K mainGlobals "are_unlike_names" = some (some (.ref f9)))
    (l9 : K.lookup f9 = some ⟨oc9, od9, .func (PySem.W.fnOf "are_unlike_names" "are_unlike_names" (defArgs s_are_unlike_names) (defBody s_are_unlike_names) (defScope s_are_unlike_names) .none kV9 dc9 pm9 an9 cd9 ct9), sl9⟩) (c9 : PySem.W.codeIn K cd9 "are_unlike_names" = true) (k9 : PySem.W.keepIn K (.ref f9) = true)
    (a10 : PySem.W.nsIn K mainGlobals "is_value_of" = some (some (.ref f10)))
    (l10 : K.lookup f10 = some ⟨oc10, od10, .func (PySem.W.fnOf "is_value_of" "is_value_of" (defArgs s_is_value_of) (defBody s_is_value_of) (defScope s_is_value_of) .none kV10 dc10 pm10 an10 cd10 ct10), sl10⟩) (c10 : PySem.W.codeIn K cd10 "is_value_of" = true) (k10 : PySem.W.keepIn K (.ref f10) = true)
    (a11 : PySem.W.nsIn K mainGlobals "has_its_parts" = some (some (.ref f11)))
    (l11 : K.lookup f11 = some ⟨oc11, od11, .func (PySem.W.fnOf "has_its_parts" "has_its_parts" (defArgs s_has_its_parts) (defBody s_has_its_parts) (defScope s_has_its_parts) .none kV11 dc11 pm11 an11 cd11 ct11), sl11⟩) (c11 : PySem.W.codeIn K cd11 "has_its_parts" = true) (k11 : PySem.W.keepIn K (.ref f11) = true)
    (a12 : PySem.W.nsIn K mainGlobals "named_parts" = some (some (.ref f12)))
    (l12 : K.lookup f12 = some ⟨oc12, od12, .func (PySem.W.fnOf "named_parts" "named_parts" (defArgs s_named_parts) (defBody s_named_parts) (defScope s_named_parts) .none kV12 dc12 pm12 an12 cd12 ct12), sl12⟩) (c12 : PySem.W.codeIn K cd12 "named_parts" = true) (k12 : PySem.W.keepIn K (.ref f12) = true)
    (a13 : PySem.W.nsIn K mainGlobals "go_together" = some (some (.ref f13)))
    (l13 : K.lookup f13 = some ⟨oc13, od13, .func (PySem.W.fnOf "go_together" "go_together" (defArgs s_go_together) (defBody s_go_together) (defScope s_go_together) .none kV13 dc13 pm13 an13 cd13 ct13), sl13⟩) (c13 : PySem.W.codeIn K cd13 "go_together" = true) (k13 : PySem.W.keepIn K (.ref f13) = true)
    (a14 : PySem.W.nsIn K mainGlobals "checked_deed" = some (some (.ref f14)))
    (l14 : K.lookup f14 = some ⟨oc14, od14, .func (PySem.W.fnOf "checked_deed" "checked_deed" (defArgs s_checked_deed) (defBody s_checked_deed) (defScope s_checked_deed) .none kV14 dc14 pm14 an14 cd14 ct14), sl14⟩) (c14 : PySem.W.codeIn K cd14 "checked_deed" = true) (k14 : PySem.W.keepIn K (.ref f14) = true)
    (a15 : PySem.W.nsIn K mainGlobals "words_in" = some (some (.ref f15)))
    (l15 : K.lookup f15 = some ⟨oc15, od15, .func (PySem.W.fnOf "words_in" "words_in" (defArgs s_words_in) (defBody s_words_in) (defScope s_words_in) .none kV15 dc15 pm15 an15 cd15 ct15), sl15⟩) (c15 : PySem.W.codeIn K cd15 "words_in" = true) (k15 : PySem.W.keepIn K (.ref f15) = true)
    (a16 : PySem.W.nsIn K mainGlobals "is_written_number" = some (some (.ref f16)))
    (l16 : K.lookup f16 = some ⟨oc16, od16, .func (PySem.W.fnOf "is_written_number" "is_written_number" (defArgs s_is_written_number) (defBody s_is_written_number) (defScope s_is_written_number) .none kV16 dc16 pm16 an16 cd16 ct16), sl16⟩) (c16 : PySem.W.codeIn K cd16 "is_written_number" = true) (k16 : PySem.W.keepIn K (.ref f16) = true)
    (a17 : PySem.W.nsIn K mainGlobals "words_of" = some (some (.ref f17)))
    (l17 : K.lookup f17 = some ⟨oc17, od17, .func (PySem.W.fnOf "words_of" "words_of" (defArgs s_words_of) (defBody s_words_of) (defScope s_words_of) .none kV17 dc17 pm17 an17 cd17 ct17), sl17⟩) (c17 : PySem.W.codeIn K cd17 "words_of" = true) (k17 : PySem.W.keepIn K (.ref f17) = true)
    (a18 : PySem.W.nsIn K mainGlobals "deed_text" = some (some (.ref f18)))
    (l18 : K.lookup f18 = some ⟨oc18, od18, .func (PySem.W.fnOf "deed_text" "deed_text" (defArgs s_deed_text) (defBody s_deed_text) (defScope s_deed_text) .none kV18 dc18 pm18 an18 cd18 ct18), sl18⟩) (c18 : PySem.W.codeIn K cd18 "deed_text" = true) (k18 : PySem.W.keepIn K (.ref f18) = true)
    (a19 : PySem.W.nsIn K mainGlobals "read_number" = some (some (.ref f19)))
    (l19 : K.lookup f19 = some ⟨oc19, od19, .func (PySem.W.fnOf "read_number" "read_number" (defArgs s_read_number) (defBody s_read_number) (defScope s_read_number) .none kV19 dc19 pm19 an19 cd19 ct19), sl19⟩) (c19 : PySem.W.codeIn K cd19 "read_number" = true) (k19 : PySem.W.keepIn K (.ref f19) = true)
    (a20 : PySem.W.nsIn K mainGlobals "read_lines" = some (some (.ref f20)))
    (l20 : K.lookup f20 = some ⟨oc20, od20, .func (PySem.W.fnOf "read_lines" "read_lines" (defArgs s_read_lines) (defBody s_read_lines) (defScope s_read_lines) .none kV20 dc20 pm20 an20 cd20 ct20), sl20⟩) (c20 : PySem.W.codeIn K cd20 "read_lines" = true) (k20 : PySem.W.keepIn K (.ref f20) = true)
    (a21 : PySem.W.nsIn K mainGlobals "read_part" = some (some (.ref f21)))
    (l21 : K.lookup f21 = some ⟨oc21, od21, .func (PySem.W.fnOf "read_part" "read_part" (defArgs s_read_part) (defBody s_read_part) (defScope s_read_part) .none kV21 dc21 pm21 an21 cd21 ct21), sl21⟩) (c21 : PySem.W.codeIn K cd21 "read_part" = true) (k21 : PySem.W.keepIn K (.ref f21) = true)
    (a22 : PySem.W.nsIn K mainGlobals "read_deed" = some (some (.ref f22)))
    (l22 : K.lookup f22 = some ⟨oc22, od22, .func (PySem.W.fnOf "read_deed" "read_deed" (defArgs s_read_deed) (defBody s_read_deed) (defScope s_read_deed) .none kV22 dc22 pm22 an22 cd22 ct22), sl22⟩) (c22 : PySem.W.codeIn K cd22 "read_deed" = true) (k22 : PySem.W.keepIn K (.ref f22) = true)
    (a23 : PySem.W.nsIn K mainGlobals "_law_at" = some (some (.ref f23)))
    (l23 : K.lookup f23 = some ⟨oc23, od23, .func (PySem.W.fnOf "_law_at" "_law_at" (defArgs s_law_at) (defBody s_law_at) (defScope s_law_at) .none kV23 dc23 pm23 an23 cd23 ct23), sl23⟩) (c23 : PySem.W.codeIn K cd23 "_law_at" = true) (k23 : PySem.W.keepIn K (.ref f23) = true)
    (a24 : PySem.W.nsIn K mainGlobals "_law_mix" = some (some (.ref f24)))
    (l24 : K.lookup f24 = some ⟨oc24, od24, .func (PySem.W.fnOf "_law_mix" "_law_mix" (defArgs s_law_mix) (defBody s_law_mix) (defScope s_law_mix) .none kV24 dc24 pm24 an24 cd24 ct24), sl24⟩) (c24 : PySem.W.codeIn K cd24 "_law_mix" = true) (k24 : PySem.W.keepIn K (.ref f24) = true)
    (a25 : PySem.W.nsIn K mainGlobals "_law_names" = some (some (.ref f25)))
    (l25 : K.lookup f25 = some ⟨oc25, od25, .func (PySem.W.fnOf "_law_names" "_law_names" (defArgs s_law_names) (defBody s_law_names) (defScope s_law_names) .none kV25 dc25 pm25 an25 cd25 ct25), sl25⟩) (c25 : PySem.W.codeIn K cd25 "_law_names" = true) (k25 : PySem.W.keepIn K (.ref f25) = true)
    (a26 : PySem.W.nsIn K mainGlobals "_law_number" = some (some (.ref f26)))
    (l26 : K.lookup f26 = some ⟨oc26, od26, .func (PySem.W.fnOf "_law_number" "_law_number" (defArgs s_law_number) (defBody s_law_number) (defScope s_law_number) .none kV26 dc26 pm26 an26 cd26 ct26), sl26⟩) (c26 : PySem.W.codeIn K cd26 "_law_number" = true) (k26 : PySem.W.keepIn K (.ref f26) = true)
    (a27 : PySem.W.nsIn K mainGlobals "_law_some_lines" = some (some (.ref f27)))
    (l27 : K.lookup f27 = some ⟨oc27, od27, .func (PySem.W.fnOf "_law_some_lines" "_law_some_lines" (defArgs s_law_some_lines) (defBody s_law_some_lines) (defScope s_law_some_lines) .none kV27 dc27 pm27 an27 cd27 ct27), sl27⟩) (c27 : PySem.W.codeIn K cd27 "_law_some_lines" = true) (k27 : PySem.W.keepIn K (.ref f27) = true)
    (a28 : PySem.W.nsIn K mainGlobals "_law_deed" = some (some (.ref f28)))
    (l28 : K.lookup f28 = some ⟨oc28, od28, .func (PySem.W.fnOf "_law_deed" "_law_deed" (defArgs s_law_deed) (defBody s_law_deed) (defScope s_law_deed) .none kV28 dc28 pm28 an28 cd28 ct28), sl28⟩) (c28 : PySem.W.codeIn K cd28 "_law_deed" = true) (k28 : PySem.W.keepIn K (.ref f28) = true)
    (a29 : PySem.W.nsIn K mainGlobals "_law_words" = some (some (.ref f29)))
    (l29 : K.lookup f29 = some ⟨oc29, od29, .func (PySem.W.fnOf "_law_words" "_law_words" (defArgs s_law_words) (defBody s_law_words) (defScope s_law_words) .none kV29 dc29 pm29 an29 cd29 ct29), sl29⟩) (c29 : PySem.W.codeIn K cd29 "_law_words" = true) (k29 : PySem.W.keepIn K (.ref f29) = true)
    (a30 : PySem.W.nsIn K mainGlobals "_law_alike" = some (some (.ref f30)))
    (l30 : K.lookup f30 = some ⟨oc30, od30, .func (PySem.W.fnOf "_law_alike" "_law_alike" (defArgs s_law_alike) (defBody s_law_alike) (defScope s_law_alike) .none kV30 dc30 pm30 an30 cd30 ct30), sl30⟩) (c30 : PySem.W.codeIn K cd30 "_law_alike" = true) (k30 : PySem.W.keepIn K (.ref f30) = true)
    (a35 : PySem.W.nsIn K mainGlobals "law" = some (some (.ref f35)))
    (l35 : K.lookup f35 = some ⟨oc35, od35, .func (PySem.W.fnOf "law" "law" (defArgs s_law) (defBody s_law) (defScope s_law) .none kV35 dc35 pm35 an35 cd35 ct35), sl35⟩) (c35 : PySem.W.codeIn K cd35 "law" = true) (k35 : PySem.W.keepIn K (.ref f35) = true)
    (aD1 : PySem.W.nsIn K mainGlobals "LONGEST_NAME" = some (some (.int 8 tD1)))
    (aD2 : PySem.W.nsIn K mainGlobals "PARTS" = some (some (.ref pD2)))
    (lD2 : K.lookup pD2 = some ⟨.type "dict", none, .dict #[⟨hD2_0, .str "buy" kD2_0, .ref pD2_0⟩, ⟨hD2_1, .str "spend" kD2_1, .ref pD2_1⟩, ⟨hD2_2, .str "give" kD2_2, .ref pD2_2⟩, ⟨hD2_3, .str "change" kD2_3, .ref pD2_3⟩, ⟨hD2_4, .str "lend" kD2_4, .ref pD2_4⟩, ⟨hD2_5, .str "back" kD2_5, .ref pD2_5⟩, ⟨hD2_6, .str "fix" kD2_6, .ref pD2_6⟩] mD2, #[]⟩) (yD2 : PySem.W.KeysLit w.params [⟨hD2_0, .str "buy" kD2_0, .ref pD2_0⟩, ⟨hD2_1, .str "spend" kD2_1, .ref pD2_1⟩, ⟨hD2_2, .str "give" kD2_2, .ref pD2_2⟩, ⟨hD2_3, .str "change" kD2_3, .ref pD2_3⟩, ⟨hD2_4, .str "lend" kD2_4, .ref pD2_4⟩, ⟨hD2_5, .str "back" kD2_5, .ref pD2_5⟩, ⟨hD2_6, .str "fix" kD2_6, .ref pD2_6⟩]) (sD2 : (pD2 == sysModules) = false)
    (lD2_0 : K.lookup pD2_0 = some ⟨.type "tuple", ddD2_0, .seq #[.str "ref" tD2_0_0, .str "day" tD2_0_1, .str "purse" tD2_0_2, .str "lines" tD2_0_3] nD2_0, slD2_0⟩)
    (lD2_1 : K.lookup pD2_1 = some ⟨.type "tuple", ddD2_1, .seq #[.str "ref" tD2_1_0, .str "day" tD2_1_1, .str "purse" tD2_1_2, .str "points" tD2_1_3, .str "first" tD2_1_4] nD2_1, slD2_1⟩)
    (lD2_2 : K.lookup pD2_2 = some ⟨.type "tuple", ddD2_2, .seq #[.str "ref" tD2_2_0, .str "day" tD2_2_1, .str "purse" tD2_2_2, .str "other" tD2_2_3, .str "points" tD2_2_4] nD2_2, slD2_2⟩)
    (lD2_3 : K.lookup pD2_3 = some ⟨.type "tuple", ddD2_3, .seq #[.str "ref" tD2_3_0, .str "day" tD2_3_1, .str "purse" tD2_3_2, .str "other" tD2_3_3, .str "points" tD2_3_4] nD2_3, slD2_3⟩)
    (lD2_4 : K.lookup pD2_4 = some ⟨.type "tuple", ddD2_4, .seq #[.str "ref" tD2_4_0, .str "day" tD2_4_1, .str "purse" tD2_4_2, .str "other" tD2_4_3, .str "points" tD2_4_4, .str "end" tD2_4_5] nD2_4, slD2_4⟩)
    (lD2_5 : K.lookup pD2_5 = some ⟨.type "tuple", ddD2_5, .seq #[.str "ref" tD2_5_0, .str "day" tD2_5_1, .str "of" tD2_5_2] nD2_5, slD2_5⟩)
    (lD2_6 : K.lookup pD2_6 = some ⟨.type "tuple", ddD2_6, .seq #[.str "ref" tD2_6_0, .str "of" tD2_6_1, .str "lines" tD2_6_2] nD2_6, slD2_6⟩)
    (aD3 : PySem.W.nsIn K mainGlobals "LEASTS" = some (some (.ref pD3)))
    (lD3 : K.lookup pD3 = some ⟨.type "dict", none, .dict #[⟨hD3_0, .str "day" kD3_0, .int 0 tD3_0⟩, ⟨hD3_1, .str "points" kD3_1, .int 1 tD3_1⟩, ⟨hD3_2, .str "end" kD3_2, .int 0 tD3_2⟩] mD3, #[]⟩) (yD3 : PySem.W.KeysLit w.params [⟨hD3_0, .str "day" kD3_0, .int 0 tD3_0⟩, ⟨hD3_1, .str "points" kD3_1, .int 1 tD3_1⟩, ⟨hD3_2, .str "end" kD3_2, .int 0 tD3_2⟩]) (sD3 : (pD3 == sysModules) = false)
    (aD4 : PySem.W.nsIn K mainGlobals "MOST_IN_A_LIST" = some (some (.int 8 tD4)))
    (aD5 : PySem.W.nsIn K mainGlobals "MOST_FIGURES" = some (some (.int 12 tD5)))
    (z1 : PySem.W.nsIn K mainGlobals "len" = some none)
    (z2 : PySem.W.nsIn K mainGlobals "sum" = some none)
    (z3 : PySem.W.nsIn K mainGlobals "min" = some none)
    (z4 : PySem.W.nsIn K mainGlobals "max" = some none)
    (z5 : PySem.W.nsIn K mainGlobals "list" = some none)
    (z6 : PySem.W.nsIn K mainGlobals "tuple" = some none)
    (z7 : PySem.W.nsIn K mainGlobals "int" = some none)
    (z8 : PySem.W.nsIn K mainGlobals "all" = some none)
    (z9 : PySem.W.nsIn K mainGlobals "isinstance" = some none)
    (z10 : PySem.W.nsIn K mainGlobals "range" = some none)
    (z11 : PySem.W.nsIn K mainGlobals "str" = some none)
    (z12 : PySem.W.nsIn K mainGlobals "enumerate" = some none)
    (z13 : PySem.W.nsIn K mainGlobals "zip" = some none)
    (z14 : PySem.W.nsIn K mainGlobals "bool" = some none)
    (z15 : PySem.W.nsIn K mainGlobals "dict" = some none)
    (z16 : PySem.W.nsIn K mainGlobals "set" = some none) :
    ∃ fd : FuncData, (∀ (s : Shared) (v : Value), BindsTo s fd ⟨[v], []⟩ [("_law_script", v)]) ∧ ∀ base : Heap, K.In base → base.Ns mainGlobals mg → FnOk l.prog w K mg base CX0 8 fa fd ["_law_script"] (spLaw K) := by
  have e := hfa.symm.trans (PySem.W.mg_of X G a35)
  cases e
  have hm : ∀ x ∈ biNames, mg x = none := by
    intro x hx
    rcases List.mem_cons.mp hx with e | hx
    · rw [e]; exact PySem.W.mg_none_of X G z1
    rcases List.mem_cons.mp hx with e | hx
    · rw [e]; exact PySem.W.mg_none_of X G z2
    rcases List.mem_cons.mp hx with e | hx
    · rw [e]; exact PySem.W.mg_none_of X G z3
    rcases List.mem_cons.mp hx with e | hx
    · rw [e]; exact PySem.W.mg_none_of X G z4
    rcases List.mem_cons.mp hx with e | hx
    · rw [e]; exact PySem.W.mg_none_of X G z5
    rcases List.mem_cons.mp hx with e | hx
    · rw [e]; exact PySem.W.mg_none_of X G z6
    rcases List.mem_cons.mp hx with e | hx
    · rw [e]; exact PySem.W.mg_none_of X G z7
    rcases List.mem_cons.mp hx with e | hx
    · rw [e]; exact PySem.W.mg_none_of X G z8
    rcases List.mem_cons.mp hx with e | hx
    · rw [e]; exact PySem.W.mg_none_of X G z9
    rcases List.mem_cons.mp hx with e | hx
    · rw [e]; exact PySem.W.mg_none_of X G z10
    rcases List.mem_cons.mp hx with e | hx
    · rw [e]; exact PySem.W.mg_none_of X G z11
    rcases List.mem_cons.mp hx with e | hx
    · rw [e]; exact PySem.W.mg_none_of X G z12
    rcases List.mem_cons.mp hx with e | hx
    · rw [e]; exact PySem.W.mg_none_of X G z13
    rcases List.mem_cons.mp hx with e | hx
    · rw [e]; exact PySem.W.mg_none_of X G z14
    rcases List.mem_cons.mp hx with e | hx
    · rw [e]; exact PySem.W.mg_none_of X G z15
    rcases List.mem_cons.mp hx with e | hx
    · rw [e]; exact PySem.W.mg_none_of X G z16
    cases hx
  have C_LONGEST_NAME : DatOk K w mg e_LONGEST_NAME.name (Option.get e_LONGEST_NAME.dat rfl) := ⟨_, .int 8, PySem.W.mg_of X G aD1, ⟨_, rfl⟩, fun _ _ => by unfold Den; rfl⟩
  have C_PARTS : DatOk K w mg e_PARTS.name (Option.get e_PARTS.dat rfl) := ⟨_, [.ref pD2_0, .ref pD2_1, .ref pD2_2, .ref pD2_3, .ref pD2_4, .ref pD2_5, .ref pD2_6], PySem.W.mg_of X G aD2, ⟨⟨_, _, lD2, yD2, .cons ⟨⟨_, rfl⟩, rfl⟩ (.cons ⟨⟨_, rfl⟩, rfl⟩ (.cons ⟨⟨_, rfl⟩, rfl⟩ (.cons ⟨⟨_, rfl⟩, rfl⟩ (.cons ⟨⟨_, rfl⟩, rfl⟩ (.cons ⟨⟨_, rfl⟩, rfl⟩ (.cons ⟨⟨_, rfl⟩, rfl⟩ (.nil)))))))⟩, sD2⟩, fun _ _ => by unfold DenL; exact ⟨_, _, rfl, by unfold Den; exact ⟨pD2_0, [.str "ref", .str "day", .str "purse", .str "lines"], rfl, .inr ⟨_, _, _, lD2_0, rfl, rfl, (by show 4 ≤ sizeLine; decide), .cons ⟨_, rfl⟩ (.cons ⟨_, rfl⟩ (.cons ⟨_, rfl⟩ (.cons ⟨_, rfl⟩ (.nil))))⟩, by unfold DenL; exact ⟨_, _, rfl, by unfold Den; rfl, by unfold DenL; exact ⟨_, _, rfl, by unfold Den; rfl, by unfold DenL; exact ⟨_, _, rfl, by unfold Den; rfl, by unfold DenL; exact ⟨_, _, rfl, by unfold Den; rfl, by unfold DenL; rfl⟩⟩⟩⟩⟩, by unfold DenL; exact ⟨_, _, rfl, by unfold Den; exact ⟨pD2_1, [.str "ref", .str "day", .str "purse", .str "points", .str "first"], rfl, .inr ⟨_, _, _, lD2_1, rfl, rfl, (by show 5 ≤ sizeLine; decide), .cons ⟨_, rfl⟩ (.cons ⟨_, rfl⟩ (.cons ⟨_, rfl⟩ (.cons ⟨_, rfl⟩ (.cons ⟨_, rfl⟩ (.nil)))))⟩, by unfold DenL; exact ⟨_, _, rfl, by unfold Den; rfl, by unfold DenL; exact ⟨_, _, rfl, by unfold Den; rfl, by unfold DenL; exact ⟨_, _, rfl, by unfold Den; rfl, by unfold DenL; exact ⟨_, _, rfl, by unfold Den; rfl, by unfold DenL; exact ⟨_, _, rfl, by unfold Den; rfl, by unfold DenL; rfl⟩⟩⟩⟩⟩⟩, by unfold DenL; exact ⟨_, _, rfl, by unfold Den; exact ⟨pD2_2, [.str "ref", .str "day", .str "purse", .str "other", .str "points"], rfl, .inr ⟨_, _, _, lD2_2, rfl, rfl, (by show 5 ≤ sizeLine; decide), .cons ⟨_, rfl⟩ (.cons ⟨_, rfl⟩ (.cons ⟨_, rfl⟩ (.cons ⟨_, rfl⟩ (.cons ⟨_, rfl⟩ (.nil)))))⟩, by unfold DenL; exact ⟨_, _, rfl, by unfold Den; rfl, by unfold DenL; exact ⟨_, _, rfl, by unfold Den; rfl, by unfold DenL; exact ⟨_, _, rfl, by unfold Den; rfl, by unfold DenL; exact ⟨_, _, rfl, by unfold Den; rfl, by unfold DenL; exact ⟨_, _, rfl, by unfold Den; rfl, by unfold DenL; rfl⟩⟩⟩⟩⟩⟩, by unfold DenL; exact ⟨_, _, rfl, by unfold Den; exact ⟨pD2_3, [.str "ref", .str "day", .str "purse", .str "other", .str "points"], rfl, .inr ⟨_, _, _, lD2_3, rfl, rfl, (by show 5 ≤ sizeLine; decide), .cons ⟨_, rfl⟩ (.cons ⟨_, rfl⟩ (.cons ⟨_, rfl⟩ (.cons ⟨_, rfl⟩ (.cons ⟨_, rfl⟩ (.nil)))))⟩, by unfold DenL; exact ⟨_, _, rfl, by unfold Den; rfl, by unfold DenL; exact ⟨_, _, rfl, by unfold Den; rfl, by unfold DenL; exact ⟨_, _, rfl, by unfold Den; rfl, by unfold DenL; exact ⟨_, _, rfl, by unfold Den; rfl, by unfold DenL; exact ⟨_, _, rfl, by unfold Den; rfl, by unfold DenL; rfl⟩⟩⟩⟩⟩⟩, by unfold DenL; exact ⟨_, _, rfl, by unfold Den; exact ⟨pD2_4, [.str "ref", .str "day", .str "purse", .str "other", .str "points", .str "end"], rfl, .inr ⟨_, _, _, lD2_4, rfl, rfl, (by show 6 ≤ sizeLine; decide), .cons ⟨_, rfl⟩ (.cons ⟨_, rfl⟩ (.cons ⟨_, rfl⟩ (.cons ⟨_, rfl⟩ (.cons ⟨_, rfl⟩ (.cons ⟨_, rfl⟩ (.nil))))))⟩, by unfold DenL; exact ⟨_, _, rfl, by unfold Den; rfl, by unfold DenL; exact ⟨_, _, rfl, by unfold Den; rfl, by unfold DenL; exact ⟨_, _, rfl, by unfold Den; rfl, by unfold DenL; exact ⟨_, _, rfl, by unfold Den; rfl, by unfold DenL; exact ⟨_, _, rfl, by unfold Den; rfl, by unfold DenL; exact ⟨_, _, rfl, by unfold Den; rfl, by unfold DenL; rfl⟩⟩⟩⟩⟩⟩⟩, by unfold DenL; exact ⟨_, _, rfl, by unfold Den; exact ⟨pD2_5, [.str "ref", .str "day", .str "of"], rfl, .inr ⟨_, _, _, lD2_5, rfl, rfl, (by show 3 ≤ sizeLine; decide), .cons ⟨_, rfl⟩ (.cons ⟨_, rfl⟩ (.cons ⟨_, rfl⟩ (.nil)))⟩, by unfold DenL; exact ⟨_, _, rfl, by unfold Den; rfl, by unfold DenL; exact ⟨_, _, rfl, by unfold Den; rfl, by unfold DenL; exact ⟨_, _, rfl, by unfold Den; rfl, by unfold DenL; rfl⟩⟩⟩⟩, by unfold DenL; exact ⟨_, _, rfl, by unfold Den; exact ⟨pD2_6, [.str "ref", .str "of", .str "lines"], rfl, .inr ⟨_, _, _, lD2_6, rfl, rfl, (by show 3 ≤ sizeLine; decide), .cons ⟨_, rfl⟩ (.cons ⟨_, rfl⟩ (.cons ⟨_, rfl⟩ (.nil)))⟩, by unfold DenL; exact ⟨_, _, rfl, by unfold Den; rfl, by unfold DenL; exact ⟨_, _, rfl, by unfold Den; rfl, by unfold DenL; exact ⟨_, _, rfl, by unfold Den; rfl, by unfold DenL; rfl⟩⟩⟩⟩, by unfold DenL; rfl⟩⟩⟩⟩⟩⟩⟩⟩
  have C_LEASTS : DatOk K w mg e_LEASTS.name (Option.get e_LEASTS.dat rfl) := ⟨_, [.int 0, .int 1, .int 0], PySem.W.mg_of X G aD3, ⟨⟨_, _, lD3, yD3, .cons ⟨⟨_, rfl⟩, ⟨_, rfl⟩⟩ (.cons ⟨⟨_, rfl⟩, ⟨_, rfl⟩⟩ (.cons ⟨⟨_, rfl⟩, ⟨_, rfl⟩⟩ (.nil)))⟩, sD3⟩, fun _ _ => by unfold DenL; exact ⟨_, _, rfl, by unfold Den; rfl, by unfold DenL; exact ⟨_, _, rfl, by unfold Den; rfl, by unfold DenL; exact ⟨_, _, rfl, by unfold Den; rfl, by unfold DenL; rfl⟩⟩⟩⟩
  have C_MOST_IN_A_LIST : DatOk K w mg e_MOST_IN_A_LIST.name (Option.get e_MOST_IN_A_LIST.dat rfl) := ⟨_, .int 8, PySem.W.mg_of X G aD4, ⟨_, rfl⟩, fun _ _ => by unfold Den; rfl⟩
  have C_MOST_FIGURES : DatOk K w mg e_MOST_FIGURES.name (Option.get e_MOST_FIGURES.dat rfl) := ⟨_, .int 12, PySem.W.mg_of X G aD5, ⟨_, rfl⟩, fun _ _ => by unfold Den; rfl⟩
  have F1 := fun_mk (st := s_is_number) l1 c1 k1
  have b1 := F1.binds (ps := ["value", "least"]) fun _ _ _ _ _ _ us hl => by obtain ⟨_, _, rfl⟩ := len2 hl; rfl
  have F2 := fun_mk (st := s_is_tuple_of) l2 c2 k2
  have b2 := F2.binds (ps := ["value", "many"]) fun _ _ _ _ _ _ us hl => by obtain ⟨_, _, rfl⟩ := len2 hl; rfl
  have F3 := fun_mk (st := s_are_unlike) l3 c3 k3
  have b3 := F3.binds (ps := ["values"]) fun _ _ _ _ _ _ us hl => by obtain ⟨_, rfl⟩ := len1 hl; rfl
  have F4 := fun_mk (st := s_is_name) l4 c4 k4
  have b4 := F4.binds (ps := ["text"]) fun _ _ _ _ _ _ us hl => by obtain ⟨_, rfl⟩ := len1 hl; rfl
  have F5 := fun_mk (st := s_parts_of) l5 c5 k5
  have b5 := F5.binds (ps := ["word"]) fun _ _ _ _ _ _ us hl => by obtain ⟨_, rfl⟩ := len1 hl; rfl
  have F6 := fun_mk (st := s_is_number_part) l6 c6 k6
  have b6 := F6.binds (ps := ["part"]) fun _ _ _ _ _ _ us hl => by obtain ⟨_, rfl⟩ := len1 hl; rfl
  have F7 := fun_mk (st := s_is_line) l7 c7 k7
  have b7 := F7.binds (ps := ["line"]) fun _ _ _ _ _ _ us hl => by obtain ⟨_, rfl⟩ := len1 hl; rfl
  have F8 := fun_mk (st := s_are_lines) l8 c8 k8
  have b8 := F8.binds (ps := ["lines"]) fun _ _ _ _ _ _ us hl => by obtain ⟨_, rfl⟩ := len1 hl; rfl
  have F9 := fun_mk (st := s_are_unlike_names) l9 c9 k9
  have b9 := F9.binds (ps := ["names"]) fun _ _ _ _ _ _ us hl => by obtain ⟨_, rfl⟩ := len1 hl; rfl
  have F10 := fun_mk (st := s_is_value_of) l10 c10 k10
  have b10 := F10.binds (ps := ["part", "value"]) fun _ _ _ _ _ _ us hl => by obtain ⟨_, _, rfl⟩ := len2 hl; rfl
  have F11 := fun_mk (st := s_has_its_parts) l11 c11 k11
  have b11 := F11.binds (ps := ["deed"]) fun _ _ _ _ _ _ us hl => by obtain ⟨_, rfl⟩ := len1 hl; rfl
  have F12 := fun_mk (st := s_named_parts) l12 c12 k12
  have b12 := F12.binds (ps := ["deed"]) fun _ _ _ _ _ _ us hl => by obtain ⟨_, rfl⟩ := len1 hl; rfl
  have F13 := fun_mk (st := s_go_together) l13 c13 k13
  have b13 := F13.binds (ps := ["parts"]) fun _ _ _ _ _ _ us hl => by obtain ⟨_, rfl⟩ := len1 hl; rfl
  have F14 := fun_mk (st := s_checked_deed) l14 c14 k14
  have b14 := F14.binds (ps := ["deed"]) fun _ _ _ _ _ _ us hl => by obtain ⟨_, rfl⟩ := len1 hl; rfl
  have F15 := fun_mk (st := s_words_in) l15 c15 k15
  have b15 := F15.binds (ps := ["text"]) fun _ _ _ _ _ _ us hl => by obtain ⟨_, rfl⟩ := len1 hl; rfl
  have F16 := fun_mk (st := s_is_written_number) l16 c16 k16
  have b16 := F16.binds (ps := ["word"]) fun _ _ _ _ _ _ us hl => by obtain ⟨_, rfl⟩ := len1 hl; rfl
  have F17 := fun_mk (st := s_words_of) l17 c17 k17
  have b17 := F17.binds (ps := ["part", "value"]) fun _ _ _ _ _ _ us hl => by obtain ⟨_, _, rfl⟩ := len2 hl; rfl
  have F18 := fun_mk (st := s_deed_text) l18 c18 k18
  have b18 := F18.binds (ps := ["deed"]) fun _ _ _ _ _ _ us hl => by obtain ⟨_, rfl⟩ := len1 hl; rfl
  have F19 := fun_mk (st := s_read_number) l19 c19 k19
  have b19 := F19.binds (ps := ["word"]) fun _ _ _ _ _ _ us hl => by obtain ⟨_, rfl⟩ := len1 hl; rfl
  have F20 := fun_mk (st := s_read_lines) l20 c20 k20
  have b20 := F20.binds (ps := ["words"]) fun _ _ _ _ _ _ us hl => by obtain ⟨_, rfl⟩ := len1 hl; rfl
  have F21 := fun_mk (st := s_read_part) l21 c21 k21
  have b21 := F21.binds (ps := ["part", "words"]) fun _ _ _ _ _ _ us hl => by obtain ⟨_, _, rfl⟩ := len2 hl; rfl
  have F22 := fun_mk (st := s_read_deed) l22 c22 k22
  have b22 := F22.binds (ps := ["text"]) fun _ _ _ _ _ _ us hl => by obtain ⟨_, rfl⟩ := len1 hl; rfl
  have F23 := fun_mk (st := s_law_at) l23 c23 k23
  have b23 := F23.binds (ps := ["_law_script", "_law_k"]) fun _ _ _ _ _ _ us hl => by obtain ⟨_, _, rfl⟩ := len2 hl; rfl
  have F24 := fun_mk (st := s_law_mix) l24 c24 k24
  have b24 := F24.binds (ps := ["_law_cell", "_law_k"]) fun _ _ _ _ _ _ us hl => by obtain ⟨_, _, rfl⟩ := len2 hl; rfl
  have F25 := fun_mk (st := s_law_names) l25 c25 k25
  have b25 := F25.binds (ps := ["_law_cell", "_law_many"]) fun _ _ _ _ _ _ us hl => by obtain ⟨_, _, rfl⟩ := len2 hl; rfl
  have F26 := fun_mk (st := s_law_number) l26 c26 k26
  have b26 := F26.binds (ps := ["_law_m", "_law_cell"]) fun _ _ _ _ _ _ us hl => by obtain ⟨_, _, rfl⟩ := len2 hl; rfl
  have F27 := fun_mk (st := s_law_some_lines) l27 c27 k27
  have b27 := F27.binds (ps := ["_law_script", "_law_at_here", "_law_names_here"]) fun _ _ _ _ _ _ us hl => by obtain ⟨_, _, _, rfl⟩ := len3 hl; rfl
  have F28 := fun_mk (st := s_law_deed) l28 c28 k28
  have b28 := F28.binds (ps := ["_law_script", "_law_at_here"]) fun _ _ _ _ _ _ us hl => by obtain ⟨_, _, rfl⟩ := len2 hl; rfl
  have F29 := fun_mk (st := s_law_words) l29 c29 k29
  have b29 := F29.binds (ps := ["_law_deed_here"]) fun _ _ _ _ _ _ us hl => by obtain ⟨_, rfl⟩ := len1 hl; rfl
  have F30 := fun_mk (st := s_law_alike) l30 c30 k30
  have b30 := F30.binds (ps := ["_law_found", "_law_due"]) fun _ _ _ _ _ _ us hl => by obtain ⟨_, _, rfl⟩ := len2 hl; rfl
  have F35 := fun_mk (st := s_law) l35 c35 k35
  refine ⟨PySem.W.fnOf "law" "law" (defArgs s_law) (defBody s_law) (defScope s_law) .none kV35 dc35 pm35 an35 cd35 ct35, fun s v => .of_eq rfl, fun base _ _ => ?_⟩
  have C_is_number : Callee l.prog w K mg base e_is_number.lv e_is_number.name e_is_number.ps (spOf K e_is_number.ps.length e_is_number.F) := ⟨f1, _, fn_ok3 F1 sc_is_number (tab_nil hm) c_is_number, PySem.W.mg_of X G a1, k1, b1⟩
  have C_is_tuple_of : Callee l.prog w K mg base e_is_tuple_of.lv e_is_tuple_of.name e_is_tuple_of.ps (spOf K e_is_tuple_of.ps.length e_is_tuple_of.F) := ⟨f2, _, fn_ok3 F2 sc_is_tuple_of (tab_nil hm) c_is_tuple_of, PySem.W.mg_of X G a2, k2, b2⟩
  have C_are_unlike : Callee l.prog w K mg base e_are_unlike.lv e_are_unlike.name e_are_unlike.ps (spOf K e_are_unlike.ps.length e_are_unlike.F) := ⟨f3, _, fn_ok3 F3 sc_are_unlike (tab_nil hm) c_are_unlike, PySem.W.mg_of X G a3, k3, b3⟩
  have C_is_name : Callee l.prog w K mg base e_is_name.lv e_is_name.name e_is_name.ps (spOf K e_is_name.ps.length e_is_name.F) := ⟨f4, _, fn_ok3 F4 sc_is_name (tab_dat (by decide) C_LONGEST_NAME (tab_nil hm)) c_is_name, PySem.W.mg_of X G a4, k4, b4⟩
  have C_parts_of : Callee l.prog w K mg base e_parts_of.lv e_parts_of.name e_parts_of.ps (spOf K e_parts_of.ps.length e_parts_of.F) := ⟨f5, _, fn_ok3 F5 sc_parts_of (tab_dat (by decide) C_PARTS (tab_nil hm)) c_parts_of, PySem.W.mg_of X G a5, k5, b5⟩
  have C_is_number_part : Callee l.prog w K mg base e_is_number_part.lv e_is_number_part.name e_is_number_part.ps (spOf K e_is_number_part.ps.length e_is_number_part.F) := ⟨f6, _, fn_ok3 F6 sc_is_number_part (tab_dat (by decide) C_LEASTS (tab_nil hm)) c_is_number_part, PySem.W.mg_of X G a6, k6, b6⟩
  have C_is_line : Callee l.prog w K mg base e_is_line.lv e_is_line.name e_is_line.ps (spOf K e_is_line.ps.length e_is_line.F) := ⟨f7, _, fn_ok3 F7 sc_is_line (tab_cons rfl C_is_tuple_of (tab_cons rfl C_is_name (tab_cons rfl C_is_number (tab_nil hm)))) c_is_line, PySem.W.mg_of X G a7, k7, b7⟩
  have C_are_lines : Callee l.prog w K mg base e_are_lines.lv e_are_lines.name e_are_lines.ps (spOf K e_are_lines.ps.length e_are_lines.F) := ⟨f8, _, fn_ok3 F8 sc_are_lines (tab_dat (by decide) C_MOST_IN_A_LIST (tab_cons rfl C_is_line (tab_nil hm))) c_are_lines, PySem.W.mg_of X G a8, k8, b8⟩
  have C_are_unlike_names : Callee l.prog w K mg base e_are_unlike_names.lv e_are_unlike_names.name e_are_unlike_names.ps (spOf K e_are_unlike_names.ps.length e_are_unlike_names.F) := ⟨f9, _, fn_ok3 F9 sc_are_unlike_names (tab_dat (by decide) C_MOST_IN_A_LIST (tab_cons rfl C_is_name (tab_cons rfl C_are_unlike (tab_nil hm)))) c_are_unlike_names, PySem.W.mg_of X G a9, k9, b9⟩
  have C_is_value_of : Callee l.prog w K mg base e_is_value_of.lv e_is_value_of.name e_is_value_of.ps (spOf K e_is_value_of.ps.length e_is_value_of.F) := ⟨f10, _, fn_ok3 F10 sc_is_value_of (tab_cons rfl C_are_lines (tab_cons rfl C_are_unlike_names (tab_cons rfl C_is_number_part (tab_cons rfl C_is_number (tab_dat (by decide) C_LEASTS (tab_cons rfl C_is_name (tab_nil hm))))))) c_is_value_of, PySem.W.mg_of X G a10, k10, b10⟩
  have C_has_its_parts : Callee l.prog w K mg base e_has_its_parts.lv e_has_its_parts.name e_has_its_parts.ps (spOf K e_has_its_parts.ps.length e_has_its_parts.F) := ⟨f11, _, fn_ok3 F11 sc_has_its_parts (tab_cons rfl C_parts_of (tab_cons rfl C_is_value_of (tab_nil hm))) c_has_its_parts, PySem.W.mg_of X G a11, k11, b11⟩
  have C_named_parts : Callee l.prog w K mg base e_named_parts.lv e_named_parts.name e_named_parts.ps (spOf K e_named_parts.ps.length e_named_parts.F) := ⟨f12, _, fn_ok3 F12 sc_named_parts (tab_cons rfl C_parts_of (tab_nil hm)) c_named_parts, PySem.W.mg_of X G a12, k12, b12⟩
  have C_go_together : Callee l.prog w K mg base e_go_together.lv e_go_together.name e_go_together.ps (spOf K e_go_together.ps.length e_go_together.F) := ⟨f13, _, fn_ok3 F13 sc_go_together (tab_nil hm) c_go_together, PySem.W.mg_of X G a13, k13, b13⟩
  have C_checked_deed : Callee l.prog w K mg base e_checked_deed.lv e_checked_deed.name e_checked_deed.ps (spOf K e_checked_deed.ps.length e_checked_deed.F) := ⟨f14, _, fn_ok3 F14 sc_checked_deed (tab_cons rfl C_has_its_parts (tab_cons rfl C_go_together (tab_cons rfl C_named_parts (tab_nil hm)))) c_checked_deed, PySem.W.mg_of X G a14, k14, b14⟩
  have C_words_in : Callee l.prog w K mg base e_words_in.lv e_words_in.name e_words_in.ps (spOf K e_words_in.ps.length e_words_in.F) := ⟨f15, _, fn_ok3 F15 sc_words_in (tab_nil hm) c_words_in, PySem.W.mg_of X G a15, k15, b15⟩
  have C_is_written_number : Callee l.prog w K mg base e_is_written_number.lv e_is_written_number.name e_is_written_number.ps (spOf K e_is_written_number.ps.length e_is_written_number.F) := ⟨f16, _, fn_ok3 F16 sc_is_written_number (tab_dat (by decide) C_MOST_FIGURES (tab_nil hm)) c_is_written_number, PySem.W.mg_of X G a16, k16, b16⟩
  have C_words_of : Callee l.prog w K mg base e_words_of.lv e_words_of.name e_words_of.ps (spOf K e_words_of.ps.length e_words_of.F) := ⟨f17, _, fn_ok3 F17 sc_words_of (tab_nil hm) c_words_of, PySem.W.mg_of X G a17, k17, b17⟩
  have C_deed_text : Callee l.prog w K mg base e_deed_text.lv e_deed_text.name e_deed_text.ps (spOf K e_deed_text.ps.length e_deed_text.F) := ⟨f18, _, fn_ok3 F18 sc_deed_text (tab_cons rfl C_checked_deed (tab_cons rfl C_words_of (tab_cons rfl C_named_parts (tab_nil hm)))) c_deed_text, PySem.W.mg_of X G a18, k18, b18⟩
  have C_read_number : Callee l.prog w K mg base e_read_number.lv e_read_number.name e_read_number.ps (spOf K e_read_number.ps.length e_read_number.F) := ⟨f19, _, fn_ok3 F19 sc_read_number (tab_cons rfl C_is_written_number (tab_nil hm)) c_read_number, PySem.W.mg_of X G a19, k19, b19⟩
  have C_read_lines : Callee l.prog w K mg base e_read_lines.lv e_read_lines.name e_read_lines.ps (spOf K e_read_lines.ps.length e_read_lines.F) := ⟨f20, _, fn_ok3 F20 sc_read_lines (tab_cons rfl C_read_number (tab_nil hm)) c_read_lines, PySem.W.mg_of X G a20, k20, b20⟩
  have C_read_part : Callee l.prog w K mg base e_read_part.lv e_read_part.name e_read_part.ps (spOf K e_read_part.ps.length e_read_part.F) := ⟨f21, _, fn_ok3 F21 sc_read_part (tab_cons rfl C_read_lines (tab_cons rfl C_is_number_part (tab_cons rfl C_read_number (tab_nil hm)))) c_read_part, PySem.W.mg_of X G a21, k21, b21⟩
  have C_read_deed : Callee l.prog w K mg base e_read_deed.lv e_read_deed.name e_read_deed.ps (spOf K e_read_deed.ps.length e_read_deed.F) := ⟨f22, _, fn_ok3 F22 sc_read_deed (tab_cons rfl C_words_in (tab_cons rfl C_read_part (tab_cons rfl C_parts_of (tab_cons rfl C_checked_deed (tab_nil hm))))) c_read_deed, PySem.W.mg_of X G a22, k22, b22⟩
  have C_law_at : Callee l.prog w K mg base e_law_at.lv e_law_at.name e_law_at.ps (spOf K e_law_at.ps.length e_law_at.F) := ⟨f23, _, fn_ok3 F23 sc_law_at (tab_nil hm) c_law_at, PySem.W.mg_of X G a23, k23, b23⟩
  have C_law_mix : Callee l.prog w K mg base e_law_mix.lv e_law_mix.name e_law_mix.ps (spOf K e_law_mix.ps.length e_law_mix.F) := ⟨f24, _, fn_ok3 F24 sc_law_mix (tab_nil hm) c_law_mix, PySem.W.mg_of X G a24, k24, b24⟩
  have C_law_names : Callee l.prog w K mg base e_law_names.lv e_law_names.name e_law_names.ps (spOf K e_law_names.ps.length e_law_names.F) := ⟨f25, _, fn_ok3 F25 sc_law_names (tab_cons rfl C_law_mix (tab_nil hm)) c_law_names, PySem.W.mg_of X G a25, k25, b25⟩
  have C_law_number : Callee l.prog w K mg base e_law_number.lv e_law_number.name e_law_number.ps (spOf K e_law_number.ps.length e_law_number.F) := ⟨f26, _, fn_ok3 F26 sc_law_number (tab_nil hm) c_law_number, PySem.W.mg_of X G a26, k26, b26⟩
  have C_law_some_lines : Callee l.prog w K mg base e_law_some_lines.lv e_law_some_lines.name e_law_some_lines.ps (spOf K e_law_some_lines.ps.length e_law_some_lines.F) := ⟨f27, _, fn_ok3 F27 sc_law_some_lines (tab_cons rfl C_law_mix (tab_cons rfl C_law_at (tab_cons rfl C_law_number (tab_nil hm)))) c_law_some_lines, PySem.W.mg_of X G a27, k27, b27⟩
  have C_law_deed : Callee l.prog w K mg base e_law_deed.lv e_law_deed.name e_law_deed.ps (spOf K e_law_deed.ps.length e_law_deed.F) := ⟨f28, _, fn_ok3 F28 sc_law_deed (tab_cons rfl C_law_at (tab_cons rfl C_law_mix (tab_cons rfl C_law_names (tab_cons rfl C_law_number (tab_cons rfl C_law_some_lines (tab_nil hm)))))) c_law_deed, PySem.W.mg_of X G a28, k28, b28⟩
  have C_law_words : Callee l.prog w K mg base e_law_words.lv e_law_words.name e_law_words.ps (spOf K e_law_words.ps.length e_law_words.F) := ⟨f29, _, fn_ok3 F29 sc_law_words (tab_nil hm) c_law_words, PySem.W.mg_of X G a29, k29, b29⟩
  have C_law_alike_0 : Callee l.prog w K mg base e_law_alike_0.lv e_law_alike_0.name e_law_alike_0.ps (spOf K e_law_alike_0.ps.length e_law_alike_0.F) := ⟨f30, _, fn_ok3 F30 sc_law_alike (tab_nil hm) c_law_alike_0, PySem.W.mg_of X G a30, k30, b30⟩
  have C_law_alike_1 : Callee l.prog w K mg base e_law_alike_1.lv e_law_alike_1.name e_law_alike_1.ps (spOf K e_law_alike_1.ps.length e_law_alike_1.F) := ⟨f30, _, fn_ok3 F30 sc_law_alike (tab_cons rfl C_law_alike_0 (tab_nil hm)) c_law_alike_1, PySem.W.mg_of X G a30, k30, b30⟩
  have C_law_alike_2 : Callee l.prog w K mg base e_law_alike_2.lv e_law_alike_2.name e_law_alike_2.ps (spOf K e_law_alike_2.ps.length e_law_alike_2.F) := ⟨f30, _, fn_ok3 F30 sc_law_alike (tab_cons rfl C_law_alike_1 (tab_nil hm)) c_law_alike_2, PySem.W.mg_of X G a30, k30, b30⟩
  have C_law_alike_3 : Callee l.prog w K mg base e_law_alike_3.lv e_law_alike_3.name e_law_alike_3.ps (spOf K e_law_alike_3.ps.length e_law_alike_3.F) := ⟨f30, _, fn_ok3 F30 sc_law_alike (tab_cons rfl C_law_alike_2 (tab_nil hm)) c_law_alike_3, PySem.W.mg_of X G a30, k30, b30⟩
  have C_law_alike : Callee l.prog w K mg base e_law_alike.lv e_law_alike.name e_law_alike.ps (spOf K e_law_alike.ps.length e_law_alike.F) := ⟨f30, _, fn_ok3 F30 sc_law_alike (tab_cons rfl C_law_alike_3 (tab_nil hm)) c_law_alike, PySem.W.mg_of X G a30, k30, b30⟩
  exact law_ok3 (fn_ok3 F35 sc_law (tab_cons rfl C_law_deed (tab_cons rfl C_deed_text (tab_cons rfl C_law_words (tab_cons rfl C_law_alike (tab_cons rfl C_read_deed (tab_nil hm)))))) c_law) law_true
end _K09
open PySem PySem.W PyProof.Rows
set_option compiler.extract_closed true
 def _K09.zb : List PySem.Stmt := PySem.Challenge.pw_pointpurse_k09_deeds_written.main.body
 def _K09.zN : PySem.Stmt := .Pass ⟨0, 0, 0, 0⟩
 def _K09.zs0 : PySem.Stmt := _K09.zb.getD 0 _K09.zN
 def _K09.zs1 : PySem.Stmt := _K09.zb.getD 1 _K09.zN
 def _K09.zs2 : PySem.Stmt := _K09.zb.getD 2 _K09.zN
 def _K09.zs3 : PySem.Stmt := _K09.zb.getD 3 _K09.zN
 def _K09.zs4 : PySem.Stmt := _K09.zb.getD 4 _K09.zN
 def _K09.zs5 : PySem.Stmt := _K09.zb.getD 5 _K09.zN
 def _K09.zs6 : PySem.Stmt := _K09.zb.getD 6 _K09.zN
 def _K09.zs7 : PySem.Stmt := _K09.zb.getD 7 _K09.zN
 def _K09.zs8 : PySem.Stmt := _K09.zb.getD 8 _K09.zN
 def _K09.zs9 : PySem.Stmt := _K09.zb.getD 9 _K09.zN
 def _K09.zs10 : PySem.Stmt := _K09.zb.getD 10 _K09.zN
 def _K09.zs11 : PySem.Stmt := _K09.zb.getD 11 _K09.zN
 def _K09.zs12 : PySem.Stmt := _K09.zb.getD 12 _K09.zN
 def _K09.zs13 : PySem.Stmt := _K09.zb.getD 13 _K09.zN
 def _K09.zs14 : PySem.Stmt := _K09.zb.getD 14 _K09.zN
 def _K09.zs15 : PySem.Stmt := _K09.zb.getD 15 _K09.zN
 def _K09.zs16 : PySem.Stmt := _K09.zb.getD 16 _K09.zN
 def _K09.zs17 : PySem.Stmt := _K09.zb.getD 17 _K09.zN
 def _K09.zs18 : PySem.Stmt := _K09.zb.getD 18 _K09.zN
 def _K09.zs19 : PySem.Stmt := _K09.zb.getD 19 _K09.zN
 def _K09.zs20 : PySem.Stmt := _K09.zb.getD 20 _K09.zN
 def _K09.zs21 : PySem.Stmt := _K09.zb.getD 21 _K09.zN
 def _K09.zs22 : PySem.Stmt := _K09.zb.getD 22 _K09.zN
 def _K09.zs23 : PySem.Stmt := _K09.zb.getD 23 _K09.zN
 def _K09.zs24 : PySem.Stmt := _K09.zb.getD 24 _K09.zN
 def _K09.zs25 : PySem.Stmt := _K09.zb.getD 25 _K09.zN
 def _K09.zs26 : PySem.Stmt := _K09.zb.getD 26 _K09.zN
 def _K09.zs27 : PySem.Stmt := _K09.zb.getD 27 _K09.zN
 def _K09.zs28 : PySem.Stmt := _K09.zb.getD 28 _K09.zN
 def _K09.zs29 : PySem.Stmt := _K09.zb.getD 29 _K09.zN
 def _K09.zs30 : PySem.Stmt := _K09.zb.getD 30 _K09.zN
 def _K09.zs31 : PySem.Stmt := _K09.zb.getD 31 _K09.zN
 def _K09.zs32 : PySem.Stmt := _K09.zb.getD 32 _K09.zN
 def _K09.zs33 : PySem.Stmt := _K09.zb.getD 33 _K09.zN
 def _K09.zs34 : PySem.Stmt := _K09.zb.getD 34 _K09.zN
 def _K09.zs35 : PySem.Stmt := _K09.zb.getD 35 _K09.zN
 def _K09.zs36 : PySem.Stmt := _K09.zb.getD 36 _K09.zN
 def _K09.zs37 : PySem.Stmt := _K09.zb.getD 37 _K09.zN
 def _K09.zs38 : PySem.Stmt := _K09.zb.getD 38 _K09.zN
 def _K09.zs39 : PySem.Stmt := _K09.zb.getD 39 _K09.zN
 def _K09.zs40 : PySem.Stmt := _K09.zb.getD 40 _K09.zN
 def _K09.zs41 : PySem.Stmt := _K09.zb.getD 41 _K09.zN
 def _K09.zs42 : PySem.Stmt := _K09.zb.getD 42 _K09.zN
 def _K09.zs43 : PySem.Stmt := _K09.zb.getD 43 _K09.zN
 def _K09.zp : PySem.Program := { PySem.Challenge.pw_pointpurse_k09_deeds_written with main := { PySem.Challenge.pw_pointpurse_k09_deeds_written.main with body := [_K09.zs0, _K09.zs1, _K09.zs2, _K09.zs3, _K09.zs4, _K09.zs5, _K09.zs6, _K09.zs7, _K09.zs8, _K09.zs9, _K09.zs10, _K09.zs11, _K09.zs12, _K09.zs13, _K09.zs14, _K09.zs15, _K09.zs16, _K09.zs17, _K09.zs18, _K09.zs19, _K09.zs20, _K09.zs21, _K09.zs22, _K09.zs23, _K09.zs24, _K09.zs25, _K09.zs26, _K09.zs27, _K09.zs28, _K09.zs29, _K09.zs30, _K09.zs31, _K09.zs32, _K09.zs33, _K09.zs34, _K09.zs35, _K09.zs36, _K09.zs37, _K09.zs38, _K09.zs39, _K09.zs40, _K09.zs41, _K09.zs42, _K09.zs43] } }
 def _K09.zl : PySem.W.OpenLaw := { PySem.Challenge.rw_pointpurse_k09_deeds_written with prog := _K09.zp }
set_option maxRecDepth 100000 in
theorem _K09.zl_eq : PySem.Challenge.rw_pointpurse_k09_deeds_written = _K09.zl := rfl
set_option maxRecDepth 100000 in
set_option maxHeartbeats 0 in
theorem PySem.Challenge.cw_pointpurse_k09_deeds_written_holds : PySem.Challenge.rw_pointpurse_k09_deeds_written.Holds := by
  rw [_K09.zl_eq]
  w_on; o_law; k_head; (case hw => w_witness2)
  k_fill
  refine _L2.walk_ofK (l := _K09.zl) (n := 63) (k := 8) (x := "_law_script") (CX := _L2.CX0) (sp := _L2.spLaw) rfl (by decide) rfl ⟨rfl, by decide, by decide⟩ (fun w h Y => PySem.W.kIn_of Y) ?F ?S ?C
  case F =>
    intro w mg fa h KX G hmg
    refine' _K09.all_mk KX G hmg ?a1 ?l1 ?c1 ?k1 ?a2 ?l2 ?c2 ?k2 ?a3 ?l3 ?c3 ?k3 ?a4 ?l4 ?c4 ?k4 ?a5 ?l5 ?c5 ?k5 ?a6 ?l6 ?c6 ?k6 ?a7 ?l7 ?c7 ?k7 ?a8 ?l8 ?c8 ?k8 ?a9 ?l9 ?c9 ?k9 ?a10 ?l10 ?c10 ?k10 ?a11 ?l11 ?c11 ?k11 ?a12 ?l12 ?c12 ?k12 ?a13 ?l13 ?c13 ?k13 ?a14 ?l14 ?c14 ?k14 ?a15 ?l15 ?c15 ?k15 ?a16 ?l16 ?c16 ?k16 ?a17 ?l17 ?c17 ?k17 ?a18 ?l18 ?c18 ?k18 ?a19 ?l19 ?c19 ?k19 ?a20 ?l20 ?c20 ?k20 ?a21 ?l21 ?c21 ?k21 ?a22 ?l22 ?c22 ?k22 ?a23 ?l23 ?c23 ?k23 ?a24 ?l24 ?c24 ?k24 ?a25 ?l25 ?c25 ?k25 ?a26 ?l26 ?c26 ?k26 ?a27 ?l27 ?c27 ?k27 ?a28 ?l28 ?c28 ?k28 ?a29 ?l29 ?c29 ?k29 ?a30 ?l30 ?c30 ?k30 ?a35 ?l35 ?c35 ?k35 ?aD1 ?aD2 ?lD2 ?yD2 ?sD2 ?lD2_0 ?lD2_1 ?lD2_2 ?lD2_3 ?lD2_4 ?lD2_5 ?lD2_6 ?aD3 ?lD3 ?yD3 ?sD3 ?aD4 ?aD5 ?z1 ?z2 ?z3 ?z4 ?z5 ?z6 ?z7 ?z8 ?z9 ?z10 ?z11 ?z12 ?z13 ?z14 ?z15 ?z16
    (case a1 => k_is)
    (case l1 => k_is)
    (case c1 => k_is)
    (case k1 => k_is)
    (case a2 => k_is)
    (case l2 => k_is)
    (case c2 => k_is)
    (case k2 => k_is)
    (case a3 => k_is)
    (case l3 => k_is)
    (case c3 => k_is)
    (case k3 => k_is)
    (case a4 => k_is)
    (case l4 => k_is)
    (case c4 => k_is)
    (case k4 => k_is)
    (case a5 => k_is)
    (case l5 => k_is)
    (case c5 => k_is)
    (case k5 => k_is)
    (case a6 => k_is)
    (case l6 => k_is)
    (case c6 => k_is)
    (case k6 => k_is)
    (case a7 => k_is)
    (case l7 => k_is)
    (case c7 => k_is)
    (case k7 => k_is)
    (case a8 => k_is)
    (case l8 => k_is)
    (case c8 => k_is)
    (case k8 => k_is)
    (case a9 => k_is)
    (case l9 => k_is)
    (case c9 => k_is)
    (case k9 => k_is)
    (case a10 => k_is)
    (case l10 => k_is)
    (case c10 => k_is)
    (case k10 => k_is)
    (case a11 => k_is)
    (case l11 => k_is)
    (case c11 => k_is)
    (case k11 => k_is)
    (case a12 => k_is)
    (case l12 => k_is)
    (case c12 => k_is)
    (case k12 => k_is)
    (case a13 => k_is)
    (case l13 => k_is)
    (case c13 => k_is)
    (case k13 => k_is)
    (case a14 => k_is)
    (case l14 => k_is)
    (case c14 => k_is)
    (case k14 => k_is)
    (case a15 => k_is)
    (case l15 => k_is)
    (case c15 => k_is)
    (case k15 => k_is)
    (case a16 => k_is)
    (case l16 => k_is)
    (case c16 => k_is)
    (case k16 => k_is)
    (case a17 => k_is)
    (case l17 => k_is)
    (case c17 => k_is)
    (case k17 => k_is)
    (case a18 => k_is)
    (case l18 => k_is)
    (case c18 => k_is)
    (case k18 => k_is)
    (case a19 => k_is)
    (case l19 => k_is)
    (case c19 => k_is)
    (case k19 => k_is)
    (case a20 => k_is)
    (case l20 => k_is)
    (case c20 => k_is)
    (case k20 => k_is)
    (case a21 => k_is)
    (case l21 => k_is)
    (case c21 => k_is)
    (case k21 => k_is)
    (case a22 => k_is)
    (case l22 => k_is)
    (case c22 => k_is)
    (case k22 => k_is)
    (case a23 => k_is)
    (case l23 => k_is)
    (case c23 => k_is)
    (case k23 => k_is)
    (case a24 => k_is)
    (case l24 => k_is)
    (case c24 => k_is)
    (case k24 => k_is)
    (case a25 => k_is)
    (case l25 => k_is)
    (case c25 => k_is)
    (case k25 => k_is)
    (case a26 => k_is)
    (case l26 => k_is)
    (case c26 => k_is)
    (case k26 => k_is)
    (case a27 => k_is)
    (case l27 => k_is)
    (case c27 => k_is)
    (case k27 => k_is)
    (case a28 => k_is)
    (case l28 => k_is)
    (case c28 => k_is)
    (case k28 => k_is)
    (case a29 => k_is)
    (case l29 => k_is)
    (case c29 => k_is)
    (case k29 => k_is)
    (case a30 => k_is)
    (case l30 => k_is)
    (case c30 => k_is)
    (case k30 => k_is)
    (case a35 => k_is)
    (case l35 => k_is)
    (case c35 => k_is)
    (case k35 => k_is)
    (case aD1 => k_is)
    (case aD2 => k_is)
    (case lD2 => k_is)
    (case yD2 => k_keys)
    (case sD2 => decide)
    (case lD2_0 => k_is)
    (case lD2_1 => k_is)
    (case lD2_2 => k_is)
    (case lD2_3 => k_is)
    (case lD2_4 => k_is)
    (case lD2_5 => k_is)
    (case lD2_6 => k_is)
    (case aD3 => k_is)
    (case lD3 => k_is)
    (case yD3 => k_keys)
    (case sD3 => decide)
    (case aD4 => k_is)
    (case aD5 => k_is)
    (case z1 => k_is)
    (case z2 => k_is)
    (case z3 => k_is)
    (case z4 => k_is)
    (case z5 => k_is)
    (case z6 => k_is)
    (case z7 => k_is)
    (case z8 => k_is)
    (case z9 => k_is)
    (case z10 => k_is)
    (case z11 => k_is)
    (case z12 => k_is)
    (case z13 => k_is)
    (case z14 => k_is)
    (case z15 => k_is)
    (case z16 => k_is)
  case S => exact fun K H a ns hl hO hS => ⟨a, ns, rfl, hS, hl, fun _ => rfl⟩
  case C => exact fun _ _ _ _ z => z
#print axioms PySem.Challenge.cw_pointpurse_k09_deeds_written_holds
