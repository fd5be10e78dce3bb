import PyProof.Rows.All
import Wide.All
import OpenK.AllK
import Wide.FinOn
import Lean
import PyProof.EqAt
import PyProof.EqKinds
import PyProof.TupleCall
import KE.KSortTup
import KE.KDictSum
import KE.KDictOf
import PyProof.AttrMissHeap
import PyProof.WalksEnum
import PyProof.EnumMake
import PyProof.Draws
import PyProof.Rows.SetFrom
import KE.KTryOn
import KE.KTryDeep
import PySem.Challenge.RW_rootshares_k33_one_place_or_two
-- CHANGE: your row's module here, as the last of these rows
set_option Elab.async false
set_option linter.all false
set_option maxRecDepth 100000
/-! THE HAND LAYER, for ints, bools, texts, own classes, LISTS and tuples (index, slices, in, append, pop ..), calls, loops. Paste it whole ahead of your own text; what your proof does not reach may be deleted. -/
namespace L2
open PySem PySem.Spec PyProof.Rows

/-- a key: an int or a str -/
noncomputable abbrev Key := Sum Int Str
noncomputable def keyIs : Key → Value → Bool
  | .inl k, v => Value.isInt k v
  | .inr x, v => Value.isStrOf x v
noncomputable def keyH (w : World) : Key → Int
  | .inl k => hashInt k
  | .inr x => hashStr w x
theorem keyIs_shape : ∀ {k : Key} {v : Value}, keyIs k v = true → (∃ i t, k = Sum.inl i ∧ v = Value.int i t) ∨ (∃ x t, k = Sum.inr x ∧ v = Value.str x t)
  | .inl i, v, h => by
    obtain ⟨t, e⟩ := Value.isInt_shape (k := i) (v := v) h
    exact .inl ⟨i, t, rfl, e⟩
  | .inr x, v, h => by
    obtain ⟨t, e⟩ := Value.isStrOf_shape (x := x) (v := v) h
    exact .inr ⟨x, t, rfl, e⟩
theorem keyIs_int (i : Int) (t : Tok) : keyIs (.inl i) (.int i t) = true := by simp [keyIs, Value.isInt]
theorem keyIs_str (x : Str) (t : Tok) : keyIs (.inr x) (.str x t) = true := by simp [keyIs, Value.isStrOf]
theorem key_ll (a b : Int) : decide ((Sum.inl a : Key) = Sum.inl b) = (a == b) := by
  by_cases e : a = b
  · subst e; simp
  · have h : ¬ (Sum.inl a : Key) = Sum.inl b := fun q => e (Sum.inl.inj q)
    rw [decide_eq_false h]
    exact (beq_eq_false_iff_ne.mpr e).symm
theorem key_rr (a b : Str) : decide ((Sum.inr a : Key) = Sum.inr b) = decide (a = b) := by
  by_cases e : a = b
  · subst e; simp
  · have h : ¬ (Sum.inr a : Key) = Sum.inr b := fun q => e (Sum.inr.inj q)
    rw [decide_eq_false h, decide_eq_false e]
theorem key_lr (a : Int) (b : Str) : decide ((Sum.inl a : Key) = Sum.inr b) = false := decide_eq_false (fun q => nomatch q)
theorem key_rl (a : Str) (b : Int) : decide ((Sum.inr a : Key) = Sum.inl b) = false := decide_eq_false (fun q => nomatch q)

noncomputable def mixKind (prog : Program) (w : World) : PySem.KeyKind prog w Key where
  is := keyIs
  hash := keyH w
  inj := fun v a b ha hb => by
    rcases keyIs_shape ha with ⟨i, t, rfl, rfl⟩ | ⟨x, t, rfl, rfl⟩
    · rcases keyIs_shape hb with ⟨j, u, rfl, e⟩ | ⟨y, u, rfl, e⟩
      · injection e with e1 _; rw [e1]
      · exact nomatch e
    · rcases keyIs_shape hb with ⟨j, u, rfl, e⟩ | ⟨y, u, rfl, e⟩
      · exact nomatch e
      · injection e with e1 _; rw [e1]
  byValue := fun k v h => by
    rcases keyIs_shape h with ⟨i, t, rfl, rfl⟩ | ⟨x, t, rfl, rfl⟩ <;> rfl
  pyHash := fun hv h => by
    rcases keyIs_shape hv with ⟨i, t, rfl, rfl⟩ | ⟨x, t, rfl, rfl⟩
    · exact wpAny_pyHash_int h
    · exact wpAny_pyHash_str h
  eqBool := fun hu hv h => by
    rcases keyIs_shape hu with ⟨i, t, rfl, rfl⟩ | ⟨x, t, rfl, rfl⟩
    · rcases keyIs_shape hv with ⟨j, u, rfl, rfl⟩ | ⟨y, u, rfl, rfl⟩
      · rw [key_ll] at h; exact wpAny_eqBool_int h
      · rw [key_lr] at h; exact SeqAt.EqAt.int_str i t y u _ _ _ _ h
    · rcases keyIs_shape hv with ⟨j, u, rfl, rfl⟩ | ⟨y, u, rfl, rfl⟩
      · rw [key_rl] at h; exact SeqAt.EqAt.str_int x t j u _ _ _ _ h
      · rw [key_rr] at h; exact wpAny_eqBool_str h
  «strs» := fun k x t v h => by
    rcases keyIs_shape h with ⟨i, u, rfl, e⟩ | ⟨y, u, rfl, e⟩
    · exact nomatch e
    · injection e with e1 _
      subst e1
      cases v <;> rfl

theorem mixKind_int (prog : Program) (w : World) (i : Int) (t : Tok) : (mixKind prog w).is (.inl i) (.int i t) = true := keyIs_int i t
theorem mixKind_str (prog : Program) (w : World) (x : Str) (t : Tok) : (mixKind prog w).is (.inr x) (.str x t) = true := keyIs_str x t
end L2

namespace L2
open PySem PySem.Spec PyProof.Rows

/-- a value, without the heap -/
inductive V where
  | non | bl (b : Bool) | int (i : Int) | str (x : Str) | byt (b : Array UInt8) | flt (b : UInt64) | ref (a : Addr) | ty (n : String)
  deriving DecidableEq

noncomputable def RelV : V → Value → Prop
  | .non, u => u = Value.none
  | .bl b, u => u = Value.bool b
  | .int i, u => ∃ t, u = Value.int i t
  | .str x, u => ∃ t, u = Value.str x t
  | .byt b, u => ∃ t, u = Value.bytes b t
  | .flt b, u => ∃ t, u = Value.float b t
  | .ref a, u => u = Value.ref a
  | .ty n, u => u = Value.type n

noncomputable abbrev Vals : List V → List Value → Prop := Paired RelV
theorem Vals.length {xs : List V} {us : List Value} (r : Vals xs us) : xs.length = us.length := Paired.length r
theorem Vals.get : ∀ {xs : List V} {us : List Value} {i : Nat} {x : V}, Vals xs us → xs[i]? = some x → ∃ u, us[i]? = some u ∧ RelV x u
  | _, _, _, _, .nil, e => by simp at e
  | _, _, 0, _, .cons r _, e => by simp at e; subst e; exact ⟨_, rfl, r⟩
  | _, _, i + 1, x, .cons _ t, e => by
    obtain ⟨u, h1, h2⟩ := Vals.get (i := i) (x := x) t (by simpa using e)
    exact ⟨u, by simpa using h1, h2⟩
theorem Vals.set {x : V} {u : Value} (r : RelV x u) : ∀ {xs : List V} {us : List Value} (i : Nat), Vals xs us → Vals (xs.set i x) (us.set i u)
  | _, _, _, .nil => .nil
  | _, _, 0, .cons _ t => .cons r t
  | _, _, i + 1, .cons q t => .cons q (Vals.set r i t)
theorem Vals.append : ∀ {xs ys : List V} {us ws : List Value}, Vals xs us → Vals ys ws → Vals (xs ++ ys) (us ++ ws)
  | _, _, _, _, .nil, s => s
  | _, _, _, _, .cons r t, s => .cons r (Vals.append t s)
theorem Vals.take : ∀ {xs : List V} {us : List Value} (n : Nat), Vals xs us → Vals (xs.take n) (us.take n)
  | _, _, 0, _ => .nil
  | _, _, _ + 1, .nil => .nil
  | _, _, n + 1, .cons r t => .cons r (Vals.take n t)
theorem Vals.drop : ∀ {xs : List V} {us : List Value} (n : Nat), Vals xs us → Vals (xs.drop n) (us.drop n)
  | _, _, 0, r => r
  | _, _, _ + 1, .nil => .nil
  | _, _, n + 1, .cons _ t => Vals.drop n t
noncomputable def RelO : Option V → Option Value → Prop
  | some v, some u => RelV v u
  | none, none => True
  | _, _ => False
noncomputable def KV {κ : Type} : List (κ × V) → List (κ × Value) → Prop := Paired fun (p : κ × V) (q : κ × Value) => p.1 = q.1 ∧ RelV p.2 q.2

/-- a key of a dict (00_mix): an int or a text -/
noncomputable def kV : Key → V
  | .inl i => .int i
  | .inr x => .str x

/-- what stands at a tracked address -/
inductive HO where
  /-- a list -/
  | lst (xs : List V)
  /-- a tuple (never changes) -/
  | tup (xs : List V)
  /-- a dict whose keys are ints and texts; one whose keys are tuples of ints and texts (the empty one is both) -/
  | dK (kvs : List (Key × V)) | dT (kvs : List (List Key × V))
  /-- a set of ints: its members, its size -/
  | set (S : Int → Bool) (n : Nat)
  /-- an instance of the class at C, its dict at dx, its attributes -/
  | ins (C dx : Addr) (fs : List (Str × V))
  /-- the dict of the instance at x -/
  | own (x : Addr)
  /-- the dict of an exception -/
  | xd (fs : List (Str × V))
  /-- a bound method, f of x -/
  | met (f x : Addr)
  /-- a range object lo, lo + 1, .. below hi -/
  | rng (lo hi : Int)
  /-- a thing that is known to the object (the script; a dict while a loop walks it): read, never written while it is so -/
  | frz (o : Obj) (u : HO)
  /-- a code object's table -/
  | tbl (ps : Array Value)
  /-- any other thing, by what is true of its one object (a def of one's own: SetO a S n := HO.ext fun h => ..) -/
  | ext (φ : Heap → Prop)

noncomputable abbrev Hp := Addr → Option HO
noncomputable def upd (H : Hp) (a : Addr) (o : HO) : Hp := fun b => if b = a then some o else H b
theorem upd_same {H : Hp} {a : Addr} {o : HO} : upd H a o a = some o := by unfold upd; rw [if_pos rfl]
theorem upd_ne {H : Hp} {a b : Addr} {o : HO} (h : b ≠ a) : upd H a o b = H b := by unfold upd; rw [if_neg h]
/-- two objects of different content stand apart -/
theorem ne_of {H : Hp} {a b : Addr} {o u : HO} (h : H a = some o) (h' : H b = some u) (d : o ≠ u) : a ≠ b := by
  intro e; subst e; rw [h] at h'; exact d (Option.some.inj h')
theorem ne_of_none {H : Hp} {a b : Addr} {o : HO} (h : H a = some o) (h' : H b = none) : a ≠ b := by
  intro e; subst e; rw [h] at h'; cases h'

section
variable (P : Program) (w : World)
noncomputable def ObjOk (H : Hp) (h : Heap) (a : Addr) : HO → Prop
  | .lst xs => xs.length ≤ sizeLine ∧ ∃ (its : List Value) (n : Nat), Vals xs its ∧ h.get? a = some { cls := .type "list", data := .seq its.toArray n }
  | .tup xs => xs.length ≤ sizeLine ∧ ∃ its : List Value, Vals xs its ∧ IsTup h a its.toArray
  | .dK kvs => kvs.length ≤ sizeLine ∧ (a == sysModules) = false ∧ ∃ vs, KV kvs vs ∧ h.DictOf (mixKind P w) a vs
  | .dT kvs => kvs.length ≤ sizeLine ∧ (a == sysModules) = false ∧ ∃ xs : List (List Key × Addr × Value),
      Paired (fun (p : List Key × V) (q : List Key × Addr × Value) => p.1 = q.1 ∧ H q.2.1 = some (.tup (p.1.map kV)) ∧ RelV p.2 q.2.2) kvs xs ∧
      ∃ o es ep, h.get? a = some o ∧ o.ExactDict ∧ o.data = .dict es ep ∧ es.toList = xs.map (entryOfKey (tupleKind (mixKind P w))) ∧ (xs.map (·.1)).Nodup
  | .set S n => h.SetOf (intKind P w) a S n
  | .ins C dx fs => H dx = some (.own a) ∧ fs.length ≤ 1000 ∧ dx ≠ a ∧ h.get? a = some (PySem.W.instObj C dx) ∧
      ∃ mA, h.Ns1 dx mA ∧ (∀ f, RelO (fs.lookup f) (mA f)) ∧ PySem.Within mA (fs.map (·.1))
  | .own _ => ∃ o, h.get? a = some o
  | .xd fs => ∃ mA, h.Ns1 a mA ∧ ∀ f, RelO (fs.lookup f) (mA f)
  | .rng lo hi => ∃ t u v, h.get? a = some { cls := .type "range", data := .fields #[.int lo t, .int hi u, .int 1 v] }
  | .frz o u => h.get? a = some o ∧ ObjOk H h a u
  | .tbl ps => h.get? a = some { cls := .none, data := .fields ps }
  | .met f x => h.get? a = some (PySem.W.methodObj (.ref f) (.ref x))
  | .ext φ => φ h ∧ (∃ o, h.get? a = some o) ∧ ∀ h1 h2 : Heap, φ h1 → (∀ o, h1.get? a = some o → h2.get? a = some o) → φ h2
/-- the abstract heap is held -/
noncomputable def HOk (H : Hp) (h : Heap) : Prop := ∀ a o, H a = some o → ObjOk P w H h a o
end

section
variable {P : Program} {w : World} {H H' : Hp} {h h' : Heap} {a : Addr} {o : HO}
theorem ObjOk.lt (x : ObjOk P w H h a o) : a < h.objs.size := by
  cases o with
  | lst xs => obtain ⟨_, _, _, _, e⟩ := x; exact Heap.lt_size e
  | tup xs => obtain ⟨_, _, _, p⟩ := x; exact p.lt
  | dK kvs => obtain ⟨_, _, _, _, o, _, _, e, _⟩ := x; exact Heap.lt_size e
  | dT kvs => obtain ⟨_, _, _, _, o, _, _, e, _⟩ := x; exact Heap.lt_size e
  | set S n => obtain ⟨o, _, _, _, e, _⟩ := x; exact Heap.lt_size e
  | ins C dx fs => obtain ⟨_, _, _, e, _⟩ := x; exact Heap.lt_size e
  | own y => obtain ⟨_, e⟩ := x; exact Heap.lt_size e
  | xd fs => obtain ⟨_, ⟨_, _, _, e, _⟩, _⟩ := x; exact Heap.lt_size e
  | rng lo hi => obtain ⟨_, _, _, e⟩ := x; exact Heap.lt_size e
  | frz ob u => obtain ⟨e, _⟩ := x; exact Heap.lt_size e
  | tbl ps => exact Heap.lt_size (show h.get? a = some _ from x)
  | met f y => exact Heap.lt_size (show h.get? a = some _ from x)
  | ext φ => obtain ⟨_, ⟨_, e⟩, _⟩ := x; exact Heap.lt_size e
theorem Paired.mapP {α β : Type} {F G : α → β → Prop} : ∀ {l₁ : List α} {l₂ : List β}, Paired F l₁ l₂ → (∀ a b, F a b → G a b) → Paired G l₁ l₂
  | _, _, .nil, _ => .nil
  | _, _, .cons r t, f => .cons (f _ _ r) (Paired.mapP t f)
/-- what an object's description leans on: its own object, its own dict, the tuples -/
theorem ObjOk.stay (x : ObjOk P w H h a o) (k : ∀ b u, (b = a ∨ H b = some (.own a)) → h.get? b = some u → h'.get? b = some u)
    (ho : ∀ b, H b = some (.own a) → H' b = some (.own a)) (ht : ∀ b xs, H b = some (.tup xs) → H' b = some (.tup xs)) : ObjOk P w H' h' a o := by
  induction o with
  | lst xs => obtain ⟨z, its, n, r, e⟩ := x; exact ⟨z, its, n, r, k _ _ (.inl rfl) e⟩
  | tup xs => obtain ⟨z, its, r, ob, e, c⟩ := x; exact ⟨z, its, r, ob, k _ _ (.inl rfl) e, c⟩
  | dK kvs => obtain ⟨z, y, vs, r, ob, es, ep, e, c⟩ := x; exact ⟨z, y, vs, r, ob, es, ep, k _ _ (.inl rfl) e, c⟩
  | dT kvs =>
    obtain ⟨z, y, xs, r, ob, es, ep, e, c⟩ := x
    exact ⟨z, y, xs, Paired.mapP r fun p q z => ⟨z.1, ht _ _ z.2.1, z.2.2⟩, ob, es, ep, k _ _ (.inl rfl) e, c⟩
  | set S n => obtain ⟨ob, es, ep, t, e, c⟩ := x; exact ⟨ob, es, ep, t, k _ _ (.inl rfl) e, c⟩
  | ins C dx fs =>
    obtain ⟨d, z, ne, e, mA, ⟨od, es, ep, e2, c⟩, r⟩ := x
    exact ⟨ho _ d, z, ne, k _ _ (.inl rfl) e, mA, ⟨od, es, ep, k _ _ (.inr d) e2, c⟩, r⟩
  | own y => obtain ⟨ob, e⟩ := x; exact ⟨ob, k _ _ (.inl rfl) e⟩
  | xd fs => obtain ⟨mA, ⟨od, es, ep, e, c⟩, r⟩ := x; exact ⟨mA, ⟨od, es, ep, k _ _ (.inl rfl) e, c⟩, r⟩
  | rng lo hi => obtain ⟨t, u, v, e⟩ := x; exact ⟨t, u, v, k _ _ (.inl rfl) e⟩
  | frz ob u ih => obtain ⟨e, q⟩ := x; exact ⟨k _ _ (.inl rfl) e, ih q⟩
  | tbl ps =>
    have e : h.get? a = some { cls := .none, data := .fields ps } := x
    show h'.get? a = some { cls := .none, data := .fields ps }
    exact k a _ (.inl rfl) e
  | met f y =>
    have e : h.get? a = some (PySem.W.methodObj (.ref f) (.ref y)) := x
    show h'.get? a = some (PySem.W.methodObj (.ref f) (.ref y))
    exact k a _ (.inl rfl) e
  | ext φ => obtain ⟨p, ⟨o, e⟩, st⟩ := x; exact ⟨st _ _ p fun o q => k _ _ (.inl rfl) q, ⟨o, k _ _ (.inl rfl) e⟩, st⟩
theorem HOk.lt (x : HOk P w H h) (e : H a = some o) : a < h.objs.size := (x a o e).lt
theorem HOk.fresh (x : HOk P w H h) (e : h.objs.size ≤ a) : H a = none := by
  cases q : H a with
  | none => rfl
  | some u => exact absurd (Nat.lt_of_lt_of_le (x.lt q) e) (Nat.lt_irrefl _)
/-- every object of the heap is kept -/
theorem HOk.kept (x : HOk P w H h) (k : ∀ b u, h.get? b = some u → h'.get? b = some u) : HOk P w H h' := fun a o e =>
  (x a o e).stay (fun b u _ q => k b u q) (fun _ q => q) fun _ _ q => q
/-- a new object is laid and tracked -/
theorem HOk.laid (x : HOk P w H h) (k : ∀ b u, h.get? b = some u → h'.get? b = some u) (hp : h.objs.size ≤ a) (new : ObjOk P w (upd H a o) h' a o) : HOk P w (upd H a o) h' := fun b u e => by
  have hn := x.fresh hp
  by_cases hb : b = a
  · subst hb; rw [upd_same] at e; cases e; exact new
  · rw [upd_ne hb] at e
    exact (x b u e).stay (fun c v _ q => k c v q) (fun c q => by rw [upd_ne (ne_of_none q hn)]; exact q) fun c xs q => by rw [upd_ne (ne_of_none q hn)]; exact q
end

/-- what may be read as u: it is u, or a known u -/
noncomputable def Rd (H : Hp) (a : Addr) (u : HO) : Prop := H a = some u ∨ ∃ o, H a = some (.frz o u)
theorem Rd.ok {P : Program} {w : World} {H : Hp} {h : Heap} {a : Addr} {u : HO} (r : Rd H a u) (x : HOk P w H h) : ObjOk P w H h a u := by
  rcases r with r | ⟨o, r⟩
  · exact x a u r
  · obtain ⟨_, q⟩ := x a _ r
    exact q
/-- what may be written -/
noncomputable def Mut : Option HO → Prop
  | some (.lst _) => True
  | some (.dK _) => True
  | some (.dT _) => True
  | some (.set _ _) => True
  | some (.ins _ _ _) => True
  | some (.ext _) => True
  | _ => False
section
variable {P : Program} {w : World} {H : Hp} {h h' : Heap} {x e : Addr} {o' : HO}
/-- the object at e is changed: x itself, or the dict of the instance x -/
theorem HOk.write (ok : HOk P w H h) (mu : Mut (H x)) (he : e = x ∨ H e = some (.own x)) (k : ∀ b u, b ≠ e → h.get? b = some u → h'.get? b = some u) (heo : ∃ u, h'.get? e = some u)
    (new : ObjOk P w (upd H x o') h' x o') : HOk P w (upd H x o') h' := fun b u q => by
  have nown : ∀ c y, H c = some (.own y) → c ≠ x := fun c y r z => by subst z; rw [r] at mu; exact mu
  have ntup : ∀ c xs, H c = some (.tup xs) → c ≠ x := fun c xs r z => by subst z; rw [r] at mu; exact mu
  by_cases hb : b = x
  · subst hb; rw [upd_same] at q; cases q; exact new
  · rw [upd_ne hb] at q
    by_cases hbe : b = e
    · have q' : H b = some (.own x) := by
        rcases he with z | z
        · exact absurd (hbe.trans z) hb
        · rw [hbe]; exact z
      rw [q] at q'; cases q'
      obtain ⟨v, hv⟩ := heo
      exact ⟨v, by rw [hbe]; exact hv⟩
    · refine (ok b u q).stay (fun c v hc r => k c v ?_ r) (fun c r => by rw [upd_ne (nown c b r)]; exact r) fun c xs r => by rw [upd_ne (ntup c xs r)]; exact r
      rcases hc with rfl | hc
      · exact hbe
      · rintro rfl
        rcases he with z | z
        · exact nown c b hc z
        · rw [hc] at z; cases z; exact hb rfl
end

/-! ### kept unless tracked; of the frames at fs (the callers') the slots may change (an exception that passes writes there); of the records at ex (iterators) nothing is said -/
structure Un (fs ex : List Addr) (H H' : Hp) (h h' : Heap) : Prop where
  keep : ∀ b o, h.get? b = some o → H b = none → b ∉ fs → b ∉ ex → h'.get? b = some o
  slot : ∀ b o, h.get? b = some o → H b = none → b ∈ fs → b ∉ ex → ∃ sl, h'.get? b = some { o with slots := sl }
  free : ∀ b o, h.get? b = some o → H b = none → b ∉ ex → H' b = none
  there : ∀ b o, h.get? b = some o → b ∉ ex → ∃ o', h'.get? b = some o'
  tups : ∀ b xs, H b = some (.tup xs) → H' b = some (.tup xs)
  frzs : ∀ b o u, H b = some (.frz o u) → H' b = some (.frz o u)
  tbls : ∀ b ps, H b = some (.tbl ps) → ∃ more, H' b = some (.tbl (ps ++ more))
section
variable {fs fs' ex ex' : List Addr} {H H1 H2 : Hp} {h h1 h2 h' : Heap} {a x e : Addr} {o : HO}
theorem Un.any (u : Un fs ex H H1 h h1) {b : Addr} {ob : Obj} (q : h.get? b = some ob) (n : H b = none) (hx : b ∉ ex) : ∃ sl, h1.get? b = some { ob with slots := sl } := by
  by_cases hb : b ∈ fs
  · exact u.slot b ob q n hb hx
  · exact ⟨ob.slots, u.keep b ob q n hb hx⟩
theorem Un.kept (k : ∀ b u, h.get? b = some u → h'.get? b = some u) : Un fs ex H H h h' :=
  ⟨fun b ob q _ _ _ => k b ob q, fun b ob q _ _ _ => ⟨ob.slots, k b ob q⟩, fun _ _ _ n _ => n, fun b ob q _ => ⟨ob, k b ob q⟩, fun _ _ q => q, fun _ _ _ q => q, fun _ ps q => ⟨#[], by rw [q]; simp⟩⟩
theorem Un.refl : Un fs ex H H h h := Un.kept fun _ _ q => q
theorem Un.laid (k : ∀ b u, h.get? b = some u → h'.get? b = some u) (hp : h.objs.size ≤ a) (hn : H a = none) : Un fs ex H (upd H a o) h h' where
  keep := fun b u q _ _ _ => k b u q
  slot := fun b u q _ _ _ => ⟨u.slots, k b u q⟩
  free := fun b u q n _ => by rw [upd_ne (Nat.ne_of_lt (Nat.lt_of_lt_of_le (Heap.lt_size q) hp))]; exact n
  there := fun b u q _ => ⟨u, k b u q⟩
  tups := fun b xs q => by rw [upd_ne (ne_of_none q hn)]; exact q
  frzs := fun b u xs q => by rw [upd_ne (ne_of_none q hn)]; exact q
  tbls := fun b ps q => ⟨#[], by rw [upd_ne (ne_of_none q hn), q]; simp⟩
theorem Un.write (mu : Mut (H x)) (he : e = x ∨ H e = some (.own x)) (k : ∀ b u, b ≠ e → h.get? b = some u → h'.get? b = some u) (heo : ∃ u, h'.get? e = some u) : Un fs ex H (upd H x o) h h' := by
  have hx : ∀ b, H b = none → b ≠ x := fun b n z => by subst z; rw [n] at mu; exact mu
  have hb : ∀ b, H b = none → b ≠ e := fun b n z => by
    subst z
    rcases he with r | r
    · exact hx b n r
    · rw [n] at r; cases r
  have hm : ∀ b u, H b = some u → ¬ Mut (some u) → b ≠ x := fun b u q nm z => by subst z; rw [q] at mu; exact nm mu
  refine ⟨fun b u q n _ _ => k b u (hb b n) q, fun b u q n _ _ => ⟨u.slots, k b u (hb b n) q⟩, fun b u q n _ => by rw [upd_ne (hx b n)]; exact n, fun b u q _ => ?_,
    fun b xs q => by rw [upd_ne (hm b _ q fun z => z)]; exact q, fun b u xs q => by rw [upd_ne (hm b _ q fun z => z)]; exact q, fun b ps q => ⟨#[], by rw [upd_ne (hm b _ q fun z => z), q]; simp⟩⟩
  by_cases hbe : b = e
  · subst hbe; exact heo
  · exact ⟨u, k b u hbe q⟩
end

/-! ### the heap without what is tracked -/
noncomputable def trk (h : Heap) (H : Hp) : List Addr := (List.range h.objs.size).filter fun a => (H a).isSome
noncomputable def hidT (h : Heap) (H : Hp) : Heap := PySem.W.hideAll h (trk h H)
theorem hidT_size (h : Heap) (H : Hp) : (hidT h H).objs.size = h.objs.size := PySem.W.hideAll_size _ _
theorem hidT_get {h : Heap} {H : Hp} {b : Addr} {o : Obj} (e : h.get? b = some o) (n : H b = none) : (hidT h H).get? b = some o :=
  PySem.W.hideAll_get _ e fun hm => by
    have q : (H b).isSome = true := (List.mem_filter.mp hm).2
    rw [n] at q; simp at q
theorem of_hidT {h : Heap} {H : Hp} {b : Addr} {o : Obj} (e : (hidT h H).get? b = some o) : h.get? b = some o ∧ H b = none := by
  have e' : h.get? b = some o := PySem.W.of_hideAll (trk h H) e
  refine ⟨e', ?_⟩
  cases q : H b with
  | none => rfl
  | some x =>
    have hm : b ∈ trk h H := List.mem_filter.mpr ⟨List.mem_range.mpr (Heap.lt_size e'), by simp [q]⟩
    have z : (hidT h H).get? b = none := PySem.W.hideAll_none (trk h H) hm
    rw [z] at e; cases e

/-! ### OpenK's ledger, filled with every new object but one -/
noncomputable def allNews (g h : Heap) (L : Addr) : List (Addr × Obj) := (List.range h.objs.size).filterMap fun a => if a = L ∨ (g.get? a).isSome = true then none else (h.get? a).map fun o => (a, o)
noncomputable def rest (g h : Heap) (L d : Addr) : List (Addr × Obj) := (allNews g h L).filter fun p => decide (p.1 ≠ d)
end L2

namespace L2
open PySem PySem.Spec PyProof.Rows

/-- the module's facts, over the base: the heap at the law's entry without what is tracked there -/
structure Mod (K : PySem.W.Frag) (mg : Str → Option Value) (base : Heap) : Prop where
  kin : K.In base
  glob : base.Ns mainGlobals mg
  blt : ∃ mb, base.Ns builtinsNs mb ∧ ∀ x : Str, x ≠ "__name__" → mb x = bootBuiltins x
  nolimit : base.NoLimit

/-- the context: a def's body (or a comprehension's block) running. base: fixed through the whole law; s₀, H₀: the entry; outer: the frames whose slots others may change (a def's callers); stack: all frames that run;
   ex: iterators that were made ahead of the entry and are walked here (a comprehension's); fn: the names whose cells were made at the entry (a def: all; a comprehension's block: its own); calm: not within an except suite; pn: pins that every state bears; xe: what is wanted of an exception that leaves the code -/
structure Cx where
  prog : Program
  w : World
  K : PySem.W.Frag
  mg : Str → Option Value
  base : Heap
  A : Around
  N : List Str
  s₀ : Shared
  H₀ : Hp
  env : Env
  outer : List Env
  stack : List Env
  ex : List Addr
  fn : Str → Bool
  calm : Bool
  pn : List (Addr × Obj)
  xe : Value → Shared → Prop
/-- the callers' frames -/
noncomputable def frs (l : List Env) : List Addr := l.filterMap (·.frame)
noncomputable abbrev Cx.fs (X : Cx) : List Addr := frs X.outer

noncomputable def Vis (sc : Scope) (x : Str) : Prop := sc.names.lookup x = some .local ∨ sc.names.lookup x = some .cell ∨ sc.names.lookup x = some .free
noncomputable def Loc (sc : Scope) (x : Str) : Prop := sc.names.lookup x = some .local ∨ sc.names.lookup x = some .cell
noncomputable def Look (env : Env) (h : Heap) (m : Str → Option Value) (x : Str) (u : Value) : Prop :=
  (env.kindOf x = some .local ∧ m x = some u) ∨ ((env.kindOf x = some .cell ∨ env.kindOf x = some .free) ∧ ∃ c, env.cells.lookup x = some c ∧ h.IsCell c (some u))

structure Cx.Ok (X : Cx) : Prop where
  mod : Mod X.K X.mg X.base
  kind : X.env.scope.kind = .function
  glob : X.env.globals = mainGlobals
  blt : X.env.builtins = builtinsNs
  above : X.s₀.heap.objs.size ≤ X.env.locals
  inj : ∀ x y c, X.env.cells.lookup x = some c → X.env.cells.lookup y = some c → x = y
  has : ∀ x, (X.env.kindOf x = some .cell ∨ X.env.kindOf x = some .free) → ∃ c, X.env.cells.lookup x = some c
  cab : ∀ x c, X.fn x = true → X.env.cells.lookup x = some c → X.s₀.heap.objs.size ≤ c
  hd : X.calm = true → X.A.handled = none
  frames : X.A.frames = some X.stack
  stk : X.stack = X.outer ∨ (X.stack = X.env :: X.outer ∧ X.env.frame = some X.env.locals)
  exf : ∀ b ∈ X.ex, b ≠ X.env.locals ∧ ∀ x c, X.env.cells.lookup x = some c → c ≠ b
  bs : ∀ b o, X.base.get? b = some o → X.s₀.heap.get? b = some o ∧ X.H₀ b = none
  bsz : X.base.objs.size ≤ X.s₀.heap.objs.size
  noex : ∀ b o, X.base.get? b = some o → b ∉ X.ex
  exfs : ∀ b ∈ X.ex, b ∉ X.fs
  funs : X.s₀.heap.FunFrames X.base X.outer
  frf : ∀ b ∈ X.fs, X.H₀ b = none

structure Inv (X : Cx) (pins : List (Addr × Obj)) (σ : List (Option V)) (H : Hp) (s : Shared) : Prop where
  ok : X.Ok
  os : s.os = X.s₀.os
  bare : AllBare s.gens
  base : Un X.fs X.ex X.H₀ H X.s₀.heap s.heap
  loc : ∃ m, s.heap.Ns X.env.locals m ∧ ∀ (i : Nat) (x : Str) (v : V), X.N[i]? = some x → σ[i]? = some (some v) → Vis X.env.scope x → ∃ u, RelV v u ∧ Look X.env s.heap m x u
  cell : ∀ x c, X.env.cells.lookup x = some c → ∃ v, s.heap.IsCell c v
  free : H X.env.locals = none
  freeC : ∀ x c, X.env.cells.lookup x = some c → H c = none
  pin : ∀ p ∈ X.pn ++ pins, s.heap.get? p.1 = some p.2 ∧ H p.1 = none ∧ p.1 ≠ X.env.locals ∧ p.1 ∉ X.fs ∧ ∀ v, p.2.data ≠ .cell v
  hok : HOk X.prog X.w H s.heap
  len : σ.length = X.N.length

section
variable {X : Cx} {pins : List (Addr × Obj)} {σ : List (Option V)} {H H' : Hp} {s : Shared} {h' : Heap}

theorem Cx.Ok.nofr (ok : X.Ok) {b : Addr} {o : Obj} (e : X.base.get? b = some o) : b ∉ X.fs := fun hb => by
  have := (ok.funs.mem hb).1
  rw [e] at this; cases this
theorem Inv.bs (I : Inv X pins σ H s) : ∀ b o, X.base.get? b = some o → s.heap.get? b = some o ∧ H b = none := fun b o e =>
  ⟨I.base.keep b o (I.ok.bs b o e).1 (I.ok.bs b o e).2 (I.ok.nofr e) (I.ok.noex b o e), I.base.free b o (I.ok.bs b o e).1 (I.ok.bs b o e).2 (I.ok.noex b o e)⟩
theorem Inv.bk (I : Inv X pins σ H s) : ∀ b o, X.base.get? b = some o → s.heap.get? b = some o := fun b o e => (I.bs b o e).1
theorem Inv.mod (I : Inv X pins σ H s) : Mod X.K X.mg X.base := I.ok.mod
theorem Inv.kIn (I : Inv X pins σ H s) : X.K.In s.heap := I.ok.mod.kin.keeps I.bk
theorem Inv.lt (I : Inv X pins σ H s) : X.env.locals < s.heap.objs.size := let ⟨_, hn, _⟩ := I.loc; hn.lt
theorem Inv.sz (I : Inv X pins σ H s) : X.s₀.heap.objs.size ≤ s.heap.objs.size := Nat.le_trans I.ok.above (Nat.le_of_lt I.lt)
theorem Inv.nofs (I : Inv X pins σ H s) {a : Addr} (h : s.heap.objs.size ≤ a) : a ∉ X.fs := fun hb => by
  obtain ⟨_, o, ho, _⟩ := I.ok.funs.mem hb
  exact absurd (Nat.lt_of_lt_of_le (Heap.lt_size ho) (Nat.le_trans I.sz h)) (Nat.lt_irrefl _)
theorem Inv.cne (I : Inv X pins σ H s) : ∀ x c, X.env.cells.lookup x = some c → c ≠ X.env.locals := fun x c e z => by
  obtain ⟨v, o, ho, hd⟩ := I.cell x c e
  obtain ⟨m, ⟨o', es, ep, ho', hd', _⟩, _⟩ := I.loc
  rw [z, ho'] at ho; cases ho; rw [hd'] at hd; cases hd
theorem Inv.funs (I : Inv X pins σ H s) : s.heap.FunFrames X.base X.outer := by
  have all : ∀ (l : List Env), (∀ b ∈ frs l, b ∈ X.fs) → X.s₀.heap.FunFrames X.base l → s.heap.FunFrames X.base l := by
    intro l
    induction l with
    | nil => intro _ _; trivial
    | cons env r ih =>
      intro hs hl
      obtain ⟨hk, ⟨L, o, hf, hn, ho, hd⟩, hr⟩ := hl
      have hL : L ∈ X.fs := hs L (by unfold frs; rw [List.filterMap_cons, hf]; exact List.mem_cons_self)
      obtain ⟨sl, e⟩ := I.base.slot L o ho (I.ok.frf L hL) hL fun z => I.ok.exfs L z hL
      exact ⟨hk, ⟨L, _, hf, hn, e, hd⟩, ih (fun b hb => hs b (by unfold frs; rw [List.filterMap_cons, hf]; exact List.mem_cons_of_mem _ hb)) hr⟩
  exact all X.outer (fun _ hb => hb) I.ok.funs

/-- the frames that run, for a call -/
theorem Inv.stack (I : Inv X pins σ H s) : s.heap.FunFrames X.base X.stack := by
  rcases I.ok.stk with e | ⟨e, hf⟩
  · rw [e]; exact I.funs
  · rw [e]
    obtain ⟨m, hn, _⟩ := I.loc
    refine .cons (by rw [I.ok.kind]; decide) hf hn ?_ I.funs
    exact Heap.get?_none_of_le (Nat.le_trans I.ok.bsz I.ok.above)
theorem Inv.stkSub (I : Inv X pins σ H s) : ∀ b ∈ frs X.stack, b ∈ X.env.locals :: X.fs := fun b hb => by
  rcases I.ok.stk with e | ⟨e, hf⟩
  · rw [e] at hb; exact List.mem_cons_of_mem _ hb
  · rw [e] at hb
    unfold frs at hb
    rw [List.filterMap_cons, hf] at hb
    exact hb
theorem Inv.stkFree (I : Inv X pins σ H s) : ∀ b ∈ frs X.stack, H b = none := fun b hb => by
  rcases List.mem_cons.mp (I.stkSub b hb) with e | hb
  · rw [e]; exact I.free
  · obtain ⟨_, o, ho, _⟩ := I.ok.funs.mem hb
    exact I.base.free b o ho (I.ok.frf b hb) fun z => I.ok.exfs b z hb

/-- THE STEP: the untracked objects but the frame and the records at ch are kept (the callers' frames up to slots), the frame's map is kept, the new abstract heap is held -/
theorem Inv.step {g' : Array GenState} {t' : Nat} {d' : Drawn} {ch : List Addr} (I : Inv X pins σ H s)
    (hch : ∀ b ∈ ch, (b ∈ X.ex ∨ X.s₀.heap.objs.size ≤ b) ∧ b ≠ X.env.locals ∧ (∀ x c, X.env.cells.lookup x = some c → c ≠ b) ∧ ∀ p ∈ X.pn ++ pins, p.1 ≠ b)
    (keep : ∀ b o, b ≠ X.env.locals → b ∉ X.fs → b ∉ ch → s.heap.get? b = some o → H b = none → h'.get? b = some o)
    (slot : ∀ b o, b ≠ X.env.locals → b ∈ X.fs → b ∉ ch → s.heap.get? b = some o → H b = none → ∃ sl, h'.get? b = some { o with slots := sl }) (free : ∀ b o, b ∉ ch → s.heap.get? b = some o → H b = none → H' b = none)
    (there : ∀ b o, b ∉ ch → s.heap.get? b = some o → ∃ o', h'.get? b = some o')
    (tups : ∀ b xs, H b = some (.tup xs) → H' b = some (.tup xs)) (frzs : ∀ b o u, H b = some (.frz o u) → H' b = some (.frz o u)) (tbls : ∀ b ps, H b = some (.tbl ps) → ∃ more, H' b = some (.tbl (ps ++ more)))
    (ns : ∀ m, s.heap.Ns X.env.locals m → h'.Ns X.env.locals m) (hok : HOk X.prog X.w H' h') (hg : AllBare g') :
    Inv X pins σ H' { s with heap := h', gens := g', drawn := d', toks := t' } := by
  have neL : ∀ b o, X.s₀.heap.get? b = some o → b ≠ X.env.locals := fun b o e => Nat.ne_of_lt (Nat.lt_of_lt_of_le (Heap.lt_size e) I.ok.above)
  have neC : ∀ b o, X.s₀.heap.get? b = some o → b ∉ X.ex → b ∉ ch := fun b o e hx hb => by
    rcases (hch b hb).1 with z | z
    · exact hx z
    · exact absurd (Nat.lt_of_lt_of_le (Heap.lt_size e) z) (Nat.lt_irrefl _)
  have cellK : ∀ x c, X.env.cells.lookup x = some c → ∀ v, s.heap.IsCell c v → h'.IsCell c v := fun x c e v ⟨o, ho, hd⟩ => by
    have nch : c ∉ ch := fun z => (hch c z).2.2.1 x c e rfl
    by_cases hc : c ∈ X.fs
    · obtain ⟨sl, q⟩ := slot c o (I.cne x c e) hc nch ho (I.freeC x c e)
      exact ⟨_, q, hd⟩
    · exact ⟨o, keep c o (I.cne x c e) hc nch ho (I.freeC x c e), hd⟩
  refine ⟨I.ok, I.os, hg, ⟨fun b o e n hb hx => ?_, fun b o e n hb hx => ?_, fun b o e n hx => ?_, fun b o e hx => ?_, fun b xs e => tups b xs (I.base.tups b xs e), fun b o xs e => frzs b o xs (I.base.frzs b o xs e), fun b ps e => ?_⟩, ?_, fun x c e => ?_, ?_, fun x c e => ?_, fun p hp => ?_, hok, I.len⟩
  · exact keep b o (neL b o e) hb (neC b o e hx) (I.base.keep b o e n hb hx) (I.base.free b o e n hx)
  · obtain ⟨sl, e1⟩ := I.base.slot b o e n hb hx
    obtain ⟨sl', e2⟩ := slot b _ (neL b o e) hb (neC b o e hx) e1 (I.base.free b o e n hx)
    exact ⟨sl', e2⟩
  · obtain ⟨o', e1⟩ := I.base.there b o e hx
    exact free b o' (neC b o e hx) e1 (I.base.free b o e n hx)
  · obtain ⟨o', e1⟩ := I.base.there b o e hx
    exact there b o' (neC b o e hx) e1
  · obtain ⟨m1, e1⟩ := I.base.tbls b ps e
    obtain ⟨m2, e2⟩ := tbls b _ e1
    exact ⟨m1 ++ m2, by rw [e2, Array.append_assoc]⟩
  · obtain ⟨m, hn, hl⟩ := I.loc
    refine ⟨m, ns m hn, fun i x v e1 e2 e3 => ?_⟩
    obtain ⟨u, r, l⟩ := hl i x v e1 e2 e3
    refine ⟨u, r, ?_⟩
    rcases l with l | ⟨k, c, e, z⟩
    · exact .inl l
    · exact .inr ⟨k, c, e, cellK x c e _ z⟩
  · obtain ⟨v, z⟩ := I.cell x c e
    exact ⟨v, cellK x c e v z⟩
  · obtain ⟨m, ⟨o, _, _, ho, _⟩, _⟩ := I.loc
    exact free _ o (fun z => (hch _ z).2.1 rfl) ho I.free
  · obtain ⟨v, o, ho, hd⟩ := I.cell x c e
    exact free c o (fun z => (hch c z).2.2.1 x c e rfl) ho (I.freeC x c e)
  · obtain ⟨e, n, ne, nf, d⟩ := I.pin p hp
    have nch : p.1 ∉ ch := fun z => (hch p.1 z).2.2.2 p hp rfl
    exact ⟨keep p.1 p.2 ne nf nch e n, free p.1 p.2 nch e n, ne, nf, d⟩
/-- .. where the frame's own object is kept too -/
theorem Inv.un {t' : Nat} (I : Inv X pins σ H s) (u : Un X.fs [] H H' s.heap h') (hok : HOk X.prog X.w H' h') : Inv X pins σ H' { s with heap := h', toks := t' } := by
  obtain ⟨m, ⟨o, es, ep, ho, r⟩, _⟩ := id I.loc
  obtain ⟨sl, hL⟩ := u.any ho I.free (by simp)
  exact I.step (g' := s.gens) (d' := s.drawn) (ch := []) (fun _ z => nomatch z) (fun b o _ hb _ e n => u.keep b o e n hb (by simp)) (fun b o _ hb _ e n => u.slot b o e n hb (by simp)) (fun b o _ e n => u.free b o e n (by simp)) (fun b o _ e => u.there b o e (by simp)) u.tups u.frzs u.tbls (fun m' hm => by
    obtain ⟨o', es', ep', ho', r'⟩ := hm
    rw [ho] at ho'; cases ho'
    exact ⟨_, es', ep', hL, r'⟩) hok I.bare
/-- behind a call (or a comprehension's block): the slots of this frame may have changed too, the records at ch may have turned -/
theorem Inv.call {g' : Array GenState} {t' : Nat} {d' : Drawn} {ch : List Addr} (I : Inv X pins σ H s) (u : Un (frs X.stack) ch H H' s.heap h') (hok : HOk X.prog X.w H' h') (hg : AllBare g')
    (hch : ∀ b ∈ ch, (b ∈ X.ex ∨ X.s₀.heap.objs.size ≤ b) ∧ b ≠ X.env.locals ∧ (∀ x c, X.env.cells.lookup x = some c → c ≠ b) ∧ ∀ p ∈ X.pn ++ pins, p.1 ≠ b) :
    Inv X pins σ H' { s with heap := h', gens := g', drawn := d', toks := t' } := by
  obtain ⟨m, ⟨o, es, ep, ho, r⟩, _⟩ := id I.loc
  obtain ⟨sl, hL⟩ := u.any ho I.free fun z => (hch _ z).2.1 rfl
  exact I.step (ch := ch) hch (fun b o hL hb hc e n => u.keep b o e n (fun z => (List.mem_cons.mp (I.stkSub b z)).elim hL hb) hc) (fun b o _ _ hc e n => u.any e n hc) (fun b o hc e n => u.free b o e n hc) (fun b o hc e => u.there b o e hc) u.tups u.frzs u.tbls (fun m' hm => by
    obtain ⟨o', es', ep', ho', r'⟩ := hm
    rw [ho] at ho'; cases ho'
    exact ⟨_, es', ep', hL, r'⟩) hok hg
/-- an untracked record of ours (an iterator) has turned -/
theorem Inv.turned {t' : Nat} {it : Addr} (I : Inv X pins σ H s) (k : ∀ b o, b ≠ it → s.heap.get? b = some o → h'.get? b = some o) (hn : H it = none) (hL : it ≠ X.env.locals)
    (h1 : it ∈ X.ex ∨ X.s₀.heap.objs.size ≤ it) (h2 : ∀ x c, X.env.cells.lookup x = some c → c ≠ it) (h3 : ∀ p ∈ X.pn ++ pins, p.1 ≠ it) : Inv X pins σ H { s with heap := h', toks := t' } := by
  have nit : ∀ b u, H b = some u → b ≠ it := fun b u e z => by rw [z, hn] at e; cases e
  refine I.step (g' := s.gens) (d' := s.drawn) (ch := [it]) (fun b hb => ?_) (fun b o _ _ hc e _ => k b o (fun z => hc (by simp [z])) e) (fun b o _ _ hc e _ => ⟨o.slots, k b o (fun z => hc (by simp [z])) e⟩) (fun _ _ _ _ n => n)
    (fun b o hc e => ⟨o, k b o (fun z => hc (by simp [z])) e⟩) (fun _ _ e => e) (fun _ _ _ e => e) (fun b ps e => ⟨#[], by rw [e]; simp⟩) (fun m hm => ?_) (fun b u e => ?_) I.bare
  · have e : b = it := by simpa using hb
    subst e
    exact ⟨h1, hL, h2, h3⟩
  · obtain ⟨o, es, ep, ho, r⟩ := hm
    exact ⟨o, es, ep, k _ o (Ne.symm hL) ho, r⟩
  · refine (I.hok b u e).stay (fun c v hc q => k c v ?_ q) (fun _ q => q) fun _ _ q => q
    rcases hc with z | z
    · rw [z]; exact nit b u e
    · exact nit c _ z
theorem Inv.tok (I : Inv X pins σ H s) (t : Nat) : Inv X pins σ H { s with toks := t } := I.un (h' := s.heap) (t' := t) Un.refl I.hok
/-- all objects kept -/
theorem Inv.kept {t' : Nat} (I : Inv X pins σ H s) (k : ∀ b u, s.heap.get? b = some u → h'.get? b = some u) : Inv X pins σ H { s with heap := h', toks := t' } := I.un (Un.kept k) (I.hok.kept k)
/-- a new object laid and tracked -/
theorem Inv.laid {a : Addr} {o : HO} {t' : Nat} (I : Inv X pins σ H s) (k : ∀ b u, s.heap.get? b = some u → h'.get? b = some u) (hp : s.heap.objs.size ≤ a) (new : ObjOk X.prog X.w (upd H a o) h' a o) :
    Inv X pins σ (upd H a o) { s with heap := h', toks := t' } := I.un (Un.laid k hp (I.hok.fresh hp)) (I.hok.laid k hp new)
/-- an object written -/
theorem Inv.write {x e : Addr} {o : HO} {t' : Nat} (I : Inv X pins σ H s) (mu : Mut (H x)) (he : e = x ∨ H e = some (.own x)) (k : ∀ b u, b ≠ e → s.heap.get? b = some u → h'.get? b = some u) (heo : ∃ u, h'.get? e = some u)
    (new : ObjOk X.prog X.w (upd H x o) h' x o) : Inv X pins σ (upd H x o) { s with heap := h', toks := t' } := I.un (Un.write mu he k heo) (I.hok.write mu he k heo new)
theorem Inv.pins_of {pins' : List (Addr × Obj)} (I : Inv X pins σ H s) (h : ∀ p ∈ pins', s.heap.get? p.1 = some p.2 ∧ H p.1 = none ∧ p.1 ≠ X.env.locals ∧ p.1 ∉ X.fs ∧ ∀ v, p.2.data ≠ .cell v) : Inv X pins' σ H s :=
  ⟨I.ok, I.os, I.bare, I.base, I.loc, I.cell, I.free, I.freeC, fun p hp => (List.mem_append.mp hp).elim (fun z => I.pin p (List.mem_append_left _ z)) (h p), I.hok, I.len⟩

theorem nodup_ix {N : List Str} (hN : N.Nodup) {i j : Nat} {x : Str} (a : N[i]? = some x) (b : N[j]? = some x) : i = j := by
  obtain ⟨h1, e1⟩ := List.getElem?_eq_some_iff.mp a
  obtain ⟨h2, e2⟩ := List.getElem?_eq_some_iff.mp b
  exact (List.getElem_inj hN).mp (e1.trans e2.symm)

/-- a name is stored; what changed -/
theorem store_ok2 {M : Model} {A : Around} {E : Value → Shared → Prop} {i : Nat} {x : Str} {v : V} {u : Value} {Q : Unit → Shared → Prop} (I : Inv X pins σ H s) (hN : X.N.Nodup) (hi : X.N[i]? = some x) (hx : Loc X.env.scope x) (r : RelV v u)
    (h : ∀ s', Inv X pins (σ.set i (some v)) H s' → (∃ a, Heap.SameBut a s.heap s'.heap ∧ (a = X.env.locals ∨ X.env.cells.lookup x = some a)) → Q () s') (hf : X.fn x = true ∨ X.env.scope.names.lookup x = some .local := by first | exact .inl rfl | exact .inr rfl | assumption) : wpAny M A (storeName X.env x u) Q E s := by
  obtain ⟨m, hn, hl⟩ := id I.loc
  have hcls : (X.env.scope.kind == .class || (X.env.scope.kind == .module && X.env.locals != X.env.globals)) = false := by rw [I.ok.kind]; rfl
  have hiσ : i < σ.length := by rw [I.len]; exact (List.getElem?_eq_some_iff.mp hi).1
  have cne := I.cne
  have tracked : ∀ {a : Addr} {h' : Heap}, (∃ o, s.heap.get? a = some o ∧ H a = none) → Heap.SameBut a s.heap h' → HOk X.prog X.w H h' := fun {a h'} ha hs b ob e => by
    obtain ⟨_, _, hfree⟩ := ha
    refine (I.hok b ob e).stay (fun c w' hc q => (hs.2 c ?_).trans q) (fun _ q => q) fun _ _ q => q
    rintro rfl
    rcases hc with rfl | hc
    · rw [hfree] at e; cases e
    · rw [hfree] at hc; cases hc
  rcases hx with hk | hk
  · refine wpAny_storeName_local hk hn (fun h' hn' hs => ?_) hcls
    obtain ⟨oL, _, _, hoL, _⟩ := id hn
    refine h _ ⟨I.ok, I.os, I.bare, ⟨fun b o e n hb hx => ?_, fun b o e n hb hx => ?_, I.base.free, fun b o e hx => ?_, I.base.tups, I.base.frzs, I.base.tbls⟩, ⟨_, hn', fun j y v' e1 e2 e3 => ?_⟩, fun y c e => ?_, I.free, I.freeC, fun p hp => ?_, tracked ⟨oL, hoL, I.free⟩ hs, by simpa using I.len⟩ ⟨_, hs, .inl rfl⟩
    · exact (hs.2 b (Nat.ne_of_lt (Nat.lt_of_lt_of_le (Heap.lt_size e) I.ok.above))).trans (I.base.keep b o e n hb hx)
    · obtain ⟨sl, e1⟩ := I.base.slot b o e n hb hx
      exact ⟨sl, (hs.2 b (Nat.ne_of_lt (Nat.lt_of_lt_of_le (Heap.lt_size e) I.ok.above))).trans e1⟩
    · obtain ⟨o', e1⟩ := I.base.there b o e hx
      exact ⟨o', (hs.2 b (Nat.ne_of_lt (Nat.lt_of_lt_of_le (Heap.lt_size e) I.ok.above))).trans e1⟩
    · by_cases hj : j = i
      · subst hj
        rw [hi] at e1; cases e1
        rw [List.getElem?_set_self hiσ] at e2
        cases e2
        exact ⟨u, r, .inl ⟨hk, by simp⟩⟩
      · rw [List.getElem?_set_ne (Ne.symm hj)] at e2
        obtain ⟨u', r', q⟩ := hl j y v' e1 e2 e3
        refine ⟨u', r', ?_⟩
        rcases q with ⟨k, e⟩ | ⟨k, c, e, z⟩
        · refine .inl ⟨k, ?_⟩
          have : y ≠ x := fun e => hj (nodup_ix hN e1 (e ▸ hi))
          simp [this, e]
        · exact .inr ⟨k, c, e, z.sameBut hs (cne y c e)⟩
    · obtain ⟨w', z⟩ := I.cell y c e
      exact ⟨w', z.sameBut hs (cne y c e)⟩
    · obtain ⟨e, n, ne, nf, d⟩ := I.pin p hp
      exact ⟨(hs.2 p.1 ne).trans e, n, ne, nf, d⟩
  · have hfn : X.fn x = true := by
      rcases hf with z | z
      · exact z
      · rw [z] at hk; cases hk
    obtain ⟨c, hc⟩ := I.ok.has x (.inl hk)
    obtain ⟨w', z⟩ := I.cell x c hc
    refine wpAny_storeName_cell I.ok.kind hk hc z (fun h' hc' hs => ?_)
    obtain ⟨oc, hoc, hocd⟩ := id z
    refine h { s with heap := h' } ⟨I.ok, I.os, I.bare, ⟨fun b o e n hb hx => ?_, fun b o e n hb hx => ?_, I.base.free, fun b o e hx => ?_, I.base.tups, I.base.frzs, I.base.tbls⟩, ⟨m, hn.sameBut hs (Ne.symm (cne x c hc)), fun j y v' e1 e2 e3 => ?_⟩, fun y c' e => ?_, I.free, I.freeC, fun p hp => ?_, tracked ⟨oc, hoc, I.freeC x c hc⟩ hs, by simpa using I.len⟩ ⟨c, hs, .inr hc⟩
    · exact (hs.2 b (Nat.ne_of_lt (Nat.lt_of_lt_of_le (Heap.lt_size e) (I.ok.cab x c hfn hc)))).trans (I.base.keep b o e n hb hx)
    · obtain ⟨sl, e1⟩ := I.base.slot b o e n hb hx
      exact ⟨sl, (hs.2 b (Nat.ne_of_lt (Nat.lt_of_lt_of_le (Heap.lt_size e) (I.ok.cab x c hfn hc)))).trans e1⟩
    · obtain ⟨o', e1⟩ := I.base.there b o e hx
      exact ⟨o', (hs.2 b (Nat.ne_of_lt (Nat.lt_of_lt_of_le (Heap.lt_size e) (I.ok.cab x c hfn hc)))).trans e1⟩
    · by_cases hj : j = i
      · subst hj
        rw [hi] at e1; cases e1
        rw [List.getElem?_set_self hiσ] at e2
        cases e2
        exact ⟨u, r, .inr ⟨.inl hk, c, hc, hc'⟩⟩
      · rw [List.getElem?_set_ne (Ne.symm hj)] at e2
        obtain ⟨u', r', q⟩ := hl j y v' e1 e2 e3
        refine ⟨u', r', ?_⟩
        rcases q with q | ⟨k, c', e, z'⟩
        · exact .inl q
        · refine .inr ⟨k, c', e, z'.sameBut hs ?_⟩
          rintro rfl
          exact hj (nodup_ix hN e1 (I.ok.inj _ _ _ e hc ▸ hi))
    · by_cases hcc : c' = c
      · subst hcc; exact ⟨_, hc'⟩
      · obtain ⟨w2, z2⟩ := I.cell y c' e
        exact ⟨w2, z2.sameBut hs hcc⟩
    · obtain ⟨e, n, ne, nf, d⟩ := I.pin p hp
      refine ⟨(hs.2 p.1 ?_).trans e, n, ne, nf, d⟩
      intro q
      rw [q, hoc] at e
      have q' : oc = p.2 := Option.some.inj e
      exact d w' (by rw [← q']; exact hocd)
theorem store_ok {M : Model} {A : Around} {E : Value → Shared → Prop} {i : Nat} {x : Str} {v : V} {u : Value} {Q : Unit → Shared → Prop} (I : Inv X pins σ H s) (hN : X.N.Nodup) (hi : X.N[i]? = some x) (hx : Loc X.env.scope x) (r : RelV v u)
    (h : ∀ s', Inv X pins (σ.set i (some v)) H s' → Q () s') (hf : X.fn x = true ∨ X.env.scope.names.lookup x = some .local := by first | exact .inl rfl | exact .inr rfl | assumption) : wpAny M A (storeName X.env x u) Q E s :=
  store_ok2 I hN hi hx r (fun s' I' _ => h s' I') hf
/-- behind a call or a block, the state as it is -/
theorem Inv.call' {s' : Shared} {ch : List Addr} (I : Inv X pins σ H s) (ho : s'.os = s.os) (u : Un (frs X.stack) ch H H' s.heap s'.heap) (hok : HOk X.prog X.w H' s'.heap) (hg : AllBare s'.gens)
    (hch : ∀ b ∈ ch, (b ∈ X.ex ∨ X.s₀.heap.objs.size ≤ b) ∧ b ≠ X.env.locals ∧ (∀ x c, X.env.cells.lookup x = some c → c ≠ b) ∧ ∀ p ∈ X.pn ++ pins, p.1 ≠ b) : Inv X pins σ H' s' := by
  obtain ⟨h', g', d', t', o'⟩ := s'
  have e : o' = s.os := ho
  subst e
  exact I.call (g' := g') (t' := t') (d' := d') u hok hg hch
end

/-! ### the judgements -/
/-- an exception: its class, its own dict's address (where it has one), the abstract heap behind it -/
noncomputable abbrev XK := Value → Option Addr → Hp → Prop
noncomputable abbrev St := List (Option V)
noncomputable abbrev VK := V → Hp → Prop
/-- an expression's reading; a test's; an argument list's -/
noncomputable abbrev TE := St → Hp → VK → Prop
noncomputable abbrev TT := St → Hp → (Bool → Hp → Prop) → Prop
noncomputable abbrev TA := St → Hp → (List V → Hp → Prop) → Prop
/-- what is wanted behind a statement -/
structure Ends where
  nx : St → Hp → Prop
  rt : VK
  bk : St → Hp → Prop := fun _ _ => False
  ct : St → Hp → Prop := fun _ _ => False
noncomputable abbrev TS := Ends → St → Hp → Prop

noncomputable def EP (X : Cx) (pins : List (Addr × Obj)) (σ : St) (Q : VK) (u : Value) (s' : Shared) : Prop := ∃ v H', Inv X pins σ H' s' ∧ RelV v u ∧ Q v H'
noncomputable def TP (X : Cx) (pins : List (Addr × Obj)) (σ : St) (Q : Bool → Hp → Prop) (b : Bool) (s' : Shared) : Prop := ∃ H', Inv X pins σ H' s' ∧ Q b H'
noncomputable def AP (X : Cx) (pins : List (Addr × Obj)) (σ : St) (Q : List V → Hp → Prop) (us : List Value) (s' : Shared) : Prop := ∃ vs H', Inv X pins σ H' s' ∧ Vals vs us ∧ Q vs H'
noncomputable def SP (X : Cx) (pins : List (Addr × Obj)) (D : Ends) (f : Flow) (s' : Shared) : Prop :=
  match f with
  | .next => ∃ σ' H', Inv X pins σ' H' s' ∧ D.nx σ' H'
  | .brk => ∃ σ' H', Inv X pins σ' H' s' ∧ D.bk σ' H'
  | .cont => ∃ σ' H', Inv X pins σ' H' s' ∧ D.ct σ' H'
  | .ret u => ∃ v σ' H', Inv X pins σ' H' s' ∧ RelV v u ∧ D.rt v H'

noncomputable def PE (X : Cx) (e : Expr) (t : TE) : Prop :=
  ∀ (pins : List (Addr × Obj)) (s : Shared) (σ : St) (H : Hp) (Q : VK), Inv X pins σ H s → t σ H Q → wpAny (model X.prog X.w) X.A (eval e X.env) (EP X pins σ Q) X.xe s
noncomputable def PT (X : Cx) (e : Expr) (t : TT) : Prop :=
  ∀ (pins : List (Addr × Obj)) (s : Shared) (σ : St) (H : Hp) (Q : Bool → Hp → Prop), Inv X pins σ H s → t σ H Q → wpAny (model X.prog X.w) X.A (isTrue e X.env (eval e X.env)) (TP X pins σ Q) X.xe s
/-- a test whatever its 'whole' is (and, or) -/
noncomputable def PW (X : Cx) (e : Expr) (t : TT) : Prop :=
  ∀ (whole : Sem Value) (pins : List (Addr × Obj)) (s : Shared) (σ : St) (H : Hp) (Q : Bool → Hp → Prop), Inv X pins σ H s → t σ H Q → wpAny (model X.prog X.w) X.A (isTrue e X.env whole) (TP X pins σ Q) X.xe s
theorem PW.pt {X : Cx} {e : Expr} {t : TT} (h : PW X e t) : PT X e t := h _
/-- an argument list (no star), from the left -/
noncomputable def PA (X : Cx) (es : List Expr) (t : TA) : Prop :=
  ∀ (pos : Pos) (pins : List (Addr × Obj)) (s : Shared) (σ : St) (H : Hp) (Q : List V → Hp → Prop), Inv X pins σ H s → t σ H Q → wpAny (model X.prog X.w) X.A (spliced (backTo pos (starEach es X.env))) (AP X pins σ Q) X.xe s
noncomputable def PS (X : Cx) (st : Stmt) (t : TS) : Prop :=
  ∀ (pins : List (Addr × Obj)) (s : Shared) (σ : St) (H : Hp) (D : Ends), Inv X pins σ H s → t D σ H → wpAny (model X.prog X.w) X.A (exec st X.env) (SP X pins D) X.xe s
noncomputable def PSs (X : Cx) (st : List Stmt) (t : TS) : Prop :=
  ∀ (pins : List (Addr × Obj)) (s : Shared) (σ : St) (H : Hp) (D : Ends), Inv X pins σ H s → t D σ H → wpAny (model X.prog X.w) X.A (execs st X.env) (SP X pins D) X.xe s
/-- weaken the end -/
theorem thn {α : Type} {t : Sem α} {Q Q' : α → Shared → Prop} {M : Model} {A : Around} {E : Value → Shared → Prop} {s : Shared} (h : wpAny M A t Q E s) (hQ : ∀ a s, Q a s → Q' a s) : wpAny M A t Q' E s := wpAny_mono h hQ fun _ _ x => x
end L2

namespace L2
open PySem PySem.Spec PyProof.Rows
section
variable {X : Cx}

/-! ### names and constants -/
noncomputable def tVar (i : Nat) : TE := fun σ H Q => ∃ v, σ[i]? = some (some v) ∧ Q v H
noncomputable def tC (v : V) : TE := fun _ H Q => Q v H
theorem pe_var {i : Nat} {x : Str} {pos : Pos} (hN : X.N[i]? = some x) (hv : Vis X.env.scope x) (hd : (x == ("__debug__" : Str)) = false := by decide) (hcd : (x == ("__classdict__" : Str)) = false := by decide) : PE X (.Name x pos) (tVar i) := by
  intro pins s σ H Q I h
  obtain ⟨v, e, h⟩ := h
  obtain ⟨m, hn, hl⟩ := I.loc
  obtain ⟨u, r, l⟩ := hl i x v hN e hv
  have fin : EP X pins σ Q u s := ⟨v, H, I, r, h⟩
  rcases l with ⟨hk, hm⟩ | ⟨hk, c, hc, hcell⟩
  · exact wpAny_Name (wpAny_loadName_local I.ok.kind hk hn hm fin) hd
  · rcases hk with hk | hk
    · exact wpAny_Name (wpAny_loadName_cell I.ok.kind hk hc hcell fin) hd
    · exact wpAny_Name (wpAny_loadName_free I.ok.kind hk hc hcell fin hcd) hd
theorem pe_int {i j pos} : PE X (.Constant (.int i) j pos) (tC (.int i)) := fun _ _ _ H _ I h => wpAny_Constant_int ⟨.int i, H, I.tok _, ⟨_, rfl⟩, h⟩
theorem pe_bl {b j pos} : PE X (.Constant (.bool b) j pos) (tC (.bl b)) := fun _ _ _ H _ I h => Constant_bool ⟨.bl b, H, I, rfl, h⟩
theorem pe_non {j pos} : PE X (.Constant .none j pos) (tC .non) := fun _ _ _ H _ I h => Constant_none ⟨.non, H, I, rfl, h⟩
theorem pe_str {x j pos} : PE X (.Constant (.str x) j pos) (tC (.str x)) := fun _ _ _ H _ I h => Calls.Constant_str ⟨.str x, H, I.tok _, ⟨_, rfl⟩, h⟩

/-- a global name of the def -/
noncomputable def Gl (X : Cx) (x : Str) : Prop := X.env.kindOf x = some .globalImplicit
theorem ld_glob {E : Value → Shared → Prop} {pins : List (Addr × Obj)} {s : Shared} {σ : St} {H : Hp} {x : Str} {u : Value} {pos : Pos} {Q : Value → Shared → Prop} (I : Inv X pins σ H s) (hg : Gl X x) (hm : X.mg x = some u) (h : Q u s)
    (hd : (x == ("__debug__" : Str)) = false := by decide) : wpAny (model X.prog X.w) X.A (eval (.Name x pos) X.env) Q E s :=
  Calls.Name_function_global I.ok.kind hg (Calls.loadGlobal_global (by rw [I.ok.glob]; exact I.mod.glob.keeps I.bk) hm h) hd
theorem ld_blt {E : Value → Shared → Prop} {pins : List (Addr × Obj)} {s : Shared} {σ : St} {H : Hp} {x : Str} {u : Value} {pos : Pos} {Q : Value → Shared → Prop} (I : Inv X pins σ H s) (hg : Gl X x) (hm : X.mg x = none) (hv : bootBuiltins x = some u) (h : Q u s)
    (hn : x ≠ "__name__" := by decide) (hd : (x == ("__debug__" : Str)) = false := by decide) : wpAny (model X.prog X.w) X.A (eval (.Name x pos) X.env) Q E s := by
  obtain ⟨mb, h1, h2⟩ := I.mod.blt
  exact Calls.Name_function_global I.ok.kind hg (Calls.loadGlobal_builtin (by rw [I.ok.glob]; exact I.mod.glob.keeps I.bk) hm (by rw [I.ok.blt]; exact h1.keeps I.bk) ((h2 x hn).trans hv) h) hd
/-- a module's constant, a class, a function, as a value -/
theorem pe_glob {x : Str} {v : V} {u : Value} {pos : Pos} (hg : Gl X x) (hm : X.mg x = some u) (r : RelV v u) (hd : (x == ("__debug__" : Str)) = false := by decide) : PE X (.Name x pos) (tC v) :=
  fun _ _ _ H _ I h => ld_glob I hg hm ⟨v, H, I, r, h⟩ hd
theorem pe_bltn {x : Str} {v : V} {u : Value} {pos : Pos} (hg : Gl X x) (hm : X.mg x = none) (hv : bootBuiltins x = some u) (r : RelV v u) (hn : x ≠ "__name__" := by decide) (hd : (x == ("__debug__" : Str)) = false := by decide) : PE X (.Name x pos) (tC v) :=
  fun _ _ _ H _ I h => ld_blt I hg hm hv ⟨v, H, I, r, h⟩ hn hd

/-! ### arithmetic -/
variable {a b : Expr} {ta tb : TE} {pos : Pos}
/-! ### comparisons -/
/-- a comparison as a value, as a test -/
noncomputable def tB (t : TE) : TT := fun σ H Q => t σ H fun x H1 => ∃ c, x = .bl c ∧ Q c H1
/-- an expression whose value is a bool, as a test -/
theorem pt_val {e : Expr} {t : TE} (h : PE X e t) (he : ∀ whole, isTrue e X.env whole = (do let v ← whole; standAt e.pos; holding [v] (truthy v)) := by intro _; rfl) : PT X e (tB t) := by
  intro pins s σ H Q I hw
  refine isTrue_plain (thn (h pins s σ H _ I hw) fun v s1 ⟨x, H1, I1, r1, q1⟩ => ?_) (he _)
  obtain ⟨d, rfl, q⟩ := q1
  cases r1
  exact wpAny_truthy_bool ⟨H1, I1, q⟩

/-! ### and, or, not -/
variable {tA tB' : TT} {rest : List Expr}
noncomputable def tAnd (t u : TT) : TT := fun σ H Q => t σ H fun c H1 => if c = true then u σ H1 Q else Q false H1
noncomputable def tOr (t u : TT) : TT := fun σ H Q => t σ H fun c H1 => if c = true then Q true H1 else u σ H1 Q
noncomputable def tNot (t : TT) : TT := fun σ H Q => t σ H fun c H1 => Q (!c) H1
theorem pw_and1 (ha : PT X a tA) : PW X (.BoolOp .And [a] pos) tA := by
  intro wh pins s σ H Q I h
  refine isTrue_and (thn (ha pins s σ H Q I h) fun c s1 e => ?_)
  cases c with
  | true => exact isTrue_and_nil e
  | false => exact e
theorem pw_or1 (ha : PT X a tA) : PW X (.BoolOp .Or [a] pos) tA := by
  intro wh pins s σ H Q I h
  refine isTrue_or (thn (ha pins s σ H Q I h) fun c s1 e => ?_)
  cases c with
  | false => exact isTrue_or_nil e
  | true => exact e
theorem pw_and (ha : PT X a tA) (hb : PW X (.BoolOp .And (b :: rest) pos) tB') : PW X (.BoolOp .And (a :: b :: rest) pos) (tAnd tA tB') := by
  intro wh pins s σ H Q I h
  refine isTrue_and (thn (ha pins s σ H _ I h) fun c s1 ⟨H1, I1, q1⟩ => ?_)
  cases c with
  | true => exact hb wh pins s1 σ H1 Q I1 q1
  | false => exact ⟨H1, I1, q1⟩
theorem pw_or (ha : PT X a tA) (hb : PW X (.BoolOp .Or (b :: rest) pos) tB') : PW X (.BoolOp .Or (a :: b :: rest) pos) (tOr tA tB') := by
  intro wh pins s σ H Q I h
  refine isTrue_or (thn (ha pins s σ H _ I h) fun c s1 ⟨H1, I1, q1⟩ => ?_)
  cases c with
  | true => exact ⟨H1, I1, q1⟩
  | false => exact hb wh pins s1 σ H1 Q I1 q1
theorem pt_not (ha : PT X a tA) : PT X (.UnaryOp .Not a pos) (tNot tA) := by
  intro pins s σ H Q I h
  exact isTrue_not (ha pins s σ H (fun c H1 => Q (!c) H1) I h)
/-- .. as values (bools) -/
noncomputable def tAndV (ta tb : TE) : TE := fun σ H Q => ta σ H fun x H1 => ∃ c, x = .bl c ∧ if c = true then tb σ H1 Q else Q (.bl false) H1
noncomputable def tNotV (ta : TE) : TE := fun σ H Q => ta σ H fun x H1 => ∃ c, x = .bl c ∧ Q (.bl (!c)) H1
theorem pe_one {op} {t : TE} (h : PE X a t) : PE X (.BoolOp op [a] pos) t := fun pins s σ H Q I hw => BoolOp_one (h pins s σ H Q I hw)
theorem pe_and (ha : PE X a ta) (hb : PE X (.BoolOp .And (b :: rest) pos) tb) : PE X (.BoolOp .And (a :: b :: rest) pos) (tAndV ta tb) := by
  intro pins s σ H Q I h
  refine BoolOp_and (thn (ha pins s σ H _ I h) fun v s1 ⟨x, H1, I1, r1, q1⟩ => ?_)
  obtain ⟨c, rfl, q1⟩ := q1
  cases r1
  refine wpAny_truthy_bool ?_
  cases c with
  | true => exact hb pins s1 σ H1 Q I1 q1
  | false => exact ⟨.bl false, H1, I1, rfl, q1⟩
theorem pe_not (ha : PE X a ta) : PE X (.UnaryOp .Not a pos) (tNotV ta) := by
  intro pins s σ H Q I h
  refine UnaryOp_ (thn (ha pins s σ H _ I h) fun v s1 ⟨x, H1, I1, r1, q1⟩ => ?_)
  obtain ⟨c, rfl, q1⟩ := q1
  cases r1
  exact not_of (wpAny_truthy_bool ⟨.bl (!c), H1, I1, rfl, q1⟩)
/-- a if t else b -/
noncomputable def tIf (t : TT) (ta tb : TE) : TE := fun σ H Q => t σ H fun c H1 => if c = true then ta σ H1 Q else tb σ H1 Q
theorem pe_ifExp {c : Expr} (hc : PT X c tA) (ha : PE X a ta) (hb : PE X b tb) : PE X (.IfExp c a b pos) (tIf tA ta tb) := by
  intro pins s σ H Q I h
  refine wpAny_IfExp (thn (hc pins s σ H _ I h) fun d s1 ⟨H1, I1, q1⟩ => ?_)
  cases d with
  | true => exact ha pins s1 σ H1 Q I1 q1
  | false => exact hb pins s1 σ H1 Q I1 q1
end
end L2

namespace L2
open PySem PySem.Spec PyProof.Rows

/-! ### a list, a tuple that is read: tracked, frozen, or an object of the module -/
noncomputable def SqL (K : PySem.W.Frag) (H : Hp) (a : Addr) (xs : List V) : Prop :=
  Rd H a (.lst xs) ∨
    ∃ (o : Obj) (its : Array Value) (n : Nat), K.lookup a = some o ∧ o.cls = .type "list" ∧ o.dict = none ∧ o.data = .seq its n ∧ its.size ≤ sizeLine ∧ Vals xs its.toList
noncomputable def SqT (K : PySem.W.Frag) (H : Hp) (a : Addr) (xs : List V) : Prop :=
  Rd H a (.tup xs) ∨
    ∃ (o : Obj) (its : Array Value) (n : Nat), K.lookup a = some o ∧ o.cls = .type "tuple" ∧ o.data = .seq its n ∧ its.size ≤ sizeLine ∧ Vals xs its.toList
noncomputable def absV : Value → Option V
  | .none => some .non
  | .bool b => some (.bl b)
  | .int i _ => some (.int i)
  | .str x _ => some (.str x)
  | .bytes b _ => some (.byt b)
  | .float b _ => some (.flt b)
  | .ref a => some (.ref a)
  | .type n => some (.ty n)
  | _ => none
theorem RelV.abs {x : V} {u : Value} (r : RelV x u) : absV u = some x := by
  cases x with
  | non => cases r; rfl
  | bl _ => cases r; rfl
  | int _ => obtain ⟨t, rfl⟩ := r; rfl
  | str _ => obtain ⟨t, rfl⟩ := r; rfl
  | byt _ => obtain ⟨t, rfl⟩ := r; rfl
  | flt _ => obtain ⟨t, rfl⟩ := r; rfl
  | ref _ => cases r; rfl
  | ty _ => cases r; rfl
theorem RelV.inj {x y : V} {u : Value} (r : RelV x u) (q : RelV y u) : x = y := Option.some.inj (r.abs.symm.trans q.abs)
theorem Vals.inj : ∀ {xs ys : List V} {us : List Value}, Vals xs us → Vals ys us → xs = ys
  | _, _, _, .nil, .nil => rfl
  | _, _, _, .cons r t, .cons r' t' => by rw [r.inj r', Vals.inj t t']
section
variable {X : Cx} {pins : List (Addr × Obj)} {σ : St} {H : Hp} {s : Shared} {a : Addr} {xs ys : List V}
theorem SqL.of {K : PySem.W.Frag} (h : H a = some (.lst xs)) : SqL K H a xs := .inl (.inl h)
theorem SqT.of {K : PySem.W.Frag} (h : H a = some (.tup xs)) : SqT K H a xs := .inl (.inl h)
theorem Inv.list (I : Inv X pins σ H s) (h : SqL X.K H a xs) : ∃ its : List Value, Vals xs its ∧ PlainL s.heap a its.toArray ∧ xs.length ≤ sizeLine := by
  rcases h with h | ⟨o, its, n, hk, hc, hd, hs, hz, r⟩
  · obtain ⟨z, its, n, r, e⟩ := h.ok I.hok
    exact ⟨its, r, ⟨_, n, e, rfl, rfl, rfl⟩, z⟩
  · refine ⟨its.toList, r, ⟨o, n, I.kIn a o hk, hc, hd, by simpa using hs⟩, ?_⟩
    have e := r.length
    simp only [Array.length_toList] at e
    omega
theorem Inv.tuple (I : Inv X pins σ H s) (h : SqT X.K H a xs) : ∃ its : List Value, Vals xs its ∧ IsTup s.heap a its.toArray ∧ xs.length ≤ sizeLine := by
  rcases h with h | ⟨o, its, n, hk, hc, hs, hz, r⟩
  · obtain ⟨z, its, r, p⟩ := h.ok I.hok
    exact ⟨its, r, p, z⟩
  · refine ⟨its.toList, r, ⟨o, I.kIn a o hk, hc, n, by simpa using hs⟩, ?_⟩
    have e := r.length
    simp only [Array.length_toList] at e
    omega
theorem Inv.list_inj (I : Inv X pins σ H s) (h : SqL X.K H a xs) (h' : SqL X.K H a ys) : xs = ys := by
  obtain ⟨its, r, ⟨o, n, e, _, _, d⟩, _⟩ := I.list h
  obtain ⟨its', r', ⟨o', n', e', _, _, d'⟩, _⟩ := I.list h'
  rw [e] at e'; cases e'
  rw [d] at d'
  injection d' with d1 _
  have : its = its' := by simpa using congrArg Array.toList d1
  subst this
  exact r.inj r'
theorem Inv.tuple_inj (I : Inv X pins σ H s) (h : SqT X.K H a xs) (h' : SqT X.K H a ys) : xs = ys := by
  obtain ⟨its, r, ⟨o, e, _, n, d⟩, _⟩ := I.tuple h
  obtain ⟨its', r', ⟨o', e', _, n', d'⟩, _⟩ := I.tuple h'
  rw [e] at e'; cases e'
  rw [d] at d'
  injection d' with d1 _
  have : its = its' := by simpa using congrArg Array.toList d1
  subst this
  exact r.inj r'
end

/-! ### another wish about exceptions -/
noncomputable abbrev Cx.wish (X : Cx) (E : Value → Shared → Prop) : Cx := { X with xe := E }
/-- no exception leaves -/
noncomputable abbrev Cx.nox (X : Cx) : Cx := X.wish fun _ _ => False
theorem Cx.Ok.wish {X : Cx} (ok : X.Ok) (E : Value → Shared → Prop) : (X.wish E).Ok :=
  ⟨ok.mod, ok.kind, ok.glob, ok.blt, ok.above, ok.inj, ok.has, ok.cab, ok.hd, ok.frames, ok.stk, ok.exf, ok.bs, ok.bsz, ok.noex, ok.exfs, ok.funs, ok.frf⟩
theorem Cx.Ok.unwish {X : Cx} {E : Value → Shared → Prop} (ok : (X.wish E).Ok) : X.Ok :=
  ⟨ok.mod, ok.kind, ok.glob, ok.blt, ok.above, ok.inj, ok.has, ok.cab, ok.hd, ok.frames, ok.stk, ok.exf, ok.bs, ok.bsz, ok.noex, ok.exfs, ok.funs, ok.frf⟩
section
variable {X : Cx} {pins : List (Addr × Obj)} {σ : St} {H : Hp} {s : Shared} {E : Value → Shared → Prop}
theorem Inv.wish (I : Inv X pins σ H s) (E : Value → Shared → Prop) : Inv (X.wish E) pins σ H s := ⟨I.ok.wish E, I.os, I.bare, I.base, I.loc, I.cell, I.free, I.freeC, I.pin, I.hok, I.len⟩
theorem Inv.unwish (I : Inv (X.wish E) pins σ H s) : Inv X pins σ H s := ⟨I.ok.unwish, I.os, I.bare, I.base, I.loc, I.cell, I.free, I.freeC, I.pin, I.hok, I.len⟩
theorem SP.unwish {D : Ends} {f : Flow} {s' : Shared} (h : SP (X.wish E) pins D f s') : SP X pins D f s' := by
  cases f with
  | next => obtain ⟨σ', H', I, q⟩ := h; exact ⟨σ', H', I.unwish, q⟩
  | brk => obtain ⟨σ', H', I, q⟩ := h; exact ⟨σ', H', I.unwish, q⟩
  | cont => obtain ⟨σ', H', I, q⟩ := h; exact ⟨σ', H', I.unwish, q⟩
  | ret u => obtain ⟨v, σ', H', I, r, q⟩ := h; exact ⟨v, σ', H', I.unwish, r, q⟩
theorem PE.nox {e : Expr} {t : TE} (h : PE X.nox e t) : PE X e t := fun pins s σ H Q I hw =>
  wpAny_mono (h pins s σ H Q (I.wish _) hw) (fun _ _ ⟨v, H', I', r, q⟩ => ⟨v, H', I'.unwish, r, q⟩) fun _ _ z => False.elim z
theorem PSs.nox {st : List Stmt} {t : TS} (h : PSs X.nox st t) : PSs X st t := fun pins s σ H D I hw =>
  wpAny_mono (h pins s σ H D (I.wish _) hw) (fun _ _ q => q.unwish) fun _ _ z => False.elim z
end

/-! ### blocks and small statements -/
section
variable {X : Cx} {st : Stmt} {rest : List Stmt} {t u : TS} {e : Expr} {te : TE} {pos : Pos}
noncomputable def tNext : TS := fun D σ H => D.nx σ H
noncomputable def tSeq (t u : TS) : TS := fun D σ H => t { D with nx := u D } σ H
theorem pss_nil : PSs X [] tNext := fun _ _ σ H _ I h => wpAny_execs_nil ⟨σ, H, I, h⟩
theorem pss_cons (h1 : PS X st t) (h2 : PSs X rest u) : PSs X (st :: rest) (tSeq t u) := by
  intro pins s σ H D I h
  refine wpAny_execs_cons (thn (h1 pins s σ H { D with nx := u D } I h) fun f s1 q => ?_)
  cases f with
  | next =>
    obtain ⟨σ', H', I', q⟩ := q
    exact h2 pins s1 σ' H' D I' q
  | ret v => exact q
  | brk => exact q
  | cont => exact q
theorem pss_one (h1 : PS X st t) : PSs X [st] t := by
  intro pins s σ H D I h
  refine wpAny_execs_cons (thn (h1 pins s σ H D I h) fun f s1 q => ?_)
  cases f with
  | next => exact wpAny_execs_nil q
  | ret v => exact q
  | brk => exact q
  | cont => exact q
/-- in a def's body nothing is shown -/
theorem Inv.quiet {pins : List (Addr × Obj)} {σ : St} {H : Hp} {s : Shared} (I : Inv X pins σ H s) : interactive X.env = false := by simp [interactive, I.ok.kind]
/-- an expression whose value is dropped -/
noncomputable def tDrop (te : TE) : TS := fun D σ H => te σ H fun _ H1 => D.nx σ H1
theorem ps_expr (he : PE X e te) (hs : swapsWith e none pos.line X.env = pure false := by rfl) : PS X (.Expr e pos) (tDrop te) := by
  intro pins s σ H D I h
  exact wpAny_Expr_any (thn (he pins s σ H _ I h) fun v s1 ⟨x, H1, I1, r1, q1⟩ => ⟨σ, H1, I1, q1⟩) I.quiet hs
noncomputable def tRet (te : TE) : TS := fun D σ H => te σ H D.rt
theorem ps_ret (he : PE X e te) : PS X (.Return (some e) pos) (tRet te) := by
  intro pins s σ H D I h
  exact wpAny_Return_some (thn (he pins s σ H _ I h) fun v s1 ⟨x, H1, I1, r1, q1⟩ => ⟨x, σ, H1, I1, r1, q1⟩)
noncomputable def tIfS (c : TT) (t u : TS) : TS := fun D σ H => c σ H fun b H1 => if b = true then t D σ H1 else u D σ H1
theorem ps_if {c : Expr} {a b : List Stmt} {tc : TT} (hc : PT X c tc) (ha : PSs X a t) (hb : PSs X b u) : PS X (.If c a b pos) (tIfS tc t u) := by
  intro pins s σ H D I h
  refine wpAny_If (thn (hc pins s σ H _ I h) fun d s1 ⟨H1, I1, q1⟩ => ?_)
  cases d with
  | true => exact ha pins s1 σ H1 D I1 q1
  | false => exact hb pins s1 σ H1 D I1 q1
/-- code that the proof never comes to -/
noncomputable def tNever : TS := fun _ _ _ => False
theorem pss_never {sts : List Stmt} : PSs X sts tNever := fun _ _ _ _ _ _ h => h.elim
end

/-! ### targets -/
noncomputable abbrev TG := V → St → Hp → (St → Hp → Prop) → Prop
noncomputable abbrev TGs := List V → St → Hp → (St → Hp → Prop) → Prop
noncomputable def PG (X : Cx) (target : Expr) (t : TG) : Prop :=
  ∀ (pins : List (Addr × Obj)) (s : Shared) (σ : St) (H : Hp) (v : V) (u : Value) (Q : St → Hp → Prop), Inv X pins σ H s → RelV v u → t v σ H Q →
    wpAny (model X.prog X.w) X.A (assign target X.env u) (fun _ s' => ∃ σ' H', Inv X pins σ' H' s' ∧ Q σ' H') X.xe s
/-- several targets, one after another -/
noncomputable def PGs (X : Cx) (ts : List Expr) (t : TGs) : Prop :=
  ∀ (pins : List (Addr × Obj)) (s : Shared) (σ : St) (H : Hp) (vs : List V) (us : List Value) (Q : St → Hp → Prop), Inv X pins σ H s → Vals vs us → t vs σ H Q →
    wpAny (model X.prog X.w) X.A (assignInOrder ((assignEach ts X.env).map (·.2)) us) (fun _ s' => ∃ σ' H', Inv X pins σ' H' s' ∧ Q σ' H') X.xe s
/-- o[i] = v, by values -/
noncomputable abbrev TSet := V → V → V → Hp → (Hp → Prop) → Prop
noncomputable def PSet (X : Cx) (t : TSet) : Prop :=
  ∀ (pins : List (Addr × Obj)) (s : Shared) (σ : St) (H : Hp) (o i v : V) (ov iv u : Value) (Q : Hp → Prop), Inv X pins σ H s → RelV o ov → RelV i iv → RelV v u → t o i v H Q →
    wpAny (model X.prog X.w) X.A (setItem ov iv u) (fun _ s' => ∃ H', Inv X pins σ H' s' ∧ Q H') X.xe s
section
variable {X : Cx} {pos : Pos}
noncomputable def gName (i : Nat) : TG := fun v σ H Q => Q (σ.set i (some v)) H
theorem pg_name {i : Nat} {x : Str} (hN : X.N.Nodup) (hi : X.N[i]? = some x) (hx : Loc X.env.scope x) (hf : X.fn x = true ∨ X.env.scope.names.lookup x = some .local := by first | exact .inl rfl | exact .inr rfl | assumption) : PG X (.Name x pos) (gName i) := by
  intro pins s σ H v u Q I r h
  exact wpAny_assign_Name (store_ok I hN hi hx r (fun s' I' => ⟨_, H, I', h⟩) hf)
noncomputable def gNil : TGs := fun vs σ H Q => vs = [] ∧ Q σ H
noncomputable def gCons (t : TG) (u : TGs) : TGs := fun vs σ H Q => ∃ v r, vs = v :: r ∧ t v σ H fun σ' H' => u r σ' H' Q
theorem pgs_nil : PGs X [] gNil := by
  intro pins s σ H vs us Q I r h
  obtain ⟨e, h⟩ := h
  subst e
  cases r
  exact assignInOrder_nil ⟨σ, H, I, h⟩
theorem pgs_cons {e : Expr} {es : List Expr} {t : TG} {u : TGs} (h1 : PG X e t) (h2 : PGs X es u)
    (hs : (assignEach (e :: es) X.env).map (·.2) = assign e X.env :: (assignEach es X.env).map (·.2) := by rfl) : PGs X (e :: es) (gCons t u) := by
  intro pins s σ H vs us Q I r h
  obtain ⟨v, vr, e1, h⟩ := h
  subst e1
  cases r with
  | cons r rr =>
    rw [hs]
    refine assignInOrder_cons (thn (h1 pins s σ H _ _ _ I r h) fun _ s1 ⟨σ1, H1, I1, q1⟩ => ?_)
    exact h2 pins s1 σ1 H1 _ _ Q I1 rr q1
/-- (a, b, ..) = a tuple of that length -/
noncomputable def gTup (K : PySem.W.Frag) (n : Nat) (t : TGs) : TG := fun v σ H Q => ∃ a xs, v = .ref a ∧ SqT K H a xs ∧ xs.length = n ∧ t xs σ H Q
theorem pg_tup {es : List Expr} {k : Nat} {t : TGs} {n : Nat} (hc : X.calm = true) (h : PGs X es t)
    (hn : (assignEach es X.env).length = n := by rfl) (hst : (assignEach es X.env).findIdx? (·.1) = none := by rfl) : PG X (.Tuple es k pos) (gTup X.K n t) := by
  intro pins s σ H v u Q I r hw
  obtain ⟨a, xs, e1, hq, hl, hw⟩ := hw
  subst e1
  cases r
  obtain ⟨its, rv, ht, hz⟩ := I.tuple hq
  refine assign_Tuple_tuple (I.ok.hd hc) ht (by simp [hn, ← hl, rv.length]) hst fun h' hx => ?_
  have I1 : Inv X pins σ H { s with heap := h' } := I.kept (t' := s.toks) fun b o e => hx b o (Nat.ne_of_lt (Heap.lt_size e)) e
  exact h pins _ σ H xs _ Q I1 (by simpa using rv) hw
/-- o[i] = .. -/
noncomputable def gSub (to ti : TE) (t : TSet) : TG := fun v σ H Q => to σ H fun o H1 => ti σ H1 fun i H2 => t o i v H2 fun H3 => Q σ H3
theorem pg_sub {o i : Expr} {to ti : TE} {t : TSet} (ho : PE X o to) (hi : PE X i ti) (hs : PSet X t)
    (ha : ∀ v, assign (.Subscript o i pos) X.env v = (do
      let ov ← holding [v] (eval o X.env)
      let iv ← holding [v, ov] (eval i X.env)
      standAt pos
      holding [v, ov, iv] (setItem ov iv v)
      release [v, ov, iv] []) := by intro _; rfl) : PG X (.Subscript o i pos) (gSub to ti t) := by
  intro pins s σ H v u Q I r h
  rw [ha]
  refine wpAny_bind (wpAny_holding (thn (ho pins s σ H _ I h) fun ov s1 ⟨x, H1, I1, r1, q1⟩ => ?_))
  refine wpAny_bind (wpAny_holding (thn (hi pins s1 σ H1 _ I1 q1) fun iv s2 ⟨y, H2, I2, r2, q2⟩ => ?_))
  refine wpAny_bind (wpAny_standAt (wpAny_bind (wpAny_holding (thn (hs pins s2 σ H2 x y v ov iv u _ I2 r1 r2 r q2) fun _ s3 ⟨H3, I3, q3⟩ => ?_))))
  exact wpAny_release ⟨σ, H3, I3, q3⟩
/-- target = value -/
noncomputable def tAsg (te : TE) (g : TG) : TS := fun D σ H => te σ H fun x H1 => g x σ H1 D.nx
theorem ps_asg {tg e : Expr} {te : TE} {g : TG} (he : PE X e te) (hg : PG X tg g) (hs : swapsWithSole [tg] e pos.line X.env = pure false := by rfl) (hw : swappedStores [tg] e X.env = pure none := by rfl)
    (h1 : (assignEach [tg] X.env).map (·.2) = [assign tg X.env] := by rfl) : PS X (.Assign [tg] e pos) (tAsg te g) := by
  intro pins s σ H D I h
  refine wpAny_Assign_stores (thn (he pins s σ H _ I h) fun v s1 ⟨x, H1, I1, r1, q1⟩ => ?_) hs hw
  rw [h1]
  exact thn (hg pins s1 σ H1 x v _ I1 r1 q1) fun _ s2 q => q
/-- name = value -/
theorem ps_set {i : Nat} {x : Str} {e : Expr} {te : TE} {pos' : Pos} (hN : X.N.Nodup) (hi : X.N[i]? = some x) (hx : Loc X.env.scope x) (he : PE X e te) (hs : swapsWith e (some (.Name x pos')) pos.line X.env = pure false := by rfl) (hf : X.fn x = true ∨ X.env.scope.names.lookup x = some .local := by first | exact .inl rfl | exact .inr rfl | assumption) :
    PS X (.Assign [.Name x pos'] e pos) (tAsg te (gName i)) := by
  intro pins s σ H D I h
  refine wpAny_Assign_Name (thn (he pins s σ H _ I h) fun v s1 ⟨y, H1, I1, r1, q1⟩ => ?_) hs
  exact store_ok I1 hN hi hx r1 (fun s2 I2 => ⟨_, H1, I2, q1⟩) hf
/-- a, b = x, y with plain local names: stored from the right; the pair itself is not tracked (the opening rows as in PyProof/Rows/TupAssign.lean:23) -/
noncomputable def tPar (i j : Nat) (ta : TA) : TS := fun D σ H => ta σ H fun vs H1 => ∃ v w, vs = [v, w] ∧ D.nx ((σ.set i (some v)).set j (some w)) H1
theorem ps_par {i j : Nat} {x y : Str} {a b : Expr} {ta : TA} {px py pt : Pos} {kt k2 pt2} (hc : X.calm = true) (hN : X.N.Nodup) (hi : X.N[i]? = some x) (hj : X.N[j]? = some y) (hij : i ≠ j)
    (hx : X.env.scope.names.lookup x = some .local) (hy : X.env.scope.names.lookup y = some .local) (ha : PA X [a, b] ta)
    (hw : swappedStores [.Tuple [.Name x px, .Name y py] kt pt] (.Tuple [a, b] k2 pt2) X.env = pure (some [x, y]))
    (hs : swapsWithSole [.Tuple [.Name x px, .Name y py] kt pt] (.Tuple [a, b] k2 pt2) pos.line X.env = pure false := by rfl) :
    PS X (.Assign [.Tuple [.Name x px, .Name y py] kt pt] (.Tuple [a, b] k2 pt2) pos) (tPar i j ta) := by
  intro pins s σ H D I h
  rw [exec_Assign_arm]
  refine wpAny_bind (wpAny_standAt ?_)
  rw [hs]
  refine wpAny_bind (wpAny_pure ?_)
  rw [if_neg (by decide)]
  refine wpAny_bind (Tuple_ (thn (ha _ pins s σ H _ I h) fun us s1 ⟨vs, H1, I1, r1, q1⟩ => ?_))
  obtain ⟨v, w, e1, q1⟩ := q1
  subst e1
  obtain ⟨u1, u2, rfl, rv, rw'⟩ : ∃ u1 u2, us = [u1, u2] ∧ RelV v u1 ∧ RelV w u2 := by
    cases r1 with
    | cons p q =>
      cases q with
      | cons p' q' =>
        cases q'
        exact ⟨_, _, rfl, p, p'⟩
  refine wpAny_newObj_type ?_ (by show 2 ≤ sizeLine; decide)
  have I2 : Inv X pins σ H1 { s1 with heap := s1.heap.push { cls := .type "tuple", data := .seq [u1, u2].toArray } } := I1.kept (t' := s1.toks) fun b o e => Heap.get?_push_of_some _ e
  rw [hw]
  refine wpAny_bind (wpAny_pure ?_)
  show wpAny (model X.prog X.w) X.A (do rule "assign.swapped-stores"; let items ← unpackItems (.ref s1.heap.objs.size) 2 none; assignInOrder [fun v => bindName X.env y v, fun v => bindName X.env x v] items.reverse; pure Flow.next) _ _ _
  refine wpAny_bind (wpAny_rule (wpAny_bind (unpackItems_tuple (items := #[u1, u2]) (I.ok.hd hc) (IsTup.new s1.heap _) fun h' hx' => ?_)))
  have I3 := I2.kept (h' := h') (t' := s1.toks) fun b o e => hx' b o (Nat.ne_of_lt (Heap.lt_size e)) e
  show wpAny _ _ (assignInOrder [fun v => bindName X.env y v, fun v => bindName X.env x v] [u2, u1] >>= fun _ => pure Flow.next) _ _ _
  refine wpAny_bind (assignInOrder_cons (wpAny_bindName (store_ok I3 hN hj (.inl hy) rw' (fun s2 I4 => ?_) (.inr hy))))
  refine assignInOrder_cons (wpAny_bindName (store_ok I4 hN hi (.inl hx) rv (fun s3 I5 => assignInOrder_nil (wpAny_pure ?_)) (.inr hx)))
  rw [List.set_comm _ _ (Ne.symm hij)] at I5
  exact ⟨_, H1, I5, q1⟩
end

/-! ### while -/
section
variable {X : Cx} {pos : Pos}
/-- the invariant W with its measure -/
noncomputable def tWhile (c : TT) (tb : TS) : TS := fun D σ H => ∃ W : Nat → St → Hp → Prop, (∃ m, W m σ H) ∧ ∀ m σ H, W m σ H →
  c σ H fun b H1 => if b = true then ∃ N : St → Hp → Prop, (∀ σ' H', N σ' H' → ∃ m', m' < m ∧ W m' σ' H') ∧ tb { D with nx := N, ct := N, bk := D.nx } σ H1 else D.nx σ H1
theorem ps_while {c : Expr} {body : List Stmt} {tc : TT} {tb : TS} (hp : PassesOwn (model X.prog X.w) X.A X.env X.xe) (hc : PT X c tc) (hb : PSs X body tb) : PS X (.While c body [] pos) (tWhile tc tb) := by
  intro pins s σ H D I h
  obtain ⟨W, ⟨m0, w0⟩, turn⟩ := h
  refine wpAny_While (codeAny_whileLoop (fun n s' => ∃ σ' H', Inv X pins σ' H' s' ∧ W n σ' H') ?_ m0 ⟨σ, H, I, w0⟩)
  rintro n s1 ⟨σ1, H1, I1, w1⟩
  refine wpAny_passesOwn hp (thn (hc pins s1 σ1 H1 _ I1 (turn n σ1 H1 w1)) fun b s2 ⟨H2, I2, q2⟩ => ?_)
  cases b with
  | true =>
    obtain ⟨N, hN, q2⟩ := q2
    rw [if_pos rfl]
    refine wpAny_passesOwn hp (thn (hb pins s2 σ1 H2 _ I2 q2) fun f s3 q3 => ?_)
    cases f with
    | next =>
      obtain ⟨σ3, H3, I3, n3⟩ := q3
      obtain ⟨m', hm, w3⟩ := hN σ3 H3 n3
      exact ⟨m', hm, σ3, H3, I3, w3⟩
    | cont =>
      obtain ⟨σ3, H3, I3, n3⟩ := q3
      obtain ⟨m', hm, w3⟩ := hN σ3 H3 n3
      exact ⟨m', hm, σ3, H3, I3, w3⟩
    | brk => exact q3
    | ret v => exact q3
  | false =>
    rw [if_neg Bool.false_ne_true]
    exact wpAny_execs_nil ⟨σ1, H2, I2, q2⟩
end

/-! ### what a loop or a comprehension walks -/
/-- at turn i: it yields x (the heap may grow), or it stops -/
structure It where
  go : Nat → Hp → Prop
  yld : Nat → Hp → V → Hp → Prop
  stop : Nat → Hp → Prop
/-- the iterator's own objects may turn: they are not the frame's, not pinned, younger than the entry (or a comprehension's own) -/
noncomputable def FpOk (X : Cx) (pins : List (Addr × Obj)) (H : Hp) (b : Addr) : Prop :=
  H b = none ∧ b ≠ X.env.locals ∧ b ∉ X.fs ∧ (b ∈ X.ex ∨ X.s₀.heap.objs.size ≤ b) ∧ (∀ x c, X.env.cells.lookup x = some c → c ≠ b) ∧ ∀ p ∈ X.pn ++ pins, p.1 ≠ b
theorem Inv.fpOk {X : Cx} {pins : List (Addr × Obj)} {σ : St} {H H' : Hp} {s : Shared} {b : Addr} (I : Inv X pins σ H s) (hb : s.heap.objs.size ≤ b) (hn : H' b = none) : FpOk X pins H' b := by
  refine ⟨hn, Nat.ne_of_gt (Nat.lt_of_lt_of_le I.lt hb), I.nofs hb, .inr (Nat.le_trans I.sz hb), fun x c e z => ?_, fun p hp z => ?_⟩
  · obtain ⟨v, q⟩ := I.cell x c e
    exact absurd (Nat.lt_of_lt_of_le q.lt (by rw [z]; exact hb)) (Nat.lt_irrefl _)
  · exact absurd (Nat.lt_of_lt_of_le (Heap.lt_size (I.pin p hp).1) (by rw [z]; exact hb)) (Nat.lt_irrefl _)
structure Turn (P : Program) (w : World) (K : PySem.W.Frag) (tg : Expr) (J : It) (fp : List Addr) (it : Addr) (tn : Nat → Heap → Prop) : Prop where
  mem : it ∈ fp
  obj : ∀ i h, tn i h → ∀ b ∈ fp, ∃ o, h.get? b = some o ∧ ∀ v, o.data ≠ .cell v
  keep : ∀ i h h', tn i h → (∀ b ∈ fp, ∀ o, h.get? b = some o → h'.get? b = some o) → tn i h'
  item : ∀ (X : Cx), X.prog = P → X.w = w → X.K = K → X.calm = true → ∀ (i : Nat) (pins : List (Addr × Obj)) (s : Shared) (σ : St) (H : Hp) (E : Value → Shared → Prop), Inv X pins σ H s → (∀ b ∈ fp, FpOk X pins H b) → tn i s.heap → J.go i H →
    wpAny (model P w) X.A (pyNext (.ref it)) (fun r s1 => ∃ u, r = some u ∧
      wpAny (model P w) X.A (letOwnedTupleGo tg (.ref it) u) (fun _ s2 => ∃ x H', Inv X pins σ H' s2 ∧ RelV x u ∧ J.yld i H x H' ∧ tn (i + 1) s2.heap ∧ ∀ b ∈ fp, H' b = none) E s1) E s
  done : ∀ (X : Cx), X.prog = P → X.w = w → X.K = K → X.calm = true → ∀ (i : Nat) (pins : List (Addr × Obj)) (s : Shared) (σ : St) (H : Hp) (E : Value → Shared → Prop), Inv X pins σ H s → (∀ b ∈ fp, FpOk X pins H b) → tn i s.heap → J.stop i H →
    wpAny (model P w) X.A (pyNext (.ref it)) (fun r s1 => r = none ∧ Inv X pins σ H s1) E s
  self : ∀ (A : Around) (i : Nat) (s : Shared) (Q : Value → Shared → Prop) (E : Value → Shared → Prop), tn i s.heap → Q (.ref it) s → wpAny (model P w) A (pyIter (.ref it)) Q E s
noncomputable abbrev TI := St → Hp → (It → Hp → Prop) → Prop
/-- an iterator has come -/
noncomputable def PIE (X : Cx) (pins : List (Addr × Obj)) (σ : St) (tg : Expr) (R : It → Hp → Prop) (itv : Value) (s2 : Shared) : Prop :=
  ∃ (it : Addr) (fp : List Addr) (tn : Nat → Heap → Prop) (J : It) (H' : Hp), itv = .ref it ∧ Inv X pins σ H' s2 ∧ Turn X.prog X.w X.K tg J fp it tn ∧ tn 0 s2.heap ∧ (∀ b ∈ fp, FpOk X pins H' b) ∧ R J H'
noncomputable def PI (X : Cx) (tg iter : Expr) (wi : TI) : Prop :=
  ∀ (pins : List (Addr × Obj)) (s : Shared) (σ : St) (H : Hp) (R : It → Hp → Prop), Inv X pins σ H s → wi σ H R →
    wpAny (model X.prog X.w) X.A (eval iter X.env) (fun v s1 => wpAny (model X.prog X.w) X.A (pyIter v) (PIE X pins σ tg R) X.xe s1) X.xe s

/-- the step ahead of the store is nothing for an iterator that keeps no tuple -/
theorem go_of {M : Model} {A : Around} {E : Value → Shared → Prop} {s : Shared} {tg : Expr} {it : Addr} {u : Value} {o : Obj} {n : String} {vs : Array Value} {Q : Unit → Shared → Prop} (ho : s.heap.get? it = some o) (hc : o.cls = .type n) (hd : o.data = .fields vs)
    (hn : ["enumerate", "zip", "dict_itemiterator", "dict_reverseitemiterator", "odict_iterator", "itertools.zip_longest", "itertools.pairwise"].contains n = false) (hQ : Q () s) : wpAny M A (letOwnedTupleGo tg (.ref it) u) Q E s := by
  unfold letOwnedTupleGo
  cases tg <;> first
    | exact wpAny_pure hQ
    | (cases u <;> first
        | exact wpAny_pure hQ
        | (refine wpAny_bind (wpAny_load ho ?_)
           rw [hc, hd]
           show wpAny M A (if (["enumerate", "zip", "dict_itemiterator", "dict_reverseitemiterator", "odict_iterator", "itertools.zip_longest", "itertools.pairwise"].contains n && vs[0]? == some (rawInt _)) = true then _ else _) Q E s
           rw [if_neg (by intro h; rw [hn, Bool.false_and] at h; cases h)]
           exact wpAny_pure hQ))

/-- the list at a, as it stands at each turn (a loop may append to it) -/
noncomputable def Itl (K : PySem.W.Frag) (a : Addr) : It :=
  ⟨fun i H => ∃ xs x, SqL K H a xs ∧ xs[i]? = some x, fun i H x H' => H' = H ∧ ∀ xs, SqL K H a xs → xs[i]? = some x, fun i H => ∃ xs, SqL K H a xs ∧ xs.length ≤ i⟩
noncomputable def Itt (K : PySem.W.Frag) (a : Addr) : It :=
  ⟨fun i H => ∃ xs x, SqT K H a xs ∧ xs[i]? = some x, fun i H x H' => H' = H ∧ ∀ xs, SqT K H a xs → xs[i]? = some x, fun i H => ∃ xs, SqT K H a xs ∧ xs.length ≤ i⟩
/-- lo, lo + 1, .. (n of them) -/
noncomputable def Itr (lo : Int) (n : Nat) : It := ⟨fun i _ => i < n, fun i H x H' => H' = H ∧ x = .int (lo + i), fun i _ => n ≤ i⟩
theorem turn_list {P : Program} {w : World} {K : PySem.W.Frag} {tg : Expr} (a it : Addr) : Turn P w K tg (Itl K a) [it] it (fun i h => h.IsListIter it a i) where
  mem := by simp
  obj := fun i h st b hb => by
    have e : b = it := by simpa using hb
    subst e
    obtain ⟨o, e, c, d⟩ := st
    exact ⟨o, e, fun v z => by rw [d] at z; cases z⟩
  keep := fun i h h' st k => st.at fun o e => k it (by simp) o e
  item := by
    intro X hP hw hK hc i pins s σ H E I hf st hg
    subst hP hw hK
    obtain ⟨xs, x, hq, hx⟩ := hg
    obtain ⟨its, rv, p, hz⟩ := I.list hq
    obtain ⟨u, hu, ru⟩ := rv.get hx
    obtain ⟨f0, f1, f2, f3, f4, f5⟩ := hf it (by simp)
    refine wpAny_pyNext_list_item st p.isList (x := u) (by simpa using hu) fun h' st' sb => ?_
    have I1 : Inv X pins σ H { s with heap := h' } := I.turned (t' := s.toks) (fun b o hb e => (sb.2 b hb).trans e) f0 f1 f3 f4 f5
    obtain ⟨o, e, c, d⟩ := id st'
    exact ⟨u, rfl, go_of (s := { s with heap := h' }) e c d (by decide) ⟨x, H, I1, ru, ⟨rfl, fun ys hy => by rw [I.list_inj hy hq]; exact hx⟩, st', fun b hb => (hf b hb).1⟩⟩
  done := by
    intro X hP hw hK hc i pins s σ H E I hf st hg
    subst hP hw hK
    obtain ⟨xs, hq, hx⟩ := hg
    obtain ⟨its, rv, p, hz⟩ := I.list hq
    obtain ⟨f0, f1, f2, f3, f4, f5⟩ := hf it (by simp)
    have hl := rv.length
    exact wpAny_pyNext_list_end (I.ok.hd hc) st p.isList (by simp; omega) fun h' eb => ⟨rfl, I.turned (t' := s.toks) (fun b o hb e => eb b o hb e) f0 f1 f3 f4 f5⟩
  self := fun _ _ _ _ _ st h => wpAny_pyIter_listiter st h
theorem turn_tuple {P : Program} {w : World} {K : PySem.W.Frag} {tg : Expr} (a it : Addr) : Turn P w K tg (Itt K a) [it] it (fun i h => h.IsTupleIter it a i) where
  mem := by simp
  obj := fun i h st b hb => by
    have e : b = it := by simpa using hb
    subst e
    obtain ⟨o, e, c, d⟩ := st
    exact ⟨o, e, fun v z => by rw [d] at z; cases z⟩
  keep := fun i h h' st k => st.at fun o e => k it (by simp) o e
  item := by
    intro X hP hw hK hc i pins s σ H E I hf st hg
    subst hP hw hK
    obtain ⟨xs, x, hq, hx⟩ := hg
    obtain ⟨its, rv, p, hz⟩ := I.tuple hq
    obtain ⟨u, hu, ru⟩ := rv.get hx
    obtain ⟨f0, f1, f2, f3, f4, f5⟩ := hf it (by simp)
    refine wpAny_pyNext_tuple_item st (show s.heap.IsTuple a its.toArray from p) (x := u) (by simpa using hu) fun h' st' sb => ?_
    have I1 : Inv X pins σ H { s with heap := h' } := I.turned (t' := s.toks) (fun b o hb e => (sb.2 b hb).trans e) f0 f1 f3 f4 f5
    obtain ⟨o, e, c, d⟩ := id st'
    exact ⟨u, rfl, go_of (s := { s with heap := h' }) e c d (by decide) ⟨x, H, I1, ru, ⟨rfl, fun ys hy => by rw [I.tuple_inj hy hq]; exact hx⟩, st', fun b hb => (hf b hb).1⟩⟩
  done := by
    intro X hP hw hK hc i pins s σ H E I hf st hg
    subst hP hw hK
    obtain ⟨xs, hq, hx⟩ := hg
    obtain ⟨its, rv, p, hz⟩ := I.tuple hq
    obtain ⟨f0, f1, f2, f3, f4, f5⟩ := hf it (by simp)
    have hl := rv.length
    exact wpAny_pyNext_tuple_end (I.ok.hd hc) st (show s.heap.IsTuple a its.toArray from p) (by simp; omega) fun h' eb => ⟨rfl, I.turned (t' := s.toks) (fun b o hb e => eb b o hb e) f0 f1 f3 f4 f5⟩
  self := fun _ _ _ _ _ st h => wpAny_pyIter_tupleiter st h
theorem turn_range {P : Program} {w : World} {K : PySem.W.Frag} {tg : Expr} (it : Addr) (lo : Int) (n : Nat) : Turn P w K tg (Itr lo n) [it] it (fun i h => IsRangeIter h it (lo + (i : Nat) * 1) ((n : Int) - (i : Nat)) 1) where
  mem := by simp
  obj := fun i h st b hb => by
    have e : b = it := by simpa using hb
    subst e
    exact ⟨_, st, fun v z => by
      have z' : Data.fields _ = Data.cell v := z
      cases z'⟩
  keep := fun i h h' st k => k it (by simp) _ st
  item := by
    intro X hP hw hK hc i pins s σ H E I hf st hg
    subst hP hw hK
    obtain ⟨f0, f1, f2, f3, f4, f5⟩ := hf it (by simp)
    have W := Walks.range (prog := X.prog) (w := X.w) (I.ok.hd hc) it lo 1 n
    refine W.item i s _ _ hg st fun v h' tk hv st' kk => ?_
    obtain ⟨t, rfl⟩ := hv
    have I1 : Inv X pins σ H { s with heap := h', toks := tk } := I.turned (fun b o hb e => kk b o (by simpa using hb) e) f0 f1 f3 f4 f5
    refine ⟨_, rfl, go_of (s := { s with heap := h', toks := tk }) (n := "range_iterator") st' rfl rfl (by decide) ⟨.int (lo + i), H, I1, ⟨t, ?_⟩, ⟨rfl, rfl⟩, st', fun b hb => (hf b hb).1⟩⟩
    rw [Int.mul_one]
  done := by
    intro X hP hw hK hc i pins s σ H E I hf st hg
    subst hP hw hK
    obtain ⟨f0, f1, f2, f3, f4, f5⟩ := hf it (by simp)
    exact wpAny_pyNext_range_end (I.ok.hd hc) st (by have : n ≤ i := hg; omega) fun h' eb => ⟨rfl, I.turned (t' := s.toks) (fun b o hb e => eb b o hb e) f0 f1 f3 f4 f5⟩
  self := fun _ _ _ _ _ st h => wpAny_pyIter_rangeiter st h
end L2

namespace L2
open PySem PySem.Spec PyProof.Rows
section
variable {X : Cx} {tg : Expr}
noncomputable def iList (K : PySem.W.Frag) (tl : TE) : TI := fun σ H R => tl σ H fun x H1 => ∃ a, x = .ref a ∧ (∃ xs, SqL K H1 a xs) ∧ R (Itl K a) H1
noncomputable def iTup (K : PySem.W.Frag) (tl : TE) : TI := fun σ H R => tl σ H fun x H1 => ∃ a, x = .ref a ∧ (∃ xs, SqT K H1 a xs) ∧ R (Itt K a) H1
theorem pi_list {l : Expr} {tl : TE} (hl : PE X l tl) : PI X tg l (iList X.K tl) := by
  intro pins s σ H R I h
  refine thn (hl pins s σ H _ I h) fun v s1 ⟨x, H1, I1, r1, q1⟩ => ?_
  obtain ⟨a, e, ⟨xs, hq⟩, q⟩ := q1
  subst e
  cases r1
  obtain ⟨its, rv, p, hz⟩ := I1.list hq
  refine wpAny_pyIter_list p.isList ?_
  refine ⟨s1.heap.objs.size, [s1.heap.objs.size], _, _, H1, rfl, I1.kept (t' := s1.toks) fun b o e => Heap.get?_push_of_some _ e, turn_list a _, ⟨_, Heap.get?_push_size _ rfl, rfl, rfl⟩, fun b hb => ?_, q⟩
  have e : b = s1.heap.objs.size := by simpa using hb
  subst e
  exact I1.fpOk (Nat.le_refl _) (I1.hok.fresh (Nat.le_refl _))
theorem pi_tup {l : Expr} {tl : TE} (hl : PE X l tl) : PI X tg l (iTup X.K tl) := by
  intro pins s σ H R I h
  refine thn (hl pins s σ H _ I h) fun v s1 ⟨x, H1, I1, r1, q1⟩ => ?_
  obtain ⟨a, e, ⟨xs, hq⟩, q⟩ := q1
  subst e
  cases r1
  obtain ⟨its, rv, p, hz⟩ := I1.tuple hq
  refine wpAny_pyIter_tuple (show s1.heap.IsTuple a its.toArray from p) ?_
  refine ⟨s1.heap.objs.size, [s1.heap.objs.size], _, _, H1, rfl, I1.kept (t' := s1.toks) fun b o e => Heap.get?_push_of_some _ e, turn_tuple a _, ⟨_, Heap.get?_push_size _ rfl, rfl, rfl⟩, fun b hb => ?_, q⟩
  have e : b = s1.heap.objs.size := by simpa using hb
  subst e
  exact I1.fpOk (Nat.le_refl _) (I1.hok.fresh (Nat.le_refl _))
/-- a range object just made, walked -/
theorem range_it {pins : List (Addr × Obj)} {σ : St} {H : Hp} {s : Shared} {R : It → Hp → Prop} {E : Value → Shared → Prop} {lo hi : Int} {t u v : Tok} {tk : Nat} (I : Inv X pins σ H s) (h1 : -(2 ^ 62) ≤ lo) (h2 : lo < 2 ^ 62) (h3 : -(2 ^ 62) ≤ hi) (h4 : hi < 2 ^ 62)
    (q : R (Itr lo (hi - lo).toNat) H) : wpAny (model X.prog X.w) X.A (pyIter (.ref s.heap.objs.size)) (PIE X pins σ tg R) E { s with heap := s.heap.push { cls := .type "range", data := .fields #[.int lo t, .int hi u, .int 1 v] }, toks := tk } := by
  refine wpAny_pyIter_range (IsRange.new ..) (small_one h1 h2 h3 h4) ?_
  have I1 : Inv X pins σ H { s with heap := s.heap.push { cls := .type "range", data := .fields #[.int lo t, .int hi u, .int 1 v] }, toks := tk } := I.kept fun b o e => Heap.get?_push_of_some _ e
  refine ⟨(s.heap.push { cls := .type "range", data := .fields #[.int lo t, .int hi u, .int 1 v] }).objs.size, [(s.heap.push { cls := .type "range", data := .fields #[.int lo t, .int hi u, .int 1 v] }).objs.size], _, _, H, rfl,
    I1.kept (t' := tk) fun b o e => Heap.get?_push_of_some _ e, turn_range _ lo (hi - lo).toNat, ?_, fun b hb => ?_, q⟩
  · have e1 : lo + ((0 : Nat) : Int) * 1 = lo := by simp
    have e2 : (((hi - lo).toNat : Nat) : Int) - ((0 : Nat) : Int) = Builtin.Range.rangeSize lo hi 1 := by rw [rangeSize_one]; split <;> omega
    show IsRangeIter _ _ (lo + ((0 : Nat) : Int) * 1) ((((hi - lo).toNat : Nat) : Int) - ((0 : Nat) : Int)) 1
    rw [e1, e2]
    exact Heap.get?_push_size _ rfl
  · have e : b = (s.heap.push { cls := .type "range", data := .fields #[.int lo t, .int hi u, .int 1 v] }).objs.size := by simpa using hb
    subst e
    exact I1.fpOk (Nat.le_refl _) (I1.hok.fresh (Nat.le_refl _))
noncomputable def iRng1 (ta : TA) : TI := fun σ H R => ta σ H fun vs H1 => ∃ j : Int, vs = [.int j] ∧ -(2 ^ 62) ≤ j ∧ j < 2 ^ 62 ∧ R (Itr 0 j.toNat) H1
noncomputable def iRng2 (ta : TA) : TI := fun σ H R => ta σ H fun vs H1 => ∃ i j : Int, vs = [.int i, .int j] ∧ (-(2 ^ 62) ≤ i ∧ i < 2 ^ 62 ∧ -(2 ^ 62) ≤ j ∧ j < 2 ^ 62) ∧ R (Itr i (j - i).toNat) H1
theorem pi_range1 {a : Expr} {ta : TA} {p pos : Pos} (hg : Gl X "range") (hm : X.mg "range" = none) (ha : PA X [a] ta) (hs : starEach [a] X.env = [(false, eval a X.env)] := by rfl) : PI X tg (.Call (.Name "range" p) [a] [] pos) (iRng1 ta) := by
  intro pins s σ H R I h
  refine Call_ (ld_blt I hg hm boot_range (PyProof.Rows.callWith_type1 (thn (ha pos pins s σ H _ I h) fun us s1 ⟨vs, H1, I1, r1, q1⟩ => ?_) hs rfl))
  obtain ⟨j, e, q1, q2, q⟩ := q1
  subst e
  cases r1 with
  | cons r rr =>
    cases rr
    obtain ⟨t, rfl⟩ := r
    exact call_range_1 (range_it I1 (by omega) (by omega) q1 q2 (by simpa using q))
theorem pi_range2 {a b : Expr} {ta : TA} {p pos : Pos} (hg : Gl X "range") (hm : X.mg "range" = none) (ha : PA X [a, b] ta) (hs : starEach [a, b] X.env = [(false, eval a X.env), (false, eval b X.env)] := by rfl) (hs2 : starEach [b] X.env = [(false, eval b X.env)] := by rfl) :
    PI X tg (.Call (.Name "range" p) [a, b] [] pos) (iRng2 ta) := by
  intro pins s σ H R I h
  refine Call_ (ld_blt I hg hm boot_range (PyProof.Rows.callWith_type1 (thn (ha pos pins s σ H _ I h) fun us s1 ⟨vs, H1, I1, r1, q1⟩ => ?_) (by rw [hs, hs2]) (by rw [hs2]; rfl)))
  obtain ⟨i, j, e, ⟨q1, q2, q3, q4⟩, q⟩ := q1
  subst e
  cases r1 with
  | cons r rr =>
    cases rr with
    | cons r' rr =>
      cases rr
      obtain ⟨t, rfl⟩ := r
      obtain ⟨t', rfl⟩ := r'
      exact call_range_2 (range_it I1 q1 q2 q3 q4 q)

/-! ### for -/
/-- W: the invariant by the turn and a measure; N: what the body is to reach -/
noncomputable def tFor (wi : TI) (g : TG) (tb : TS) : TS := fun D σ H => wi σ H fun J H1 => ∃ W : Nat → Nat → St → Hp → Prop, (∃ m, W 0 m σ H1) ∧ ∀ i m σ H, W i m σ H →
  (J.stop i H ∧ D.nx σ H) ∨ (J.go i H ∧ ∃ N : St → Hp → Prop, (∀ σ' H', N σ' H' → ∃ m', m' < m ∧ W (i + 1) m' σ' H') ∧ ∀ x H', J.yld i H x H' → g x σ H' fun σ2 H2 => tb { D with nx := N, ct := N, bk := D.nx } σ2 H2)
/-- the records at fp as they stand -/
noncomputable def pinsAt (fp : List Addr) (h : Heap) : List (Addr × Obj) := fp.filterMap fun b => (h.get? b).map fun o => (b, o)
theorem mem_pinsAt {fp : List Addr} {h : Heap} {b : Addr} {o : Obj} (hb : b ∈ fp) (e : h.get? b = some o) : (b, o) ∈ pinsAt fp h := List.mem_filterMap.mpr ⟨b, hb, by rw [e]; rfl⟩
theorem of_pinsAt {fp : List Addr} {h : Heap} {p : Addr × Obj} (hp : p ∈ pinsAt fp h) : p.1 ∈ fp ∧ h.get? p.1 = some p.2 := by
  obtain ⟨b, hb, e⟩ := List.mem_filterMap.mp hp
  cases q : h.get? b with
  | none => rw [q] at e; cases e
  | some o =>
    rw [q] at e
    have e' : (b, o) = p := Option.some.inj e
    subst e'
    exact ⟨hb, q⟩
theorem Inv.pinned {pins : List (Addr × Obj)} {σ : St} {H : Hp} {s : Shared} {fp : List Addr} (I : Inv X pins σ H s) (hf : ∀ b ∈ fp, FpOk X pins H b) (ho : ∀ b ∈ fp, ∃ o, s.heap.get? b = some o ∧ ∀ v, o.data ≠ .cell v) : Inv X (pins ++ pinsAt fp s.heap) σ H s :=
  I.pins_of fun p hp => (List.mem_append.mp hp).elim (fun z => I.pin p (List.mem_append_right _ z)) fun z => by
    obtain ⟨hb, e⟩ := of_pinsAt z
    obtain ⟨f0, f1, f2, _⟩ := hf p.1 hb
    obtain ⟨o, e', d⟩ := ho p.1 hb
    rw [e] at e'; cases e'
    exact ⟨e, f0, f1, f2, d⟩
theorem Inv.unpinned {pins pl : List (Addr × Obj)} {σ : St} {H : Hp} {s : Shared} (I : Inv X (pins ++ pl) σ H s) : Inv X pins σ H s := I.pins_of fun p hp => I.pin p (List.mem_append_right _ (List.mem_append_left _ hp))
theorem ps_for {iter : Expr} {body : List Stmt} {wi : TI} {g : TG} {tb : TS} {pos : Pos} (hp : PassesOwn (model X.prog X.w) X.A X.env X.xe) (hc : X.calm = true) (hi : PI X tg iter wi) (hg : PG X tg g) (hb : PSs X body tb)
    (hs : ∀ x, foldedSetIterable iter X.env x = pure x := by intro _; rfl) : PS X (.For tg iter body [] pos) (tFor wi g tb) := by
  intro pins s σ H D I h
  refine wpAny_For (thn (hi pins s σ H _ I h) fun v s1 h1 => thn h1 fun itv s2 h2 => ?_) hs
  obtain ⟨it, fp, tn, J, H2, e, I2, T, st2, f2, W, ⟨m0, w0⟩, turn⟩ := h2
  subst e
  -- what stays true of the iterator's objects through the loop
  have stat : ∀ {H' : Hp}, (∀ b ∈ fp, H' b = none) → ∀ b ∈ fp, FpOk X pins H' b := fun hn b hb => ⟨hn b hb, (f2 b hb).2⟩
  refine codeAny_forLoop_any (fun n s' => ∃ i σ' H', Inv X pins σ' H' s' ∧ tn i s'.heap ∧ (∀ b ∈ fp, H' b = none) ∧ W i n σ' H') ?_ m0 ⟨0, σ, H2, I2, st2, fun b hb => (f2 b hb).1, w0⟩
  rintro n s3 ⟨i, σ3, H3, I3, st3, fr3, w3⟩
  rcases turn i n σ3 H3 w3 with ⟨stop, qn⟩ | ⟨go, N, hN, step⟩
  · refine wpAny_passesOwn hp (thn (T.done X rfl rfl rfl hc i pins s3 σ3 H3 X.xe I3 (stat fr3) st3 stop) fun r s4 ⟨hr, I4⟩ => ?_)
    subst hr
    exact wpAny_execs_nil ⟨σ3, H3, I4, qn⟩
  · refine wpAny_passesOwn hp (thn (T.item X rfl rfl rfl hc i pins s3 σ3 H3 X.xe I3 (stat fr3) st3 go) fun r s4 ⟨u, hr, h4⟩ => ?_)
    subst hr
    refine wpAny_passesOwn hp (thn h4 fun _ s5 ⟨x, H5, I5, r5, y5, st5, fr5⟩ => ?_)
    have I5' := I5.pinned (stat fr5) (T.obj _ _ st5)
    refine wpAny_passesOwn hp (thn (hg _ s5 σ3 H5 x u _ I5' r5 (step x H5 y5)) fun _ s6 ⟨σ6, H6, I6, q6⟩ => ?_)
    refine wpAny_passesOwn hp (thn (hb _ s6 σ6 H6 _ I6 q6) fun f s7 q7 => ?_)
    have again : ∀ {σ7 : St} {H7 : Hp}, Inv X (pins ++ pinsAt fp s5.heap) σ7 H7 s7 → N σ7 H7 → ∃ m, m < n ∧ ∃ i σ' H', Inv X pins σ' H' s7 ∧ tn i s7.heap ∧ (∀ b ∈ fp, H' b = none) ∧ W i m σ' H' := fun {σ7 H7} I7 n7 => by
      obtain ⟨m', hm, w7⟩ := hN σ7 H7 n7
      refine ⟨m', hm, i + 1, σ7, H7, I7.unpinned, T.keep _ _ _ st5 fun b hb o e => (I7.pin (b, o) (List.mem_append_right _ (List.mem_append_right _ (mem_pinsAt hb e)))).1, fun b hb => ?_, w7⟩
      obtain ⟨o, e, d⟩ := T.obj _ _ st5 b hb
      exact (I7.pin (b, o) (List.mem_append_right _ (List.mem_append_right _ (mem_pinsAt hb e)))).2.1
    cases f with
    | next => obtain ⟨σ7, H7, I7, n7⟩ := q7; exact again I7 n7
    | cont => obtain ⟨σ7, H7, I7, n7⟩ := q7; exact again I7 n7
    | brk => obtain ⟨σ7, H7, I7, q7⟩ := q7; exact ⟨σ7, H7, I7.unpinned, q7⟩
    | ret v => obtain ⟨x7, σ7, H7, I7, r7, q7⟩ := q7; exact ⟨x7, σ7, H7, I7.unpinned, r7, q7⟩
end

/-! ### the forms one uses -/
/-- over a list that the body leaves as it is -/
theorem for_list {K : PySem.W.Frag} {a : Addr} {xs : List V} {g : TG} {tb : TS} {D : Ends} {σ : St} {H : Hp} (Pv : Nat → St → Hp → Prop) (h0 : Pv 0 σ H) (hl : ∀ i σ H, i ≤ xs.length → Pv i σ H → SqL K H a xs)
    (hs : ∀ i x σ H, xs[i]? = some x → Pv i σ H → g x σ H fun σ2 H2 => tb { D with nx := Pv (i + 1), ct := Pv (i + 1), bk := D.nx } σ2 H2) (hd : ∀ σ H, Pv xs.length σ H → D.nx σ H) :
    ∃ W : Nat → Nat → St → Hp → Prop, (∃ m, W 0 m σ H) ∧ ∀ i m σ H, W i m σ H →
      ((Itl K a).stop i H ∧ D.nx σ H) ∨ ((Itl K a).go i H ∧ ∃ N : St → Hp → Prop, (∀ σ' H', N σ' H' → ∃ m', m' < m ∧ W (i + 1) m' σ' H') ∧ ∀ x H', (Itl K a).yld i H x H' → g x σ H' fun σ2 H2 => tb { D with nx := N, ct := N, bk := D.nx } σ2 H2) := by
  refine ⟨fun i m σ H => m = xs.length - i ∧ i ≤ xs.length ∧ Pv i σ H, ⟨xs.length, by simp, Nat.zero_le _, h0⟩, ?_⟩
  rintro i m σ H ⟨rfl, hi, p⟩
  have q := hl i σ H hi p
  by_cases hlt : i < xs.length
  · refine .inr ⟨⟨xs, xs[i], q, by simp [hlt]⟩, Pv (i + 1), fun σ' H' p' => ⟨xs.length - (i + 1), by omega, rfl, hlt, p'⟩, fun x H' y => ?_⟩
    obtain ⟨e, y⟩ := y
    subst e
    exact hs i x σ _ (y xs q) p
  · have e : i = xs.length := by omega
    subst e
    exact .inl ⟨⟨xs, q, Nat.le_refl _⟩, hd σ H p⟩
theorem for_tup {K : PySem.W.Frag} {a : Addr} {xs : List V} {g : TG} {tb : TS} {D : Ends} {σ : St} {H : Hp} (Pv : Nat → St → Hp → Prop) (h0 : Pv 0 σ H) (hl : ∀ i σ H, i ≤ xs.length → Pv i σ H → SqT K H a xs)
    (hs : ∀ i x σ H, xs[i]? = some x → Pv i σ H → g x σ H fun σ2 H2 => tb { D with nx := Pv (i + 1), ct := Pv (i + 1), bk := D.nx } σ2 H2) (hd : ∀ σ H, Pv xs.length σ H → D.nx σ H) :
    ∃ W : Nat → Nat → St → Hp → Prop, (∃ m, W 0 m σ H) ∧ ∀ i m σ H, W i m σ H →
      ((Itt K a).stop i H ∧ D.nx σ H) ∨ ((Itt K a).go i H ∧ ∃ N : St → Hp → Prop, (∀ σ' H', N σ' H' → ∃ m', m' < m ∧ W (i + 1) m' σ' H') ∧ ∀ x H', (Itt K a).yld i H x H' → g x σ H' fun σ2 H2 => tb { D with nx := N, ct := N, bk := D.nx } σ2 H2) := by
  refine ⟨fun i m σ H => m = xs.length - i ∧ i ≤ xs.length ∧ Pv i σ H, ⟨xs.length, by simp, Nat.zero_le _, h0⟩, ?_⟩
  rintro i m σ H ⟨rfl, hi, p⟩
  have q := hl i σ H hi p
  by_cases hlt : i < xs.length
  · refine .inr ⟨⟨xs, xs[i], q, by simp [hlt]⟩, Pv (i + 1), fun σ' H' p' => ⟨xs.length - (i + 1), by omega, rfl, hlt, p'⟩, fun x H' y => ?_⟩
    obtain ⟨e, y⟩ := y
    subst e
    exact hs i x σ _ (y xs q) p
  · have e : i = xs.length := by omega
    subst e
    exact .inl ⟨⟨xs, q, Nat.le_refl _⟩, hd σ H p⟩
theorem for_range {lo : Int} {n : Nat} {g : TG} {tb : TS} {D : Ends} {σ : St} {H : Hp} (Pv : Nat → St → Hp → Prop) (h0 : Pv 0 σ H)
    (hs : ∀ i σ H, i < n → Pv i σ H → g (.int (lo + i)) σ H fun σ2 H2 => tb { D with nx := Pv (i + 1), ct := Pv (i + 1), bk := D.nx } σ2 H2) (hd : ∀ σ H, Pv n σ H → D.nx σ H) :
    ∃ W : Nat → Nat → St → Hp → Prop, (∃ m, W 0 m σ H) ∧ ∀ i m σ H, W i m σ H →
      ((Itr lo n).stop i H ∧ D.nx σ H) ∨ ((Itr lo n).go i H ∧ ∃ N : St → Hp → Prop, (∀ σ' H', N σ' H' → ∃ m', m' < m ∧ W (i + 1) m' σ' H') ∧ ∀ x H', (Itr lo n).yld i H x H' → g x σ H' fun σ2 H2 => tb { D with nx := N, ct := N, bk := D.nx } σ2 H2) := by
  refine ⟨fun i m σ H => m = n - i ∧ i ≤ n ∧ Pv i σ H, ⟨n, by simp, Nat.zero_le _, h0⟩, ?_⟩
  rintro i m σ H ⟨rfl, hi, p⟩
  by_cases hlt : i < n
  · refine .inr ⟨hlt, Pv (i + 1), fun σ' H' p' => ⟨n - (i + 1), by omega, rfl, hlt, p'⟩, fun x H' y => ?_⟩
    obtain ⟨e, y⟩ := y
    subst e y
    exact hs i σ _ hlt p
  · have e : i = n := by omega
    subst e
    exact .inl ⟨Nat.le_refl _, hd σ H p⟩
end L2

namespace L2
open PySem PySem.Spec PyProof.Rows

noncomputable abbrev R2 := V → V → Hp → VK → Prop
/-- a two-place operation on values: f is binaryOp op, inplaceOp op or compareOp op -/
noncomputable def OpR (X : Cx) (f : Value → Value → Sem Value) (r : R2) : Prop :=
  ∀ (pins : List (Addr × Obj)) (s : Shared) (σ : St) (H : Hp) (x y : V) (v u : Value) (Q : VK), Inv X pins σ H s → RelV x v → RelV y u → r x y H Q →
    wpAny (model X.prog X.w) X.A (f v u) (EP X pins σ Q) X.xe s
/-- a call of a value that is known (a builtin, a type) with values -/
noncomputable def CallR (X : Cx) (f : Value) (r : List V → Hp → VK → Prop) : Prop :=
  ∀ (pins : List (Addr × Obj)) (s : Shared) (σ : St) (H : Hp) (xs : List V) (us : List Value) (Q : VK), Inv X pins σ H s → Vals xs us → r xs H Q →
    wpAny (model X.prog X.w) X.A (call f us) (EP X pins σ Q) X.xe s
noncomputable def tOp (r : R2) (ta tb : TE) : TE := fun σ H Q => ta σ H fun x H1 => tb σ H1 fun y H2 => r x y H2 Q
/-- ints in, under C, and a value out -/
noncomputable def rI (C : Int → Int → Prop) (g : Int → Int → V) : R2 := fun x y H Q => ∃ i j, x = .int i ∧ y = .int j ∧ C i j ∧ Q (g i j) H
noncomputable def rI0 (g : Int → Int → V) : R2 := fun x y H Q => ∃ i j, x = .int i ∧ y = .int j ∧ Q (g i j) H
section
variable {X : Cx} {a b c : Expr} {ta tb tc : TE} {pos : Pos}

theorem binT (ha : PE X a ta) (hb : PE X b tb) {pins : List (Addr × Obj)} {s : Shared} {σ : St} {H : Hp} {R : V → V → Hp → Prop} (I : Inv X pins σ H s)
    (h : ta σ H fun x H1 => tb σ H1 fun y H2 => R x y H2) {Q : Value → Shared → Prop} {f : Value → Value → Sem Value}
    (hf : ∀ v u s2 x y H2, Inv X pins σ H2 s2 → RelV x v → RelV y u → R x y H2 → wpAny (model X.prog X.w) X.A (f v u) Q X.xe s2) :
    wpAny (model X.prog X.w) X.A (eval a X.env) (fun v s₁ => wpAny (model X.prog X.w) X.A (eval b X.env) (fun u s₂ => wpAny (model X.prog X.w) X.A (f v u) Q X.xe s₂) X.xe s₁) X.xe s := by
  refine thn (ha pins s σ H _ I h) fun v s1 ⟨x, H1, I1, r1, q1⟩ => ?_
  refine thn (hb pins s1 σ H1 _ I1 q1) fun u s2 ⟨y, H2, I2, r2, q2⟩ => ?_
  exact hf v u s2 x y H2 I2 r1 r2 q2

theorem pe_op {op : Operator} {r : R2} (ho : OpR X (binaryOp op) r) (ha : PE X a ta) (hb : PE X b tb) : PE X (.BinOp a op b pos) (tOp r ta tb) := by
  intro pins s σ H Q I h
  exact wpAny_BinOp (binT ha hb I h fun v u s2 x y H2 I2 rx ry q => ho pins s2 σ H2 x y v u Q I2 rx ry q)
/-! ### ints -/
theorem opI {f : Value → Value → Sem Value} {C : Int → Int → Prop} {g : Int → Int → Int}
    (rule : ∀ (i j : Int) (t u : Tok) (s : Shared) (Q : Value → Shared → Prop) (E : Value → Shared → Prop), C i j → Q (.int (g i j) s.toks) { s with toks := s.toks + 1 } → wpAny (model X.prog X.w) X.A (f (.int i t) (.int j u)) Q E s) :
    OpR X f (rI C fun i j => .int (g i j)) := by
  intro pins s σ H x y v u Q I rx ry h
  obtain ⟨i, j, rfl, rfl, hc, q⟩ := h
  obtain ⟨t, rfl⟩ := rx
  obtain ⟨t', rfl⟩ := ry
  exact rule i j t t' s _ _ hc ⟨.int (g i j), H, I.tok _, ⟨_, rfl⟩, q⟩
theorem opI0 {f : Value → Value → Sem Value} {g : Int → Int → Int}
    (rule : ∀ (i j : Int) (t u : Tok) (s : Shared) (Q : Value → Shared → Prop) (E : Value → Shared → Prop), Q (.int (g i j) s.toks) { s with toks := s.toks + 1 } → wpAny (model X.prog X.w) X.A (f (.int i t) (.int j u)) Q E s) :
    OpR X f (rI0 fun i j => .int (g i j)) := by
  intro pins s σ H x y v u Q I rx ry h
  obtain ⟨i, j, rfl, rfl, q⟩ := h
  obtain ⟨t, rfl⟩ := rx
  obtain ⟨t', rfl⟩ := ry
  exact rule i j t t' s _ _ ⟨.int (g i j), H, I.tok _, ⟨_, rfl⟩, q⟩
theorem opB0 {f : Value → Value → Sem Value} {g : Int → Int → Bool}
    (rule : ∀ (i j : Int) (t u : Tok) (s : Shared) (Q : Value → Shared → Prop) (E : Value → Shared → Prop), Q (.bool (g i j)) s → wpAny (model X.prog X.w) X.A (f (.int i t) (.int j u)) Q E s) :
    OpR X f (rI0 fun i j => .bl (g i j)) := by
  intro pins s σ H x y v u Q I rx ry h
  obtain ⟨i, j, rfl, rfl, q⟩ := h
  obtain ⟨t, rfl⟩ := rx
  obtain ⟨t', rfl⟩ := ry
  exact rule i j t t' s _ _ ⟨.bl (g i j), H, I, rfl, q⟩

noncomputable def CDiv (i j : Int) : Prop := 0 < j ∧ j < 1073741824
noncomputable def CPow (i j : Int) : Prop := 0 ≤ j ∧ j ≤ 1000000 ∧ i.natAbs < 2 ^ 64
noncomputable def CMul (i j : Int) : Prop := (-(2 ^ 64) < i ∧ i < 2 ^ 64) ∨ (-(2 ^ 64) < j ∧ j < 2 ^ 64)
theorem CMul.ok {i j : Int} (h : CMul i j) : IntMulOk i j := by
  rcases h with ⟨h1, h2⟩ | ⟨h1, h2⟩
  · exact .of_left (intBits_le_64 h1 h2)
  · exact .of_right (intBits_le_64 h1 h2)
theorem op_add : OpR X (binaryOp .Add) (rI0 fun i j => .int (i + j)) := opI0 fun _ _ _ _ _ _ _ q => add_int q
theorem op_sub : OpR X (binaryOp .Sub) (rI0 fun i j => .int (i - j)) := opI0 fun _ _ _ _ _ _ _ q => sub_int q
theorem op_mul : OpR X (binaryOp .Mult) (rI CMul fun i j => .int (i * j)) := opI fun _ _ _ _ _ _ _ hc q => mul_int q hc.ok
/-- // by a positive divisor -/
theorem op_fdiv : OpR X (binaryOp .FloorDiv) (rI CDiv fun i j => .int (i / j)) := opI fun i j _ _ _ _ _ hc q => by
  have h1 : (0 : Int) < j := hc.1
  have h2 : j < 1073741824 := hc.2
  exact floordiv_int (by omega) (by rw [Int.fdiv_eq_ediv_of_nonneg i (by omega)]; exact q) (.inl (PyProof.noPylong_small (by omega)))
/-- % by a positive divisor of any size -/
theorem op_mod : OpR X (binaryOp .Mod) (rI (fun _ j => 0 < j) fun i j => .int (i % j)) := opI fun i j _ _ _ _ _ hc q => by
  have h1 : (0 : Int) < j := hc
  exact mod_int' (by omega) (by rw [Int.fmod_eq_emod_of_nonneg i (by omega)]; exact q)
theorem op_pow : OpR X (binaryOp .Pow) (rI CPow fun i j => .int (i ^ j.toNat)) := opI fun _ _ _ _ _ _ _ hc q => pow_int_small hc.1 hc.2.1 hc.2.2 q
/-! ### bools among ints: n += (a < b) -/
end

/-! ### comparisons -/
/-- the scalars that == tells apart as data does -/
noncomputable def scal : V → V → Bool
  | .non, .non => true | .non, .int _ => true | .int _, .non => true | .non, .bl _ => true | .bl _, .non => true | .non, .str _ => true | .str _, .non => true
  | .int _, .int _ => true | .bl _, .bl _ => true | .str _, .str _ => true | .byt _, .byt _ => true
  | .int _, .str _ => true | .str _, .int _ => true | .bl _, .str _ => true | .str _, .bl _ => true
  | _, _ => false
noncomputable def rEq : R2 := fun x y H Q => scal x y = true ∧ Q (.bl (decide (x = y))) H
noncomputable def rNe : R2 := fun x y H Q => scal x y = true ∧ Q (.bl (!decide (x = y))) H

theorem dec_int {i j : Int} : decide (V.int i = V.int j) = (i == j) := by
  rw [Bool.eq_iff_iff]
  simp
theorem dec_bl {i j : Bool} : decide (V.bl i = V.bl j) = (i == j) := by
  rw [Bool.eq_iff_iff]
  simp
theorem dec_str {i j : Str} : decide (V.str i = V.str j) = (i == j) := by
  rw [Bool.eq_iff_iff]
  simp
theorem dec_byt {i j : Array UInt8} : decide (V.byt i = V.byt j) = (i.toList == j.toList) := by
  rw [Bool.eq_iff_iff]
  cases i
  cases j
  simp

section
variable {X : Cx} {a b c : Expr} {ta tb tc : TE} {pos : Pos}
theorem fin_bl {pins : List (Addr × Obj)} {σ : St} {H : Hp} {s : Shared} {Q : VK} {k k' : Bool} (I : Inv X pins σ H s) (q : Q (.bl k) H) (e : k = k') : EP X pins σ Q (.bool k') s := by
  subst e
  exact ⟨.bl k, H, I, rfl, q⟩
theorem op_eq : OpR X (compareOp .Eq) rEq := by
  intro pins s σ H x y v u Q I rx ry h
  obtain ⟨hs, q⟩ := h
  cases x with
  | non =>
    cases rx
    cases y with
    | non => cases ry; exact PySem.EqNone.eq_none_none (fin_bl I q (by simp))
    | bl j => cases ry; exact PySem.EqNone.eq_none_bool (fin_bl I q (by simp))
    | int j => obtain ⟨t', rfl⟩ := ry; exact PySem.EqNone.eq_none_int (fin_bl I q (by simp))
    | str j => obtain ⟨t', rfl⟩ := ry; exact PySem.EqNone.eq_none_str (fin_bl I q (by simp))
    | _ => exact absurd (show false = true from hs) Bool.false_ne_true
  | bl i =>
    cases rx
    cases y with
    | non => cases ry; exact PySem.EqNone.eq_bool_none (fin_bl I q (by simp))
    | bl j => cases ry; exact eq_bool (fin_bl I q dec_bl)
    | str j => obtain ⟨t', rfl⟩ := ry; exact PySem.EqMixed.eq_bool_str (fin_bl I q (by simp))
    | _ => exact absurd (show false = true from hs) Bool.false_ne_true
  | int i =>
    obtain ⟨t, rfl⟩ := rx
    cases y with
    | non => cases ry; exact PySem.EqNone.eq_int_none (fin_bl I q (by simp))
    | int j => obtain ⟨t', rfl⟩ := ry; exact eq_int (fin_bl I q dec_int)
    | str j => obtain ⟨t', rfl⟩ := ry; exact PySem.EqMixed.eq_int_str (fin_bl I q (by simp))
    | _ => exact absurd (show false = true from hs) Bool.false_ne_true
  | str i =>
    obtain ⟨t, rfl⟩ := rx
    cases y with
    | non => cases ry; exact PySem.EqNone.eq_str_none (fin_bl I q (by simp))
    | bl j => cases ry; exact PySem.EqMixed.eq_str_bool (fin_bl I q (by simp))
    | int j => obtain ⟨t', rfl⟩ := ry; exact PySem.EqMixed.eq_str_int (fin_bl I q (by simp))
    | str j => obtain ⟨t', rfl⟩ := ry; exact eq_str (fin_bl I q dec_str)
    | _ => exact absurd (show false = true from hs) Bool.false_ne_true
  | byt i =>
    obtain ⟨t, rfl⟩ := rx
    cases y with
    | byt j => obtain ⟨t', rfl⟩ := ry; exact PySem.W.eq_bytes (fin_bl I q dec_byt)
    | _ => exact absurd (show false = true from hs) Bool.false_ne_true
  | _ => cases y <;> exact absurd (show false = true from hs) Bool.false_ne_true
theorem op_ne : OpR X (compareOp .NotEq) rNe := by
  intro pins s σ H x y v u Q I rx ry h
  obtain ⟨hs, q⟩ := h
  cases x with
  | non =>
    cases rx
    cases y with
    | non => cases ry; exact PySem.EqNone.ne_none_none (fin_bl I q (by simp))
    | bl j => cases ry; exact PySem.EqNone.ne_none_bool (fin_bl I q (by simp))
    | int j => obtain ⟨t', rfl⟩ := ry; exact PySem.EqNone.ne_none_int (fin_bl I q (by simp))
    | str j => obtain ⟨t', rfl⟩ := ry; exact PySem.EqNone.ne_none_str (fin_bl I q (by simp))
    | _ => exact absurd (show false = true from hs) Bool.false_ne_true
  | bl i =>
    cases rx
    cases y with
    | non => cases ry; exact PySem.EqNone.ne_bool_none (fin_bl I q (by simp))
    | bl j => cases ry; exact ne_bool (fin_bl I q (congrArg not dec_bl))
    | str j => obtain ⟨t', rfl⟩ := ry; exact PySem.EqMixed.ne_bool_str (fin_bl I q (by simp))
    | _ => exact absurd (show false = true from hs) Bool.false_ne_true
  | int i =>
    obtain ⟨t, rfl⟩ := rx
    cases y with
    | non => cases ry; exact PySem.EqNone.ne_int_none (fin_bl I q (by simp))
    | int j => obtain ⟨t', rfl⟩ := ry; exact ne_int (fin_bl I q (congrArg not dec_int))
    | str j => obtain ⟨t', rfl⟩ := ry; exact PySem.EqMixed.ne_int_str (fin_bl I q (by simp))
    | _ => exact absurd (show false = true from hs) Bool.false_ne_true
  | str i =>
    obtain ⟨t, rfl⟩ := rx
    cases y with
    | non => cases ry; exact PySem.EqNone.ne_str_none (fin_bl I q (by simp))
    | bl j => cases ry; exact PySem.EqMixed.ne_str_bool (fin_bl I q (by simp))
    | int j => obtain ⟨t', rfl⟩ := ry; exact PySem.EqMixed.ne_str_int (fin_bl I q (by simp))
    | str j => obtain ⟨t', rfl⟩ := ry; exact ne_str (fin_bl I q (congrArg not dec_str))
    | _ => exact absurd (show false = true from hs) Bool.false_ne_true
  | byt i =>
    obtain ⟨t, rfl⟩ := rx
    cases y with
    | byt j => obtain ⟨t', rfl⟩ := ry; exact PySem.W.ne_bytes (fin_bl I q (congrArg not dec_byt))
    | _ => exact absurd (show false = true from hs) Bool.false_ne_true
  | _ => cases y <;> exact absurd (show false = true from hs) Bool.false_ne_true

theorem op_lt : OpR X (compareOp .Lt) (rI0 fun i j => .bl (decide (i < j))) := opB0 fun _ _ _ _ _ _ _ q => lt_int q
theorem op_le : OpR X (compareOp .LtE) (rI0 fun i j => .bl (decide (i ≤ j))) := opB0 fun _ _ _ _ _ _ _ q => le_int q
theorem op_gt : OpR X (compareOp .Gt) (rI0 fun i j => .bl (decide (j < i))) := opB0 fun _ _ _ _ _ _ _ q => gt_int q
theorem op_lt_str : OpR X (compareOp .Lt) (fun x y H Q => ∃ i j, x = .str i ∧ y = .str j ∧ Q (.bl (decide (i.cps.toList < j.cps.toList))) H) := by
  intro pins s σ H x y v u Q I rx ry h
  obtain ⟨i, j, rfl, rfl, q⟩ := h
  obtain ⟨t, rfl⟩ := rx
  obtain ⟨t', rfl⟩ := ry
  exact lt_str (fin_bl I q rfl)
theorem op_notN : OpR X (compareOp .IsNot) (fun x y H Q => y = .non ∧ Q (.bl (!decide (x = .non))) H) := by
  intro pins s σ H x y v u Q I rx ry h
  obtain ⟨rfl, q⟩ := h
  cases ry
  refine isnot_none_gen (fin_bl I q ?_)
  cases x <;> first
    | (cases rx; rfl)
    | (obtain ⟨t, rfl⟩ := rx; rfl)

theorem nomark (b : Expr) {op : CmpOp} (h : op ≠ .In := by decide) (h2 : op ≠ .NotIn := by decide) : behindInMarks op b = false := by
  have e1 : (op == CmpOp.In) = false := by cases op <;> first | rfl | exact absurd rfl h
  have e2 : (op == CmpOp.NotIn) = false := by cases op <;> first | rfl | exact absurd rfl h2
  cases b <;> simp [behindInMarks, e1, e2]
/-- a comparison as a value; hm: nomark b, or (for in, not in) by with_unfolding_all rfl -/
theorem pe_cmpR {op : CmpOp} {r : R2} (ho : OpR X (compareOp op) r) (ha : PE X a ta) (hb : PE X b tb) (hm : behindInMarks op b = false) : PE X (.Compare a [op] [b] pos) (tOp r ta tb) := by
  intro pins s σ H Q I h
  exact wpAny_Compare1 (binT ha hb I h fun v u s2 x y H2 I2 rx ry q => ho pins s2 σ H2 x y v u Q I2 rx ry q) hm
/-- a reading of a value as a test -/
noncomputable def tTest (t : TE) : TT := fun σ H Q => t σ H fun x H' => ∃ k, x = .bl k ∧ Q k H'
theorem pt_cmpR {op : CmpOp} {r : R2} (ho : OpR X (compareOp op) r) (ha : PE X a ta) (hb : PE X b tb) (hm : behindInMarks op b = false) : PT X (.Compare a [op] [b] pos) (tTest (tOp r ta tb)) := by
  intro pins s σ H Q I h
  refine wpAny_isTrue_Compare1 (thn (ha pins s σ H _ I h) fun v s1 ⟨x, H1, I1, r1, q1⟩ => thn (hb pins s1 σ H1 _ I1 q1) fun u s2 ⟨y, H2, I2, r2, q2⟩ =>
    thn (ho pins s2 σ H2 x y v u _ I2 r1 r2 q2) fun c s3 ⟨z, H3, I3, r3, k, e, q3⟩ => ?_) hm
  subst e
  cases r3
  exact wpAny_truthy_bool ⟨H3, I3, q3⟩
/-- a op1 b op2 c -/
noncomputable def tChain (r r' : R2) (ta tb tc : TE) : TE := fun σ H Q => ta σ H fun x H1 => tb σ H1 fun y H2 => r x y H2 fun z H3 => ∃ k, z = .bl k ∧
  (if k = true then tc σ H3 fun w' H4 => r' y w' H4 Q else Q (.bl false) H3)
theorem pe_chain {op op' : CmpOp} {r r' : R2} (ho : OpR X (compareOp op) r) (ho' : OpR X (compareOp op') r') (ha : PE X a ta) (hb : PE X b tb) (hc : PE X c tc)
    (hm : lastMarks [op, op'] [b, c] = false := by with_unfolding_all rfl) : PE X (.Compare a [op, op'] [b, c] pos) (tChain r r' ta tb tc) := by
  intro pins s σ H Q I h
  refine Compare_chain (thn (ha pins s σ H _ I h) fun v s1 ⟨x, H1, I1, r1, q1⟩ => chain_link (thn (hb pins s1 σ H1 _ I1 q1) fun u s2 ⟨y, H2, I2, r2, q2⟩ =>
    thn (ho pins s2 σ H2 x y v u _ I2 r1 r2 q2) fun d s3 ⟨z, H3, I3, r3, k, e, q3⟩ => ?_)) hm
  subst e
  cases r3
  refine wpAny_truthy_bool ?_
  cases k with
  | false => exact ite_ff ⟨.bl false, H3, I3, rfl, q3⟩
  | true => exact ite_tt (chain_last (thn (hc pins s3 σ H3 _ I3 q3) fun w' s4 ⟨z', H4, I4, r4, q4⟩ => ho' pins s4 σ H4 y z' u w' Q I4 r2 r4 q4))
theorem pt_chain {op op' : CmpOp} {r r' : R2} (ho : OpR X (compareOp op) r) (ho' : OpR X (compareOp op') r') (ha : PE X a ta) (hb : PE X b tb) (hc : PE X c tc)
    (hm : lastMarks [op, op'] [b, c] = false := by with_unfolding_all rfl) : PT X (.Compare a [op, op'] [b, c] pos) (tTest (tChain r r' ta tb tc)) := by
  intro pins s σ H Q I h
  refine isTrue_chain (thn (ha pins s σ H _ I h) fun v s1 ⟨x, H1, I1, r1, q1⟩ => test_link (thn (hb pins s1 σ H1 _ I1 q1) fun u s2 ⟨y, H2, I2, r2, q2⟩ =>
    thn (ho pins s2 σ H2 x y v u _ I2 r1 r2 q2) fun d s3 ⟨z, H3, I3, r3, k, e, q3⟩ => ?_)) hm
  subst e
  cases r3
  refine wpAny_truthy_bool ?_
  cases k with
  | false =>
    obtain ⟨k', e', q'⟩ := q3
    cases e'
    exact ite_ff ⟨H3, I3, q'⟩
  | true =>
    refine ite_tt (test_last (thn (hc pins s3 σ H3 _ I3 q3) fun w' s4 ⟨z', H4, I4, r4, q4⟩ => thn (ho' pins s4 σ H4 y z' u w' _ I4 r2 r4 q4) fun d' s5 ⟨z2, H5, I5, r5, k2, e2, q5⟩ => ?_))
    subst e2
    cases r5
    exact wpAny_truthy_bool ⟨H5, I5, q5⟩

/-! ### truth -/
theorem line63 : (sizeLine : Nat) < 2 ^ 63 := by rw [sizeLine_eq]; decide
/-! ### strs and bytes -/
theorem op_add_str : OpR X (binaryOp .Add) (fun x y H Q => ∃ i j, x = .str i ∧ y = .str j ∧ i.length + j.length ≤ sizeLine ∧ Q (.str (i ++ j)) H) := by
  intro pins s σ H x y v u Q I rx ry h
  obtain ⟨i, j, rfl, rfl, hz, q⟩ := h
  obtain ⟨t, rfl⟩ := rx
  obtain ⟨t', rfl⟩ := ry
  exact add_str (fun t' tk => ⟨.str (i ++ j), H, I.tok _, ⟨_, rfl⟩, q⟩) hz
/-! ### scalar builtins, by CallR -/
theorem vals1 {x : V} {us : List Value} (r : Vals [x] us) : ∃ u, us = [u] ∧ RelV x u := by
  cases r with
  | cons r1 r2 => cases r2; exact ⟨_, rfl, r1⟩
theorem vals2 {x y : V} {us : List Value} (r : Vals [x, y] us) : ∃ u w', us = [u, w'] ∧ RelV x u ∧ RelV y w' := by
  cases r with
  | cons r1 r2 =>
    cases r2 with
    | cons r3 r4 => cases r4; exact ⟨_, _, rfl, r1, r3⟩
theorem call_max2 (hc : X.calm = true) : CallR X (.builtin "max") (fun xs H Q => ∃ i j, xs = [.int i, .int j] ∧ Q (.int (if j > i then j else i)) H) := by
  intro pins s σ H xs us Q I r h
  obtain ⟨i, j, rfl, q⟩ := h
  obtain ⟨u, w', rfl, ⟨t, rfl⟩, ⟨t', rfl⟩⟩ := vals2 r
  refine max_two_ints (I.ok.hd hc) fun h' tk k => ⟨_, H, I.kept k, ?_, q⟩
  by_cases hj : j > i
  · rw [if_pos hj, if_pos hj]; exact ⟨_, rfl⟩
  · rw [if_neg hj, if_neg hj]; exact ⟨_, rfl⟩
theorem call_min2 (hc : X.calm = true) : CallR X (.builtin "min") (fun xs H Q => ∃ i j, xs = [.int i, .int j] ∧ Q (.int (if j < i then j else i)) H) := by
  intro pins s σ H xs us Q I r h
  obtain ⟨i, j, rfl, q⟩ := h
  obtain ⟨u, w', rfl, ⟨t, rfl⟩, ⟨t', rfl⟩⟩ := vals2 r
  refine min_two_ints (I.ok.hd hc) fun h' tk k => ⟨_, H, I.kept k, ?_, q⟩
  by_cases hj : j < i
  · rw [if_pos hj, if_pos hj]; exact ⟨_, rfl⟩
  · rw [if_neg hj, if_neg hj]; exact ⟨_, rfl⟩
/-- divmod: a new tuple -/
theorem call_divmod : CallR X (.builtin "divmod") (fun xs H Q => ∃ i j, xs = [.int i, .int j] ∧ CDiv i j ∧ ∀ p, H p = none → Q (.ref p) (upd H p (.tup [.int (i / j), .int (i % j)]))) := by
  intro pins s σ H xs us Q I r h
  obtain ⟨i, j, rfl, ⟨h1, h2⟩, q⟩ := h
  obtain ⟨u, w', rfl, ⟨t, rfl⟩, ⟨t', rfl⟩⟩ := vals2 r
  refine divmod_int (by omega) ?_ (.inl (PyProof.noPylong_small (by omega)))
  rw [Int.fdiv_eq_ediv_of_nonneg i (by omega), Int.fmod_eq_emod_of_nonneg i (by omega)]
  have hn : H s.heap.objs.size = none := I.hok.fresh (Nat.le_refl _)
  refine ⟨.ref s.heap.objs.size, _, ?_, rfl, q _ hn⟩
  refine I.laid (fun b o e => Heap.get?_push_of_some _ e) (Nat.le_refl _) ⟨by simp only [List.length_cons, List.length_nil]; rw [sizeLine_eq]; decide, [.int (i / j) s.toks, .int (i % j) (s.toks + 1)], .cons ⟨_, rfl⟩ (.cons ⟨_, rfl⟩ .nil), ?_⟩
  exact ⟨_, Heap.get?_push_size s.heap rfl, rfl, 0, rfl⟩
end
end L2

namespace L2
open PySem PySem.Spec PyProof.Rows

/-! ### an instance, its attributes a map -/
structure ObjM (h : Heap) (x dx C : Addr) (mA : Str → Option Value) : Prop where
  obj : h.get? x = some (PySem.W.instObj C dx)
  ns : h.Ns1 dx mA
  ne : dx ≠ x

theorem lookIn_ns {h : Heap} {dx : Addr} {mA : Str → Option Value} (n : h.Ns1 dx mA) : ∃ od, h.get? dx = some od ∧ ∀ name, PySem.W.lookIn name od = some (mA name) := by
  obtain ⟨o, es, ep, ho, hd, hk, _, hm⟩ := n
  refine ⟨o, ho, fun name => ?_⟩
  have e := hm name
  unfold nsFind findBy at e
  rw [← Array.find?_toList] at e
  unfold PySem.W.lookIn
  rw [hd]
  dsimp only
  split
  · rename_i y q
    rw [q] at e
    exact congrArg some e
  · rename_i q
    rw [q] at e
    have a : es.toList.any (·.refKey) = false := by
      rw [List.any_eq_false]
      intro y hy
      obtain ⟨z, t, hkey⟩ := hk y (Array.mem_toList_iff.mp hy)
      simp [DictEntry.refKey, hkey]
    have a' : ¬ es.toList.any (·.refKey) = true := by rw [a]; exact Bool.false_ne_true
    rw [if_neg a']
    exact congrArg some e

theorem ObjM.look {h : Heap} {x dx C : Addr} {mA : Str → Option Value} (I : ObjM h x dx C mA) : ∃ od, PySem.W.InstAt h x (PySem.W.instObj C dx) C (some od) ∧ ∀ name, PySem.W.lookIn name od = some (mA name) :=
  let ⟨od, ho, hl⟩ := lookIn_ns I.ns
  ⟨od, ⟨I.obj, rfl, rfl, ho⟩, hl⟩

section
variable {prog : Program} {w : World} {A : Around} {E : Value → Shared → Prop} {s : Shared} {K : PySem.W.Frag} {x dx C f : Addr} {mA : Str → Option Value} {name : Str} {v : Value}

end

/-! ### the attributes as a list of pairs -/
theorem RelO.some_of {v : V} {o : Option Value} (r : RelO (some v) o) : ∃ u, o = some u ∧ RelV v u := by
  cases o with
  | none => exact (show False from r).elim
  | some u => exact ⟨u, rfl, r⟩
theorem handed_of {v : V} {u : Value} (r : RelV v u) : PySem.W.handedIn u = true := by
  cases v with
  | non => cases (show u = Value.none from r); rfl
  | bl b => cases (show u = Value.bool b from r); rfl
  | int i => obtain ⟨t, e⟩ := (show ∃ t, u = Value.int i t from r); cases e; rfl
  | str x => obtain ⟨t, e⟩ := (show ∃ t, u = Value.str x t from r); cases e; rfl
  | byt b => obtain ⟨t, e⟩ := (show ∃ t, u = Value.bytes b t from r); cases e; rfl
  | flt b => obtain ⟨t, e⟩ := (show ∃ t, u = Value.float b t from r); cases e; rfl
  | ref a => cases (show u = Value.ref a from r); rfl
  | ty n => cases (show u = Value.type n from r); rfl

section
variable {P : Program} {w : World} {H H' : Hp} {h h' : Heap} {a C dx : Addr} {fs fs' : List (Str × V)}
theorem ins_get (hok : HOk P w H h) (e : H a = some (.ins C dx fs)) : ∃ mA, ObjM h a dx C mA ∧ (∀ f, RelO (fs.lookup f) (mA f)) ∧ PySem.Within mA (fs.map (·.1)) ∧ fs.length ≤ 1000 ∧ H dx = some (.own a) := by
  obtain ⟨d, z, ne, ob, mA, n, r, q⟩ := (show ObjOk P w H h a (.ins C dx fs) from hok a _ e)
  exact ⟨mA, ⟨ob, n, ne⟩, r, q, z, d⟩
end

/-! ### what of the text a class must have -/
structure Cls (K : PySem.W.Frag) (C : Addr) : Prop where
  pg : PySem.W.plainGet K C Str.empty = true
  hd : PySem.W.hasDictIn K C = true
  po : PySem.W.plainOver K C = true
  sa : PySem.W.findIn K (.ref C) "__setattr__" = some (some (.builtin "object.__setattr__"))
theorem Cls.get {K : PySem.W.Frag} {C : Addr} (c : Cls K C) (f : Str) : PySem.W.plainGet K C f = true := c.pg
/-- a constant of the class -/
structure Con (K : PySem.W.Frag) (C : Addr) (f : Str) (v : V) (u : Value) : Prop where
  at_ : PySem.W.findIn K (.ref C) f = some (some u)
  rel : RelV v u
  get : PySem.W.specialIn K u "__get__" = some none
  cp : PySem.W.copiedNames.contains f = false
/-- a method: a plain def of the class or of one above it -/
structure Meth (K : PySem.W.Frag) (C : Addr) (m : Str) (f : Addr) : Prop where
  at_ : PySem.W.findIn K (.ref C) m = some (some (.ref f))
  fn : PySem.W.isFn K (.ref f) = true
  kp : PySem.W.keepIn K (.ref f) = true

section
variable {X : Cx} {pins : List (Addr × Obj)} {σ : St} {H : Hp} {s : Shared} {a C dx : Addr} {fs : List (Str × V)} {f : Str} {v : V} {A : Around} {E : Value → Shared → Prop}

/-- e.f where nothing but the object is asked: through attributeBase (super) and the last hold -/
theorem attr_of {prog : Program} {w : World} {env : Env} {e : Expr} {f : Str} {pos : Pos} {s : Shared} {Q : Value → Shared → Prop} (hb : attributeBase e f env (eval e env) = eval e env)
    (h : wpAny (model prog w) A (eval e env) (fun o s₁ => wpAny (model prog w) A (getAttr o f true) Q E s₁) E s) : wpAny (model prog w) A (eval (.Attribute e f pos) env) Q E s :=
  Attribute_any_ h (by rw [arm_eval_Attribute, hb])
end

/-! ### readings and rules -/
/-- an augmented operator on two values -/
noncomputable def InOp (X : Cx) (op : Operator) (rd : V → V → Hp → VK → Prop) : Prop :=
  ∀ (pins : List (Addr × Obj)) (s : Shared) (σ : St) (H : Hp) (x y : V) (u v : Value) (Q : VK), Inv X pins σ H s → RelV x u → RelV y v → rd x y H Q → wpAny (model X.prog X.w) X.A (inplaceOp op u v) (EP X pins σ Q) X.xe s
section
variable {X : Cx} {o e value : Expr} {f : Str} {pos pos' tpos : Pos} {ta tv : TE}
noncomputable def rAdd : V → V → Hp → VK → Prop := fun x y H Q => ∃ i j, x = .int i ∧ y = .int j ∧ Q (.int (i + j)) H
noncomputable def rSub : V → V → Hp → VK → Prop := fun x y H Q => ∃ i j, x = .int i ∧ y = .int j ∧ Q (.int (i - j)) H
theorem in_add : InOp X .Add rAdd := by
  rintro pins s σ H x y u v Q I rx ry ⟨i, j, rfl, rfl, q⟩
  obtain ⟨t, rfl⟩ := (show ∃ t, u = Value.int i t from rx)
  obtain ⟨t', rfl⟩ := (show ∃ t', v = Value.int j t' from ry)
  exact PyProof.Rows.iadd_int ⟨.int (i + j), H, I.tok _, ⟨_, rfl⟩, q⟩
theorem in_sub : InOp X .Sub rSub := by
  rintro pins s σ H x y u v Q I rx ry ⟨i, j, rfl, rfl, q⟩
  obtain ⟨t, rfl⟩ := (show ∃ t, u = Value.int i t from rx)
  obtain ⟨t', rfl⟩ := (show ∃ t', v = Value.int j t' from ry)
  exact PyProof.Rows.isub_int ⟨.int (i - j), H, I.tok _, ⟨_, rfl⟩, q⟩

end

/-! ### isinstance -/
section
variable {X : Cx} {pins : List (Addr × Obj)} {σ : St} {H : Hp} {s : Shared} {A : Around} {E : Value → Shared → Prop} {Q : Value → Shared → Prop} {c : Value} {b : Bool}
/-- the type of a value, as the fragment's deciders take it; for an instance its class -/
inductive TyOf (K : PySem.W.Frag) (H : Hp) : V → Value → Prop where
  | non : TyOf K H .non (.type "NoneType")
  | bl (x : Bool) : TyOf K H (.bl x) (.type "bool")
  | int (i : Int) : TyOf K H (.int i) (.type "int")
  | str (x : Str) : TyOf K H (.str x) (.type "str")
  | flt (x : UInt64) : TyOf K H (.flt x) (.type "float")
  | lst {a : Addr} {xs : List V} (e : H a = some (.lst xs)) : TyOf K H (.ref a) (.type "list")
  | frz {a : Addr} {o : Obj} {xs : List V} (e : H a = some (.frz o (.lst xs))) : TyOf K H (.ref a) (.type "list")
  | tup {a : Addr} {xs : List V} (e : H a = some (.tup xs)) : TyOf K H (.ref a) (.type "tuple")
  | dK {a : Addr} {kvs : List (Key × V)} (e : H a = some (.dK kvs)) : TyOf K H (.ref a) (.type "dict")
  | dT {a : Addr} {kvs : List (List Key × V)} (e : H a = some (.dT kvs)) : TyOf K H (.ref a) (.type "dict")
  | ins {a C dx : Addr} {fs : List (Str × V)} (e : H a = some (.ins C dx fs)) (cl : Cls K C) (ha : PySem.W.findIn K (.ref C) "__class__" = some (some (.builtin "object.__class__")))
      (hn : PySem.W.specialIn K (.builtin "object.__class__") "__get__" = some (some (.builtin "getset_descriptor.__get__"))) (htk : PySem.W.takesIn K (.builtin "object.__class__") = some true)
      (hm : PySem.W.mroIn K C (.type "object") = some true) : TyOf K H (.ref a) (.ref C)
/-- isinstance(x, c) for one class c, a built-in or an own one: kitOne's answer -/
theorem isinst_ok {x : V} {u t : Value} (I : Inv X pins σ H s) (rx : RelV x u) (ty : TyOf X.K H x t) (e : PySem.W.kitOne X.K t c = some b) (h : ∀ tk, Q (.bool b) { s with toks := tk }) :
    wpAny (model X.prog X.w) A (call (.builtin "isinstance") [u, c]) Q E s := by
  cases ty with
  | non => cases (show u = Value.none from rx); exact PySem.W.kia_one PySem.W.kitx_none I.kIn True.intro e (fun z => nomatch z) h
  | bl y => cases (show u = Value.bool y from rx); exact PySem.W.kia_one PySem.W.kitx_bool I.kIn True.intro e (fun z => nomatch z) h
  | int i => obtain ⟨t, q⟩ := (show ∃ t, u = Value.int i t from rx); cases q; exact PySem.W.kia_one PySem.W.kitx_int I.kIn True.intro e (fun z => nomatch z) h
  | str y => obtain ⟨t, q⟩ := (show ∃ t, u = Value.str y t from rx); cases q; exact PySem.W.kia_one PySem.W.kitx_str I.kIn True.intro e (fun z => nomatch z) h
  | flt y => obtain ⟨t, q⟩ := (show ∃ t, u = Value.float y t from rx); cases q; exact PySem.W.kia_one PySem.W.kitx_float I.kIn True.intro e (fun z => nomatch z) h
  | @lst a xs ea =>
    cases (show u = Value.ref a from rx)
    obtain ⟨_, _, n, _, h1⟩ := (show ObjOk X.prog X.w H s.heap a (.lst xs) from I.hok a _ ea)
    exact PySem.W.kia_one PySem.W.kitx_list I.kIn ⟨_, h1, rfl⟩ e (fun z => nomatch z) h
  | @frz a ob xs ea =>
    cases (show u = Value.ref a from rx)
    obtain ⟨_, _, _, n, _, h1⟩ := (show ObjOk X.prog X.w H s.heap a (.frz ob (.lst xs)) from I.hok a _ ea)
    exact PySem.W.kia_one PySem.W.kitx_list I.kIn ⟨_, h1, rfl⟩ e (fun z => nomatch z) h
  | @tup a xs ea =>
    cases (show u = Value.ref a from rx)
    obtain ⟨_, _, _, p⟩ := (show ObjOk X.prog X.w H s.heap a (.tup xs) from I.hok a _ ea)
    obtain ⟨o, h1, h2, _⟩ := p
    exact PySem.W.kia_one PySem.W.kitx_tuple I.kIn ⟨o, h1, h2⟩ e (fun z => nomatch z) h
  | @dK a kvs ea =>
    cases (show u = Value.ref a from rx)
    obtain ⟨_, _, vs, _, p⟩ := (show ObjOk X.prog X.w H s.heap a (.dK kvs) from I.hok a _ ea)
    obtain ⟨o, es, ep, h1, h2, _⟩ := p
    exact PySem.W.kia_one PySem.W.kitx_dict I.kIn ⟨o, h1, h2.1⟩ e (fun z => nomatch z) h
  | @dT a kvs ea =>
    cases (show u = Value.ref a from rx)
    obtain ⟨_, _, xs, _, o, es, ep, h1, h2, _⟩ := (show ObjOk X.prog X.w H s.heap a (.dT kvs) from I.hok a _ ea)
    exact PySem.W.kia_one PySem.W.kitx_dict I.kIn ⟨o, h1, h2.1⟩ e (fun z => nomatch z) h
  | @ins a C dx fs ea cl ha hn htk hm =>
    cases (show u = Value.ref a from rx)
    obtain ⟨mA, O, _⟩ := ins_get I.hok ea
    obtain ⟨od, J, _⟩ := O.look
    exact PySem.W.kia_one (PySem.W.kitx_own (cl.get _) cl.hd ha hn htk hm) I.kIn J e (fun z => nomatch z) h
end
end L2

namespace L2
open PySem PySem.Spec PyProof.Rows

/-! ### room -/
structure Room (k : Nat) (A : Around) : Prop where
  hd : A.handled = none
  dp : A.depth + 3 * k + 5 < recursionLimit
  un : A.units + 16 * k + 200 < cLine
  gd : A.guards = some []
theorem Room.mono {j k : Nat} {A : Around} (r : Room k A) (h : j ≤ k) : Room j A := ⟨r.hd, by have := r.dp; omega, by have := r.un; omega, r.gd⟩
theorem Room.deeper {k : Nat} {A : Around} (r : Room (k + 1) A) (env : Env) : Room k (A.deeper env) :=
  ⟨r.hd, by have := r.dp; show A.depth + 1 + 3 * k + 5 < _; omega, by have := r.un; show A.units + 3 + 16 * k + 200 < _; omega, r.gd⟩
theorem make_depth {A : Around} {C : Addr} {us : List Value} {kw : List (Str × Value)} : (A.under (.builtin "type.__call__" ⟨.ref C :: us, kw⟩)).depth = A.depth + 1 := by
  first | rfl | simp [Around.under, Code.weight, Code.isCreation, Code.isGuard, Code.isCaller, Code.frames, Code.isFrame, guardIds]
theorem make_units {A : Around} {C : Addr} {us : List Value} {kw : List (Str × Value)} : (A.under (.builtin "type.__call__" ⟨.ref C :: us, kw⟩)).units = A.units + 1 := by
  first | rfl | simp [Around.under, Code.cUnits, Code.frames, Code.isFrame]
theorem Room.make {k : Nat} {A : Around} (r : Room (k + 1) A) (C : Addr) (us : List Value) (kw : List (Str × Value)) : Room k (A.under (.builtin "type.__call__" ⟨.ref C :: us, kw⟩)) :=
  ⟨r.hd, by have := r.dp; rw [make_depth]; omega, by have := r.un; rw [make_units]; omega, by first | exact r.gd | simpa [Around.under, Code.isGuard, guardIds] using r.gd⟩
theorem Room.depth {k : Nat} {A : Around} (r : Room k A) : A.depth < recursionLimit := by have := r.dp; omega
theorem Room.units {k : Nat} {A : Around} (r : Room k A) : A.units + 64 < cLine := by have := r.un; omega
/-! ### argument lists and displays -/
noncomputable def tNil : TA := fun _ H Q => Q [] H
noncomputable def tCons (ta : TE) (tr : TA) : TA := fun σ H Q => ta σ H fun x H1 => tr σ H1 fun xs H2 => Q (x :: xs) H2
section
variable {X : Cx} {e : Expr} {es : List Expr} {te : TE} {t : TA} {pos : Pos}
theorem pa_nil : PA X [] tNil := fun _ _ _ _ H Q I h => Calls.spliced_nil ⟨[], H, I, .nil, h⟩
theorem pa_cons (ha : PE X e te) (hr : PA X es t) (hs : starEach (e :: es) X.env = (false, eval e X.env) :: starEach es X.env := by rfl) : PA X (e :: es) (tCons te t) := by
  intro pos pins s σ H Q I h
  rw [hs]
  show wpAny _ _ (spliced ((false, eval e X.env) :: backTo pos (starEach es X.env))) _ _ s
  refine Calls.spliced_cons (thn (ha pins s σ H _ I h) fun u s1 ⟨x, H1, I1, r1, q1⟩ => ?_)
  exact thn (hr pos pins s1 σ H1 _ I1 q1) fun us s2 ⟨xs, H2, I2, r2, q2⟩ => ⟨x :: xs, H2, I2, .cons r1 r2, q2⟩

/-- a tuple, a list of written items -/
noncomputable def tTup (t : TA) : TE := fun σ H Q => t σ H fun xs H1 => xs.length ≤ sizeLine ∧ ∀ p, H1 p = none → Q (.ref p) (upd H1 p (.tup xs))
noncomputable def tLst (t : TA) : TE := fun σ H Q => t σ H fun xs H1 => xs.length ≤ sizeLine ∧ ∀ p, H1 p = none → Q (.ref p) (upd H1 p (.lst xs))
theorem pe_tup {x1} (h : PA X es t) : PE X (.Tuple es x1 pos) (tTup t) := by
  intro pins s σ H Q I hq
  refine wpAny_Tuple_spliced (thn (h pos pins s σ H _ I hq) fun us s1 ⟨xs, H1, I1, r, z, q⟩ => ⟨by rw [← r.length]; exact z, ?_⟩)
  have hf : H1 s1.heap.objs.size = none := I1.hok.fresh (Nat.le_refl _)
  refine ⟨.ref s1.heap.objs.size, upd H1 s1.heap.objs.size (.tup xs), I1.laid (t' := s1.toks) (fun b u e => Heap.get?_push_of_some _ e) (Nat.le_refl _) ?_, rfl, q _ hf⟩
  exact ⟨z, us, r, ⟨_, Heap.get?_push_size _ rfl, rfl, _, rfl⟩⟩
theorem pe_lst (h : PA X es t) : PE X (.List es pos) (tLst t) := by
  intro pins s σ H Q I hq
  refine wpAny_List_spliced (thn (h pos pins s σ H _ I hq) fun us s1 ⟨xs, H1, I1, r, z, q⟩ => ⟨by rw [← r.length]; exact z, ?_⟩)
  have hf : H1 s1.heap.objs.size = none := I1.hok.fresh (Nat.le_refl _)
  refine ⟨.ref s1.heap.objs.size, upd H1 s1.heap.objs.size (.lst xs), I1.laid (t' := s1.toks) (fun b u e => Heap.get?_push_of_some _ e) (Nat.le_refl _) ?_, rfl, q _ hf⟩
  exact ⟨z, us, 0, r, Heap.get?_push_size _ rfl⟩
end

/-! ### what a def promises -/
/-- a def's promise: the bound arguments in the parameters' order, the heap, the wanted end, the wanted exception -/
noncomputable abbrev Sp := List V → Hp → VK → XK → Prop
/-- how an exception lies behind a call (file 08 gives it): the callers' frames, abstract heap and state ahead of the call, the wish, the exception, the state -/
noncomputable abbrev CXT := List Env → Hp → Shared → XK → Value → Shared → Prop

/-- the state at a call -/
structure Env0 (P : Program) (w : World) (K : PySem.W.Frag) (mg : Str → Option Value) (base : Heap) (A : Around) (outer : List Env) (s : Shared) (H : Hp) : Prop where
  frames : A.frames = some outer
  mod : Mod K mg base
  bs : ∀ b o, base.get? b = some o → s.heap.get? b = some o ∧ H b = none
  bsz : base.objs.size ≤ s.heap.objs.size
  funs : s.heap.FunFrames base outer
  frf : ∀ b ∈ frs outer, H b = none
  hok : HOk P w H s.heap
  bare : AllBare s.gens
/-- a call's end -/
noncomputable def CE (outer : List Env) (P : Program) (w : World) (H : Hp) (s : Shared) (Q : VK) (u : Value) (s' : Shared) : Prop :=
  ∃ v H', s'.os = s.os ∧ AllBare s'.gens ∧ Un (frs outer) [] H H' s.heap s'.heap ∧ HOk P w H' s'.heap ∧ RelV v u ∧ Q v H'
noncomputable def CR (CX : CXT) (outer : List Env) (P : Program) (w : World) (H : Hp) (s : Shared) (Q : VK) (E : XK) (r : Result) (s' : Shared) : Prop :=
  match r with
  | .ok (.ret u) => CE outer P w H s Q u s'
  | .ok _ => False
  | .error e => CX outer H s E e s'
structure FnOk (P : Program) (w : World) (K : PySem.W.Frag) (mg : Str → Option Value) (base : Heap) (CX : CXT) (k : Nat) (f : Addr) (fd : FuncData) (ps : List Str) (sp : Sp) : Prop where
  len : ∀ vs H Q E, sp vs H Q E → vs.length = ps.length
  run : ∀ (A : Around) (outer : List Env) (s : Shared) (H : Hp) (args : Args) (us : List Value) (vs : List V) (Q : VK) (E : XK), Room k A → Env0 P w K mg base A outer s H → BindsTo s fd args (ps.zip us) → Vals vs us → sp vs H Q E →
    codeAny (model P w) A (.call (.ref f) args) (CR CX outer P w H s Q E) s
theorem Env0.make {P : Program} {w : World} {K : PySem.W.Frag} {mg : Str → Option Value} {base : Heap} {A : Around} {outer : List Env} {s : Shared} {H : Hp} (e : Env0 P w K mg base A outer s H) (C : Addr) (us : List Value) (kw : List (Str × Value)) :
    Env0 P w K mg base (A.under (.builtin "type.__call__" ⟨.ref C :: us, kw⟩)) outer s H := ⟨by first | exact e.frames | (simpa [Around.under, Code.envs, Code.isFrame, pushEnvs] using e.frames), e.mod, e.bs, e.bsz, e.funs, e.frf, e.hok, e.bare⟩
section
variable {X : Cx} {pins : List (Addr × Obj)} {σ : St} {H : Hp} {s s' : Shared}
/-- from a body: what a callee wants -/
theorem Inv.env0 (I : Inv X pins σ H s) : Env0 X.prog X.w X.K X.mg X.base X.A X.stack s H :=
  ⟨I.ok.frames, I.ok.mod, I.bs, Nat.le_trans I.ok.bsz I.sz, I.stack, I.stkFree, I.hok, I.bare⟩
/-- behind a call -/
theorem Inv.after {Q : VK} {u : Value} (I : Inv X pins σ H s) (h : CE X.stack X.prog X.w H s Q u s') : EP X pins σ Q u s' := by
  obtain ⟨v, H', os, bare, un, hok, r, q⟩ := h
  obtain ⟨hh, g, d, t, os'⟩ := s'
  obtain rfl : os' = s.os := os
  exact ⟨v, H', I.call (h' := hh) (g' := g) (d' := d) (t' := t) (ch := []) un hok bare (fun b z => absurd z (by simp)), r, q⟩
end

/-! ### calls -/
/-- f(..): the written arguments, then the defaults dvs; E: what is wanted of an exception -/
noncomputable def tCall (sp : Sp) (dvs : List V) (E : XK) (t : TA) : TE := fun σ H Q => t σ H fun vs H1 => sp (vs ++ dvs) H1 Q E
/-- how the parameters are bound: us the positional arguments, kw the keywords' values by name, ds the defaults that fill up -/
noncomputable def Binds (K : PySem.W.Frag) (fd : FuncData) (ps : List Str) (ds : List Value) : Prop :=
  ∀ (s : Shared) (us : List Value), K.In s.heap → (us ++ ds).length = ps.length → BindsTo s fd ⟨us, []⟩ (ps.zip (us ++ ds))
/-- every parameter is given -/
theorem Binds.all {K : PySem.W.Frag} {fd : FuncData} {ps : List Str} (h : ∀ us : List Value, us.length = ps.length → bindArgs fd ⟨us, []⟩ = pure (ps.zip us)) : Binds K fd ps [] := fun s us _ hl => by
  rw [List.append_nil] at hl ⊢
  exact .of_eq (h us hl)

/-- an exception of a callee reaches what this body wants of exceptions -/
noncomputable def Passes (CX : CXT) (X : Cx) (E : XK) : Prop := ∀ (pins : List (Addr × Obj)) (σ : St) (H : Hp) (s : Shared) (e : Value) (s' : Shared), Inv X pins σ H s → CX X.stack H s E e s' → X.xe e s'

section
variable {X : Cx} {CX : CXT} {k : Nat} {f C : Addr} {fd : FuncData} {ps : List Str} {sp : Sp} {dvs : List V} {ds : List Value} {E : XK} {x m : Str} {p pos apos : Pos} {e o : Expr} {es : List Expr} {ta : TE} {t : TA}

/-- the callee runs -/
theorem run_fn {pins : List (Addr × Obj)} {σ : St} {H : Hp} {s : Shared} {Q : VK} {us : List Value} {vs : List V} (F : FnOk X.prog X.w X.K X.mg X.base CX k f fd ps sp) (hr : Room k X.A) (hb : Binds X.K fd ps ds) (hd : Vals dvs ds) (hx : Passes CX X E)
    (I : Inv X pins σ H s) (r : Vals vs us) (h : sp (vs ++ dvs) H Q E) : wpAny (model X.prog X.w) X.A (call (.ref f) us) (EP X pins σ Q) X.xe s := by
  have r2 : Vals (vs ++ dvs) (us ++ ds) := r.append hd
  have hl : (us ++ ds).length = ps.length := by rw [← r2.length]; exact F.len _ _ _ _ h
  refine wpAny_call (codeAny_mono (F.run X.A X.stack s H ⟨us, []⟩ (us ++ ds) (vs ++ dvs) Q E hr I.env0 (hb s us I.kIn hl) r2 h) fun r s' hq => ?_)
  cases r with
  | error e => exact hx pins σ H s e s' I hq
  | ok fl =>
    cases fl with
    | ret u => exact I.after hq
    | next => exact False.elim hq
    | brk => exact False.elim hq
    | cont => exact False.elim hq

theorem pe_call (F : FnOk X.prog X.w X.K X.mg X.base CX k f fd ps sp) (hr : Room k X.A) (hg : Gl X x) (hm : X.mg x = some (.ref f)) (hk : PySem.W.keepIn X.K (.ref f) = true) (hb : Binds X.K fd ps ds) (hd : Vals dvs ds) (hx : Passes CX X E)
    (ha : PA X (e :: es) t) (hdb : (x == ("__debug__" : Str)) = false := by decide) (he : starEach (e :: es) X.env = (false, eval e X.env) :: starEach es X.env := by rfl) (hpl : (backTo pos (starEach es X.env)).any (·.1) = false := by rfl) :
    PE X (.Call (.Name x p) (e :: es) [] pos) (tCall sp dvs E t) := by
  intro pins s σ H Q I h
  refine wpAny_Call_Name_kw (ld_glob I hg hm ?_ hdb)
  refine PySem.W.callWith_K (h₀ := X.base) I.ok.mod.kin hk (thn (ha pos pins s σ H _ I h) fun us s1 ⟨vs, H1, I1, r, q⟩ => ⟨I1.kIn, ?_⟩) he hpl
  exact run_fn F hr hb hd hx I1 r q
/-- what a class must have to be made -/
structure Mk (K : PySem.W.Frag) (C f : Addr) : Prop where
  makes : PySem.W.makesIn K C = true
  init : PySem.W.findIn K (.ref C) "__init__" = some (some (.ref f))
  fn : PySem.W.isFn K (.ref f) = true
  kp : PySem.W.keepIn K (.ref C) = true

end

/-! ### keywords -/
section
variable {X : Cx} {CX : CXT} {k : Nat} {f C : Addr} {fd : FuncData} {ps ks : List Str} {sp : Sp} {E : XK} {x m : Str} {p pos apos kpos : Pos} {e o : Expr} {es : List Expr} {kws : List Keyword} {te ta : TE} {t tk : TA} {nm : Option Str}
/-- how a call with keywords binds: g puts the positional values us and the keywords' values ws (names ks) in the parameters' order, defaults among them -/
structure KBinds (K : PySem.W.Frag) (fd : FuncData) (ps ks : List Str) (g : List Value → List Value → List Value) (gV : List V → List V → List V) : Prop where
  to : ∀ (s : Shared) (us ws : List Value), K.In s.heap → (g us ws).length = ps.length → BindsTo s fd ⟨us, ks.zip ws⟩ (ps.zip (g us ws))
  rel : ∀ {vs : List V} {us : List Value} {zs : List V} {ws : List Value}, Vals vs us → Vals zs ws → Vals (gV vs zs) (g us ws)
variable {g : List Value → List Value → List Value} {gV : List V → List V → List V}
end

/-! ### a def's body keeps its promise -/
/-- names: the parameters first -/
structure FnScope (N P : List Str) (sc : Scope) : Prop where
  kind : sc.kind = .function
  co : sc.isCoroutine = false
  gen : sc.isGenerator = false
  nd : N.Nodup
  pre : N.take P.length = P
  par : ∀ x ∈ P, sc.names.lookup x = some .local ∨ sc.names.lookup x = some .cell
  nofree : ∀ y ∈ sc.names, y.2 ≠ .free

theorem bindL_out {kindOf : Str → Option NameKind} {x : Str} : ∀ {binds : List (Str × Value)} {m : Str → Option Value}, (∀ v, (x, v) ∉ binds) → bindL kindOf binds m x = m x
  | [], _, _ => rfl
  | (n, v) :: r, m, h => by
    unfold bindL
    rw [bindL_out fun w hw => h w (List.mem_cons_of_mem _ hw)]
    split
    · have : x ≠ n := by rintro rfl; exact h v List.mem_cons_self
      simp [this]
    · rfl
theorem bindC_out {kindOf : Str → Option NameKind} {x : Str} : ∀ {binds : List (Str × Value)} {m : Str → Option Value}, (∀ v, (x, v) ∉ binds) → bindC kindOf binds m x = m x
  | [], _, _ => rfl
  | (n, v) :: r, m, h => by
    unfold bindC
    rw [bindC_out fun w hw => h w (List.mem_cons_of_mem _ hw)]
    split
    · rfl
    · have : x ≠ n := by rintro rfl; exact h v List.mem_cons_self
      simp [this]
theorem bindL_get {kindOf : Str → Option NameKind} {x : Str} {v : Value} : ∀ {P : List Str} {vs : List Value} {i : Nat} {m : Str → Option Value}, P.Nodup → P[i]? = some x → vs[i]? = some v → kindOf x = some .local →
    bindL kindOf (P.zip vs) m x = some v
  | [], _, _, _, _, h, _, _ => by simp at h
  | _ :: _, [], _, _, _, _, h, _ => by simp at h
  | p :: P, w :: vs, 0, m, nd, h1, h2, hk => by
    simp at h1 h2; subst h1; subst h2
    show bindL kindOf ((p, w) :: P.zip vs) m p = _
    unfold bindL
    rw [bindL_out fun v hv => (List.nodup_cons.mp nd).1 (List.of_mem_zip hv).1, if_pos hk]
    simp
  | p :: P, w :: vs, i + 1, m, nd, h1, h2, hk => by
    show bindL kindOf ((p, w) :: P.zip vs) m x = _
    unfold bindL
    exact bindL_get (i := i) (List.nodup_cons.mp nd).2 (by simpa using h1) (by simpa using h2) hk
theorem bindC_get {kindOf : Str → Option NameKind} {x : Str} {v : Value} : ∀ {P : List Str} {vs : List Value} {i : Nat} {m : Str → Option Value}, P.Nodup → P[i]? = some x → vs[i]? = some v → kindOf x ≠ some .local →
    bindC kindOf (P.zip vs) m x = some v
  | [], _, _, _, _, h, _, _ => by simp at h
  | _ :: _, [], _, _, _, _, h, _ => by simp at h
  | p :: P, w :: vs, 0, m, nd, h1, h2, hk => by
    simp at h1 h2; subst h1; subst h2
    show bindC kindOf ((p, w) :: P.zip vs) m p = _
    unfold bindC
    rw [bindC_out fun v hv => (List.nodup_cons.mp nd).1 (List.of_mem_zip hv).1, if_neg hk]
    simp
  | p :: P, w :: vs, i + 1, m, nd, h1, h2, hk => by
    show bindC kindOf ((p, w) :: P.zip vs) m x = _
    unfold bindC
    exact bindC_get (i := i) (List.nodup_cons.mp nd).2 (by simpa using h1) (by simpa using h2) hk

/-- the names' values at the entry -/
noncomputable def start (N : List Str) (vs : List V) : St := vs.map some ++ List.replicate (N.length - vs.length) none

/-- the context of a def's body, at its entry; an exception leaves the frame, then lies as CX says -/
noncomputable def cxOf (CX : CXT) (P : Program) (w : World) (K : PySem.W.Frag) (mg : Str → Option Value) (base : Heap) (N : List Str) (qual : Str) (scope : Scope) (f : Addr) (cd : Value) (A : Around) (outer : List Env) (s : Shared) (H : Hp) (E : XK) : Cx where
  prog := P
  w := w
  K := K
  mg := mg
  base := base
  A := A.deeper (envOfC qual scope s.heap.objs.size f cd)
  N := N
  s₀ := s
  H₀ := H
  env := envOfC qual scope s.heap.objs.size f cd
  outer := outer
  stack := envOfC qual scope s.heap.objs.size f cd :: outer
  ex := []
  calm := true
  fn := fun _ => true
  pn := []
  xe := fun e s' => wpAny (model P w) (A.deeper (envOfC qual scope s.heap.objs.size f cd)) (leaving (envOfC qual scope s.heap.objs.size f cd) e) (fun _ s'' => CX outer H s E e s'') (fun e' s'' => CX outer H s E e' s'') s'

theorem cell_has {sc : Scope} {n : Nat} {x : Str} (h : sc.names.lookup x = some .cell) : ∃ c, (cellsFrom n sc.names []).lookup x = some c := by
  have q := PySem.W.cellsFrom_some sc.names n [] (.inl h)
  exact Option.isSome_iff_exists.mp q

theorem inv_start {CX : CXT} {P : Program} {w : World} {K : PySem.W.Frag} {mg : Str → Option Value} {base : Heap} {N ps : List Str} {qual : Str} {scope : Scope} {f : Addr} {cd : Value} {A : Around} {outer : List Env} {s s1 : Shared} {H : Hp} {E : XK} {us : List Value} {vs : List V}
    (S : FnScope N ps scope) (hd : A.handled = none) (e0 : Env0 P w K mg base A outer s H) (hl : vs.length = ps.length) (r : Vals vs us)
    (x : InCallC s s.heap.objs.size (bindL (envOfC qual scope s.heap.objs.size f cd).kindOf (ps.zip us) fun _ => none) (cellsFrom (s.heap.objs.size + 1) scope.names []) (bindC (envOfC qual scope s.heap.objs.size f cd).kindOf (ps.zip us) fun _ => none) s1) :
    Inv (cxOf CX P w K mg base N qual scope f cd A outer s H E) [] (start N vs) H s1 := by
  have hpl : ps.length ≤ N.length := by have := congrArg List.length S.pre; rw [List.length_take] at this; omega
  obtain ⟨h1, tk, rfl, hk⟩ := x.done
  have noA : ∀ b : Addr, b ∉ (cxOf CX P w K mg base N qual scope f cd A outer s H E).ex := fun b z => absurd (show b ∈ ([] : List Addr) from z) (by simp)
  refine ⟨⟨e0.mod, S.kind, rfl, rfl, Nat.le_refl _, fun y z c h1 h2 => ?_, fun y hy => ?_, fun y c _ h => ?_, fun _ => hd, Around.frames_deeper e0.frames, .inr ⟨rfl, rfl⟩, fun b z => absurd z (noA b), e0.bs, e0.bsz, fun b _ _ => noA b, fun b z => absurd z (noA b), e0.funs, e0.frf⟩,
    rfl, e0.bare, Un.kept hk, ⟨_, x.toInCall.ns, fun i y v h1 h2 h3 => ?_⟩, fun y c h => ⟨_, x.cell y c h⟩, e0.hok.fresh (Nat.le_refl _), fun y c h => ?_, fun p hp => absurd (show p ∈ ([] : List (Addr × Obj)) from hp) (by simp), e0.hok.kept hk, ?_⟩
  · exact name_of_addr x.apart (PySem.mem_of_lookup h1) (PySem.mem_of_lookup h2)
  · have hy : scope.names.lookup y = some .cell ∨ scope.names.lookup y = some .free := hy
    rcases hy with hy | hy
    · exact cell_has hy
    · exact absurd rfl (S.nofree _ (PySem.mem_of_lookup hy))
  · exact Nat.le_of_lt (x.above y c (PySem.mem_of_lookup h))
  · have hi : i < vs.length := by
      unfold start at h2
      by_cases hi : i < vs.length
      · exact hi
      · rw [List.getElem?_append_right (by simpa using hi)] at h2
        rw [List.getElem?_replicate] at h2
        split at h2 <;> cases h2
    have ha : vs[i]? = some v := by
      unfold start at h2
      rw [List.getElem?_append_left (by simpa using hi), List.getElem?_map] at h2
      cases e : vs[i]? with
      | none => rw [e] at h2; cases h2
      | some a => rw [e] at h2; cases h2; rfl
    obtain ⟨u, hu, rv⟩ := r.get ha
    have hp : ps[i]? = some y := by
      rw [← S.pre, List.getElem?_take_of_lt (by omega)]; exact h1
    have ndP : ps.Nodup := by rw [← S.pre]; exact S.nd.sublist (List.take_sublist _ _)
    refine ⟨u, rv, ?_⟩
    rcases S.par y (List.mem_of_getElem? hp) with k | k
    · exact .inl ⟨k, bindL_get ndP hp hu k⟩
    · obtain ⟨c, e⟩ := cell_has (n := s.heap.objs.size + 1) k
      refine .inr ⟨.inl k, c, e, ?_⟩
      have q := x.cell y c e
      rw [bindC_get ndP hp hu (by show scope.names.lookup y ≠ _; rw [k]; decide)] at q
      exact q
  · exact e0.hok.fresh (Nat.le_of_lt (x.above y c (PySem.mem_of_lookup h)))
  · unfold start
    show _ = N.length
    rw [List.length_append, List.length_map, List.length_replicate]
    omega

/-- THE RULE: a def (or a method) of the text, by its body. The body's reading t is chosen for each entry; it is run at the parameters' values -/
theorem fn_of {CX : CXT} {P : Program} {w : World} {K : PySem.W.Frag} {mg : Str → Option Value} {base : Heap} {k : Nat} {f : Addr} {name qual : Str} {params : Arguments} {body : List Stmt} {scope : Scope} {dV kV doc pm cdv ct oc : Value} {an od : Option Addr}
    {osl : Array (Option Value)} {N ps : List Str} {sp : Sp} (lk : K.lookup f = some ⟨oc, od, .func (PySem.W.fnOf name qual params body scope dV kV doc pm an cdv ct), osl⟩) (hcd : PySem.W.codeIn K cdv qual = true) (S : FnScope N ps scope)
    (len : ∀ vs H Q E, sp vs H Q E → vs.length = ps.length)
    (hbody : ∀ (A : Around) (outer : List Env) (s : Shared) (H : Hp) (vs : List V) (Q : VK) (E : XK), Room k (A.deeper (envOfC qual scope s.heap.objs.size f cdv)) → sp vs H Q E →
      ∃ t, PSs (cxOf CX P w K mg base N qual scope f cdv A outer s H E) body t ∧ t { nx := fun _ H' => Q .non H', rt := Q } (start N vs) H) :
    FnOk P w K mg base CX (k + 1) f (PySem.W.fnOf name qual params body scope dV kV doc pm an cdv ct) ps sp := by
  refine ⟨len, fun A outer s H args us vs Q E hr e0 hb r hsp => ?_⟩
  have hl := len _ _ _ _ hsp
  have KX : K.In s.heap := e0.mod.kin.keeps fun b o e => (e0.bs b o e).1
  have lim : s.heap.NoLimit := e0.mod.nolimit.keeps fun b o e => (e0.bs b o e).1
  have hkind : ∀ y ∈ ps.zip us, scope.names.lookup y.1 = some .local ∨ (scope.names.lookup y.1 = some .cell ∧ ((cellsFrom (s.heap.objs.size + 1) scope.names []).lookup y.1).isSome = true) := fun ⟨n, v⟩ hy => by
    rcases S.par n (List.of_mem_zip hy).1 with q | q
    · exact .inl q
    · exact .inr ⟨q, PySem.W.cellsFrom_some _ _ _ (.inl q)⟩
  refine codeAny_call_function hr.depth (KX _ _ lk) rfl S.co S.gen rfl (PySem.W.codeRec_of KX hcd) (hb _ _ _ _ ?_)
  refine wpAny_newFunctionEnv_cells S.kind hkind fun env he s1 x => ?_
  subst he
  refine ⟨lim.keeps x.toInCall.keep, codeAny_func ?_⟩
  obtain ⟨t, ht, hq⟩ := hbody A outer s H vs Q E (hr.deeper _) hsp
  have I : Inv (cxOf CX P w K mg base N qual scope f cdv A outer s H E) [] (start N vs) H s1 := inv_start S hr.hd e0 hl r x
  refine wpAny_mono (ht [] s1 (start N vs) H _ I hq) (fun fl s' hs => ?_) fun e s' hs => hs
  have fin : ∀ {σ' : St} {H' : Hp} {v : V} {u : Value}, Inv (cxOf CX P w K mg base N qual scope f cdv A outer s H E) [] σ' H' s' → RelV v u → Q v H' → CE outer P w H s Q u s' :=
    fun {σ' H' v u} J rv q => ⟨v, H', J.os, J.bare, J.base, J.hok, rv, q⟩
  cases fl with
  | ret u =>
    obtain ⟨v, σ', H', J, rv, q⟩ := hs
    exact fin J rv q
  | next =>
    obtain ⟨σ', H', J, q⟩ := hs
    exact fin (v := V.non) (u := Value.none) J rfl q
  | brk =>
    obtain ⟨_, _, _, q⟩ := hs
    exact False.elim q
  | cont =>
    obtain ⟨_, _, _, q⟩ := hs
    exact False.elim q
end L2

namespace L2
open PySem PySem.Spec PyProof.Rows
section
variable {X : Cx} {x : Str} {p pos : Pos} {e : Expr} {es : List Expr} {t : TA} {id T : String} {r : List V → Hp → VK → Prop}

noncomputable def tCB (r : List V → Hp → VK → Prop) (t : TA) : TE := fun σ H Q => t σ H fun vs H1 => r vs H1 Q
/-- f(e, ..), f a built-in function -/
theorem pe_callB (hc : CallR X (.builtin id) r) (hg : Gl X x) (hm : X.mg x = none) (hv : bootBuiltins x = some (.builtin id)) (ha : PA X (e :: es) t) (hn : x ≠ "__name__" := by decide) (hdb : (x == ("__debug__" : Str)) = false := by decide)
    (he : starEach (e :: es) X.env = (false, eval e X.env) :: starEach es X.env := by rfl) (hpl : (backTo pos (starEach es X.env)).any (·.1) = false := by rfl) : PE X (.Call (.Name x p) (e :: es) [] pos) (tCB r t) := by
  intro pins s σ H Q I h
  refine wpAny_Call_Name_kw (ld_blt I hg hm hv ?_ hn hdb)
  exact PyProof.Rows.callWith_builtin1 (thn (ha pos pins s σ H _ I h) fun us s1 ⟨vs, H1, I1, r1, q1⟩ => hc pins s1 σ H1 vs us Q I1 r1 q1) he hpl
/-- T(e, ..), T a built-in type -/
theorem pe_callTy (hc : CallR X (.type T) r) (hg : Gl X x) (hm : X.mg x = none) (hv : bootBuiltins x = some (.type T)) (ha : PA X (e :: es) t) (hn : x ≠ "__name__" := by decide) (hdb : (x == ("__debug__" : Str)) = false := by decide)
    (he : starEach (e :: es) X.env = (false, eval e X.env) :: starEach es X.env := by rfl) (hpl : (backTo pos (starEach es X.env)).any (·.1) = false := by rfl) : PE X (.Call (.Name x p) (e :: es) [] pos) (tCB r t) := by
  intro pins s σ H Q I h
  refine wpAny_Call_Name_kw (ld_blt I hg hm hv ?_ hn hdb)
  exact PyProof.Rows.callWith_type1 (thn (ha pos pins s σ H _ I h) fun us s1 ⟨vs, H1, I1, r1, q1⟩ => hc pins s1 σ H1 vs us Q I1 r1 q1) he hpl
end
end L2

namespace HT
open PySem PyProof.Rows

theorem rcLt_int (A : Around) (s : Shared) (a : Int) (t : Tok) (c : Int) (u : Tok) (prog : Program) (w : World) (E : Value → Shared → Prop) (Q : Value → Shared → Prop) (h : Q (.bool (decide (a < c))) s) :
    wpAny (model prog w) A (richCompare .Lt (.int a t) (.int c u)) Q E s :=
  (PyProof.Rows.lt_int h : wpAny (model prog w) A (compareOp .Lt (.int a t) (.int c u)) Q E s)

section
open PySem.SeqAt
open PySem.AutoSeq1 (wpAny_loadPart')
open PySem.MeetsSeq PySem.MeetsSeq2 PySem.MeetsSeq3

end

section
variable {prog : Program} {w : World} {A : Around} {E : Value → Shared → Prop} {s : Shared}

/-- t + u, t not empty -/
theorem cat_tup {t b : Addr} {vs ws : List Value} {Q : Value → Shared → Prop} (ht : IsTup s.heap t vs.toArray) (hb : IsTup s.heap b ws.toArray) (hv : vs ≠ [])
    (h1 : ws = [] → Q (.ref t) s) (h2 : ws ≠ [] → Q (.ref s.heap.objs.size) { s with heap := s.heap.push { cls := .type "tuple", data := .seq (vs ++ ws).toArray } })
    (hsz : vs.length + ws.length ≤ sizeLine) : wpAny (model prog w) A (binaryOp .Add (.ref t) (.ref b)) Q E s := by
  obtain ⟨⟨cls, dd, data, sl⟩, ho, hc, n, hd⟩ := id ht
  obtain ⟨⟨cls2, dd2, data2, sl2⟩, ho2, hc2, n2, hd2⟩ := id hb
  simp only at hc hd hc2 hd2
  subst hc hd hc2 hd2
  have e : vs.toArray ++ ws.toArray = (vs ++ ws).toArray := by simp
  by_cases hw : ws = []
  · exact concat_meets ⟨_, ho, rfl⟩ ⟨_, ho2, rfl⟩ noFill_tuple_add seq_tuple_add PySem.F.slot_tuple_add PySem.F.entry_tuple_add (PySem.F.args_tuple_add_2 _ _)
      (tuple_addW1 t b vs.toArray ws.toArray n n2 dd dd2 sl sl2 (by simpa using hv) (by simp [hw])) ⟨ho, ho2, h1 hw⟩
  · refine concat_meets ⟨_, ho, rfl⟩ ⟨_, ho2, rfl⟩ noFill_tuple_add seq_tuple_add PySem.F.slot_tuple_add PySem.F.entry_tuple_add (PySem.F.args_tuple_add_2 _ _)
      (tuple_addW2 t b vs.toArray ws.toArray n n2 dd dd2 sl sl2 (by simpa using hv) (by simpa using hw) (by rw [List.size_toArray, List.size_toArray]; exact hsz)) ⟨ho, ho2, ?_⟩
    rw [e]
    exact h2 hw

/-! ### t[a:b], not the whole -/
/-- a slice's bound as a place among n (d where it is left out) -/
noncomputable def sIx (n d : Nat) : Option Int → Nat
  | none => d
  | some v => if v < 0 then (v + (n : Int)).toNat else min v.toNat n
theorem sIx_le (n d : Nat) (hd : d ≤ n) (o : Option Int) : sIx n d o ≤ n := by
  cases o with
  | none => exact hd
  | some v =>
    show (if v < 0 then (v + (n : Int)).toNat else min v.toNat n) ≤ n
    by_cases hv : v < 0
    · rw [if_pos hv]; omega
    · rw [if_neg hv]; exact Nat.min_le_right _ _
theorem clip_eq (v : Int) (n d : Nat) : (if v < 0 then max (v + (n : Int)) 0 else min v (n : Int)) = ((sIx n d (some v) : Nat) : Int) := by
  show (if v < 0 then max (v + (n : Int)) 0 else min v (n : Int)) = (((if v < 0 then (v + (n : Int)).toNat else min v.toNat n) : Nat) : Int)
  by_cases hv : v < 0
  · simp only [if_pos hv]; omega
  · simp only [if_neg hv]; omega
theorem adjust_gen (lo hi : Option Int) (n : Nat) : Builtin.Slice.sliceAdjust lo hi 1 (n : Int) = (((sIx n 0 lo : Nat) : Int), ((sIx n n hi : Nat) : Int)) := by
  have h1 : ¬ ((1 : Int) < 0) := by omega
  unfold Builtin.Slice.sliceAdjust
  simp only [h1, if_false]
  refine Prod.ext ?_ ?_
  · cases lo with
    | none => rfl
    | some v => exact clip_eq v n 0
  · cases hi with
    | none => rfl
    | some v => exact clip_eq v n n
theorem places_gen (i j : Nat) : Builtin.Slice.slicePlaces (i : Int) (j : Int) 1 = j - i := by
  unfold Builtin.Slice.slicePlaces
  have h1 : (1 : Int) > 0 := by omega
  simp only [h1, if_true, Int.ediv_one]
  split <;> omega
theorem slicePart_ {v : Value} {o : Option Int} {Q : Option Int → Shared → Prop} (p : IsPart v o) (h : Q o s) : wpAny (model prog w) A (Builtin.Slice.slicePartIndex v) Q E s := by
  cases p with
  | none => exact slicePart_none h
  | int i t => exact slicePart_int h
theorem sliceApplied_gen {sl : Addr} {vl vu : Value} {lo hi : Option Int} {n : Nat} {Q : Int × Int × Nat → Shared → Prop} (hs : s.heap.IsSliceOf sl vl vu .none) (pl : IsPart vl lo) (pu : IsPart vu hi)
    (h : Q (((sIx n 0 lo : Nat) : Int), 1, sIx n n hi - sIx n 0 lo) s) : wpAny (model prog w) A (Builtin.Slice.sliceApplied (.ref sl) (pure (n : Int))) Q E s := by
  obtain ⟨os, hos, hcs, hds⟩ := id hs
  unfold Builtin.Slice.sliceApplied Builtin.Slice.sliceFields
  refine wpAny_bind (wpAny_bind (wpAny_field hos hds (x := vl) rfl (wpAny_bind (wpAny_field hos hds (x := vu) rfl (wpAny_bind (wpAny_field hos hds (x := .none) rfl (wpAny_pure ?_)))))))
  refine wpAny_bind (slicePart_none ?_)
  show wpAny _ _ (if ((1 : Int) == 0) = true then _ else _) _ _ s
  rw [if_neg (by decide)]
  refine wpAny_bind (slicePart_ pl (wpAny_bind (slicePart_ pu (wpAny_bind (wpAny_pure ?_)))))
  show wpAny _ _ (match Builtin.Slice.sliceAdjust lo hi 1 (n : Int) with | (lo, hi) => pure (lo, (1 : Int), Builtin.Slice.slicePlaces lo hi 1)) _ _ s
  rw [adjust_gen lo hi n]
  show wpAny _ _ (pure (((sIx n 0 lo : Nat) : Int), (1 : Int), Builtin.Slice.slicePlaces ((sIx n 0 lo : Nat) : Int) ((sIx n n hi : Nat) : Int) 1)) _ _ s
  rw [places_gen]
  exact wpAny_pure h
theorem pick_gen (xs : Array Value) (i k : Nat) : ((List.range k).filterMap fun (m : Nat) => xs[((i : Int) + (m : Int) * 1).toNat]?).toArray = ((xs.toList.drop i).take k).toArray := by
  have e : (fun (m : Nat) => xs[((i : Int) + (m : Int) * 1).toNat]?) = fun m => xs[i + m]? := by
    funext m
    have : ((i : Int) + (m : Int) * 1).toNat = i + m := by omega
    rw [this]
  rw [e]
  have := pick_run xs i k
  rw [List.filterMap_map] at this
  have e2 : ((fun x => xs[x]?) ∘ fun x => i + x) = fun m => xs[i + m]? := rfl
  rw [e2] at this
  rw [this]

theorem getItem_tuple_cut {t sl : Addr} {items : Array Value} {vl vu : Value} {lo hi : Option Int} {Q : Value → Shared → Prop} (ht : IsTup s.heap t items) (hs : s.heap.IsSliceOf sl vl vu .none) (pl : IsPart vl lo) (pu : IsPart vu hi)
    (hw : ¬ (sIx items.size 0 lo = 0 ∧ sIx items.size items.size hi = items.size))
    (h : Q (.ref s.heap.objs.size) { s with heap := s.heap.push { cls := .type "tuple", data := .seq ((items.toList.drop (sIx items.size 0 lo)).take (sIx items.size items.size hi - sIx items.size 0 lo)).toArray } })
    (hsz : items.size ≤ sizeLine) : wpAny (model prog w) A (getItem (.ref t) (.ref sl)) Q E s := by
  have htake : sizeOk (.seq ((items.toList.drop (sIx items.size 0 lo)).take (sIx items.size items.size hi - sIx items.size 0 lo)).toArray) := by
    show ((items.toList.drop (sIx items.size 0 lo)).take (sIx items.size items.size hi - sIx items.size 0 lo)).toArray.size ≤ sizeLine
    rw [List.size_toArray, List.length_take, List.length_drop, Array.length_toList]
    omega
  have hj : sIx items.size items.size hi ≤ items.size := sIx_le _ _ (Nat.le_refl _) hi
  obtain ⟨os, hos, hcs, hds⟩ := id hs
  have hTs : s.TypeIs (.ref sl) "slice" := ⟨os, hos, hcs⟩
  unfold getItem
  try with_reducible refine wpAny_holding ?_
  first | refine wpAny_bind (wpAny_pure ?_) | skip
  refine wpAny_bind (wpAny_sequenceKey ht.typeIs (by decide) ?_)
  refine wpAny_bind (wpAny_callSpecial?_slot (name := Str.ofString "__getitem__") ht.typeIs PyProof.Rows.slot_tuple_getitem
    (wpAny_call_entry PyProof.Rows.slot_tuple_getitem ht.typeIs entry_tuple_getitem ?_ (args_tuple_getitem _ _)))
  show wpAny _ _ (Builtin.Tuple.tupleItemsOf (.ref t) >>= _) _ _ s
  refine wpAny_bind (tupleItemsOf_ ht ?_)
  refine wpAny_bind (wpAny_typeOf hTs ?_)
  rw [if_pos (by decide)]
  refine wpAny_bind (sliceApplied_gen hs pl pu ?_)
  have hno : ¬ ((((sIx items.size 0 lo : Nat) : Int) == 0 && (1 : Int) == 1 && (sIx items.size items.size hi - sIx items.size 0 lo) == items.size) = true) := by
    intro q
    rw [Bool.and_eq_true, Bool.and_eq_true] at q
    have q1 : ((sIx items.size 0 lo : Nat) : Int) = 0 := eq_of_beq q.1.1
    have q2 : sIx items.size items.size hi - sIx items.size 0 lo = items.size := eq_of_beq q.2
    exact hw ⟨by omega, by omega⟩
  show wpAny _ _ (if (((sIx items.size 0 lo : Nat) : Int) == 0 && (1 : Int) == 1 && (sIx items.size items.size hi - sIx items.size 0 lo) == items.size) = true then _ else _) _ _ s
  rw [if_neg hno, pick_gen]
  first
    | exact wpAny_bind (m := Builtin.Tuple.tupleExact _) (wpAny_newObj_type (wpAny_pure ⟨_, rfl, wpAny_pure h⟩) htake)
    | exact wpAny_bind (m := Builtin.Tuple.tupleExact _) (wpAny_newObj_type (wpAny_bind (wpAny_pure (wpAny_pure ⟨_, rfl, wpAny_pure h⟩))) htake)
    | exact wpAny_bind (wpAny_bind (m := Builtin.Tuple.tupleExact _) (wpAny_newObj_type (wpAny_pure (wpAny_pure ⟨_, rfl, wpAny_pure h⟩)) htake))
    | exact wpAny_bind (wpAny_bind (m := Builtin.Tuple.tupleExact _) (wpAny_newObj_type (wpAny_pure ⟨_, rfl, wpAny_pure h⟩) htake))
end
end HT

namespace L2
open PySem PySem.Spec PyProof.Rows

/-! ### the parts of a slice -/
noncomputable abbrev TO := St → Hp → (Option Int → Hp → Prop) → Prop
/-- a slice's part (left out, or an int) -/
noncomputable def PO (X : Cx) (e : Option Expr) (t : TO) : Prop :=
  ∀ (pins : List (Addr × Obj)) (s : Shared) (σ : St) (H : Hp) (Q : Option Int → Hp → Prop), Inv X pins σ H s → t σ H Q →
    wpAny (model X.prog X.w) X.A (evalPart e X.env) (fun u s' => ∃ o H', Inv X pins σ H' s' ∧ IsPart u o ∧ Q o H') X.xe s
noncomputable def tNoPart : TO := fun _ H Q => Q none H
noncomputable def tPart (t : TE) : TO := fun σ H Q => t σ H fun x H1 => ∃ i, x = .int i ∧ Q (some i) H1

section
variable {X : Cx} {e : Expr} {te : TE} {lo hi : Option Expr} {tl th : TO} {pos p2 : Pos}

theorem po_none : PO X none tNoPart := by
  intro pins s σ H Q I h
  rw [evalPart_none]
  exact wpAny_pure ⟨none, H, I, .none, h⟩
theorem po_some (h : PE X e te) : PO X (some e) (tPart te) := by
  intro pins s σ H Q I hw
  rw [evalPart_some]
  refine thn (h pins s σ H _ I hw) fun u s1 ⟨x, H1, I1, r1, q1⟩ => ?_
  obtain ⟨i, rfl, q⟩ := q1
  obtain ⟨t, rfl⟩ := r1
  exact ⟨some i, H1, I1, .int i t, q⟩

/-- what a slice of a value is, by values: the slice object stands at sl -/
noncomputable def SlR (X : Cx) (r : V → Option Int → Option Int → Hp → VK → Prop) : Prop :=
  ∀ (pins : List (Addr × Obj)) (s : Shared) (σ : St) (H : Hp) (x : V) (v vl vu : Value) (lo hi : Option Int) (sl : Addr) (Q : VK), Inv X pins σ H s → RelV x v → s.heap.IsSliceOf sl vl vu .none → IsPart vl lo → IsPart vu hi → r x lo hi H Q →
    ∃ T id, typeLookup (.type T) "__getitem__" = pure (some (.builtin id)) ∧ s.TypeIs v T ∧ wpAny (model X.prog X.w) X.A (getItem v (.ref sl)) (EP X pins σ Q) X.xe s
noncomputable def tSl (r : V → Option Int → Option Int → Hp → VK → Prop) (te : TE) (tl th : TO) : TE := fun σ H Q => te σ H fun x H1 => tl σ H1 fun l H2 => th σ H2 fun u H3 => r x l u H3 Q
/-- a[lo:hi], any a -/
theorem pe_slice {r : V → Option Int → Option Int → Hp → VK → Prop} (hr : SlR X r) (he : PE X e te) (hl : PO X lo tl) (hu : PO X hi th) : PE X (.Subscript e (.Slice lo hi none p2) pos) (tSl r te tl th) := by
  intro pins s σ H Q I h
  refine Subscript_ (thn (he pins s σ H _ I h) fun v s1 ⟨x, H1, I1, r1, q1⟩ => ?_)
  refine wpAny_Slice (thn (hl pins s1 σ H1 _ I1 q1) fun vl s2 ⟨l, H2, I2, pl, q2⟩ => thn (hu pins s2 σ H2 _ I2 q2) fun vu s3 ⟨u, H3, I3, pu, q3⟩ => ?_)
  rw [evalPart_none]
  refine wpAny_pure ?_
  have I4 : Inv X pins σ H3 { s3 with heap := s3.heap.push { cls := .type "slice", data := .fields #[vl, vu, .none] } } := I3.kept (t' := s3.toks) fun b ob q => Heap.get?_push_of_some _ q
  obtain ⟨T, id, hT, ht, hg⟩ := hr pins { s3 with heap := s3.heap.push { cls := .type "slice", data := .fields #[vl, vu, .none] } } σ H3 x v vl vu l u s3.heap.objs.size Q I4 r1 (Heap.IsSliceOf.new ..) pl pu q3
  show wpAny (model X.prog X.w) X.A (subscriptTail e (.Slice lo hi none p2) v (.ref s3.heap.objs.size)) (EP X pins σ Q) X.xe { s3 with heap := s3.heap.push { cls := .type "slice", data := .fields #[vl, vu, .none] } }
  exact tail_any (ops := [.ref s3.heap.objs.size, v]) ht hT hg (by with_unfolding_all rfl)

/-- the items of xs[lo:hi] -/
noncomputable def cutV (xs : List V) (lo hi : Option Int) : List V := (xs.drop (HT.sIx xs.length 0 lo)).take (HT.sIx xs.length xs.length hi - HT.sIx xs.length 0 lo)
theorem cutV_length (xs : List V) (lo hi : Option Int) : (cutV xs lo hi).length ≤ xs.length := by
  unfold cutV
  rw [List.length_take, List.length_drop]
  omega
/-- t[lo:hi], not the whole of it (the whole would be t itself) -/
noncomputable def rSlT (K : PySem.W.Frag) : V → Option Int → Option Int → Hp → VK → Prop := fun x lo hi H Q => ∃ a xs, x = .ref a ∧ SqT K H a xs ∧
  ¬ (HT.sIx xs.length 0 lo = 0 ∧ HT.sIx xs.length xs.length hi = xs.length) ∧ ∀ p, H p = none → Q (.ref p) (upd H p (.tup (cutV xs lo hi)))
theorem sl_tup : SlR X (rSlT X.K) := by
  intro pins s σ H x v vl vu lo hi sl Q I rx hs pl pu h
  obtain ⟨a, xs, rfl, hx, hw, q⟩ := h
  cases rx
  obtain ⟨its, r, ht, hz⟩ := I.tuple hx
  have hlen : its.toArray.size = xs.length := by rw [List.size_toArray]; exact r.length.symm
  refine ⟨"tuple", _, PyProof.Rows.slot_tuple_getitem.lookup, ht.typeIs, ?_⟩
  refine HT.getItem_tuple_cut ht hs pl pu (by rw [hlen]; exact hw) ?_ (by rw [hlen]; exact hz)
  rw [hlen]
  refine ⟨.ref s.heap.objs.size, _, I.laid (t' := s.toks) (o := .tup (cutV xs lo hi)) (fun b ob q => Heap.get?_push_of_some _ q) (Nat.le_refl _) ?_, rfl, q _ (I.hok.fresh (Nat.le_refl _))⟩
  exact ⟨Nat.le_trans (cutV_length xs lo hi) hz, _, (r.drop (HT.sIx xs.length 0 lo)).take (HT.sIx xs.length xs.length hi - HT.sIx xs.length 0 lo), IsTup.new _ _⟩

/-! ### t < u, t + u -/
/-- t + u, t not empty: u empty gives t itself -/
noncomputable def rCatT (K : PySem.W.Frag) : R2 := fun x y H Q => ∃ a b xs ys, x = .ref a ∧ y = .ref b ∧ SqT K H a xs ∧ SqT K H b ys ∧ xs ≠ [] ∧ xs.length + ys.length ≤ sizeLine ∧
  (ys = [] → Q (.ref a) H) ∧ (ys ≠ [] → ∀ p, H p = none → Q (.ref p) (upd H p (.tup (xs ++ ys))))
theorem Vals.nil_iff {xs : List V} {us : List Value} (r : Vals xs us) : us = [] ↔ xs = [] := by
  cases r with
  | nil => simp
  | cons _ _ => simp
theorem op_catT : OpR X (binaryOp .Add) (rCatT X.K) := by
  intro pins s σ H x y v u Q I rx ry h
  obtain ⟨a, b, xs, ys, rfl, rfl, ha, hb, hx, hz, q1, q2⟩ := h
  cases rx
  cases ry
  obtain ⟨its, r1, p1, _⟩ := I.tuple ha
  obtain ⟨its2, r2, p2, _⟩ := I.tuple hb
  refine HT.cat_tup p1 p2 (fun z => hx (r1.nil_iff.mp z)) (fun z => ⟨.ref a, H, I, rfl, q1 (r2.nil_iff.mp z)⟩) (fun z => ?_) (by rw [← r1.length, ← r2.length]; exact hz)
  refine ⟨.ref s.heap.objs.size, _, I.laid (t' := s.toks) (o := .tup (xs ++ ys)) (fun b ob q => Heap.get?_push_of_some _ q) (Nat.le_refl _) ?_, rfl, q2 (fun w => z (r2.nil_iff.mpr w)) _ (I.hok.fresh (Nat.le_refl _))⟩
  exact ⟨by rw [List.length_append]; exact hz, _, r1.append r2, IsTup.new _ _⟩
end
end L2

namespace L2
open PySem PySem.Spec PyProof.Rows

/-! ### places -/
/-- the place that an index of any sign means -/
noncomputable def ixN (n : Nat) (i : Int) : Option Nat := if 0 ≤ i then (if i < n then some i.toNat else none) else if -(n : Int) ≤ i then some (i + n).toNat else none
noncomputable def atI {α : Type} (xs : List α) (i : Int) : Option α := (ixN xs.length i).bind fun j => xs[j]?
theorem ixN_seq {n : Nat} {i : Int} {j : Nat} (h : ixN n i = some j) : seqIndex? i n = some j ∧ j < n ∧ -(n : Int) ≤ i ∧ i < n := by
  unfold ixN at h
  by_cases h0 : 0 ≤ i
  · rw [if_pos h0] at h
    by_cases h1 : i < n
    · rw [if_pos h1] at h
      have e : i.toNat = j := Option.some.inj h
      exact ⟨by rw [seqIndex_of h0 h1, e], by omega, by omega, h1⟩
    · rw [if_neg h1] at h; cases h
  · rw [if_neg h0] at h
    by_cases h1 : -(n : Int) ≤ i
    · rw [if_pos h1] at h
      have e : (i + n).toNat = j := Option.some.inj h
      exact ⟨by rw [seqIndex_neg (by omega) h1, e], by omega, h1, by omega⟩
    · rw [if_neg h1] at h; cases h
theorem atI_get {α : Type} {xs : List α} {i : Int} {v : α} (h : atI xs i = some v) : ∃ j, seqIndex? i xs.length = some j ∧ xs[j]? = some v ∧ j < xs.length ∧ -(xs.length : Int) ≤ i ∧ i < xs.length := by
  unfold atI at h
  cases e : ixN xs.length i with
  | none => rw [e] at h; cases h
  | some j =>
    rw [e] at h
    obtain ⟨h1, h2, h3, h4⟩ := ixN_seq e
    exact ⟨j, h1, h, h2, h3, h4⟩
theorem atI_nat {α : Type} {xs : List α} {j : Nat} {v : α} (h : xs[j]? = some v) : atI xs (j : Int) = some v := by
  have hj : j < xs.length := (List.getElem?_eq_some_iff.mp h).1
  have e : ixN xs.length (j : Int) = some j := by
    unfold ixN
    rw [if_pos (by omega), if_pos (by omega)]; simp
  unfold atI; rw [e]; exact h
/-! ### what may be subscripted -/
/-- what stands as an index of a plain subscript -/
noncomputable def PlainIx (b : Expr) : Prop := ∀ o i, subscripted b false o i = operate [o, i] (getItem o i)
/-- a subscript by values -/
noncomputable def IxR (X : Cx) (r : R2) : Prop :=
  ∀ (value slice : Expr) (pins : List (Addr × Obj)) (s : Shared) (σ : St) (H : Hp) (x y : V) (v u : Value) (Q : VK), Inv X pins σ H s → RelV x v → RelV y u → r x y H Q →
    subscripted slice false v u = operate [v, u] (getItem v u) → wpAny (model X.prog X.w) X.A (subscriptTail value slice v u) (EP X pins σ Q) X.xe s
/-- a call of a builtin's method by values: the receiver, the arguments -/
noncomputable def MtR (X : Cx) (id : String) (r : V → List V → Hp → VK → Prop) : Prop :=
  ∀ (pins : List (Addr × Obj)) (s : Shared) (σ : St) (H : Hp) (x : V) (xs : List V) (v : Value) (us : List Value) (Q : VK), Inv X pins σ H s → RelV x v → Vals xs us → r x xs H Q →
    wpAny (model X.prog X.w) X.A (call (.builtin id) (v :: us)) (EP X pins σ Q) X.xe s
section
variable {X : Cx} {a b : Expr} {ta tb : TE} {pos : Pos}
theorem IxR.or {r r' : R2} (h : IxR X r) (h' : IxR X r') : IxR X (fun x y H Q => r x y H Q ∨ r' x y H Q) := by
  intro value slice pins s σ H x y v u Q I rx ry q hs
  rcases q with q | q
  · exact h value slice pins s σ H x y v u Q I rx ry q hs
  · exact h' value slice pins s σ H x y v u Q I rx ry q hs
/-- a[b] -/
theorem pe_ix {r : R2} (hr : IxR X r) (ha : PE X a ta) (hb : PE X b tb) (hs : PlainIx b) : PE X (.Subscript a b pos) (tOp r ta tb) := by
  intro pins s σ H Q I h
  exact Subscript_ (binT ha hb I h fun v u s2 x y H2 I2 rx ry q => hr a b pins s2 σ H2 x y v u Q I2 rx ry q (hs _ _))

noncomputable def rIxL (K : PySem.W.Frag) : R2 := fun x y H Q => ∃ p xs i v, x = .ref p ∧ y = .int i ∧ SqL K H p xs ∧ atI xs i = some v ∧ Q v H
noncomputable def rIxT (K : PySem.W.Frag) : R2 := fun x y H Q => ∃ p xs i v, x = .ref p ∧ y = .int i ∧ SqT K H p xs ∧ atI xs i = some v ∧ Q v H
noncomputable def rIxS : R2 := fun x y H Q => ∃ z i c, x = .str z ∧ y = .int i ∧ z.length ≤ sizeLine ∧ atI z.cps.toList i = some c ∧ Q (.str ⟨#[c]⟩) H
theorem ix_list : IxR X (rIxL X.K) := by
  intro value slice pins s σ H x y v u Q I rx ry h hs
  obtain ⟨p, xs, i, z, rfl, rfl, hq, he, q⟩ := h
  cases rx
  obtain ⟨t, rfl⟩ := ry
  obtain ⟨its, r, pl, hz⟩ := I.list hq
  obtain ⟨j, h1, h2, h3, h4, h5⟩ := atI_get he
  obtain ⟨w, ew, rw'⟩ := r.get h2
  have hl := r.length
  have hn := line63
  have fin : EP X pins σ Q w s := ⟨z, H, I, rw', q⟩
  by_cases h0 : 0 ≤ i
  · have hj : i.toNat = j := by
      rw [seqIndex_of h0 h5] at h1
      exact Option.some.inj h1
    exact item_listR pl.isList h0 (by omega) (by rw [hj]; simpa using ew) fin hs
  · have hj : (i + (its.toArray.size : Int)).toNat = j := by
      rw [seqIndex_neg (by omega) h4] at h1
      rw [List.size_toArray, ← hl]
      exact Option.some.inj h1
    exact subscriptTail_builtinR (x := w) pl.isList.typeIs slot_list_getitem.lookup
      (wpAny_getItem_list_neg (Q := fun r s' => r = w ∧ EP X pins σ Q r s') pl.isList (by omega) (by rw [List.size_toArray] <;> omega) (by omega) (by rw [hj]; simpa using ew) ⟨rfl, fin⟩) hs
theorem ix_tup : IxR X (rIxT X.K) := by
  intro value slice pins s σ H x y v u Q I rx ry h hs
  obtain ⟨p, xs, i, z, rfl, rfl, hq, he, q⟩ := h
  cases rx
  obtain ⟨t, rfl⟩ := ry
  obtain ⟨its, r, pl, hz⟩ := I.tuple hq
  obtain ⟨j, h1, h2, h3, h4, h5⟩ := atI_get he
  obtain ⟨w, ew, rw'⟩ := r.get h2
  have hl := r.length
  have hn := line63
  have fin : EP X pins σ Q w s := ⟨z, H, I, rw', q⟩
  exact subscriptTail_builtinR (x := w) pl.typeIs slot_tuple_getitem.lookup
    (getItem_tuple (j := j) (Q := fun r s' => r = w ∧ EP X pins σ Q r s') pl (by omega) (by omega) (by rw [List.size_toArray, ← hl]; exact h1) (by simpa using ew) ⟨rfl, fin⟩) hs
theorem ix_str : IxR X rIxS := by
  intro value slice pins s σ H x y v u Q I rx ry h hs
  obtain ⟨z, i, c, rfl, rfl, hz, he, q⟩ := h
  obtain ⟨t, rfl⟩ := rx
  obtain ⟨t', rfl⟩ := ry
  obtain ⟨j, h1, h2, h3, h4, h5⟩ := atI_get he
  have hl : z.cps.toList.length = z.length := by simp [Str.length]
  rw [hl] at h1 h4 h5
  have hn := line63
  exact tail_any (typeIs_str s z t) slot_str_getitem.lookup (getItem_str (c := c) (by
    have e1 : decide (i < -(2 ^ 63 : Int)) = false := decide_eq_false (by omega)
    have e2 : decide (i ≥ 2 ^ 63) = false := decide_eq_false (by omega)
    rw [e1, e2, Bool.or_false]) (by rw [h1]; simpa using h2) ⟨.str ⟨#[c]⟩, H, I.tok _, ⟨_, rfl⟩, q⟩) hs
/-- list, tuple or str -/
noncomputable def rIx (K : PySem.W.Frag) : R2 := fun x y H Q => rIxL K x y H Q ∨ rIxT K x y H Q ∨ rIxS x y H Q
theorem ix_seq : IxR X (rIx X.K) := ix_list.or (ix_tup.or ix_str)

/-! ### xs[i] = v, any sign -/
/-- the list's object behind a store -/
theorem mapSeq_set (its : List Value) (n j : Nat) (u : Value) : Obj.mapSeq (·.setIfInBounds j u) { cls := .type "list", data := .seq its.toArray n } = { cls := .type "list", data := .seq (its.set j u).toArray n } := by
  simp [Obj.mapSeq]
theorem Inv.lst {pins : List (Addr × Obj)} {σ : St} {H : Hp} {s : Shared} {p : Addr} {xs : List V} (I : Inv X pins σ H s) (h : H p = some (.lst xs)) :
    ∃ (its : List Value) (n : Nat), Vals xs its ∧ s.heap.get? p = some { cls := .type "list", data := .seq its.toArray n } ∧ xs.length ≤ sizeLine := by
  obtain ⟨z, its, n, r, e⟩ := I.hok p _ h
  exact ⟨its, n, r, e, z⟩
/-- the list at p is written by an update of its object -/
theorem Inv.lstUpd {pins : List (Addr × Obj)} {σ : St} {H : Hp} {s : Shared} {p : Addr} {xs ys : List V} {its its' : List Value} {n n' : Nat} {f : Obj → Obj} (I : Inv X pins σ H s) (h : H p = some (.lst xs))
    (ho : s.heap.get? p = some { cls := .type "list", data := .seq its.toArray n }) (hf : f { cls := .type "list", data := .seq its.toArray n } = { cls := .type "list", data := .seq its'.toArray n' }) (r : Vals ys its') (hz : ys.length ≤ sizeLine) (t : Nat) :
    Inv X pins σ (upd H p (.lst ys)) { s with heap := s.heap.update p f, toks := t } := by
  have e : (s.heap.update p f).get? p = some { cls := .type "list", data := .seq its'.toArray n' } := by
    rw [Heap.get?_update_self f ho (by rw [hf] <;> rfl), hf]
  refine I.write (x := p) (e := p) (by rw [h]; trivial) (.inl rfl) (fun b u hb q => (Heap.get?_update_other _ _ (Ne.symm hb)).trans q) ⟨_, e⟩ ?_
  exact ⟨hz, its', n', r, e⟩
noncomputable def rSetL : V → V → V → Hp → (Hp → Prop) → Prop := fun o i v H Q => ∃ p xs k j, o = .ref p ∧ i = .int k ∧ H p = some (.lst xs) ∧ ixN xs.length k = some j ∧ Q (upd H p (.lst (xs.set j v)))
theorem set_list : PSet X rSetL := by
  intro pins s σ H o i v ov iv u Q I ro ri rv h
  obtain ⟨p, xs, k, j, rfl, rfl, hp, hj, q⟩ := h
  cases ro
  obtain ⟨t, rfl⟩ := ri
  obtain ⟨its, n, r, ho, hz⟩ := I.lst hp
  obtain ⟨h1, h2, h3, h4⟩ := ixN_seq hj
  have hl := r.length
  have hn := line63
  have I' : Inv X pins σ (upd H p (.lst (xs.set j v))) { s with heap := s.heap.update p (Obj.mapSeq (·.setIfInBounds j u)) } :=
    I.lstUpd hp ho (mapSeq_set its n j u) (r.set rv j) (by rw [List.length_set]; exact hz) s.toks
  by_cases h0 : 0 ≤ k
  · have hk : k.toNat = j := by
      rw [seqIndex_of h0 h4] at h1
      exact Option.some.inj h1
    exact PySem.W.ki_setAt ho h0 (by omega) (by rw [List.size_toArray, ← hl]; exact h4) (by rw [hk]; exact ⟨_, I', q⟩)
  · have hk : (k + (its.toArray.size : Int)).toNat = j := by
      rw [seqIndex_neg (by omega) h3] at h1
      rw [List.size_toArray, ← hl]
      exact Option.some.inj h1
    exact PySem.W.ki_setBack ho (by omega) (by rw [List.size_toArray, ← hl]; exact h3) (by omega) (by rw [hk]; exact ⟨_, I', q⟩)

/-! ### slices -/
theorem slice_bounds (lo hi : Option Int) (n : Nat) : (sliceBounds lo hi none n).1 = ((HT.sIx n 0 lo : Nat) : Int) ∧ (sliceBounds lo hi none n).2.1 = ((HT.sIx n n hi : Nat) : Int) ∧ (sliceBounds lo hi none n).2.2 = 1 := by
  refine ⟨?_, ?_, rfl⟩
  · cases lo with
    | none => simp [sliceBounds, HT.sIx]
    | some i =>
      simp only [sliceBounds, HT.sIx, Option.getD_none, show (1 : Int) > 0 by decide, if_true]
      by_cases h : i < 0
      · simp only [h, if_true] <;> omega
      · simp only [h, if_false] <;> omega
  · cases hi with
    | none => simp [sliceBounds, HT.sIx]
    | some i =>
      simp only [sliceBounds, HT.sIx, Option.getD_none, show (1 : Int) > 0 by decide, if_true]
      by_cases h : i < 0
      · simp only [h, if_true] <;> omega
      · simp only [h, if_false] <;> omega
theorem slicePick_cut (its : List Value) (lo hi : Option Int) : slicePick its.toArray lo hi none = ((its.drop (HT.sIx its.length 0 lo)).take (HT.sIx its.length its.length hi - HT.sIx its.length 0 lo)).toArray := by
  obtain ⟨h1, h2, h3⟩ := slice_bounds lo hi its.toArray.size
  unfold slicePick
  rw [h1, h2, h3]
  simp only [sliceRange_one, pick_run, List.size_toArray] <;> rfl
/-- xs[lo:hi] of a list: a new list -/
noncomputable def rSlL (K : PySem.W.Frag) : V → Option Int → Option Int → Hp → VK → Prop := fun x lo hi H Q => ∃ a xs, x = .ref a ∧ SqL K H a xs ∧ ∀ p, H p = none → Q (.ref p) (upd H p (.lst (cutV xs lo hi)))
theorem sl_list : SlR X (rSlL X.K) := by
  intro pins s σ H x v vl vu lo hi sl Q I rx hs pl pu h
  obtain ⟨a, xs, rfl, hx, q⟩ := h
  cases rx
  obtain ⟨its, r, ht, hz⟩ := I.list hx
  have hlen := r.length
  refine ⟨"list", _, slot_list_getitem.lookup, ht.isList.typeIs, ?_⟩
  refine wpAny_getItem_list_slice ht.isList hs pl pu .none (by simp) ?_ (by rw [List.size_toArray] <;> omega)
  rw [slicePick_cut, ← hlen]
  refine ⟨.ref s.heap.objs.size, _, I.laid (t' := s.toks) (o := .lst (cutV xs lo hi)) (fun b ob q => Heap.get?_push_of_some _ q) (Nat.le_refl _) ?_, rfl, q _ (I.hok.fresh (Nat.le_refl _))⟩
  exact ⟨Nat.le_trans (cutV_length xs lo hi) hz, _, 0, (r.drop (HT.sIx xs.length 0 lo)).take (HT.sIx xs.length xs.length hi - HT.sIx xs.length 0 lo), Heap.get?_push_size _ rfl⟩

/-! ### in, not in: flat items -/
noncomputable def flatV : V → Bool
  | .non => true
  | .bl _ => true
  | .int _ => true
  | .str _ => true
  | _ => false
/-- == of flat values -/
noncomputable def eqV : V → V → Bool
  | .non, .non => true
  | .bl a, .bl b => a == b
  | .bl a, .int b => (if a then 1 else 0) == b
  | .int a, .bl b => a == (if b then 1 else 0)
  | .int a, .int b => a == b
  | .str a, .str b => a == b
  | _, _ => false
theorem eqAt_V {A : Around} {s : Shared} {y x : V} {u v : Value} (ry : RelV y u) (rx : RelV x v) (fy : flatV y = true) (fx : flatV x = true) : SeqAt.EqAt A s u v (eqV y x) := by
  cases y with
  | non =>
    cases ry
    cases x with
    | non => cases rx; exact SeqAt.EqAt.same _
    | bl b => cases rx; exact SeqAt.EqAt.none_bool b
    | int b => obtain ⟨t, rfl⟩ := rx; exact SeqAt.EqAt.none_int b t
    | str b => obtain ⟨t, rfl⟩ := rx; exact SeqAt.EqAt.none_str b t
    | _ => exact absurd (show false = true from fx) Bool.false_ne_true
  | bl a =>
    cases ry
    cases x with
    | non => cases rx; exact SeqAt.EqAt.bool_none a
    | bl b => cases rx; exact SeqAt.EqAt.bool_bool a b
    | int b => obtain ⟨t, rfl⟩ := rx; exact SeqAt.EqAt.bool_int a b t
    | str b => obtain ⟨t, rfl⟩ := rx; exact SeqAt.EqAt.bool_str a b t
    | _ => exact absurd (show false = true from fx) Bool.false_ne_true
  | int a =>
    obtain ⟨t', rfl⟩ := ry
    cases x with
    | non => cases rx; exact SeqAt.EqAt.int_none a t'
    | bl b => cases rx; exact SeqAt.EqAt.int_bool a t' b
    | int b => obtain ⟨t, rfl⟩ := rx; exact SeqAt.EqAt.int_int a t' b t
    | str b => obtain ⟨t, rfl⟩ := rx; exact SeqAt.EqAt.int_str a t' b t
    | _ => exact absurd (show false = true from fx) Bool.false_ne_true
  | str a =>
    obtain ⟨t', rfl⟩ := ry
    cases x with
    | non => cases rx; exact SeqAt.EqAt.str_none a t'
    | bl b => cases rx; exact SeqAt.EqAt.str_bool a t' b
    | int b => obtain ⟨t, rfl⟩ := rx; exact SeqAt.EqAt.str_int a t' b t
    | str b => obtain ⟨t, rfl⟩ := rx; exact SeqAt.EqAt.str_str a t' b t
    | _ => exact absurd (show false = true from fx) Bool.false_ne_true
  | _ => exact absurd (show false = true from fy) Bool.false_ne_true
/-- the items' answers, read off the values (a value's own answer does not lean on its token) -/
noncomputable def eqU (x : V) (u : Value) : Bool := match u with
  | .none => eqV .non x
  | .bool b => eqV (.bl b) x
  | .int i _ => eqV (.int i) x
  | .str z _ => eqV (.str z) x
  | _ => false
theorem eqU_of {x y : V} {u : Value} (r : RelV y u) (f : flatV y = true) : eqU x u = eqV y x := by
  cases y with
  | non => cases r; rfl
  | bl b => cases r; rfl
  | int i => obtain ⟨t, rfl⟩ := r; rfl
  | str z => obtain ⟨t, rfl⟩ := r; rfl
  | _ => exact absurd (show false = true from f) Bool.false_ne_true
theorem any_eqU {x : V} : ∀ {xs : List V} {us : List Value}, Vals xs us → xs.all flatV = true → us.any (eqU x) = xs.any fun y => eqV y x
  | _, _, .nil, _ => rfl
  | y :: xs, u :: us, .cons r t, f => by
    rw [List.all_cons, Bool.and_eq_true] at f
    rw [List.any_cons, List.any_cons, eqU_of r f.1, any_eqU t f.2]
theorem mem_eqAt {A : Around} {s : Shared} {x : V} {v : Value} (rx : RelV x v) (fx : flatV x = true) : ∀ {xs : List V} {us : List Value}, Vals xs us → xs.all flatV = true → ∀ u ∈ us, SeqAt.EqAt A s u v (eqU x u)
  | _, _, .nil, _ => fun u hu => by cases hu
  | y :: xs, u :: us, .cons r t, f => fun u' hu => by
    rw [List.all_cons, Bool.and_eq_true] at f
    rcases List.mem_cons.mp hu with rfl | hu
    · rw [eqU_of r f.1]; exact eqAt_V r rx f.1 fx
    · exact mem_eqAt rx fx t f.2 u' hu
noncomputable def inV (x : V) (xs : List V) : Bool := xs.any fun y => eqV y x
/-- x in a list or tuple of flat items -/
noncomputable def rIn (K : PySem.W.Frag) (neg : Bool) : R2 := fun x y H Q => ∃ p xs, y = .ref p ∧ (SqL K H p xs ∨ SqT K H p xs) ∧ flatV x = true ∧ xs.all flatV = true ∧ Q (.bl (if neg then !inV x xs else inV x xs)) H
theorem op_in_seq : OpR X (compareOp .In) (rIn X.K false) := by
  intro pins s σ H x y v u Q I rx ry h
  obtain ⟨p, xs, rfl, hq, fx, fs, q⟩ := h
  cases ry
  rcases hq with hq | hq
  · obtain ⟨its, r, pl, hz⟩ := I.list hq
    refine SeqAt.in_listAt (eqU x) pl.isList (fun w hw => mem_eqAt rx fx r fs w (by simpa using hw)) ⟨.bl _, H, I, rfl, ?_⟩
    rw [show its.toArray.any (eqU x) = its.any (eqU x) by simp, any_eqU r fs]
    exact q
  · obtain ⟨its, r, pl, hz⟩ := I.tuple hq
    refine SeqAt.in_tupleAt (eqU x) pl (fun w hw => mem_eqAt rx fx r fs w (by simpa using hw)) ⟨.bl _, H, I, rfl, ?_⟩
    rw [show its.toArray.any (eqU x) = its.any (eqU x) by simp, any_eqU r fs]
    exact q
theorem op_notIn_seq : OpR X (compareOp .NotIn) (rIn X.K true) := by
  intro pins s σ H x y v u Q I rx ry h
  obtain ⟨p, xs, rfl, hq, fx, fs, q⟩ := h
  cases ry
  rcases hq with hq | hq
  · obtain ⟨its, r, pl, hz⟩ := I.list hq
    refine SeqAt.notIn_listAt (eqU x) pl.isList (fun w hw => mem_eqAt rx fx r fs w (by simpa using hw)) ⟨.bl _, H, I, rfl, ?_⟩
    rw [show its.toArray.any (eqU x) = its.any (eqU x) by simp, any_eqU r fs]
    exact q
  · obtain ⟨its, r, pl, hz⟩ := I.tuple hq
    refine SeqAt.notIn_tupleAt (eqU x) pl (fun w hw => mem_eqAt rx fx r fs w (by simpa using hw)) ⟨.bl _, H, I, rfl, ?_⟩
    rw [show its.toArray.any (eqU x) = its.any (eqU x) by simp, any_eqU r fs]
    exact q
/-! ### len, list(x), tuple(x) of any list or tuple that is read -/
theorem call_len_seq : CallR X (.builtin "len") (fun xs H Q => ∃ p ys, xs = [.ref p] ∧ (SqL X.K H p ys ∨ SqT X.K H p ys) ∧ Q (.int ys.length) H) := by
  intro pins s σ H xs us Q I r h
  obtain ⟨p, ys, rfl, hq, q⟩ := h
  obtain ⟨u, rfl, rx⟩ := vals1 r
  cases rx
  have hn := line63
  rcases hq with hq | hq
  · obtain ⟨its, r', pl, hz⟩ := I.list hq
    have hlen := r'.length
    exact Calls.call_len_list pl.isList (by simp only [List.size_toArray] <;> omega) ⟨.int ys.length, H, I.tok _, ⟨s.toks + 1, by rw [List.size_toArray, hlen]⟩, q⟩
  · obtain ⟨its, r', pl, hz⟩ := I.tuple hq
    have hlen := r'.length
    exact len_tuple pl (by simp only [List.size_toArray] <;> omega) ⟨.int ys.length, H, I.tok _, ⟨s.toks + 1, by rw [List.size_toArray, hlen]⟩, q⟩
theorem call_len_str : CallR X (.builtin "len") (fun xs H Q => ∃ z, xs = [.str z] ∧ z.length ≤ sizeLine ∧ Q (.int z.length) H) := by
  intro pins s σ H xs us Q I r h
  obtain ⟨z, rfl, hz, q⟩ := h
  obtain ⟨u, rfl, t, rfl⟩ := vals1 r
  have hn := line63
  exact len_str (by omega) ⟨.int z.length, H, I.tok _, ⟨_, rfl⟩, q⟩
theorem call_tuple_of : CallR X (.type "tuple") (fun xs H Q => ∃ p ys, xs = [.ref p] ∧ ((SqL X.K H p ys ∧ ∀ l, H l = none → Q (.ref l) (upd H l (.tup ys))) ∨ (SqT X.K H p ys ∧ Q (.ref p) H))) := by
  intro pins s σ H xs us Q I r h
  obtain ⟨p, ys, rfl, h⟩ := h
  obtain ⟨u, rfl, rx⟩ := vals1 r
  cases rx
  rcases h with ⟨hq, q⟩ | ⟨hq, q⟩
  · obtain ⟨its, r', pl, hz⟩ := I.list hq
    have hlen := r'.length
    refine call_tuple_list pl.isList (fun h' kp => ?_) (by simp only [List.size_toArray] <;> omega)
    have I1 : Inv X pins σ H { s with heap := h' } := I.kept (t' := s.toks) kp
    have I2 : Inv X pins σ (upd H h'.objs.size (.tup ys)) { s with heap := h'.push { cls := .type "tuple", data := .seq its.toArray } } :=
      I1.laid (t' := s.toks) (fun b o e => Heap.get?_push_of_some _ e) (Nat.le_refl _) (show ObjOk X.prog X.w _ _ _ (.tup ys) from ⟨hz, its, r', IsTup.new _ _⟩)
    exact ⟨.ref h'.objs.size, _, I2, rfl, q _ (I1.hok.fresh (Nat.le_refl _))⟩
  · obtain ⟨its, r', pl, hz⟩ := I.tuple hq
    exact call_tuple_same pl ⟨.ref p, H, I, rfl, q⟩

/-! ### the call of a builtin's method: o.m(..) -/
/-- the value is of that builtin type -/
noncomputable def tyV (K : PySem.W.Frag) (T : String) (x : V) (H : Hp) : Prop := match x with
  | .str _ => T = "str"
  | .int _ => T = "int"
  | .ref p => (T = "list" ∧ ∃ xs, SqL K H p xs) ∨ (T = "tuple" ∧ ∃ o, K.lookup p = some o ∧ o.cls = .type "tuple" ∧ o.dict = none) ∨
      (T = "dict" ∧ ((∃ kvs, H p = some (.dK kvs)) ∨ ∃ kvs, H p = some (.dT kvs))) ∨ (T = "set" ∧ ∃ S n, H p = some (.set S n))
  | _ => False
theorem tyV_is {pins : List (Addr × Obj)} {σ : St} {H : Hp} {s : Shared} {T : String} {x : V} {v : Value} (I : Inv X pins σ H s) (r : RelV x v) (ty : tyV X.K T x H) :
    s.TypeIs v T ∧ ∀ a, v = .ref a → ∃ ob, s.heap.get? a = some ob ∧ ob.dict = none := by
  cases x with
  | str z =>
    obtain ⟨t, rfl⟩ := r
    cases (show T = "str" from ty)
    exact ⟨typeIs_str s z t, fun _ e => nomatch e⟩
  | int i =>
    obtain ⟨t, rfl⟩ := r
    cases (show T = "int" from ty)
    exact ⟨typeIs_int s i t, fun _ e => nomatch e⟩
  | ref p =>
    cases r
    rcases ty with ⟨rfl, xs, hq⟩ | ⟨rfl, o, hk, hc, hd⟩ | ⟨rfl, hk⟩ | ⟨rfl, S, n, hk⟩
    · obtain ⟨its, _, pl, _⟩ := I.list hq
      refine ⟨pl.isList.typeIs, fun a e => ?_⟩
      cases e
      obtain ⟨o, n, e, c, hd, _⟩ := pl
      exact ⟨o, e, hd⟩
    · refine ⟨⟨o, I.kIn p o hk, hc⟩, fun a e => ?_⟩
      cases e
      exact ⟨o, I.kIn _ o hk, hd⟩
    · have z : ∃ o, s.heap.get? p = some o ∧ o.ExactDict := by
        rcases hk with ⟨kvs, hk⟩ | ⟨kvs, hk⟩
        · obtain ⟨_, _, _, _, o, _, _, e, ex, _⟩ := I.hok p _ hk
          exact ⟨o, e, ex⟩
        · obtain ⟨_, _, _, _, o, _, _, e, ex, _⟩ := I.hok p _ hk
          exact ⟨o, e, ex⟩
      obtain ⟨o, e, ex⟩ := z
      refine ⟨⟨o, e, ex.1⟩, fun a e2 => ?_⟩
      cases e2
      exact ⟨o, e, ex.2.1⟩
    · obtain ⟨o, _, _, _, e, ex, _⟩ := I.hok p _ hk
      refine ⟨⟨o, e, ex.1⟩, fun a e2 => ?_⟩
      cases e2
      exact ⟨o, e, ex.2.1⟩
  | _ => exact False.elim ty
noncomputable def tBM (K : PySem.W.Frag) (T : String) (r : V → List V → Hp → VK → Prop) (to : TE) (t : TA) : TE := fun σ H Q => to σ H fun x H1 => tyV K T x H1 ∧ t σ H1 fun xs H2 => r x xs H2 Q
variable {o e : Expr} {es : List Expr} {to : TE} {t : TA} {name : Str} {apos cpos : Pos} {T id : String} {r : V → List V → Hp → VK → Prop}
theorem pe_bm (pa : PlainAttrs T) (slot : Slot T name id) (hty : typeOf (.builtin id) = pure (.type "method_descriptor")) (hm : MtR X id r) (ho : PE X o to) (ha : PA X (e :: es) t)
    (hbase : attributeBase o name X.env (eval o X.env) = eval o X.env := by rfl)
    (hfew : ((backTo cpos (starEach (e :: es) X.env)).all (fun x => !x.1) && (backToKw cpos (keywordEach [] X.env)).all (fun x => x.1.isSome)
      && decide ((e :: es).length + ([] : List Keyword).length + (if ([] : List Keyword).isEmpty then 0 else 1) < 30)) = true := by rfl)
    (hline : (apos.endLine == cpos.line) = true := by rfl) (hs : starEach (e :: es) X.env = (false, eval e X.env) :: starEach es X.env := by rfl) (hplain : (backTo cpos (starEach es X.env)).any (·.1) = false := by rfl) :
    PE X (.Call (.Attribute o name apos) (e :: es) [] cpos) (tBM X.K T r to t) := by
  intro pins s σ H Q I h
  refine wpAny_Call_method_late hbase hfew hline rfl (thn (ho pins s σ H _ I h) fun v s1 ⟨x, H1, I1, r1, ty, q1⟩ => ?_)
  obtain ⟨h1, h2⟩ := tyV_is I1 r1 ty
  refine ⟨T, id, pa, slot, hty, h1, h2, ?_⟩
  have hA := ha cpos pins s1 σ H1 _ I1 q1
  rw [hs] at hA ⊢
  refine Calls.callWith_builtin (by show (false || (backTo cpos (starEach es X.env)).any (·.1)) = false; rw [hplain] <;> rfl) (Calls.evalArgs_plain ?_)
  exact thn hA fun us s2 ⟨vs, H2, I2, r2, q2⟩ => hm pins s2 σ H2 x vs v us Q I2 r1 r2 q2
/- xs.append(e), list.index on a module's tuple .. are MtR facts of 06m -/
end
end L2

namespace L2
open PySem PySem.Spec PyProof.Rows

noncomputable def MtM (X : Cx) (id : String) (r : V → List V → Hp → VK → Prop) : Prop :=
  ∀ (pins : List (Addr × Obj)) (s : Shared) (σ : St) (H : Hp) (x : V) (xs : List V) (v : Value) (us : List Value) (Q : VK), Inv X pins σ H s → RelV x v → Vals xs us → r x xs H Q →
    wpAny (model X.prog X.w) X.A (call (.builtin id) (v :: us)) (EP X pins σ Q) X.xe s

/-! ### lists of values -/
theorem Vals.one : ∀ {x : V} {us : List Value}, Vals [x] us → ∃ u, us = [u] ∧ RelV x u
  | _, _, .cons r .nil => ⟨_, rfl, r⟩
theorem Vals.rep {xs : List V} {us : List Value} (h : Vals xs us) : ∀ k : Nat, Vals (List.replicate k xs).flatten (List.replicate k us).flatten
  | 0 => .nil
  | k + 1 => by
    rw [List.replicate_succ, List.replicate_succ, List.flatten_cons, List.flatten_cons]
    exact Vals.append h (Vals.rep h k)
theorem foldl_rep (its : List Value) : ∀ (k : Nat) (acc : List Value),
    List.foldl (fun x1 x2 => x1 ++ x2) acc.toArray (List.replicate k its.toArray) = (acc ++ (List.replicate k its).flatten).toArray
  | 0, acc => by simp
  | k + 1, acc => by
    have e : acc.toArray ++ its.toArray = (acc ++ its).toArray := by simp
    have e2 : (acc ++ its) ++ (List.replicate k its).flatten = acc ++ (List.replicate (k + 1) its).flatten := by
      rw [List.replicate_succ, List.flatten_cons, List.append_assoc]
    rw [← e2, ← foldl_rep its k (acc ++ its), ← e, List.replicate_succ, List.foldl_cons]

section
variable {X : Cx} {pins : List (Addr × Obj)} {σ : St} {H : Hp} {s : Shared} {l b : Addr} {xs ys zs : List V}

/-! ### the two steps: a tracked list is rewritten, a new list is laid -/
theorem Inv.lset {its its' : List Value} {n : Nat} {f : Array Value → Array Value} {t' : Nat} (I : Inv X pins σ H s) (hH : H l = some (.lst xs))
    (e : s.heap.get? l = some { cls := .type "list", data := .seq its.toArray n }) (hf : f its.toArray = its'.toArray) (hv : Vals ys its') (hz : ys.length ≤ sizeLine) :
    Inv X pins σ (upd H l (.lst ys)) { s with heap := s.heap.update l (Obj.mapSeq f), toks := t' } := by
  have q := PySem.IsL.update e f
  rw [hf] at q
  refine I.write (x := l) (e := l) (by rw [hH]; exact trivial) (.inl rfl) (fun b' u hb hu => (Heap.get?_update_other s.heap (Obj.mapSeq f) (Ne.symm hb)).trans hu) ⟨_, q⟩ ?_
  exact ⟨hz, its', _, hv, q⟩
theorem Inv.lnew {its : List Value} {t' : Nat} (I : Inv X pins σ H s) (hv : Vals ys its) (hz : ys.length ≤ sizeLine) :
    Inv X pins σ (upd H s.heap.objs.size (.lst ys)) { s with heap := s.heap.push { cls := .type "list", data := .seq its.toArray }, toks := t' } :=
  I.laid (fun _ _ q => Heap.get?_push_of_some _ q) (Nat.le_refl _) ⟨hz, its, 0, hv, Heap.get?_push_size _ rfl⟩
theorem Inv.fresh (I : Inv X pins σ H s) : H s.heap.objs.size = none := I.hok.fresh (Nat.le_refl _)
theorem Inv.lstM (I : Inv X pins σ H s) (hH : H l = some (.lst xs)) : xs.length ≤ sizeLine ∧ ∃ (its : List Value) (n : Nat), Vals xs its ∧ xs.length = its.length ∧ s.heap.get? l = some { cls := .type "list", data := .seq its.toArray n } := by
  obtain ⟨z, its, n, r, e⟩ := I.hok l _ hH
  exact ⟨z, its, n, r, r.length, e⟩

theorem notLongL {n : Nat} (h : n ≤ sizeLine) : Builtin.List.listTooLong n = false := by
  unfold Builtin.List.listTooLong
  exact decide_eq_false (by omega)
end

section
variable {X : Cx}

/-! ### methods -/
noncomputable def rAppend : V → List V → Hp → VK → Prop := fun x vs H Q => ∃ l xs y, x = .ref l ∧ vs = [y] ∧ H l = some (.lst xs) ∧ xs.length < sizeLine ∧ Q .non (upd H l (.lst (xs ++ [y])))
theorem mt_append : MtM X "list.append" rAppend := by
  intro pins s σ H x vs v us Q I rx rv h
  obtain ⟨l, xs, y, rfl, rfl, hH, hz, q⟩ := h
  cases rx
  obtain ⟨u, rfl, ru⟩ := rv.one
  obtain ⟨z, its, n, r, hl, e⟩ := I.lstM hH
  refine call_meets F.slot_list_append ⟨_, e, rfl⟩ F.entry_list_append (F.args_list_append_2 _ _) (PySem.list_append l its.toArray n u (by rw [List.size_toArray]; omega)) ⟨e, ?_⟩
  refine ⟨.non, _, I.lset (its' := its ++ [u]) hH e (by simp) (r.append (.cons ru .nil)) ?_, rfl, q⟩
  rw [List.length_append, List.length_singleton]
  omega

/-! ### list + list, list += list, list * int -/
noncomputable def rCat : R2 := fun x y H Q => ∃ l b xs zs, x = .ref l ∧ y = .ref b ∧ H l = some (.lst xs) ∧ H b = some (.lst zs) ∧ xs.length + zs.length ≤ sizeLine ∧ ∀ p, H p = none → Q (.ref p) (upd H p (.lst (xs ++ zs)))
theorem op_cat : OpR X (binaryOp .Add) rCat := by
  intro pins s σ H x y v u Q I rx ry h
  obtain ⟨l, b, xs, zs, rfl, rfl, hH, hB, hz, q⟩ := h
  cases rx
  cases ry
  obtain ⟨z, its, n, r, hl, e⟩ := I.lstM hH
  obtain ⟨z2, its2, n2, r2, hl2, e2⟩ := I.lstM hB
  refine PySem.P.add_list e e2 ?_ (by rw [List.size_toArray, List.size_toArray]; omega)
  have ea : its.toArray ++ its2.toArray = (its ++ its2).toArray := by simp
  rw [ea]
  exact ⟨.ref _, _, I.lnew (t' := s.toks) (r.append r2) (by rw [List.length_append]; omega), rfl, q _ I.fresh⟩
/-- a list times an int (a negative one is nothing) -/
noncomputable def rRep : R2 := fun x y H Q => ∃ l k xs, x = .ref l ∧ y = .int k ∧ H l = some (.lst xs) ∧ -(2 ^ 63) ≤ k ∧ k < 2 ^ 63 ∧ xs.length * k.toNat ≤ sizeLine ∧
  ∀ p, H p = none → Q (.ref p) (upd H p (.lst (List.replicate k.toNat xs).flatten))
theorem len_rep {α : Type} (xs : List α) (k : Nat) : (List.replicate k xs).flatten.length = k * xs.length := by
  induction k with
  | zero => simp
  | succ k ih => rw [List.replicate_succ, List.flatten_cons, List.length_append, ih, Nat.succ_mul, Nat.add_comm]
theorem op_rep : OpR X (binaryOp .Mult) rRep := by
  intro pins s σ H x y v u Q I rx ry h
  obtain ⟨l, k, xs, rfl, rfl, hH, h1, h2, hz, q⟩ := h
  cases rx
  obtain ⟨t, rfl⟩ := ry
  obtain ⟨z, its, n, r, hl, e⟩ := I.lstM hH
  have hlen : its.toArray.size * k.toNat ≤ sizeLine := by rw [List.size_toArray, ← hl]; exact hz
  have hcap : ¬ its.toArray.size * k.toNat > (2 ^ 63 - 1) / 8 := by
    have : (sizeLine : Nat) ≤ (2 ^ 63 - 1) / 8 := by decide
    omega
  have hfit : ¬ (!Builtin.List.listFitsIndex k) = true := by
    rw [fitsIndex_both h1 h2]
    exact Bool.false_ne_true
  have hlong : ¬ Builtin.List.listTooLong (its.toArray.size * k.toNat) = true := by
    rw [notLongL hlen]
    exact Bool.false_ne_true
  have hnew : List.foldl (fun x1 x2 => x1 ++ x2) #[] (List.replicate (if its.toArray.isEmpty = true then 0 else k.toNat) its.toArray) = (List.replicate k.toNat its).flatten.toArray := by
    have f0 : ∀ m : Nat, List.foldl (fun x1 x2 => x1 ++ x2) #[] (List.replicate m its.toArray) = (List.replicate m its).flatten.toArray := fun m => by
      have := foldl_rep its m []
      rw [List.nil_append] at this
      exact this
    rw [f0]
    cases its with
    | nil => simp
    | cons a r' => rw [if_neg (by simp)]
  refine wpAny_binaryOp_repeat_ref (T := "list") (U := "int") (by decide) ⟨_, e, rfl⟩ (fun s' => typeIs_int s' k t) noFill_list_mul F.fills_int_mul F.slot_int_rmul repeat_list F.slot_int_index.lookup
    (call_meets F.slot_int_rmul (typeIs_int s k t) F.entry_int_rmul (F.args_int_rmul_2 _ _) (int___rmul___int_list k t l its.toArray n)
      ⟨e, rfl, ⟨_, e, rfl⟩, call_meets F.slot_list_mul ⟨_, e, rfl⟩ F.entry_list_mul (F.args_list_mul_2 _ _) (AutoListH.list___mul___list_int_3 l its.toArray n k t hfit hcap hlong) ⟨e, ?_⟩⟩)
  rw [hnew]
  exact ⟨.ref _, _, I.lnew (t' := s.toks) (r.rep k.toNat) (by rw [len_rep, Nat.mul_comm]; exact hz), rfl, q _ I.fresh⟩

/-! ### del xs[i] -/
end

/-! ### xs[a:b] = ys -/
section
variable {prog : Program} {w : World} {A : Around} {E : Value → Shared → Prop} {s : Shared}
end

section
variable {X : Cx}
end
end L2

namespace Att
open PySem PySem.W PySem.Calls PyProof.Rows

/-! ### the script -/
theorem ints_of_wellAll {P : Params} {h : Heap} : ∀ (ns : List Int) (vs : List Value), WellAll P h vs (ns.map WData.int) → IntsAre vs ns := by
  intro ns
  induction ns with
  | nil =>
    intro vs w
    rw [List.map_nil] at w
    cases w
    exact .nil
  | cons n ns ih =>
    intro vs w
    rw [List.map_cons] at w
    cases w with
    | cons a b =>
      cases a
      exact .cons _ _ (ih _ b)

theorem script_of {l : OpenLaw} {n : Nat} (hn : l.most = some n) {P : Params} {h : Heap} {args : List WData} {vals : List Value}
    (hpre : l.row.toRowW.claim.pre args = true) (hwl : WellAll P h vals args) :
    ∃ a vs ns, vals = [Value.ref a] ∧ args = [WData.list (ns.map WData.int)] ∧ h.get? a = some { cls := .type "list", data := .seq vs.toArray } ∧ IntsAre vs ns ∧ ns.length ≤ n := by
  have hsh : WShape.hasAll [] args [.list .int] = true := (pre_splitW hpre).1
  have hc : l.pre.holds [] { args := args } = true := (pre_splitW hpre).2
  obtain ⟨d, r, rfl, h1, h2⟩ := hasAllW_cons hsh
  obtain rfl := hasAllW_nil h2
  obtain ⟨xs, rfl, h3⟩ := hasW_list h1
  obtain ⟨ns, rfl⟩ := items_int h3
  have hlen : ns.length ≤ n := by
    unfold OpenLaw.pre at hc
    have h4 : (WTm.not (.lt (.lit (.int (n : Int))) (.len (.arg 0)))).holds [] { args := [.list (ns.map .int)] } = true := by
      have h4 := (holds_andW hc).1
      rw [hn] at h4
      exact h4
    have h5 := condW_of h4 (w_not (w_lt w_lit (w_len_list (w_arg rfl))))
    rw [List.length_map] at h5
    refine Nat.le_of_not_lt fun q => ?_
    have q' : (n : Int) < ((ns.length : Nat) : Int) := by omega
    first
      | (rw [decide_eq_true q'] at h5; exact absurd h5 (by decide))
      | (simp at h5; omega)
  cases hwl with
  | cons w1 w2 =>
    cases w2
    cases w1 with
    | list ho hall => exact ⟨_, _, ns, rfl, rfl, ho, ints_of_wellAll ns _ hall, hlen⟩

theorem post_true (l : OpenLaw) (args : List WData) : l.row.toRowW.claim.post args (.bool true) args = true :=
  postW_of (r := l.row.toRowW) (X := (true == true))
    (show WShape.has [] (.bool true) .bool = true by first | rfl | decide | simp [WShape.has, WShape.arms, WShape.armsAll])
    (show (WTm.eq .res (.lit (.bool true))).value [] { args := args, res := some (.bool true), after := args } = some (.bool (true == true)) from w_eq_bool (w_res rfl) w_lit) rfl

/-! ### the attachment: holds_open's last premise (the goal 'hc' behind k_head) from a wpAny of the law's body -/
/-- the same from a codeAny of the CALL (for a layer whose function contracts speak of calls) -/
theorem attach_call {l : OpenLaw} {n : Nat} {q : Program} {loose : List Str} {XP : (Str → Option Value) → Heap → Prop} {YP : World → Heap → Prop} {d : DefRec}
    (hn : l.most = some n) (hdf : d.params.defaults = [])
    (call : ∀ (w : World) (s₀ s₁ : Shared) (mg mb : Str → Option Value) (fa : Addr) (o : Obj) (pm cd doc : Value) (a : Addr) (vs : List Value) (ns : List Int),
      Ground q loose [] XP w s₀ mg mb s₁.heap → YP w s₁.heap →
      s₁.heap.get? fa = some o → o.data = .func (docDef d.name d.params d.body d.scope pm cd doc) → s₁.heap.CodeRec cd d.name → mg d.name = some (.ref fa) →
      s₁.heap.get? a = some { cls := .type "list", data := .seq vs.toArray } → IntsAre vs ns → ns.length ≤ n → s₁.gens = #[] →
      codeAny (model l.prog w) callerA (.call (.ref fa) ⟨[.ref a], []⟩) (fun r s' => r = .ok (.ret (.bool true)) ∧ OldK s₁.heap s'.heap ∧ s'.os = s₁.os ∧ AllBare s'.gens) s₁) :
    WalkO q loose XP YP l.row.toRowW d [] (fun f vs => PySem.call f vs) := by
  intro w s₀ s₁ mg mb G Y fa o pm cd doc dV kV ho hd hcd hD hmg hg args vals as hpre hlay hrd hwl hlo
  obtain rfl : dV = .none := Dflts.none hD hdf
  obtain rfl : kV = .none := Dflts.noKw hD
  obtain ⟨a, vs, ns, rfl, rfl, hobj, hints, hlen⟩ := script_of hn hpre hwl
  refine enter_call (codeAny_mono (call w s₀ s₁ mg mb fa o pm cd doc a vs ns G Y ho (fd_plain hd) hcd hmg hobj hints hlen hg) fun r s' hq => ?_)
  obtain ⟨rfl, h2, h3, h4⟩ := hq
  exact ⟨.inl ⟨.bool true, .bool true, [], rfl, fun _ => rfl, .bool true, post_true l _, fun _ => ⟨List.Pairwise.nil, fun _ hm => (nomatch hm)⟩⟩, h2, h3, h4⟩

/-! ### rules over ANY heap (no ledger) from facts about the written part K: the library's own take a ledger (News) for what they write -/
section
variable {prog : Program} {w : World} {A : Around} {E : Value → Shared → Prop} {s : Shared} {K : Frag}

/-! the whole heap as the ledger: makes every rule that writes through a ledger a rule over any heap -/
end
end Att

namespace L2
open PySem PySem.Spec PyProof.Rows

theorem vals_ints : ∀ {vs : List Value} {ns : List Int}, IntsAre vs ns → Vals (ns.map V.int) vs
  | _, _, .nil => .nil
  | _, _, .cons n t h => .cons ⟨t, rfl⟩ (vals_ints h)

/-- nothing is tracked but the script, known to the object (or it is an object of the module) -/
noncomputable def Only (H : Hp) : Prop := ∀ b, H b = none ∨ ∃ o xs, H b = some (.frz o (.lst xs))

/-- THE HEAD: the law's promise, at the heap behind the top. F, the promise of the law's def, may use that base is part of the heap (so K.In base, base.Ns mainGlobals mg stand in Mod) -/
theorem law_call {P : Program} {w : World} {K : PySem.W.Frag} {mg mb : Str → Option Value} {CX : CXT} {k : Nat} {fa a : Addr} {fd : FuncData} {x : Str} {sp : Sp} {s₁ : Shared} {vs : List Value} {ns : List Int}
    (KX : K.In s₁.heap) (hns : s₁.heap.Ns mainGlobals mg) (hb : s₁.heap.Ns builtinsNs mb) (hbb : ∀ x : Str, x ≠ "__name__" → mb x = bootBuiltins x) (hlim : s₁.heap.NoLimit) (hg : s₁.gens = #[])
    (ha : s₁.heap.get? a = some { cls := .type "list", data := .seq vs.toArray }) (hi : IntsAre vs ns) (hl : ns.length ≤ sizeLine) (hr : Room k callerA)
    (F : ∀ base : Heap, K.In base → base.Ns mainGlobals mg → FnOk P w K mg base CX k fa fd [x] sp) (hbind : ∀ (s : Shared) (u : Value), BindsTo s fd ⟨[u], []⟩ [(x, u)])
    (hsp : ∀ H : Hp, Only H → SqL K H a (ns.map V.int) → sp [.ref a] H (fun v _ => v = .bl true) fun _ _ _ => False)
    (hCX : ∀ H e s', CX [] H s₁ (fun _ _ _ => False) e s' → False) :
    codeAny (model P w) callerA (.call (.ref fa) ⟨[.ref a], []⟩) (fun r s' => r = .ok (.ret (.bool true)) ∧ OldK s₁.heap s'.heap ∧ s'.os = s₁.os ∧ AllBare s'.gens) s₁ := by
  have rv := vals_ints hi
  have lenV := hi.length
  -- from an abstract heap in which nothing but the script may be tracked
  have core : ∀ H : Hp, Only H → SqL K H a (ns.map V.int) → HOk P w H s₁.heap → (∀ b, H b ≠ none → b = a) → (H a ≠ none → K.lookup a = none) →
      codeAny (model P w) callerA (.call (.ref fa) ⟨[.ref a], []⟩) (fun r s' => r = .ok (.ret (.bool true)) ∧ OldK s₁.heap s'.heap ∧ s'.os = s₁.os ∧ AllBare s'.gens) s₁ := by
    intro H hO hS hok hA hK
    have base_of : ∀ {b : Addr} {o : Obj}, s₁.heap.get? b = some o → H b = none → (hidT s₁.heap H).get? b = some o := fun e n => hidT_get e n
    have noA : ∀ {b : Addr} {o : Obj} {es : Array DictEntry} {ep : Nat}, s₁.heap.get? b = some o → o.data = .dict es ep → H b = none := fun {b o es ep} e d => by
      cases q : H b with
      | none => rfl
      | some u =>
        have e' : b = a := hA b (by rw [q]; simp)
        subst e'
        rw [ha] at e; cases e
        have d' : Data.seq vs.toArray _ = Data.dict es ep := d
        cases d'
    have nsK : ∀ {b : Addr} {m : Str → Option Value}, s₁.heap.Ns b m → (hidT s₁.heap H).Ns b m := fun {b m} ⟨o, es, ep, e, d, r⟩ => ⟨o, es, ep, base_of e (noA e d), d, r⟩
    have hKb : K.In (hidT s₁.heap H) := fun b o e => base_of (KX b o e) (by
      cases q : H b with
      | none => rfl
      | some u =>
        have e' : b = a := hA b (by rw [q]; simp)
        subst e'
        rw [hK (by rw [q]; simp)] at e; cases e)
    have hM : Mod K mg (hidT s₁.heap H) := ⟨hKb, nsK hns, ⟨mb, nsK hb, hbb⟩, let ⟨mc, h1, h2⟩ := hlim; ⟨mc, nsK h1, h2⟩⟩
    have e0 : Env0 P w K mg (hidT s₁.heap H) callerA [] s₁ H := ⟨rfl, hM, fun b o e => of_hidT e, Nat.le_of_eq (hidT_size _ _), trivial, fun b hb => absurd (show b ∈ ([] : List Addr) from hb) (by simp), hok, .of_eq hg⟩
    refine codeAny_mono ((F _ hKb (nsK hns)).run callerA [] s₁ H ⟨[.ref a], []⟩ [.ref a] [.ref a] _ _ hr e0 (hbind s₁ (.ref a)) (.cons rfl .nil) (hsp H hO hS)) fun r s' h => ?_
    cases r with
    | error e => exact (hCX H e s' h).elim
    | ok fl =>
      cases fl with
      | next => exact False.elim h
      | brk => exact False.elim h
      | cont => exact False.elim h
      | ret u =>
        obtain ⟨v, H', os, bare, un, hok', r', q⟩ := h
        have q' : v = .bl true := q
        subst q'
        obtain rfl : u = Value.bool true := r'
        refine ⟨rfl, OldK.of_keep fun b o e => ?_, os, bare⟩
        cases q : H b with
        | none => exact un.keep b o e q (by intro z; exact absurd (show b ∈ ([] : List Addr) from z) (by simp)) (by simp)
        | some u =>
          rcases hO b with z | ⟨ob, xs, z⟩
          · rw [q] at z; cases z
          · have z2 := un.frzs b ob _ z
            obtain ⟨e1, _⟩ := hok b _ z
            obtain ⟨e2, _⟩ := hok' b _ z2
            rw [e] at e1; cases e1
            exact e2
  cases hk : K.lookup a with
  | some o =>
    -- the script is one of the module's own objects
    have e := KX a o hk
    rw [ha] at e
    cases e
    refine core (fun _ => none) (fun _ => .inl rfl) (.inr ⟨_, vs.toArray, _, hk, rfl, rfl, rfl, by rw [List.size_toArray, lenV]; exact hl, by simpa using rv⟩) (fun b u z => by have z' : (none : Option HO) = some u := z; cases z') (fun b z => absurd rfl z) fun z => absurd rfl z
  | none =>
    refine core (fun b => if b = a then some (.frz { cls := .type "list", data := .seq vs.toArray } (.lst (ns.map V.int))) else none) (fun b => ?_) (.inl (.inr ⟨{ cls := .type "list", data := .seq vs.toArray }, if_pos rfl⟩)) (fun b u z => ?_) (fun b z => ?_) fun _ => hk
    · by_cases hb : b = a
      · exact .inr ⟨_, _, if_pos hb⟩
      · exact .inl (if_neg hb)
    · by_cases hb : b = a
      · have z' := (if_pos hb).symm.trans z
        cases z'
        subst hb
        exact ⟨ha, by rw [List.length_map]; exact hl, vs, _, rv, ha⟩
      · have z' := (if_neg hb).symm.trans z
        cases z'
    · by_cases hb : b = a
      · exact hb
      · exact absurd (if_neg hb) z
end L2

namespace L2
open PySem PySem.Spec PyProof.Rows

/-- the goal that k_head leaves (case hc), from the law's promise. F gives the function object fd (K's own) once, then the promise over every base -/
theorem walk_of {l : PySem.W.OpenLaw} {n k : Nat} {q : Program} {loose : List Str} {XP : (Str → Option Value) → Heap → Prop} {YP : World → Heap → Prop} {d : DefRec} {K : Params → PySem.W.Frag} {CX : World → CXT} {sp : World → Sp} {x : Str}
    (hn : l.most = some n) (hn2 : n ≤ sizeLine) (hdf : d.params.defaults = []) (hr : Room k callerA)
    (hY : ∀ (w : World) (h : Heap), YP w h → (K w.params).In h)
    (F : ∀ (w : World) (mg : Str → Option Value) (fa : Addr) (h : Heap), (K w.params).In h → h.Ns mainGlobals mg → mg d.name = some (.ref fa) →
      ∃ fd : FuncData, (∀ (s : Shared) (u : Value), BindsTo s fd ⟨[u], []⟩ [(x, u)]) ∧
        ∀ base : Heap, (K w.params).In base → base.Ns mainGlobals mg → FnOk l.prog w (K w.params) mg base (CX w) k fa fd [x] (sp w))
    (hsp : ∀ (w : World) (H : Hp) (a : Addr) (ns : List Int), ns.length ≤ n → Only H → SqL (K w.params) H a (ns.map V.int) → sp w [.ref a] H (fun v _ => v = .bl true) fun _ _ _ => False)
    (hCX : ∀ (w : World) (H : Hp) (s : Shared) (e : Value) (s' : Shared), CX w [] H s (fun _ _ _ => False) e s' → False) :
    PySem.W.WalkO q loose XP YP l.row.toRowW d [] (fun f vs => PySem.call f vs) := by
  refine Att.attach_call hn hdf fun w s₀ s₁ mg mb fa o pm cd doc a vs ns G Y ho hd hcd hmg hobj hints hlen hg => ?_
  have KX := hY w _ Y
  obtain ⟨fd, hb, hF⟩ := F w mg fa _ KX G.T.g hmg
  exact law_call KX G.T.g G.T.b G.T.builtins G.T.nolimit hg hobj hints (Nat.le_trans hlen hn2) hr hF hb (fun H hO hS => hsp w H a ns hlen hO hS) fun H e s' => hCX w H s₁ e s'
end L2

/- THE LAST THEOREM (shape; LID, My.* are yours):
   My.Adr: a structure of the addresses that your layer names (classes, functions); My.Txt K t: a structure (Prop) of the equations over K;
   My.txt_mk : {K} {implicit addresses ..} (e1 : nsIn K mainGlobals "law" = some (some (.ref f))) (e2 : K.lookup f = some ⟨oc, od, .func (fnOf "law" "law" params body scope dV kV doc pm an cdv ct), sl⟩) (e3 : codeIn K cdv "law" = true) .. : ∃ t, My.Txt K t

set_option maxRecDepth 100000 in
set_option maxHeartbeats 0 in
theorem PySem.Challenge.cw_LID_holds : PySem.Challenge.rw_LID.Holds := by
  w_on; o_law; k_head; (case hw => w_witness2)
  k_fill
  refine L2.walk_of (l := PySem.Challenge.rw_LID) (n := 63) (k := 40) (x := "script") (CX := fun w => ..) (sp := fun _ => My.sp_law) rfl (by decide) rfl ⟨rfl, by decide, by decide⟩ (fun w h Y => PySem.W.kIn_of Y) ?F ?S ?C
  case F =>
    intro w mg fa h KX G hmg
    have T : ∃ t, My.Txt (L2.KOf KX) t := by
      dsimp only [L2.KOf]                          -- K must stand as «<heap const> w.params» for k_is
      refine' My.txt_mk ?e1 ?e2 ?e3 ..
      (case e1 => PySem.W.k_is)                    -- in the order: a name -> its address -> its object -> its parts
      (case e2 => PySem.W.k_is)
      ..
    obtain ⟨t, T⟩ := T
    have e0 := hmg.symm.trans (PySem.W.mg_of KX G T.law)
    cases e0                                       -- fa is the law's own address
    exact ⟨_, fun s u => .of_eq rfl, fun base kb nb => My.law_fn T kb nb⟩     -- if «.of_eq rfl» comes too early: refine' ⟨_, ?b, fun base kb nb => My.law_fn T kb nb⟩; exact fun s u => .of_eq rfl
  case S => exact fun w H a ns hl hO hS => ..
  case C => exact ..
(the tactic k_is has no namespace: write k_is) -/

/-! SHORT WORDS over the layer: a def of the text, its body, what a loop and a test want. -/
namespace L2
open PySem PySem.Spec PyProof.Rows

/-! ### the text by places -/
noncomputable def defArgs (s : Stmt) : Arguments := match s with
  | .FunctionDef _ a _ _ _ _ _ _ _ _ => a
  | _ => { posonlyargs := [], args := [], vararg := none, kwonlyargs := [], kw_defaults := [], kwarg := none, defaults := [] }
noncomputable def defBody (s : Stmt) : List Stmt := match s with
  | .FunctionDef _ _ b _ _ _ _ _ _ _ => b
  | _ => []
noncomputable def defScope (s : Stmt) : Scope := match s with
  | .FunctionDef _ _ _ _ _ _ sc _ _ _ => sc
  | _ => { kind := .function, names := [], isGenerator := false, isCoroutine := false }

/-! ### no exception leaves a def -/
noncomputable abbrev CX0 : CXT := fun _ _ _ _ _ _ => False
noncomputable abbrev E0 : XK := fun _ _ _ => False
theorem pass0 {X : Cx} : Passes CX0 X E0 := fun _ _ _ _ _ _ _ h => h.elim

/-! ### a def (or method) of the text as it stands behind the top -/
structure Fun (K : PySem.W.Frag) (x qual : Str) (st : Stmt) (f : Addr) (fd : FuncData) : Prop where
  ex : ∃ (oc : Value) (od : Option Addr) (kV doc pm : Value) (an : Option Addr) (cdv ct : Value) (osl : Array (Option Value)),
    fd = PySem.W.fnOf x qual (defArgs st) (defBody st) (defScope st) .none kV doc pm an cdv ct ∧ K.lookup f = some ⟨oc, od, .func fd, osl⟩ ∧ PySem.W.codeIn K cdv qual = true
  kp : PySem.W.keepIn K (.ref f) = true
section
variable {P : Program} {w : World} {K : PySem.W.Frag} {mg : Str → Option Value} {base : Heap}
/-- THE RULE for a def: its body as a term of rules, and the reading of that term -/
theorem Fun.ok {x qual : Str} {st : Stmt} {f : Addr} {fd : FuncData} {N ps : List Str} {k : Nat} {sp : Sp} (F : Fun K x qual st f fd) (S : FnScope N ps (defScope st)) (len : ∀ vs H Q E, sp vs H Q E → vs.length = ps.length)
    (hbody : ∀ (cdv : Value) (A : Around) (outer : List Env) (s : Shared) (H : Hp) (vs : List V) (Q : VK) (E : XK), Room k (A.deeper (envOfC qual (defScope st) s.heap.objs.size f cdv)) → sp vs H Q E →
      ∃ t, PSs (cxOf CX0 P w K mg base N qual (defScope st) f cdv A outer s H E).nox (defBody st) t ∧ t { nx := fun _ H' => Q .non H', rt := Q } (start N vs) H) : FnOk P w K mg base CX0 (k + 1) f fd ps sp := by
  obtain ⟨oc, od, kV, doc, pm, an, cdv, ct, osl, rfl, lk, hcd⟩ := F.ex
  refine fn_of lk hcd S len fun A outer s H vs Q E hr hsp => ?_
  obtain ⟨t, h, q⟩ := hbody cdv A outer s H vs Q E hr hsp
  exact ⟨t, h.nox, q⟩
/-- how its arguments bind (no defaults): h is «fun _ _ _ _ _ _ us hl => match us, hl with | [_, _], _ => rfl», one _ a parameter -/
theorem Fun.binds {x qual : Str} {st : Stmt} {f : Addr} {fd : FuncData} {ps : List Str} (F : Fun K x qual st f fd)
    (h : ∀ (kV doc pm : Value) (an : Option Addr) (cdv ct : Value) (us : List Value), us.length = ps.length → bindArgs (PySem.W.fnOf x qual (defArgs st) (defBody st) (defScope st) .none kV doc pm an cdv ct) ⟨us, []⟩ = pure (ps.zip us)) : Binds K fd ps [] := by
  obtain ⟨oc, od, kV, doc, pm, an, cdv, ct, osl, rfl, lk, hcd⟩ := F.ex
  exact .all (h kV doc pm an cdv ct)
theorem fun_mk {x qual : Str} {st : Stmt} {f : Addr} {oc : Value} {od an : Option Addr} {osl : Array (Option Value)} {kV doc pm cdv ct : Value} (l : K.lookup f = some ⟨oc, od, .func (PySem.W.fnOf x qual (defArgs st) (defBody st) (defScope st) .none kV doc pm an cdv ct), osl⟩)
    (c : PySem.W.codeIn K cdv qual = true) (k : PySem.W.keepIn K (.ref f) = true) : Fun K x qual st f (PySem.W.fnOf x qual (defArgs st) (defBody st) (defScope st) .none kV doc pm an cdv ct) := ⟨⟨oc, od, kV, doc, pm, an, cdv, ct, osl, rfl, l, c⟩, k⟩
end
theorem small1000 {n : Nat} (h : n ≤ 1000) : n < sizeLine := Nat.lt_of_le_of_lt h (by decide)

/-! ### expressions in short: the name that stands in the i-th slot -/
section
variable {X : Cx}
theorem pv (i : Nat) {x : Str} {pos : Pos} (hN : X.N[i]? = some x := by rfl) (hv : Vis X.env.scope x := by first | exact Or.inl rfl | exact Or.inr (Or.inl rfl) | exact Or.inr (Or.inr rfl)) (hd : (x == ("__debug__" : Str)) = false := by decide)
    (hcd : (x == ("__classdict__" : Str)) = false := by decide) : PE X (.Name x pos) (tVar i) := pe_var hN hv hd hcd
end

/-! ### tests -/
theorem iteF {A B : Prop} (h : B) : if false = true then A else B := by
  rw [if_neg Bool.false_ne_true]
  exact h
theorem iteT {A B : Prop} (h : A) : if true = true then A else B := by
  rw [if_pos rfl]
  exact h
theorem ite2 {c A B : Prop} [Decidable c] (h1 : c → A) (h2 : ¬ c → B) : if c then A else B := by
  by_cases h : c
  · rw [if_pos h]
    exact h1 h
  · rw [if_neg h]
    exact h2 h
theorem iteNS {c A B : Prop} [Decidable c] (hc : c) (h : B) : if (!decide c) = true then A else B := by
  rw [decide_eq_true hc]
  exact iteF h

/-! ### heaps -/
/-- all that was tracked is as it was -/
noncomputable def Same (H H' : Hp) : Prop := ∀ b o, H b = some o → H' b = some o
theorem Same.refl (H : Hp) : Same H H := fun _ _ h => h
theorem Same.trans {H H1 H2 : Hp} (a : Same H H1) (b : Same H1 H2) : Same H H2 := fun c o h => b c o (a c o h)
theorem Same.free {H H' : Hp} (e : Same H H') {l : Addr} (h : H' l = Option.none) : H l = Option.none := by
  cases q : H l with
  | none => rfl
  | some o =>
    rw [e l o q] at h
    cases h
theorem Same.seq {K : PySem.W.Frag} {H H' : Hp} {a : Addr} {xs : List V} (e : Same H H') (h : SqL K H a xs) : SqL K H' a xs := by
  rcases h with (h | ⟨o, h⟩) | h
  · exact .inl (.inl (e _ _ h))
  · exact .inl (.inr ⟨o, e _ _ h⟩)
  · exact .inr h

end L2

set_option Elab.async false
set_option linter.all false
set_option maxRecDepth 100000
namespace L2
open PySem PySem.Spec PyProof.Rows

/-! ### a list comprehension of one clause over the layer -/
/-- the cells that the block closes over -/
noncomputable def clOf (env : Env) : List (Str × NameKind) → List (Str × Addr) → List (Str × Addr)
  | [], acc => acc
  | (x, k) :: r, acc => if (k == NameKind.free) = true then (match env.cells.lookup x with | some c => clOf env r ((x, c) :: acc) | none => clOf env r acc) else clOf env r acc
theorem clOf_from (env : Env) : ∀ (ns : List (Str × NameKind)) (acc : List (Str × Addr)) (x : Str) (c : Addr), (x, c) ∈ clOf env ns acc → (x, c) ∈ acc ∨ env.cells.lookup x = some c
  | [], acc, x, c, h => .inl h
  | (y, k) :: r, acc, x, c, h => by
    unfold clOf at h
    split at h
    · split at h
      · next d e =>
        rcases clOf_from env r _ x c h with z | z
        · rcases List.mem_cons.mp z with q | q
          · cases q; exact .inr e
          · exact .inl q
        · exact .inr z
      · exact clOf_from env r acc x c h
    · exact clOf_from env r acc x c h
theorem clOf_acc (env : Env) : ∀ (ns : List (Str × NameKind)) (acc : List (Str × Addr)) (p : Str × Addr), p ∈ acc → p ∈ clOf env ns acc
  | [], acc, p, h => h
  | (y, k) :: r, acc, p, h => by
    unfold clOf
    split
    · split
      · exact clOf_acc env r _ p (List.mem_cons_of_mem _ h)
      · exact clOf_acc env r _ p h
    · exact clOf_acc env r _ p h
theorem clOf_has (env : Env) : ∀ (ns : List (Str × NameKind)) (acc : List (Str × Addr)) (x : Str) (c : Addr), (x, NameKind.free) ∈ ns → env.cells.lookup x = some c → (x, c) ∈ clOf env ns acc
  | [], acc, x, c, h, _ => nomatch h
  | (y, k) :: r, acc, x, c, h, e => by
    unfold clOf
    rcases List.mem_cons.mp h with q | q
    · cases q
      rw [if_pos (show (NameKind.free == NameKind.free) = true from rfl), e]
      exact clOf_acc env r _ _ List.mem_cons_self
    · split
      · split
        · exact clOf_has env r _ x c q e
        · exact clOf_has env r _ x c q e
      · exact clOf_has env r _ x c q e
theorem look_mem {l : List (Str × Addr)} {x : Str} {c : Addr} (h : (x, c) ∈ l) : ∃ d, l.lookup x = some d := by
  induction l with
  | nil => cases h
  | cons p r ih =>
    obtain ⟨y, d⟩ := p
    rw [List.lookup_cons]
    cases hx : x == y with
    | true => exact ⟨d, rfl⟩
    | false =>
      rcases List.mem_cons.mp h with q | q
      · cases q
        rw [beq_self_eq_true] at hx
        cases hx
      · exact ih q
theorem clOf_look {env : Env} {ns : List (Str × NameKind)} {x : Str} {c : Addr} (h : (clOf env ns []).lookup x = some c) : env.cells.lookup x = some c := by
  rcases clOf_from env ns [] x c (PySem.mem_of_lookup h) with z | z
  · cases z
  · exact z
theorem clOf_got {env : Env} {ns : List (Str × NameKind)} {x : Str} {c : Addr} (h : (x, NameKind.free) ∈ ns) (e : env.cells.lookup x = some c) : (clOf env ns []).lookup x = some c := by
  obtain ⟨d, q⟩ := look_mem (clOf_has env ns [] x c h e)
  rw [q, ← clOf_look q, e]
theorem closure_is {env : Env} {scope : Scope} (h : ∀ x ∈ scope.names, x.2 = NameKind.free → ∃ c, env.cells.lookup x.1 = some c) : closureFor scope env = pure (clOf env scope.names []) := by
  have go : ∀ (ns : List (Str × NameKind)) (acc : List (Str × Addr)), (∀ x ∈ ns, x.2 = NameKind.free → ∃ c, env.cells.lookup x.1 = some c) →
      (forIn ns acc (fun x cs => match x with | (name, kind) => if (kind == NameKind.free) = true then (do let c ← cellOf env name; pure (ForInStep.yield ((name, c) :: cs))) else pure (ForInStep.yield cs)) : Sem (List (Str × Addr))) = pure (clOf env ns acc) := by
    intro ns
    induction ns with
    | nil => intro acc _; rfl
    | cons p r ih =>
      intro acc hh
      obtain ⟨y, k⟩ := p
      rw [List.forIn_cons]
      unfold clOf
      by_cases hk : (k == NameKind.free) = true
      · rw [if_pos hk]
        obtain ⟨c, e⟩ := hh (y, k) List.mem_cons_self (by cases k <;> first | rfl | cases hk)
        dsimp only at e ⊢
        rw [if_pos hk]
        unfold cellOf
        rw [e]
        exact ih _ fun x hx => hh x (List.mem_cons_of_mem _ hx)
      · rw [if_neg hk]
        dsimp only
        rw [if_neg hk]
        exact ih _ fun x hx => hh x (List.mem_cons_of_mem _ hx)
  unfold closureFor
  have q := go scope.names [] h
  simp only [bind_pure]
  exact q

/-- the block's context -/
noncomputable def cxLc (X : Cx) (scope : Scope) (N : List Str) (C : Addr) (s0 : Shared) (H0 : Hp) (fp : List Addr) : Cx :=
  { X with N := N, s₀ := s0, H₀ := H0, env := compEnvC scope (clOf X.env scope.names []) C X.env, outer := X.stack, stack := X.stack, ex := fp, fn := fun _ => false, pn := [], xe := fun _ _ => False }
/-- the block's names: which of them are the outer ones -/
noncomputable def emb (ix : List (Option Nat)) (σ : St) : St := ix.map fun o => match o with | none => none | some j => (σ[j]?).join
noncomputable def embOk (No : List Str) (out : Str → Option NameKind) (scope : Scope) (N : List Str) (ix : List (Option Nat)) : Bool :=
  (N.length == ix.length) && (N.zip ix).all fun p => match p.2 with | none => true | some j => (No[j]? == some p.1) && (scope.names.lookup p.1 == some NameKind.free) && ((out p.1 == some .cell) || (out p.1 == some .free))
structure LcOk (X : Cx) (scope : Scope) (N : List Str) (ix : List (Option Nat)) : Prop where
  kind : scope.kind = .function
  names : scope.names.all (fun x => (x.2 != .cell) && ((x.2 != .local) || (scope.names.lookup x.1 == some .local)) && ((x.2 != .free) || (X.env.kindOf x.1 == some .cell) || (X.env.kindOf x.1 == some .free))) = true
  em : embOk X.N X.env.kindOf scope N ix = true
  nd : N.Nodup

theorem relab {scope : Scope} {env : Env} {x : Str} {k : NameKind} : ∀ {ns : List (Str × NameKind)}, (ns.map fun (n, k) => if (k == NameKind.free && env.scope.kind == .function && env.kindOf n == some .cell) = true then (n, NameKind.cell) else (n, k)).lookup x = some k →
    (k = .cell ∨ k = .free) → (∀ y ∈ ns, y.2 ≠ .cell) → (x, NameKind.free) ∈ ns
  | [], h, _, _ => by cases h
  | (n, k') :: r, h, hk, hc => by
    have ih := fun h' => relab (scope := scope) (env := env) (x := x) (k := k) (ns := r) h' hk fun y hy => hc y (List.mem_cons_of_mem _ hy)
    have key : ∀ k'' : NameKind, List.lookup x ((n, k'') :: (r.map fun (n, k) => if (k == NameKind.free && env.scope.kind == .function && env.kindOf n == some .cell) = true then (n, NameKind.cell) else (n, k))) = some k →
        (k'' = k' ∨ (k'' = .cell ∧ k' = .free)) → (x, NameKind.free) ∈ (n, k') :: r := fun k'' h hq => by
      rw [List.lookup_cons] at h
      cases hx : x == n with
      | true =>
        rw [hx] at h
        cases h
        have e : x = n := eq_of_beq hx
        subst e
        rcases hq with q | ⟨_, q⟩
        · rcases hk with z | z
          · exact absurd (q.symm.trans z) (hc (x, k') List.mem_cons_self)
          · rw [← q, z]; exact List.mem_cons_self
        · rw [q]; exact List.mem_cons_self
      | false =>
        rw [hx] at h
        exact List.mem_cons_of_mem _ (ih h)
    rw [List.map_cons] at h
    dsimp only at h
    split at h
    · next hh =>
      refine key _ h (.inr ⟨rfl, ?_⟩)
      cases k' <;> first | rfl | (simp at hh)
    · exact key _ h (.inl rfl)

theorem relab2 {env : Env} {x : Str} : ∀ {ns : List (Str × NameKind)}, ns.lookup x = some NameKind.free → ∃ k, (k = NameKind.cell ∨ k = NameKind.free) ∧
    (ns.map fun (n, k) => if (k == NameKind.free && env.scope.kind == .function && env.kindOf n == some .cell) = true then (n, NameKind.cell) else (n, k)).lookup x = some k
  | [], h => by cases h
  | (n, k') :: r, h => by
    rw [List.lookup_cons] at h
    rw [List.map_cons]
    dsimp only
    cases hx : x == n with
    | true =>
      rw [hx] at h
      cases h
      split
      · exact ⟨_, .inl rfl, by rw [List.lookup_cons, hx]⟩
      · exact ⟨_, .inr rfl, by rw [List.lookup_cons, hx]⟩
    | false =>
      rw [hx] at h
      obtain ⟨k, hk, e⟩ := relab2 (env := env) (ns := r) h
      refine ⟨k, hk, ?_⟩
      split <;> (rw [List.lookup_cons, hx]; exact e)

section
variable {X : Cx} {scope : Scope} {N : List Str} {ix : List (Option Nat)}
theorem LcOk.nocell (L : LcOk X scope N ix) : ∀ x ∈ scope.names, x.2 ≠ .cell := fun x hx z => by
  have q := List.all_eq_true.mp L.names x hx
  rw [z] at q
  simp at q
theorem LcOk.locals (L : LcOk X scope N ix) : ∀ x ∈ scope.names, x.2 = .local → scope.names.lookup x.1 = some .local := fun x hx z => by
  have q := List.all_eq_true.mp L.names x hx
  rw [z] at q
  simpa using q
theorem LcOk.frees (L : LcOk X scope N ix) : ∀ x ∈ scope.names, x.2 = .free → X.env.kindOf x.1 = some .cell ∨ X.env.kindOf x.1 = some .free := fun x hx z => by
  have q := List.all_eq_true.mp L.names x hx
  rw [z] at q
  simpa using q
theorem LcOk.clos (L : LcOk X scope N ix) (ok : X.Ok) : closureFor scope X.env = pure (clOf X.env scope.names []) :=
  closure_is fun x hx z => ok.has _ (L.frees x hx z)
theorem LcOk.len (L : LcOk X scope N ix) : N.length = ix.length := by
  have q := L.em
  unfold embOk at q
  rw [Bool.and_eq_true] at q
  exact eq_of_beq q.1
theorem LcOk.out (L : LcOk X scope N ix) {i j : Nat} {x : Str} (h1 : N[i]? = some x) (h2 : ix[i]? = some (some j)) : X.N[j]? = some x ∧ scope.names.lookup x = some NameKind.free ∧ (X.env.kindOf x = some .cell ∨ X.env.kindOf x = some .free) := by
  have q := L.em
  unfold embOk at q
  rw [Bool.and_eq_true] at q
  have hz : (N.zip ix)[i]? = some (x, some j) := by
    rw [List.getElem?_zip_eq_some]
    exact ⟨h1, h2⟩
  have r := List.all_eq_true.mp q.2 _ (List.mem_of_getElem? hz)
  simp only [Bool.and_eq_true, Bool.or_eq_true, beq_iff_eq] at r
  exact ⟨r.1.1, r.1.2, r.2⟩
/-- the block's context is in order -/
theorem lc_ok (L : LcOk X scope N ix) {pins : List (Addr × Obj)} {σ : St} {H2 : Hp} {s2 : Shared} {C : Addr} {fp : List Addr} (I2 : Inv X pins σ H2 s2) (hC : s2.heap.objs.size ≤ C) (hf : ∀ b ∈ fp, FpOk X pins H2 b) (hb : ∀ b ∈ fp, b < s2.heap.objs.size) :
    (cxLc X scope N C s2 H2 fp).Ok where
  mod := I2.ok.mod
  kind := L.kind
  glob := I2.ok.glob
  blt := I2.ok.blt
  above := hC
  inj := fun x y c h1 h2 => I2.ok.inj x y c (clOf_look h1) (clOf_look h2)
  has := fun x hx => by
    have hm : (x, NameKind.free) ∈ scope.names := by
      rcases hx with hx | hx
      · exact relab (scope := scope) (env := X.env) hx (.inl rfl) L.nocell
      · exact relab (scope := scope) (env := X.env) hx (.inr rfl) L.nocell
    obtain ⟨c, e⟩ := I2.ok.has x (L.frees _ hm rfl)
    exact ⟨c, clOf_got hm e⟩
  cab := fun x c h _ => Bool.noConfusion h
  hd := I2.ok.hd
  frames := I2.ok.frames
  stk := .inl rfl
  exf := fun b h => ⟨Nat.ne_of_lt (Nat.lt_of_lt_of_le (hb b h) hC), fun x c e => (hf b h).2.2.2.2.1 x c (clOf_look e)⟩
  bs := fun b o e => I2.bs b o e
  bsz := Nat.le_trans I2.ok.bsz I2.sz
  noex := fun b o e h => by
    rcases (hf b h).2.2.2.1 with z | z
    · exact I2.ok.noex b o e z
    · exact absurd (Nat.lt_of_lt_of_le (Heap.lt_size e) (Nat.le_trans I2.ok.bsz z)) (Nat.lt_irrefl _)
  exfs := fun b h z => (List.mem_cons.mp (I2.stkSub b z)).elim (hf b h).2.1 (hf b h).2.2.1
  funs := I2.stack
  frf := fun b h => I2.stkFree b h
end
end L2

set_option Elab.async false
set_option linter.all false
set_option maxRecDepth 100000
namespace L2
open PySem PySem.Spec PyProof.Rows

/-- the tests of a clause -/
noncomputable def PTs (X : Cx) (ifs : List Expr) (t : TT) : Prop :=
  ∀ (pins : List (Addr × Obj)) (s : Shared) (σ : St) (H : Hp) (Q : Bool → Hp → Prop), Inv X pins σ H s → t σ H Q →
    wpAny (model X.prog X.w) X.A (forIn ifs true fun c r => if r = true then do let ok ← isTrue c X.env (eval c X.env); pure (ForInStep.yield ok) else pure (ForInStep.yield r)) (TP X pins σ Q) X.xe s
noncomputable def tYes : TT := fun _ H Q => Q true H
theorem pts_nil {X : Cx} : PTs X [] tYes := fun _ _ _ H _ I h => wpAny_tests_nil ⟨H, I, h⟩
theorem pts_one {X : Cx} {c : Expr} {t : TT} (h : PT X c t) : PTs X [c] t := fun pins s σ H Q I q => wpAny_tests_one (h pins s σ H Q I q)

section
variable {prog : Program} {w : World} {A : Around} {R : Result → Shared → Prop} {s : Shared}
theorem lc_loop {elt tg iter : Expr} {ifs : List Expr} {scope : Scope} {pos : Pos} {it acc : Value} {env : Env} (J : Nat → Shared → Prop)
    (turn : ∀ n s, J n s → wpAny (model prog w) A (pyNext it) (fun r s1 => match r with
      | none => R (.ok .next) s1
      | some v => wpAny (model prog w) A (letOwnedTupleGo tg it v) (fun _ s2 => wpAny (model prog w) A (assign tg env v) (fun _ s3 =>
          wpAny (model prog w) A (forIn ifs true fun c r => if r = true then do let ok ← isTrue c env (eval c env); pure (ForInStep.yield ok) else pure (ForInStep.yield r)) (fun ok s4 =>
            if ok = true then wpAny (model prog w) A (eval elt env) (fun x s5 => wpAny (model prog w) A (call (.builtin "list.append") [acc, x]) (fun _ s6 => ∃ m, m < n ∧ J m s6) (fun _ _ => False) s5) (fun _ _ => False) s4
            else ∃ m, m < n ∧ J m s4) (fun _ _ => False) s3) (fun _ _ => False) s2) (fun _ _ => False) s1) (fun _ _ => False) s)
    (n : Nat) (h : J n s) : codeAny (model prog w) A (.compLoop (.ListComp elt [⟨tg, iter, ifs, 0⟩] scope pos) 0 it acc env) R s := by
  refine codeAny_loop rfl J (fun k t hJ => ?_) n h
  show wpAny _ A ((compTurn (.ListComp elt [⟨tg, iter, ifs, 0⟩] scope pos) 0 it acc env).onRaise (fun x => do noteFrame x env; theTreesLotGoes x)) _ _ t
  refine wpAny_noted (wpAny_mono (E := fun _ _ => False) ?_ (fun _ _ q => q) fun _ _ f => f.elim)
  rw [compTurn_list]
  refine wpAny_bind (wpAny_standAt (wpAny_bind (thn (turn k t hJ) fun r s1 h1 => ?_)))
  cases r with
  | none => exact wpAny_pure h1
  | some v =>
    refine wpAny_bind (thn h1 fun _ s2 h2 => wpAny_bind (thn h2 fun _ s3 h3 => wpAny_bind (thn h3 fun ok s4 h4 => ?_)))
    cases ok with
    | false => exact wpAny_pure ⟨rfl, h4⟩
    | true => exact wpAny_bind (wpAny_bind (thn h4 fun x s5 h5 => wpAny_bind (thn h5 fun _ s6 h6 => wpAny_pure (wpAny_pure ⟨rfl, h6⟩))))
end

/-- what the block is to show: W by the turn, a measure, the list so far, the block's names, the heap -/
noncomputable def LcW (J : It) (g : TG) (tt : TT) (te : TE) (σ' : St) (fin : List V → Hp → Prop) (H1 : Hp) : Prop :=
  ∃ W : Nat → Nat → List V → St → Hp → Prop, (∃ m, W 0 m [] σ' H1) ∧ ∀ i m ys σ H, W i m ys σ H →
    (J.stop i H ∧ ys.length ≤ sizeLine ∧ fin ys H) ∨ (J.go i H ∧ ys.length < sizeLine ∧ ∃ Nx : List V → St → Hp → Prop, (∀ ys' σ' H', Nx ys' σ' H' → ∃ m', m' < m ∧ W (i + 1) m' ys' σ' H') ∧
      ∀ x H', J.yld i H x H' → g x σ H' fun σ2 H2 => tt σ2 H2 fun b H3 => if b = true then te σ2 H3 (fun v H4 => Nx (ys ++ [v]) σ2 H4) else Nx ys σ2 H3)
noncomputable def tLc (wi : TI) (g : TG) (tt : TT) (te : TE) (ix : List (Option Nat)) : TE := fun σ H Q => wi σ H fun J H1 => LcW J g tt te (emb ix σ) (fun ys H' => ∀ p, H' p = none → Q (.ref p) (upd H' p (.lst ys))) H1

section
variable {X : Cx} {scope : Scope} {N : List Str} {ix : List (Option Nat)}
/-- the outer context behind the block -/
theorem lc_fin {pins pins' : List (Addr × Obj)} {σ σ' : St} {H2 H' : Hp} {s2 s' : Shared} {C D : Addr} {fp : List Addr} {ys : List V} {its : List Value} {k : Nat} {h' : Heap} (I2 : Inv X pins σ H2 s2) (hf : ∀ b ∈ fp, FpOk X pins H2 b)
    (I' : Inv (cxLc X scope N C s2 H2 fp) pins' σ' H' s') (hC : s2.heap.objs.size ≤ C) (hD : s2.heap.objs.size ≤ D) (hDC : D ≠ C) (hn : H' D = none) (ho : s'.heap.get? D = some { cls := .type "list", data := .seq its.toArray k }) (rv : Vals ys its) (hz : ys.length ≤ sizeLine)
    (hs : ∀ b o, b ≠ C → s'.heap.get? b = some o → h'.get? b = some o) : Inv X pins σ (upd H' D (.lst ys)) { s' with heap := h' } := by
  have B : Un (frs X.stack) fp H2 H' s2.heap s'.heap := I'.base
  have neC : ∀ b o, s2.heap.get? b = some o → b ≠ C := fun b o e => Nat.ne_of_lt (Nat.lt_of_lt_of_le (Heap.lt_size e) hC)
  have neD : ∀ b o, s2.heap.get? b = some o → b ≠ D := fun b o e => Nat.ne_of_lt (Nat.lt_of_lt_of_le (Heap.lt_size e) hD)
  have hCn : H' C = none := I'.free
  have tD : ∀ b u, H' b = some u → b ≠ D := fun b u e => ne_of_none e hn
  have tC : ∀ b u, H' b = some u → b ≠ C := fun b u e => ne_of_none e hCn
  refine I2.call' (s' := { s' with heap := h' }) (ch := fp) I'.os ⟨fun b o e n hb hx => ?_, fun b o e n hb hx => ?_, fun b o e n hx => ?_, fun b o e hx => ?_, fun b xs e => ?_, fun b o u e => ?_, fun b ps e => ?_⟩ (fun b u e => ?_) I'.bare fun b hb => ⟨(hf b hb).2.2.2.1, (hf b hb).2.1, (hf b hb).2.2.2.2.1, (hf b hb).2.2.2.2.2⟩
  · exact hs b o (neC b o e) (B.keep b o e n hb hx)
  · obtain ⟨sl, q⟩ := B.slot b o e n hb hx
    exact ⟨sl, hs b _ (neC b o e) q⟩
  · rw [upd_ne (neD b o e)]; exact B.free b o e n hx
  · obtain ⟨o', q⟩ := B.there b o e hx
    exact ⟨o', hs b o' (neC b o e) q⟩
  · rw [upd_ne (tD b _ (B.tups b xs e))]; exact B.tups b xs e
  · rw [upd_ne (tD b _ (B.frzs b o u e))]; exact B.frzs b o u e
  · obtain ⟨m, q⟩ := B.tbls b ps e
    exact ⟨m, by rw [upd_ne (tD b _ q)]; exact q⟩
  · by_cases hb : b = D
    · subst hb
      rw [upd_same] at e
      cases e
      exact ⟨hz, its, k, rv, hs b _ hDC ho⟩
    · rw [upd_ne hb] at e
      refine (I'.hok b u e).stay (fun c v hc q => hs c v ?_ q) (fun c q => by rw [upd_ne (tD c _ q)]; exact q) fun c xs q => by rw [upd_ne (tD c _ q)]; exact q
      rcases hc with z | z
      · rw [z]; exact tC b u e
      · exact tC c _ z

/-- the block at its start -/
theorem lc_in (L : LcOk X scope N ix) {pins : List (Addr × Obj)} {σ : St} {H2 : Hp} {s2 : Shared} {C : Addr} {fp : List Addr} {h1 : Heap} {tk : Nat} {m : Str → Option Value} (I2 : Inv X pins σ H2 s2) (hC : s2.heap.objs.size ≤ C) (hf : ∀ b ∈ fp, FpOk X pins H2 b) (hb : ∀ b ∈ fp, b < s2.heap.objs.size)
    (kp : ∀ b o, s2.heap.get? b = some o → h1.get? b = some o) (hn : h1.Ns C m) : Inv (cxLc X scope N C s2 H2 fp) [] (emb ix σ) H2 { s2 with heap := h1, toks := tk } := by
  refine ⟨lc_ok L I2 hC hf hb, rfl, I2.bare, Un.kept kp, ⟨m, hn, fun i x v e1 e2 e3 => ?_⟩, fun x c e => ?_, I2.hok.fresh hC, fun x c e => I2.freeC x c (clOf_look e), fun p hp => absurd (show p ∈ ([] : List (Addr × Obj)) from hp) (by simp), I2.hok.kept kp, ?_⟩
  · unfold emb at e2
    rw [List.getElem?_map] at e2
    cases q : ix[i]? with
    | none => rw [q] at e2; cases e2
    | some o =>
      rw [q] at e2
      cases o with
      | none => cases e2
      | some j =>
        have e2' : (σ[j]?).join = some v := Option.some.inj e2
        have e4 : σ[j]? = some (some v) := by
          cases z : σ[j]? with
          | none => rw [z] at e2'; cases e2'
          | some y => rw [z] at e2'; exact congrArg some e2'
        obtain ⟨a1, a2, a3⟩ := L.out e1 q
        obtain ⟨mo, _, hl⟩ := I2.loc
        obtain ⟨u, r, lk⟩ := hl j x v a1 e4 (.inr a3)
        refine ⟨u, r, ?_⟩
        rcases lk with ⟨k, _⟩ | ⟨k, c, e, o, ho, hd⟩
        · rcases a3 with z | z
          · rw [z] at k; cases k
          · rw [z] at k; cases k
        · obtain ⟨k', hk', e'⟩ := relab2 (env := X.env) a2
          refine .inr ⟨?_, c, clOf_got (PySem.mem_of_lookup a2) e, o, kp _ _ ho, hd⟩
          rcases hk' with z | z
          · subst z; exact .inl e'
          · subst z; exact .inr e'
  · obtain ⟨v, o, ho, hd⟩ := I2.cell x c (clOf_look e)
    exact ⟨v, o, kp _ _ ho, hd⟩
  · unfold emb
    rw [List.length_map]
    exact L.len.symm

variable {tg iter elt : Expr} {ifs : List Expr} {pos : Pos} {g : TG} {tt : TT} {te : TE}
theorem lc_run (L : LcOk X scope N ix) (hc : X.calm = true) (hg : ∀ C s0 H0 fp, PG (cxLc X scope N C s0 H0 fp) tg g) (ht : ∀ C s0 H0 fp, PTs (cxLc X scope N C s0 H0 fp) ifs tt) (he : ∀ C s0 H0 fp, PE (cxLc X scope N C s0 H0 fp) elt te)
    {pins : List (Addr × Obj)} {σ : St} {H2 : Hp} {s2 : Shared} {it : Addr} {fp : List Addr} {tn : Nat → Heap → Prop} {J : It} {fin : List V → Hp → Prop} {E : Value → Shared → Prop} {RR : Value → Addr → Result → Shared → Prop}
    (I2 : Inv X pins σ H2 s2) (T : Turn X.prog X.w X.K tg J fp it tn) (st : tn 0 s2.heap) (f2 : ∀ b ∈ fp, FpOk X pins H2 b) (hW : LcW J g tt te (emb ix σ) fin H2)
    (hRR : ∀ D C s' m ys H', s'.heap.Ns C m → s'.os = s2.os → D ≠ C → FpOk X pins (upd H' D (.lst ys)) C → (∀ h', Heap.SameBut C s'.heap h' → Inv X pins σ (upd H' D (.lst ys)) { s' with heap := h' }) → H' D = none → fin ys H' → RR (.ref D) C (.ok .next) s') :
    wpAny (model X.prog X.w) X.A (newList []) (fun acc s3 => wpAny (model X.prog X.w) X.A (newFunctionEnv scope X.env.globals (clOf X.env scope.names []) [] X.env.qual none .none (some X.env)) (fun cenv s4 =>
      codeAny (model X.prog X.w) X.A (.compStart (.ListComp elt [⟨tg, iter, ifs, 0⟩] scope pos) 0 (.ref it) acc { cenv with scope := relabel scope X.env }) (RR acc cenv.locals) s4) E s3) E s2 := by
  obtain ⟨W, ⟨m0, w0⟩, turn⟩ := hW
  have hb2 : ∀ b ∈ fp, b < s2.heap.objs.size := fun b hb => by
    obtain ⟨o, e, _⟩ := T.obj _ _ st b hb
    exact Heap.lt_size e
  refine wpAny_newObj_type (wpAny_newFunctionEnv L.nocell (by intro y hy; simp at hy) (fun h1 hns hsb => ?_) L.kind)
  dsimp only at hns hsb ⊢
  generalize hG : s2.heap.push { cls := .type "list", dict := none, data := .seq ([] : List Value).toArray } = G at hns hsb ⊢
  have hGs : G.objs.size = s2.heap.objs.size + 1 := by rw [← hG, Heap.size_push]
  generalize hDe : s2.heap.objs.size = D at hGs hb2
  generalize hCe : G.objs.size = C at hGs hns hsb ⊢
  have hDC : D ≠ C := by omega
  have nq : ∀ b : Nat, b < s2.heap.objs.size → b ≠ C ∧ b ≠ D := fun b h => ⟨by omega, by omega⟩
  have nq2 : ∀ b ∈ fp, b ≠ C ∧ b ≠ D := fun b hb => nq b (by rw [hDe]; exact hb2 b hb)
  have kG : ∀ b o, s2.heap.get? b = some o → G.get? b = some o := fun b o e => by rw [← hG]; exact Heap.get?_push_of_some _ e
  have kp : ∀ b o, s2.heap.get? b = some o → h1.get? b = some o := fun b o e => hsb.extBut b o (nq b (Heap.lt_size e)).1 (Heap.get?_push_of_some _ (kG b o e))
  have oD : ∃ n, h1.get? D = some { cls := .type "list", data := .seq ([] : List Value).toArray n } := ⟨_, hsb.extBut _ _ hDC (Heap.get?_push_of_some _ (by rw [← hG, ← hDe]; exact Heap.get?_push_size _ rfl))⟩
  have I4 := lc_in L (tk := s2.toks + ([] : List (Str × Value)).length) I2 (C := C) (by omega) f2 (by rw [hDe]; exact hb2) kp hns
  have st4 : tn 0 h1 := T.keep _ _ _ st fun b _ o e => kp b o e
  have hDf : D ∉ (cxLc X scope N C s2 H2 fp).fs := fun z => by
    have z' : D ∈ frs X.stack := z
    rcases List.mem_cons.mp (I2.stkSub D z') with q | q
    · exact (nq _ I2.lt).2 q.symm
    · exact I2.nofs (a := D) (by omega) q
  have cellD : ∀ x c, (cxLc X scope N C s2 H2 fp).env.cells.lookup x = some c → c ≠ D := fun x c e z => by
    obtain ⟨v, o, ho, _⟩ := I2.cell x c (clOf_look e)
    exact (nq c (Heap.lt_size ho)).2 z
  have stat : ∀ {H' : Hp} {pl : List (Addr × Obj)}, (∀ b ∈ fp, H' b = none) → (∀ p ∈ pl, p.1 = D) → ∀ b ∈ fp, FpOk (cxLc X scope N C s2 H2 fp) pl H' b := fun {H' pl} hn hp b hb => by
    have hlt := hb2 b hb
    refine ⟨hn b hb, (nq2 b hb).1, fun z => ?_, .inl hb, fun x c e => (f2 b hb).2.2.2.2.1 x c (clOf_look e), fun p hq z => ?_⟩
    · exact (List.mem_cons.mp (I2.stkSub b z)).elim (f2 b hb).2.1 (f2 b hb).2.2.1
    · have hq' : p ∈ pl := by simpa [cxLc] using hq
      exact (nq2 b hb).2 (z.symm.trans (hp p hq'))
  have pinD : ∀ {pl : List (Addr × Obj)} {σ' : St} {H' : Hp} {s' : Shared} {o : Obj}, Inv (cxLc X scope N C s2 H2 fp) pl σ' H' s' → s'.heap.get? D = some o → H' D = none → (∀ v, o.data ≠ .cell v) → Inv (cxLc X scope N C s2 H2 fp) [(D, o)] σ' H' s' :=
    fun {pl σ' H' s' o} I' ho hn hd => I'.pins_of fun p hp => by
      have e : p = (D, o) := by simpa using hp
      subst e
      exact ⟨ho, hn, hDC, hDf, hd⟩
  have loop : ∀ s4 : Shared, s4 = { s2 with heap := h1, toks := s2.toks + ([] : List (Str × Value)).length } →
      codeAny (model X.prog X.w) X.A (.compLoop (.ListComp elt [⟨tg, iter, ifs, 0⟩] scope pos) 0 (.ref it) (.ref D) (cxLc X scope N C s2 H2 fp).env) (RR (.ref D) C) s4 := by
    rintro s4 rfl
    refine lc_loop (fun n s' => ∃ i σ' H' ys its k, Inv (cxLc X scope N C s2 H2 fp) [(D, { cls := .type "list", data := .seq its.toArray k })] σ' H' s' ∧ tn i s'.heap ∧ (∀ b ∈ fp, H' b = none) ∧ Vals ys its ∧ W i n ys σ' H') ?_ m0 ?_
    · rintro n s' ⟨i, σ', H', ys, its, k, I', st', fr', rv, w'⟩
      have hD' := I'.pin _ (List.mem_append_right _ List.mem_cons_self)
      rcases turn i n ys σ' H' w' with ⟨stop, hz, qf⟩ | ⟨go, hz, Nx, hN, step⟩
      · refine thn (T.done (cxLc X scope N C s2 H2 fp) rfl rfl rfl hc i _ s' σ' H' _ I' (stat fr' (by simp)) st' stop) fun r s5 ⟨hr, I5⟩ => ?_
        subst hr
        have hD5 := I5.pin _ (List.mem_append_right _ List.mem_cons_self)
        obtain ⟨m5, hn5, _⟩ := I5.loc
        refine hRR D C s5 m5 ys H' hn5 I5.os hDC (I2.fpOk (by omega) (by rw [upd_ne (Ne.symm hDC)]; exact I5.free)) (fun h' hs' => ?_) hD5.2.1 qf
        exact lc_fin I2 f2 I5 (by omega) (by omega) hDC hD5.2.1 hD5.1 rv hz fun b o hb e => hs'.extBut b o hb e
      · refine thn (T.item (cxLc X scope N C s2 H2 fp) rfl rfl rfl hc i _ s' σ' H' _ I' (stat fr' (by simp)) st' go) fun r s5 ⟨u, hr, h5⟩ => ?_
        subst hr
        refine thn h5 fun _ s6 ⟨x, H6, I6, r6, y6, st6, fr6⟩ => ?_
        have I6' := I6.pinned (stat fr6 (by simp)) (T.obj _ _ st6)
        refine thn (hg C s2 H2 fp _ s6 σ' H6 x u _ I6' r6 (step x H6 y6)) fun _ s7 ⟨σ7, H7, I7, q7⟩ => ?_
        refine thn (ht C s2 H2 fp _ s7 σ7 H7 _ I7 q7) fun ok s8 ⟨H8, I8, q8⟩ => ?_
        have back : ∀ {H9 : Hp} {s9 : Shared}, Inv (cxLc X scope N C s2 H2 fp) ([(D, { cls := .type "list", data := .seq its.toArray k })] ++ pinsAt fp s6.heap) σ7 H9 s9 → tn (i + 1) s9.heap ∧ ∀ b ∈ fp, H9 b = none := fun {H9 s9} I9 => by
          refine ⟨T.keep _ _ _ st6 fun b hb o e => (I9.pin (b, o) (List.mem_append_right _ (List.mem_append_right _ (mem_pinsAt hb e)))).1, fun b hb => ?_⟩
          obtain ⟨o, e, d⟩ := T.obj _ _ st6 b hb
          exact (I9.pin (b, o) (List.mem_append_right _ (List.mem_append_right _ (mem_pinsAt hb e)))).2.1
        cases ok with
        | false =>
          rw [if_neg Bool.false_ne_true] at q8 ⊢
          obtain ⟨m', hm, w8⟩ := hN _ _ _ q8
          obtain ⟨st8, fr8⟩ := back I8
          exact ⟨m', hm, i + 1, σ7, H8, ys, its, k, I8.unpinned, st8, fr8, rv, w8⟩
        | true =>
          rw [if_pos rfl] at q8 ⊢
          refine thn (he C s2 H2 fp _ s8 σ7 H8 _ I8 q8) fun y s9 ⟨v, H9, I9, r9, q9⟩ => ?_
          have hD9 := I9.pin _ (List.mem_append_right _ (List.mem_append_left _ List.mem_cons_self))
          obtain ⟨st9, fr9⟩ := back I9
          refine wpAny_list_append_plain (hsz := by have := rv.length; rw [List.size_toArray]; omega) ⟨k, hD9.1⟩ fun h' hl' hs' => ?_
          obtain ⟨m', hm, w9⟩ := hN _ _ _ q9
          obtain ⟨k', ho'⟩ := hl'
          have I10 : Inv (cxLc X scope N C s2 H2 fp) [] σ7 H9 { s9 with heap := h' } := (I9.pins_of (pins' := []) fun p hp => absurd hp (by simp)).turned (t' := s9.toks) (it := D) (fun b o hb e => hs'.extBut b o hb e) hD9.2.1 hDC (.inr (by show s2.heap.objs.size ≤ D; omega)) cellD (fun p hp => absurd hp (by simp [cxLc]))
          refine ⟨m', hm, i + 1, σ7, H9, ys ++ [v], its ++ [y], k', pinD I10 (by rw [ho']; simp) hD9.2.1 (fun v z => by cases z), ?_, fr9, rv.append (.cons r9 .nil), w9⟩
          exact T.keep _ _ _ st9 fun b hb o e => hs'.extBut b o (nq2 b hb).2 e
    · obtain ⟨n, e⟩ := oD
      exact ⟨0, emb ix σ, H2, [], [], n, pinD I4 e (I2.hok.fresh (by omega)) (fun v z => by cases z), st4, fun b hb => (f2 b hb).1, .nil, w0⟩
  have q := loop _ rfl
  exact codeAny_compStart_list q (T.self _ 0 _ _ _ st4 q)
end
end L2

set_option Elab.async false
set_option linter.all false
set_option maxRecDepth 100000
namespace L2
open PySem PySem.Spec PyProof.Rows

theorem strsAre_of {ss : List Str} : ∀ {us : List Value}, Vals (ss.map V.str) us → StrsAre us ss := by
  induction ss with
  | nil => intro us r; rw [List.map_nil] at r; cases r; exact .nil
  | cons n ns ih =>
    intro us r
    rw [List.map_cons] at r
    cases r with
    | cons r1 r2 =>
      obtain ⟨t, e⟩ := r1
      subst e
      exact .cons n t (ih r2)
theorem vals_strs : ∀ {vs : List Value} {ss : List Str}, StrsAre vs ss → Vals (ss.map V.str) vs
  | _, _, .nil => .nil
  | _, _, .cons n t h => .cons ⟨t, rfl⟩ (vals_strs h)

section
variable {X : Cx}
/-! ### comprehensions as values and as what a name is given -/
variable {scope : Scope} {N : List Str} {ix : List (Option Nat)} {tg iter elt : Expr} {ifs : List Expr} {pos : Pos} {g : TG} {tt : TT} {te : TE} {wi : TI}
theorem pe_lc (L : LcOk X scope N ix) (hc : X.calm = true) (hi : PI X tg iter wi) (hg : ∀ C s0 H0 fp, PG (cxLc X scope N C s0 H0 fp) tg g) (ht : ∀ C s0 H0 fp, PTs (cxLc X scope N C s0 H0 fp) ifs tt) (he : ∀ C s0 H0 fp, PE (cxLc X scope N C s0 H0 fp) elt te)
    (hs : ∀ x, foldedSetIterable iter X.env x = pure x := by intro _; rfl) : PE X (.ListComp elt [⟨tg, iter, ifs, 0⟩] scope pos) (tLc wi g tt te ix) := by
  intro pins s σ H Q I h
  rw [eval_ListComp]
  refine wpAny_comprehension_free (use := none) rfl hs (L.clos I.ok) L.kind L.locals (thn (hi pins s σ H _ I h) fun v s1 h1 => thn h1 fun itv s2 h2 => ?_)
  obtain ⟨it, fp, tn, J, H2, rfl, I2, T, st2, f2, hW⟩ := h2
  refine lc_run (RR := fun acc C => compPost (model X.prog X.w) X.A X.xe none (EP X pins σ Q) acc C) L hc hg ht he I2 T st2 f2 hW ?_
  intro D C s' m ys H' hn ho hDC hC hI hD fin
  exact ⟨m, hn, fun h' hs' => ⟨.ref D, _, hI h' hs', rfl, fin D hD⟩⟩
/-- name = [..] -/
noncomputable def tSetLc (i : Nat) (wi : TI) (g : TG) (tt : TT) (te : TE) (ix : List (Option Nat)) : TS := fun D σ H => wi σ H fun J H1 => LcW J g tt te (emb ix σ) (fun ys H' => ∀ p, H' p = none → D.nx (σ.set i (some (.ref p))) (upd H' p (.lst ys))) H1
theorem ps_setLc {i : Nat} {y : Str} {py spos : Pos} (hN : X.N.Nodup) (hi' : X.N[i]? = some y) (hx : Loc X.env.scope y) (L : LcOk X scope N ix) (hc : X.calm = true) (hi : PI X tg iter wi) (hg : ∀ C s0 H0 fp, PG (cxLc X scope N C s0 H0 fp) tg g)
    (ht : ∀ C s0 H0 fp, PTs (cxLc X scope N C s0 H0 fp) ifs tt) (he : ∀ C s0 H0 fp, PE (cxLc X scope N C s0 H0 fp) elt te)
    (hsw : swapsWith (.ListComp elt [⟨tg, iter, ifs, 0⟩] scope pos) (some (.Name y py)) spos.line X.env = pure true := by rfl) (hs : ∀ x, foldedSetIterable iter X.env x = pure x := by intro _; rfl)
    (hf : X.fn y = true ∨ X.env.scope.names.lookup y = some .local := by first | exact .inl rfl | exact .inr rfl | assumption) :
    PS X (.Assign [.Name y py] (.ListComp elt [⟨tg, iter, ifs, 0⟩] scope pos) spos) (tSetLc i wi g tt te ix) := by
  intro pins s σ H D I h
  rw [exec_Assign_Name_used _ _ _ _ hsw]
  refine wpAny_bind (wpAny_standAt (wpAny_bind ?_))
  show wpAny _ X.A (do let _ ← comprehension (.ListComp elt [⟨tg, iter, ifs, 0⟩] scope pos) scope X.env _ (newList []) false (eval iter X.env) (some (assign (.Name y py) X.env))) _ _ s
  refine wpAny_bind (thn (wpAny_comprehension_free (use := some (assign (.Name y py) X.env)) (Q := fun _ s' => SP X pins D .next s') rfl hs (L.clos I.ok) L.kind L.locals
    (thn (hi pins s σ H _ I h) fun v s1 h1 => thn h1 fun itv s2 h2 => ?_)) fun _ s' hq => wpAny_pure (wpAny_pure hq))
  obtain ⟨it, fp, tn, J, H2, rfl, I2, T, st2, f2, hW⟩ := h2
  refine lc_run (RR := fun acc C => compPost (model X.prog X.w) X.A X.xe (some (assign (.Name y py) X.env)) (fun _ s' => SP X pins D .next s') acc C) L hc hg ht he I2 T st2 f2 hW ?_
  intro Da C s' m ys H' hn ho hDC hC hI hD fin
  have I' := hI s'.heap (Heap.SameBut.refl _ _)
  show wpAny _ X.A (assign (.Name y py) X.env (.ref Da)) _ _ s'
  refine wpAny_assign_Name (store_ok2 (v := .ref Da) I' hN hi' hx rfl (fun s'' I'' ch => ?_) hf)
  obtain ⟨a, hsa, hwa⟩ := ch
  obtain ⟨c1, c2, c3, c4, c5, c6⟩ := hC
  have hCa : C ≠ a := by
    rcases hwa with z | z
    · rw [z]; exact c2
    · exact fun w => c5 y a z w.symm
  refine ⟨m, hn.sameBut hsa hCa, fun h' hs' => ⟨_, _, I''.turned (t' := s''.toks) (it := C) (fun b o hb e => hs'.extBut b o hb e) c1 c2 c4 c5 c6, fin Da hD⟩⟩
end
end L2

set_option Elab.async false
set_option linter.all false
set_option maxRecDepth 100000
namespace L2
open PySem PySem.Spec PyProof.Rows

/-! ### data that is read: nested tuples and lists over the abstract heap -/
mutual
inductive DV (H : Hp) : V → PyData → Prop
  | non : DV H .non .none
  | bl (b : Bool) : DV H (.bl b) (.bool b)
  | int (i : Int) : DV H (.int i) (.int i)
  | str (x : Str) : DV H (.str x) (.str x)
  | tup {a : Addr} {xs : List V} {ds : List PyData} : H a = some (.tup xs) → DVs H xs ds → DV H (.ref a) (.tuple ds)
  | lst {a : Addr} {xs : List V} {ds : List PyData} : H a = some (.lst xs) → DVs H xs ds → DV H (.ref a) (.list ds)
inductive DVs (H : Hp) : List V → List PyData → Prop
  | nil : DVs H [] []
  | cons {x : V} {d : PyData} {xs : List V} {ds : List PyData} : DV H x d → DVs H xs ds → DVs H (x :: xs) (d :: ds)
end
section
variable {P : Program} {w : World} {H : Hp} {h : Heap}
mutual
theorem DV.reads (ok : HOk P w H h) : ∀ {x : V} {d : PyData} {u : Value}, DV H x d → RelV x u → ∃ as, Reads h u d as
  | _, _, u, .non, r => by cases (show u = Value.none from r); exact ⟨_, Reads.none⟩
  | _, _, u, .bl b, r => by cases (show u = Value.bool b from r); exact ⟨_, Reads.bool b⟩
  | _, _, u, .int i, r => by obtain ⟨t, e⟩ := (show ∃ t, u = Value.int i t from r); cases e; exact ⟨_, Reads.int i t⟩
  | _, _, u, .str x, r => by obtain ⟨t, e⟩ := (show ∃ t, u = Value.str x t from r); cases e; exact ⟨_, Reads.str x t⟩
  | _, _, u, .tup (a := a) (xs := xs) e q, r => by
    cases (show u = Value.ref a from r)
    obtain ⟨_, its, rv, o, ho, hc, n, hd⟩ := (show ObjOk P w H h a (.tup xs) from ok a _ e)
    obtain ⟨as, z⟩ := DVs.reads ok q rv
    exact ⟨as, Reads.tuple ho hc hd (by simpa using z)⟩
  | _, _, u, .lst (a := a) (xs := xs) e q, r => by
    cases (show u = Value.ref a from r)
    obtain ⟨_, its, n, rv, ho⟩ := (show ObjOk P w H h a (.lst xs) from ok a _ e)
    obtain ⟨as, z⟩ := DVs.reads ok q rv
    exact ⟨_, Reads.list ho rfl rfl (by simpa using z)⟩
theorem DVs.reads (ok : HOk P w H h) : ∀ {xs : List V} {ds : List PyData} {us : List Value}, DVs H xs ds → Vals xs us → ∃ as, ReadsAll h us ds as
  | _, _, _, .nil, .nil => ⟨_, ReadsAll.nil⟩
  | _, _, _, .cons a b, .cons r rs => by
    obtain ⟨as, p⟩ := DV.reads ok a r
    obtain ⟨bs, q⟩ := DVs.reads ok b rs
    exact ⟨_, ReadsAll.cons p q⟩
end
end
theorem DVs.strs {H : Hp} : ∀ ss : List Str, DVs H (ss.map V.str) (ss.map PyData.str)
  | [] => .nil
  | x :: r => .cons (.str x) (DVs.strs r)

section
variable {X : Cx}
open SeqAt in
theorem op_eqD {k : Nat} (hr : Room k X.A) : OpR X (compareOp .Eq) (fun x y H Q => ∃ d e, DV H x d ∧ DV H y e ∧ shaped d = true ∧ shaped e = true ∧ Q (.bl (PyData.eqv d e)) H) := by
  intro pins s σ H x y v u Q I rx ry h
  obtain ⟨d, e, dx, dy, sd, se, q⟩ := h
  obtain ⟨as, r1⟩ := dx.reads I.hok rx
  obtain ⟨bs, r2⟩ := dy.reads I.hok ry
  exact eq_dataH r1 r2 sd se hr.units ⟨.bl (PyData.eqv d e), H, I, rfl, q⟩
open SeqAt in
theorem op_neD {k : Nat} (hr : Room k X.A) : OpR X (compareOp .NotEq) (fun x y H Q => ∃ d e, DV H x d ∧ DV H y e ∧ shaped d = true ∧ shaped e = true ∧ Q (.bl (!PyData.eqv d e)) H) := by
  intro pins s σ H x y v u Q I rx ry h
  obtain ⟨d, e, dx, dy, sd, se, q⟩ := h
  obtain ⟨as, r1⟩ := dx.reads I.hok rx
  obtain ⟨bs, r2⟩ := dy.reads I.hok ry
  exact ne_dataH r1 r2 sd se hr.units ⟨.bl (!PyData.eqv d e), H, I, rfl, q⟩
theorem range_all' (bs : List Bool) : ((List.range bs.length).all fun i => (bs[i]?).getD true) = bs.all id := by
  rw [Bool.eq_iff_iff, List.all_eq_true, List.all_eq_true]
  constructor
  · intro h b hb
    obtain ⟨i, hi, e⟩ := List.mem_iff_getElem.mp hb
    have := h i (List.mem_range.mpr hi)
    rw [List.getElem?_eq_getElem hi, e] at this
    simpa using this
  · intro h i hi
    have hi := List.mem_range.mp hi
    rw [List.getElem?_eq_getElem hi]
    simpa using h _ (List.getElem_mem hi)
/-- all of a list of bools -/
theorem call_allB (hc : X.calm = true) : CallR X (.builtin "all") (fun xs H Q => ∃ (p : Addr) (bs : List Bool), xs = [.ref p] ∧ SqL X.K H p (bs.map V.bl) ∧ Q (.bl (bs.all id)) H) := by
  intro pins s σ H xs us Q I r h
  obtain ⟨p, bs, rfl, hq, q⟩ := h
  obtain ⟨u, rfl, rx⟩ := vals1 r
  cases rx
  obtain ⟨its, r', pl, hz⟩ := I.list hq
  have hlt : p < s.heap.objs.size := by obtain ⟨o, n, e, _⟩ := pl; exact Heap.lt_size e
  have hlen := r'.length
  rw [List.length_map] at hlen
  refine call_all_walk (wpAny_pyIter_list pl.isList ?_)
  refine ⟨s.heap.objs.size, [s.heap.objs.size, p], [s.heap.objs.size], its.toArray.size, _, _, fun i => (bs[i]?).getD true, rfl, Walks.list (A := X.A.in1) (I.ok.hd hc) _ p (Nat.ne_of_lt hlt) its.toArray,
    ⟨⟨_, Heap.get?_push_size _ rfl, rfl, rfl⟩, pl.isList.push _⟩, fun i v s' Q' E' hP hQ => ?_, fun h' tk hk => ?_⟩
  · have hP' : its[i]? = some v := by simpa using hP
    have hb : ∃ b, bs[i]? = some b ∧ v = Value.bool b := by
      have hi : i < bs.length := by rw [hlen]; exact (List.getElem?_eq_some_iff.mp hP').1
      have e1 : (bs.map V.bl)[i]? = some (V.bl bs[i]) := by rw [List.getElem?_map, List.getElem?_eq_getElem hi]; rfl
      obtain ⟨w', e2, rw'⟩ := r'.get e1
      rw [hP'] at e2
      cases e2
      exact ⟨bs[i], List.getElem?_eq_getElem hi, rw'⟩
    obtain ⟨b, e, rfl⟩ := hb
    simp only [e, Option.getD_some] at hQ
    exact wpAny_truthy_bool hQ
  · have e : ((List.range its.toArray.size).all fun i => (bs[i]?).getD true) = bs.all id := by
      rw [List.size_toArray, ← hlen]; exact range_all' bs
    rw [e]
    refine ⟨.bl (bs.all id), H, I.kept (t' := tk) fun b x e => hk b x (fun hm => ?_) (Heap.get?_push_of_some _ e), rfl, q⟩
    rw [List.mem_singleton.mp hm] at e
    exact Nat.lt_irrefl _ (Heap.lt_size e)

theorem call_isinst {T : String} : CallR X (.builtin "isinstance") (fun xs H Q => ∃ x t b, xs = [x, .ty T] ∧ TyOf X.K H x t ∧ PySem.W.kitOne X.K t (.type T) = some b ∧ Q (.bl b) H) := by
  intro pins s σ H xs us Q I r h
  obtain ⟨x, t, b, rfl, ty, e, q⟩ := h
  obtain ⟨u, w', rfl, rx, ry⟩ := vals2 r
  cases (show w' = Value.type T from ry)
  exact isinst_ok I rx ty e fun tk => ⟨.bl b, H, I.tok tk, rfl, q⟩

/-! ### texts -/
theorem op_le_str : OpR X (compareOp .LtE) (fun x y H Q => ∃ i j, x = .str i ∧ y = .str j ∧ Q (.bl (!decide (j.cps.toList < i.cps.toList))) H) := by
  intro pins s σ H x y v u Q I rx ry h
  obtain ⟨i, j, rfl, rfl, q⟩ := h
  obtain ⟨t, rfl⟩ := rx
  obtain ⟨t', rfl⟩ := ry
  exact PySem.P.le_str ⟨.bl (!decide (j.cps.toList < i.cps.toList)), H, I, rfl, q⟩
theorem mt_join : MtR X "str.join" (fun x xs H Q => ∃ (z : Str) (p : Addr) (ss : List Str), x = .str z ∧ xs = [.ref p] ∧ SqL X.K H p (ss.map V.str) ∧ (ss.map (·.length)).sum + ss.length * z.length ≤ 16777216 ∧ Q (.str (Txt.join z ss)) H) := by
  intro pins s σ H x xs v us Q I rx rs h
  obtain ⟨z, p, ss, rfl, rfl, hq, hz, q⟩ := h
  obtain ⟨t, rfl⟩ := rx
  obtain ⟨u, rfl, ru⟩ := vals1 rs
  cases ru
  obtain ⟨its, r', pl, _⟩ := I.list hq
  exact join_list pl.isList (strsAre_of r') hz fun t' k => ⟨.str (Txt.join z ss), H, I.tok k, ⟨_, rfl⟩, q⟩

/-- sorted of a list of texts -/
theorem call_sortedS : CallR X (.builtin "sorted") (fun xs H Q => ∃ (p : Addr) (ss : List Str), xs = [.ref p] ∧ SqL X.K H p (ss.map V.str) ∧ ss.length < 64 ∧ ∀ (ss' : List Str) (q : Addr), ss'.Perm ss → sortedS ss' = true → H q = none → Q (.ref q) (upd H q (.lst (ss'.map V.str)))) := by
  intro pins s σ H xs us Q I r h
  obtain ⟨p, ss, rfl, hq, h64, q⟩ := h
  obtain ⟨u, rfl, rx⟩ := vals1 r
  cases rx
  obtain ⟨its, r', pl, hz⟩ := I.list hq
  have hlen := r'.length
  rw [List.length_map] at hlen
  refine sorted_strs pl.isList (strsAre_of r') (by omega) fun out ss' a1 a2 a3 => ?_
  obtain ⟨e, he⟩ := sortedAll_at s.heap its out
  have hv : Vals (ss'.map V.str) out.toList := vals_strs a1
  have hfr : H (s.heap.objs.size + 1) = none := I.hok.fresh (Nat.le_succ _)
  refine ⟨.ref (s.heap.objs.size + 1), _, I.laid (t' := s.toks) (o := .lst (ss'.map V.str)) (fun b o z => sortedAll_old z) (Nat.le_succ _) ⟨?_, out.toList, e, hv, ?_⟩, rfl, q ss' _ a2 a3 hfr⟩
  · rw [List.length_map, a2.length_eq, sizeLine_eq]; omega
  · simpa [seqObj] using he
end
end L2

set_option Elab.async false
set_option linter.all false
set_option maxHeartbeats 4000000
namespace L2
open PySem PySem.W PyProof.Rows

/-! ### the sort's tree of questions, over a strict total order of the places -/
noncomputable abbrev gp (p : Array Nat) (i : Nat) : Nat := p.getD i 0
structure Ord (N : Nat) (lt : Nat → Nat → Bool) : Prop where
  tr : ∀ i j k, lt i j = true → lt j k = true → lt i k = true
  irr : ∀ i, lt i i = false
  tot : ∀ i j, i < N → j < N → i ≠ j → lt i j = true ∨ lt j i = true
noncomputable def Pm (N : Nat) (p : Array Nat) : Prop := p.Perm (List.toArray (List.range N))
theorem Pm.size {N : Nat} {p : Array Nat} (h : Pm N p) : p.size = N := by
  have := Array.Perm.size_eq h
  simpa using this
theorem gp_eq {p : Array Nat} {i : Nat} (h : i < p.size) : gp p i = p[i] := by simp [gp, Array.getD, h]
theorem gp_congr {p q : Array Nat} {i j : Nat} (h : p[i]? = q[j]?) : gp p i = gp q j := by simp [gp, Array.getD_eq_getD_getElem?, h]
theorem Pm.lt {N : Nat} {p : Array Nat} (h : Pm N p) {i : Nat} (hi : i < N) : gp p i < N := by
  have hs : i < p.size := by rw [h.size]; exact hi
  rw [gp_eq hs]
  have hm : p[i] ∈ (List.toArray (List.range N)) := h.mem_iff.mp (Array.getElem_mem hs)
  simpa using hm
theorem Pm.nd {N : Nat} {p : Array Nat} (h : Pm N p) : p.toList.Nodup := by
  have hp : p.toList.Perm (List.range N) := by simpa using Array.perm_iff_toList_perm.mp h
  exact hp.nodup_iff.mpr List.nodup_range
theorem Pm.inj {N : Nat} {p : Array Nat} (h : Pm N p) {i j : Nat} (hi : i < N) (hj : j < N) (hij : i ≠ j) : gp p i ≠ gp p j := by
  have hsi : i < p.size := by rw [h.size]; exact hi
  have hsj : j < p.size := by rw [h.size]; exact hj
  rw [gp_eq hsi, gp_eq hsj]
  intro e
  have nd := h.nd
  rcases Nat.lt_or_gt_of_ne hij with z | z
  · exact List.pairwise_iff_getElem.mp nd i j (by simpa using hsi) (by simpa using hsj) z (by simpa using e)
  · exact List.pairwise_iff_getElem.mp nd j i (by simpa using hsj) (by simpa using hsi) z (by simpa using e.symm)

section
variable {N : Nat} {lt : Nat → Nat → Bool} {cmp : Nat → Nat → (Bool → Shared → Prop) → Shared → Prop} {s : Shared}
noncomputable def Asc (lt : Nat → Nat → Bool) (p : Array Nat) (b : Nat) : Prop := ∀ i j, i < j → j < b → lt (gp p i) (gp p j) = true
noncomputable def Dsc (lt : Nat → Nat → Bool) (p : Array Nat) (b : Nat) : Prop := ∀ i j, i < j → j < b → lt (gp p j) (gp p i) = true
theorem Asc.more (O : Ord N lt) {p : Array Nat} {n : Nat} (h : Asc lt p n) (h1 : 1 ≤ n) (e : lt (gp p (n - 1)) (gp p n) = true) : Asc lt p (n + 1) := fun i j hij hj => by
  by_cases q : j < n
  · exact h i j hij q
  · have : j = n := by omega
    subst this
    by_cases z : i = j - 1
    · rw [z]; exact e
    · exact O.tr _ _ _ (h i (j - 1) (by omega) (by omega)) e
theorem Dsc.more (O : Ord N lt) {p : Array Nat} {n : Nat} (h : Dsc lt p n) (h1 : 1 ≤ n) (e : lt (gp p n) (gp p (n - 1)) = true) : Dsc lt p (n + 1) := fun i j hij hj => by
  by_cases q : j < n
  · exact h i j hij q
  · have : j = n := by omega
    subst this
    by_cases z : i = j - 1
    · rw [z]; exact e
    · exact O.tr _ _ _ e (h i (j - 1) (by omega) (by omega))
theorem Ord.other (O : Ord N lt) {p : Array Nat} (hp : Pm N p) {i j : Nat} (hi : i < N) (hj : j < N) (hij : i ≠ j) (e : lt (gp p i) (gp p j) ≠ true) : lt (gp p j) (gp p i) = true :=
  (O.tot _ _ (hp.lt hi) (hp.lt hj) (hp.inj hi hj hij)).resolve_left e

variable (O : Ord N lt) (hc : ∀ (i j : Nat) (C : Bool → Shared → Prop), i < N → j < N → i ≠ j → C (lt i j) s → cmp i j C s)
include O hc
theorem asc_ok {p : Array Nat} (hp : Pm N p) {Q : Nat → Shared → Prop} : ∀ (f n : Nat), 1 ≤ n → n + f ≤ N → Asc lt p n → (∀ m, n ≤ m → m ≤ n + f → Asc lt p m → (m = n + f ∨ lt (gp p m) (gp p (m - 1)) = true) → Q m s) → (kas_asc p f n).kasWp cmp Q s
  | 0, n, h1, hn, ha, k => k n (Nat.le_refl _) (Nat.le_refl _) ha (.inl rfl)
  | f + 1, n, h1, hn, ha, k => by
    unfold kas_asc
    refine hc _ _ _ (hp.lt (by omega)) (hp.lt (by omega)) (hp.inj (by omega) (by omega) (by omega)) ?_
    by_cases e : lt (gp p n) (gp p (n - 1)) = true
    · show KasT.kasWp cmp (if lt (gp p n) (gp p (n - 1)) = true then _ else _) Q s
      rw [if_pos e]
      exact k n (Nat.le_refl _) (by omega) ha (.inr e)
    · show KasT.kasWp cmp (if lt (gp p n) (gp p (n - 1)) = true then _ else _) Q s
      rw [if_neg e]
      exact asc_ok hp f (n + 1) (by omega) (by omega) (ha.more O h1 (O.other hp (by omega) (by omega) (by omega) e)) fun m a b c d => k m (by omega) (by omega) c (d.imp (fun z => by omega) id)
theorem desc_ok {p : Array Nat} (hp : Pm N p) {Q : Array Nat × Nat × Nat → Shared → Prop} : ∀ (f n : Nat), 1 ≤ n → n + f ≤ N → Dsc lt p n → (∀ m, n ≤ m → m ≤ n + f → Dsc lt p m → Q (p, m, 0) s) → (kas_desc f p n 0).kasWp cmp Q s
  | 0, n, h1, hn, ha, k => k n (Nat.le_refl _) (Nat.le_refl _) ha
  | f + 1, n, h1, hn, ha, k => by
    unfold kas_desc
    refine hc _ _ _ (hp.lt (by omega)) (hp.lt (by omega)) (hp.inj (by omega) (by omega) (by omega)) ?_
    by_cases e : lt (gp p n) (gp p (n - 1)) = true
    · show KasT.kasWp cmp (if lt (gp p n) (gp p (n - 1)) = true then _ else _) Q s
      rw [if_pos e, if_neg (by omega)]
      exact desc_ok hp f (n + 1) (by omega) (by omega) (ha.more O h1 e) fun m a b c => k m (by omega) (by omega) c
    · show KasT.kasWp cmp (if lt (gp p n) (gp p (n - 1)) = true then _ else _) Q s
      rw [if_neg e]
      refine hc _ _ _ (hp.lt (by omega)) (hp.lt (by omega)) (hp.inj (by omega) (by omega) (by omega)) ?_
      have e2 := O.other hp (show n < N by omega) (show n - 1 < N by omega) (by omega) e
      show KasT.kasWp cmp (if lt (gp p (n - 1)) (gp p n) = true then _ else _) Q s
      rw [if_pos e2]
      exact k n (Nat.le_refl _) (by omega) ha
theorem rev_ok {p : Array Nat} (hp : Pm N p) {m : Nat} (hm : m ≤ N) (h : Dsc lt p m) : Pm N (kas_rev p 0 m) ∧ Asc lt (kas_rev p 0 m) m := by
  have hz : m ≤ p.size := by rw [hp.size]; exact hm
  refine ⟨(mirror_perm p 0 m _).trans hp, fun i j hij hj => ?_⟩
  have g : ∀ k, k < m → gp (kas_rev p 0 m) k = gp p (0 + m - 1 - k) := fun k hk => gp_congr (by
    unfold kas_rev
    rw [getElem?_mirror_all hz, if_pos ⟨Nat.zero_le _, hk⟩])
  rw [g i (by omega), g j hj]
  exact h _ _ (by omega) (by omega)
theorem count_ok {p : Array Nat} (hp : Pm N p) (h2 : 2 ≤ N) {Q : Nat × Array Nat → Shared → Prop} (h0 : ∀ m q, 1 ≤ m → m ≤ N → Pm N q → Asc lt q m → Q (m, q) s) : (kas_count N p).kasWp cmp Q s := by
  unfold kas_count
  rw [KasT.kasWp_bind]
  refine asc_ok O hc hp (N - 1) 1 (Nat.le_refl _) (by omega) (fun i j a b => by omega) fun m a b c d => ?_
  by_cases e : (m == N) = true
  · rw [if_pos e]
    exact h0 m p a (by omega) hp c
  · rw [if_neg e]
    have hm : m ≠ N := fun z => e (beq_iff_eq.mpr z)
    by_cases e1 : m > 1
    · rw [if_pos e1]
      refine hc _ _ _ (hp.lt (by omega)) (hp.lt (by omega)) (hp.inj (by omega) (by omega) (by omega)) ?_
      show KasT.kasWp cmp (if lt (gp p 0) (gp p (m - 1)) = true then _ else _) Q s
      rw [if_pos (c 0 (m - 1) (by omega) (by omega))]
      exact h0 m p a (by omega) hp c
    · rw [if_neg e1]
      have : m = 1 := by omega
      subst this
      have e2 : lt (gp p 1) (gp p (1 - 1)) = true := d.resolve_left (by omega)
      unfold kas_descPart
      rw [KasT.kasWp_bind]
      refine desc_ok O hc hp (N - (1 + 1)) (1 + 1) (by omega) (by omega) (fun i j x y => by
        have : i = 0 := by omega
        have : j = 1 := by omega
        subst i j
        exact e2) fun m' a' b' c' => ?_
      show KasT.kasWp cmp (if (0 : Nat) > 0 then _ else _) Q s
      rw [if_neg (by omega)]
      show KasT.kasWp cmp (kas_tail3 m' N p) Q s
      unfold kas_tail3
      rw [KasT.kasWp_bind]
      obtain ⟨r1, r2⟩ := rev_ok O hc hp (show m' ≤ N by omega) c'
      exact asc_ok O hc r1 (N - m') m' (by omega) (by omega) r2 fun m'' x y z w => h0 m'' _ (by omega) (by omega) r1 z
theorem place_ok {p : Array Nat} (hp : Pm N p) {k : Nat} (hk : k < N) (ha : Asc lt p k) {Q : Nat → Shared → Prop} : ∀ (f l r : Nat), l ≤ r → r ≤ k → r - l ≤ f → (∀ i, i < l → lt (gp p i) (gp p k) = true) → (∀ i, r ≤ i → i < k → lt (gp p k) (gp p i) = true) →
    (∀ l, l ≤ k → (∀ i, i < l → lt (gp p i) (gp p k) = true) → (∀ i, l ≤ i → i < k → lt (gp p k) (gp p i) = true) → Q l s) → (kas_place p k f l r).kasWp cmp Q s
  | 0, l, r, h1, h2, h3, hl, hr, q => by
    have : l = r := by omega
    subst this
    exact q l h2 hl hr
  | f + 1, l, r, h1, h2, h3, hl, hr, q => by
    unfold kas_place
    by_cases e : l ≥ r
    · rw [if_pos e]
      have : l = r := by omega
      subst this
      exact q l h2 hl hr
    · rw [if_neg e]
      refine hc _ _ _ (hp.lt hk) (hp.lt (by omega)) (hp.inj hk (by omega) (by omega)) ?_
      by_cases c : lt (gp p k) (gp p ((l + r) / 2)) = true
      · show KasT.kasWp cmp (if lt (gp p k) (gp p ((l + r) / 2)) = true then _ else _) Q s
        rw [if_pos c]
        refine place_ok hp hk ha f l ((l + r) / 2) (by omega) (by omega) (by omega) hl (fun i a b => ?_) q
        by_cases z : i = (l + r) / 2
        · rw [z]; exact c
        · exact O.tr _ _ _ c (ha _ _ (by omega) b)
      · show KasT.kasWp cmp (if lt (gp p k) (gp p ((l + r) / 2)) = true then _ else _) Q s
        rw [if_neg c]
        have c' := O.other hp hk (show (l + r) / 2 < N by omega) (by omega) c
        refine place_ok hp hk ha f ((l + r) / 2 + 1) r (by omega) h2 (by omega) (fun i a => ?_) hr q
        by_cases z : i = (l + r) / 2
        · rw [z]; exact c'
        · exact O.tr _ _ _ (ha i ((l + r) / 2) (by omega) (by omega)) c'
theorem bin_ok {Q : Array Nat → Shared → Prop} (h0 : ∀ q, Pm N q → Asc lt q N → Q q s) : ∀ (f : Nat) (p : Array Nat) (k : Nat), k + f = N → Pm N p → Asc lt p k → (kas_bin f p k).kasWp cmp Q s
  | 0, p, k, hk, hp, ha => h0 p hp (by rw [← hk]; exact ha)
  | f + 1, p, k, hk, hp, ha => by
    unfold kas_bin
    rw [KasT.kasWp_bind]
    refine place_ok O hc hp (show k < N by omega) ha k 0 k (by omega) (Nat.le_refl _) (by omega) (fun i z => by omega) (fun i a b => by omega) fun l hl h1 h2 => ?_
    refine bin_ok h0 f _ (k + 1) (by omega) ((bubble_perm p k _).trans hp) fun i j hij hj => ?_
    have hs : k < p.size := by rw [hp.size]; omega
    have g : ∀ i, gp (bubble p k (k - l)) i = if i = l then gp p k else if l < i ∧ i ≤ k then gp p (i - 1) else gp p i := fun i => by
      have e := getElem?_bubble hs (k - l) (by omega) i
      have e1 : k - (k - l) = l := by omega
      rw [e1] at e
      by_cases z1 : i = l
      · rw [if_pos z1] at e ⊢; exact gp_congr e
      · rw [if_neg z1] at e ⊢
        by_cases z2 : l < i ∧ i ≤ k
        · rw [if_pos z2] at e ⊢; exact gp_congr e
        · rw [if_neg z2] at e ⊢; exact gp_congr e
    rw [g i, g j]
    by_cases a1 : i = l
    · rw [if_pos a1, if_neg (by omega), if_pos (by omega)]
      exact h2 _ (by omega) (by omega)
    · rw [if_neg a1]
      by_cases a2 : l < i ∧ i ≤ k
      · rw [if_pos a2, if_neg (by omega), if_pos (by omega)]
        exact ha _ _ (by omega) (by omega)
      · rw [if_neg a2]
        by_cases b1 : j = l
        · rw [if_pos b1]; exact h1 i (by omega)
        · rw [if_neg b1]
          by_cases b2 : l < j ∧ j ≤ k
          · rw [if_pos b2]
            exact ha _ _ (by omega) (by omega)
          · rw [if_neg b2]
            exact ha _ _ hij (by omega)
theorem sort_ok (h2 : 2 ≤ N) {Q : Array Nat → Shared → Prop} (h0 : ∀ q, Pm N q → Asc lt q N → Q q s) : (kas_sort N).kasWp cmp Q s := by
  unfold kas_sort
  rw [KasT.kasWp_bind]
  refine count_ok O hc (Array.Perm.refl _) h2 fun m q a b hp ha => ?_
  show KasT.kasWp cmp (if m < N then _ else _) Q s
  by_cases e : m < N
  · rw [if_pos e]
    have em : max m 1 = m := by omega
    show KasT.kasWp cmp (kas_bin (N - max m 1) q (max m 1)) Q s
    rw [em]
    exact bin_ok O hc h0 (N - m) q m (by omega) hp ha
  · rw [if_neg e]
    have : m = N := by omega
    subst this
    exact h0 q hp ha
end
end L2

set_option Elab.async false
set_option linter.all false
set_option maxRecDepth 100000
set_option maxHeartbeats 4000000
namespace L2
open PySem PySem.Spec PyProof.Rows PySem.W PySem.Calls

section
variable {prog : Program} {w : World} {A : Around} {E : Value → Shared → Prop} {s : Shared}
/-- what a sort of values asks: the kind of its keys, and each question answered by lt, nothing changed -/
noncomputable def Asked (prog : Program) (w : World) (A : Around) (vs : List Value) (lt : Nat → Nat → Bool) (s : Shared) : Prop :=
  ∃ κ : SortKind, (∀ Q : SortKind → Shared → Prop, Q κ s → wpAny (model prog w) A (keyKind' vs.toArray) Q (fun _ _ => False) s) ∧
    ∀ (i j : Nat) (C : Bool → Shared → Prop), i < vs.length → j < vs.length → i ≠ j → C (lt i j) s → kas_ask prog w A κ vs i j C s
noncomputable def outOf (vs : List Value) (p : Array Nat) : List Value := p.toList.map fun i => vs.getD i Value.none
theorem rsort_tree {lt : Nat → Nat → Bool} {a : Addr} {vs : List Value} {n : Nat} {P : PySem.Fin → Shared → Prop} (ho : s.heap.get? a = some (seqObj "list" vs.toArray n)) (h64 : vs.length < 64) (O : Ord vs.length lt)
    (hk : 2 ≤ vs.length → ∀ s' : Shared, (∀ b o, b ≠ a → s.heap.get? b = some o → s'.heap.get? b = some o) → Asked prog w A vs lt s')
    (h : ∀ p, Pm vs.length p → Asc lt p vs.length → P (.done (.ret .none)) { s with heap := sortedHeap s.heap a vs (outOf vs p).toArray }) :
    wpAny (model prog w) A (Builtin.«list.sort» ⟨[.ref a], []⟩) P E s := by
  rw [list_sort_plain]
  have hlt : a < s.heap.objs.size := Heap.lt_size ho
  have hfit : vs.length ≤ sizeLine := by rw [sizeLine_eq]; omega
  refine wpAny_bind (listItems_at ho rfl (wpAny_bind (listUpdate_at ho rfl ?_ (by rw [List.size_toArray]; exact hfit) (Nat.zero_le _))))
  obtain ⟨e1, ho1⟩ : ∃ e1, (s.heap.update a (Obj.mapSeq fun _ => (#[] : Array Value))).get? a = some (seqObj "list" #[] e1) := ⟨_, get?_update_seq ho fun _ => #[]⟩
  refine wpAny_bind (seqEpoch_at ho1 rfl (wpAny_bind (wpAny_newTuple (wpAny_bind (wpAny_newList (wpAny_holding ?_) (Nat.zero_le _))) (by show vs.length ≤ _; exact hfit))))
  have ho2 : (((s.heap.update a (Obj.mapSeq fun _ => (#[] : Array Value))).push (seqObj "tuple" vs.toArray 0)).push (seqObj "list" #[] 0)).get? a = some (seqObj "list" #[] e1) := Heap.get?_push_of_some _ (Heap.get?_push_of_some _ ho1)
  show wpAny (model prog w) A _ P E { s with heap := ((s.heap.update a (Obj.mapSeq fun _ => (#[] : Array Value))).push (seqObj "tuple" vs.toArray 0)).push (seqObj "list" #[] 0) }
  dsimp only
  by_cases h2 : vs.toArray.size < 2
  · rw [if_pos h2, if_pos h2]
    refine wpAny_bind (wpAny_pure ?_)
    rw [StateT.run_pure]
    refine wpAny_bind (wpAny_pure ?_)
    dsimp only
    have hz : ((vs.toArray.zip vs.toArray).map (·.2)) = (outOf vs (List.toArray (List.range vs.length))).toArray := by
      unfold outOf
      apply Array.ext
      · simp
      · intro i h1 h2
        simp only [Array.size_map, Array.size_zip, List.size_toArray, Nat.min_self] at h1
        simp [h1]
    have es : vs.toArray.size = vs.length := by simp
    refine wpAny_bind (seqEpoch_at ho2 rfl (wpAny_bind (listUpdate_at ho2 rfl ?_ (Nat.zero_le _) ?_)))
    · simp only [bne_self_eq_false, Bool.false_eq_true, if_false]
      have q := h (List.toArray (List.range vs.length)) (Array.Perm.refl _) (fun i j hij hj => by omega)
      unfold sortedHeap at q
      rw [← hz] at q
      exact wpAny_pure q
    · show ((vs.toArray.zip vs.toArray).map (·.2)).size ≤ sizeLine + 1
      simp only [Array.size_map, Array.size_zip, List.size_toArray, Nat.min_self]
      omega
  · have h2' : 2 ≤ vs.length := by rw [List.size_toArray] at h2; omega
    rw [if_neg h2, if_neg h2]
    obtain ⟨κ, kd, ask⟩ := hk h2' { s with heap := ((s.heap.update a (Obj.mapSeq fun _ => (#[] : Array Value))).push (seqObj "tuple" vs.toArray 0)).push (seqObj "list" #[] 0) } fun b o hb e =>
      Heap.get?_push_of_some _ (Heap.get?_push_of_some _ (by rw [Heap.get?_update_ne _ _ _ _ hb]; exact e))
    refine wpAny_bind (wpAny_mono (E := fun _ _ => False) (Q := fun k s' => k = κ ∧ s' = { s with heap := ((s.heap.update a (Obj.mapSeq fun _ => (#[] : Array Value))).push (seqObj "tuple" vs.toArray 0)).push (seqObj "list" #[] 0) }) (kd _ ⟨rfl, rfl⟩) ?_ fun _ _ f => f.elim)
    rintro k s' ⟨rfl, rfl⟩
    refine wpAny_bind (wpAny_mono (kat_run (ks := vs) (G := fun p s' => (Pm vs.length p ∧ Asc lt p vs.length) ∧ s' = { s with heap := ((s.heap.update a (Obj.mapSeq fun _ => (#[] : Array Value))).push (seqObj "tuple" vs.toArray 0)).push (seqObj "list" #[] 0) })
      (Q := fun st' s' => ∃ p : Array Nat, arrOf st' = p.map (kas_item (vs.toArray.zip vs.toArray)) ∧ failedOf st' = none ∧ (Pm vs.length p ∧ Asc lt p vs.length) ∧ s' = { s with heap := ((s.heap.update a (Obj.mapSeq fun _ => (#[] : Array Value))).push (seqObj "tuple" vs.toArray 0)).push (seqObj "list" #[] 0) })
      rfl h2' h64 (fun p st' s' _ a2 a3 a4 => ⟨p, a2, a3, a4⟩) (sort_ok O ask h2' fun q hq ha => ⟨⟨hq, ha⟩, rfl⟩)) ?_ fun _ _ e => e)
    rintro ⟨⟨⟩, st'⟩ s' ⟨p, har, hf, ⟨hp, ha⟩, rfl⟩
    dsimp only
    rw [kat_snds rfl har]
    have hsz : (List.toArray (p.toList.map fun i => vs.getD i Value.none)).size ≤ sizeLine + 1 := by
      rw [List.size_toArray, List.length_map, Array.length_toList, hp.size]; omega
    refine wpAny_bind (seqEpoch_at ho2 rfl (wpAny_bind (listUpdate_at ho2 rfl ?_ (Nat.zero_le _) hsz)))
    rw [hf]
    simp only [bne_self_eq_false, Bool.false_eq_true, if_false]
    exact wpAny_pure (h p hp ha)

/-- a list or a tuple, gathered -/
theorem collect_any {l : Addr} {o : Obj} {vs : List Value} {n : Nat} {T : String} {Q : List Value → Shared → Prop} (hT : T = "list" ∨ T = "tuple") (ho : s.heap.get? l = some o) (hc : o.cls = .type T) (hd : o.data = .seq vs.toArray n)
    (h : Q vs { s with heap := (s.heap.push (seqObj "list" #[] 0)).update s.heap.objs.size (Obj.mapSeq (· ++ vs.toArray)) }) (hsz : vs.length ≤ sizeLine) : wpAny (model prog w) A (collect (.ref l)) Q E s := by
  rcases hT with rfl | rfl
  · exact collect_list ⟨o, ho, hc, n, hd⟩ h hsz
  · unfold collect
    refine wpAny_bind (wpAny_runValue (codeAny_builtin entry_proto_collect' ?_))
    show wpAny _ _ (do again (.builtin "list.__iadd__" ⟨[← newList [], .ref l], []⟩)) _ _ s
    refine wpAny_bind (wpAny_newList (wpAny_pure ⟨Code.quiet_builtin _ (by decide +kernel), codeAny_builtin entry_list_iadd' ?_⟩))
    show wpAny _ _ (Builtin.List.listExtendWith (.ref s.heap.objs.size) (.ref l) (.ref s.heap.objs.size)) _ _ { s with heap := s.heap.push (seqObj "list" #[] 0) }
    unfold Builtin.List.listExtendWith
    have ho' : (s.heap.push (seqObj "list" #[] 0)).get? l = some o := Heap.get?_push_of_some _ ho
    refine wpAny_bind (wpAny_typeOf (T := "tuple") ⟨o, ho', hc⟩ ?_)
    rw [if_pos (by rw [show (Value.type "tuple" == Value.type "tuple") = true from rfl]; simp)]
    refine wpAny_bind (listItems_at ho' hd (wpAny_bind (listItems_at (xs := #[]) (n := 0) (Heap.get?_push_size _ rfl) rfl ?_)))
    rw [if_neg (by simp)]
    refine wpAny_bind (listUpdate_at (xs := #[]) (n := 0) (Heap.get?_push_size _ rfl) rfl (wpAny_pure ?_) (Nat.zero_le _) (by show (#[] ++ vs.toArray).size ≤ sizeLine + 1; simp only [Array.size_append, List.size_toArray, List.length_nil]; omega))
    show wpAny (model prog w) A (do
        let o ← load s.heap.objs.size
        match o.data with
        | .seq xs _ => pure xs.toList
        | _ => unsupported "internal:collect") Q E { s with heap := (s.heap.push (seqObj "list" #[] 0)).update s.heap.objs.size (Obj.mapSeq (· ++ vs.toArray)) }
    refine wpAny_bind (wpAny_load (get?_update_seq (Heap.get?_push_size _ rfl) _) ?_)
    show wpAny _ _ (pure ((#[] : Array Value) ++ vs.toArray).toList) Q E _
    rw [show ((#[] : Array Value) ++ vs.toArray).toList = vs by simp]
    exact wpAny_pure h

theorem rsorted {lt : Nat → Nat → Bool} {l : Addr} {o : Obj} {vs : List Value} {n : Nat} {T : String} {Q : Value → Shared → Prop} (hT : T = "list" ∨ T = "tuple") (ho : s.heap.get? l = some o) (hc : o.cls = .type T) (hd : o.data = .seq vs.toArray n) (h64 : vs.length < 64) (O : Ord vs.length lt)
    (hk : 2 ≤ vs.length → ∀ s' : Shared, (∀ b o, s.heap.get? b = some o → s'.heap.get? b = some o) → Asked prog w A.in1.in1 vs lt s')
    (h : ∀ p, Pm vs.length p → Asc lt p vs.length → Q (.ref (s.heap.objs.size + 1)) { s with heap := sortedAll s.heap vs (outOf vs p).toArray }) : wpAny (model prog w) A (call (.builtin "sorted") [.ref l]) Q E s := by
  refine Calls.call_function_entry kind_sorted plain_sorted entry_sorted (args_sorted1 _) ?_
  unfold Builtin.«sorted»
  refine wpAny_bind (m := checkCount "sorted" 1 1 _) (wpAny_pure (wpAny_bind (collect_any hT ho hc hd (wpAny_bind (wpAny_newList ?_ (by rw [sizeLine_eq]; omega))) (by rw [sizeLine_eq]; omega))))
  have hsz : ((s.heap.push (seqObj "list" #[] 0)).update s.heap.objs.size (Obj.mapSeq (· ++ vs.toArray))).objs.size = s.heap.objs.size + 1 := by rw [Heap.size_update, size_push']
  have hoL : (((s.heap.push (seqObj "list" #[] 0)).update s.heap.objs.size (Obj.mapSeq (· ++ vs.toArray))).push (seqObj "list" vs.toArray 0)).get? (s.heap.objs.size + 1) = some (seqObj "list" vs.toArray 0) := by
    rw [← hsz]
    exact Heap.get?_push_size _ rfl
  show wpAny _ _ _ _ _ { s with heap := ((s.heap.push (seqObj "list" #[] 0)).update s.heap.objs.size (Obj.mapSeq (· ++ vs.toArray))).push (seqObj "list" vs.toArray 0) }
  rw [hsz]
  have kp : ∀ b o, s.heap.get? b = some o → (((s.heap.push (seqObj "list" #[] 0)).update s.heap.objs.size (Obj.mapSeq (· ++ vs.toArray))).push (seqObj "list" vs.toArray 0)).get? b = some o := fun b ob e => by
    have hb := Heap.lt_size e
    refine Heap.get?_push_of_some _ ?_
    rw [Heap.get?_update_ne _ _ _ _ (Nat.ne_of_lt hb)]
    exact Heap.get?_push_of_some _ e
  refine wpAny_bind (wpAny_holding (wpAny_call_entry slot_list_sort ⟨_, hoL, rfl⟩ entry_list_sort (rsort_tree hoL h64 O (fun z s' hs' => hk z s' fun b ob e => hs' b ob (by have := Heap.lt_size e; exact Nat.ne_of_lt (Nat.lt_succ_of_lt this)) (kp b ob e)) fun p hp ha => ⟨_, rfl, ?_⟩) (args_list_sort _)))
  exact wpAny_pure ⟨_, rfl, h p hp ha⟩
end

/-! ### rows: tuples whose first thing is a text -/
theorem katGet {h : Heap} : ∀ {vs fs : List Value}, KatTups h vs fs → ∀ (i : Nat), i < vs.length → ∃ a o xs n f, vs.getD i Value.none = .ref a ∧ h.get? a = some o ∧ o.data = .seq xs n ∧ xs[0]? = some f ∧ fs[i]? = some f
  | [], [], _, i, hi => absurd hi (Nat.not_lt_zero _)
  | [], _ :: _, t, _, _ => t.elim
  | _ :: _, [], t, _, _ => t.elim
  | v :: vs, f :: fs, t, 0, _ => by
    obtain ⟨⟨a, o, xs, n, rfl, ho, hc, hd, hf⟩, _⟩ := t
    exact ⟨a, o, xs, n, f, rfl, ho, hd, hf, rfl⟩
  | v :: vs, f :: fs, t, i + 1, hi => by
    obtain ⟨_, t⟩ := t
    obtain ⟨a, o, xs, n, g, e1, e2, e3, e4, e5⟩ := katGet t i (by simpa using hi)
    exact ⟨a, o, xs, n, g, by simpa using e1, e2, e3, e4, by simpa using e5⟩
theorem strGet : ∀ {fs : List Value} {ss : List Str}, StrsAre fs ss → ∀ (i : Nat) (f : Value), fs[i]? = some f → ∃ t, f = .str (ss.getD i Str.empty) t ∧ i < ss.length
  | _, _, .nil, i, f, h => by simp at h
  | _, _, .cons y t r, 0, f, h => by simp at h; exact ⟨t, h.symm, by simp⟩
  | _, _, .cons y t r, i + 1, f, h => by
    obtain ⟨t', e1, e2⟩ := strGet r i f (by simpa using h)
    exact ⟨t', by simpa using e1, by simpa using e2⟩
theorem rowAsk {prog : Program} {w : World} {A : Around} {s : Shared} {vs fs : List Value} {ss : List Str} (t : KatTups s.heap vs fs) (hS : StrsAre fs ss) (hne : 0 < fs.length) (hnd : ss.Nodup) :
    Asked prog w A vs (fun i j => decide ((ss.getD i Str.empty).cps.toList < (ss.getD j Str.empty).cps.toList)) s := by
  refine ⟨tuples' (Value.type "str" != Value.type "tuple"), fun Q q => kat_kind (T := Value.type "str") t hne (fun v hv => ?_) (by decide) q, fun i j C hi hj hij q => ?_⟩
  · obtain ⟨x, u, rfl⟩ := hS.all v hv
    exact Looks.now
  · obtain ⟨a, o, xs, n, f, e1, e2, e3, e4, e5⟩ := katGet t i hi
    obtain ⟨b, o', ys, n', g, g1, g2, g3, g4, g5⟩ := katGet t j hj
    obtain ⟨tf, rfl, hil⟩ := strGet hS i f e5
    obtain ⟨tg, rfl, hjl⟩ := strGet hS j g g5
    unfold kas_ask
    rw [e1, g1]
    refine kat_lt e2 e3 g2 g3 ?_
    obtain ⟨xr, hx⟩ : ∃ xr, xs.toList = .str (ss.getD i Str.empty) tf :: xr := by
      cases hq : xs.toList with
      | nil => rw [← Array.getElem?_toList, hq] at e4; simp at e4
      | cons z zr => rw [← Array.getElem?_toList, hq] at e4; simp at e4; rw [e4]; exact ⟨zr, rfl⟩
    obtain ⟨yr, hy⟩ : ∃ yr, ys.toList = .str (ss.getD j Str.empty) tg :: yr := by
      cases hq : ys.toList with
      | nil => rw [← Array.getElem?_toList, hq] at g4; simp at g4
      | cons z zr => rw [← Array.getElem?_toList, hq] at g4; simp at g4; rw [g4]; exact ⟨zr, rfl⟩
    rw [hx, hy]
    have hnE : ss.getD i Str.empty ≠ ss.getD j Str.empty := by
      rw [List.getD_eq_getElem?_getD, List.getD_eq_getElem?_getD, List.getElem?_eq_getElem hil, List.getElem?_eq_getElem hjl]
      intro z
      have z' : ss[i] = ss[j] := z
      rcases Nat.lt_or_gt_of_ne hij with y | y
      · exact List.pairwise_iff_getElem.mp hnd i j hil hjl y z'
      · exact List.pairwise_iff_getElem.mp hnd j i hjl hil y z'.symm
    show KatLex prog w A _ _ C ((Value.str (ss.getD i Str.empty) tf, Value.str (ss.getD j Str.empty) tg) :: xr.zip yr) 0 s
    refine kat_cons (wpAny_eqBool_str ?_)
    rw [decide_eq_false hnE]
    refine kat_no ?_
    show wpAny _ A (oneLt' true _ _) C _ s
    exact strKind_oneLt prog w A _ s _ _ _ _ rfl rfl q

theorem str_tri {x y : Str} (h : x ≠ y) : x.cps.toList < y.cps.toList ∨ y.cps.toList < x.cps.toList := by
  by_cases c : x.cps.toList < y.cps.toList
  · exact .inl c
  · rcases List.le_iff_lt_or_eq.mp (List.not_lt.mp c) with z | z
    · exact .inr z
    · refine absurd ?_ h
      obtain ⟨a⟩ := x
      obtain ⟨b⟩ := y
      have e : b = a := Array.toList_inj.mp z
      rw [e]
/-- a list of rows: places and the texts that stand first in them -/
noncomputable def RowsIn (H : Hp) (rs : List (Addr × Str)) : Prop := ∀ r ∈ rs, ∃ rest, H r.1 = some (.tup (.str r.2 :: rest))
noncomputable abbrev refs (rs : List (Addr × Str)) : List V := rs.map fun r => V.ref r.1
noncomputable def nlt (x y : Str) : Prop := x.cps.toList < y.cps.toList
theorem katTups_of {P : Program} {w : World} {H : Hp} {h : Heap} (ok : HOk P w H h) : ∀ {rs : List (Addr × Str)} {us : List Value}, RowsIn H rs → Vals (refs rs) us → ∃ fs, KatTups h us fs ∧ StrsAre fs (rs.map (·.2))
  | [], us, _, r => by cases r; exact ⟨[], trivial, .nil⟩
  | x :: rs, us, hr, r => by
    cases r with
    | @cons _ u _ us' r1 r2 =>
      obtain ⟨fs, t, q⟩ := katTups_of ok (rs := rs) (fun y hy => hr y (List.mem_cons_of_mem _ hy)) r2
      obtain ⟨rest, e⟩ := hr x List.mem_cons_self
      cases (show u = Value.ref x.1 from r1)
      obtain ⟨_, its, rv, o, ho, hc, n, hd⟩ := (show ObjOk P w H h x.1 (.tup (.str x.2 :: rest)) from ok x.1 _ e)
      cases rv with
      | @cons _ f _ its' rf _ =>
        obtain ⟨tk, rfl⟩ := rf
        exact ⟨.str x.2 tk :: fs, KatTups.cons ho hc hd (by simp) t, .cons _ _ q⟩
theorem vals_pick {xs : List V} {us : List Value} (r : Vals xs us) : ∀ {ps : List Nat}, (∀ i ∈ ps, i < xs.length) → Vals (ps.map fun i => xs.getD i .non) (ps.map fun i => us.getD i Value.none)
  | [], _ => .nil
  | i :: ps, h => by
    have hi := h i List.mem_cons_self
    obtain ⟨u, e, ru⟩ := r.get (List.getElem?_eq_getElem hi)
    refine .cons ?_ (vals_pick r fun j hj => h j (List.mem_cons_of_mem _ hj))
    show RelV (xs.getD i .non) (us.getD i Value.none)
    rw [List.getD_eq_getElem?_getD, List.getD_eq_getElem?_getD, List.getElem?_eq_getElem hi, e]
    exact ru
theorem pick_perm {α : Type} (d : α) (xs : List α) {p : Array Nat} (h : Pm xs.length p) : (p.toList.map fun i => xs.getD i d).Perm xs := by
  have hp : p.toList.Perm (List.range xs.length) := by simpa using Array.perm_iff_toList_perm.mp h
  have e : (List.range xs.length).map (fun i => xs.getD i d) = xs := by
    apply List.ext_getElem
    · simp
    · intro i h1 h2
      simp [h2]
  exact (hp.map _).trans (by rw [e])
section
variable {X : Cx}
/-- sorted of a list or a tuple of rows with unlike names -/
theorem call_sortedR : CallR X (.builtin "sorted") (fun xs H Q => ∃ (p : Addr) (rs : List (Addr × Str)), xs = [.ref p] ∧ (SqL X.K H p (refs rs) ∨ SqT X.K H p (refs rs)) ∧ RowsIn H rs ∧ rs.length < 64 ∧ (rs.map (·.2)).Nodup ∧
    ∀ (rs' : List (Addr × Str)) (q : Addr), rs'.Perm rs → (rs'.map (·.2)).Pairwise nlt → H q = none → Q (.ref q) (upd H q (.lst (refs rs')))) := by
  intro pins s σ H xs us Q I r h
  obtain ⟨p, rs, rfl, hq, hR, h64, hnd, q⟩ := h
  obtain ⟨u, rfl, rx⟩ := vals1 r
  cases rx
  have core : ∀ (T : String) (o : Obj) (its : List Value) (n : Nat), (T = "list" ∨ T = "tuple") → s.heap.get? p = some o → o.cls = .type T → o.data = .seq its.toArray n → Vals (refs rs) its →
      wpAny (model X.prog X.w) X.A (call (.builtin "sorted") [.ref p]) (EP X pins σ Q) X.xe s := fun T o its n hT ho hc hd r' => by
    have hl := r'.length
    have hl' : its.length = rs.length := by rw [← hl]; simp
    have O : Ord its.length (fun i j => decide (((rs.map (·.2)).getD i Str.empty).cps.toList < ((rs.map (·.2)).getD j Str.empty).cps.toList)) := by
      refine ⟨fun i j k h1 h2 => ?_, fun i => ?_, fun i j hi hj hij => ?_⟩
      · exact decide_eq_true (List.lt_trans (of_decide_eq_true h1) (of_decide_eq_true h2))
      · exact decide_eq_false (List.lt_irrefl _)
      · have hil : i < (rs.map (·.2)).length := by simpa [← hl'] using hi
        have hjl : j < (rs.map (·.2)).length := by simpa [← hl'] using hj
        rw [List.getD_eq_getElem?_getD, List.getD_eq_getElem?_getD, List.getElem?_eq_getElem hil, List.getElem?_eq_getElem hjl]
        have ne : (rs.map (·.2))[i] ≠ (rs.map (·.2))[j] := by
          rcases Nat.lt_or_gt_of_ne hij with y | y
          · exact List.pairwise_iff_getElem.mp hnd i j hil hjl y
          · exact fun z => List.pairwise_iff_getElem.mp hnd j i hjl hil y z.symm
        exact (str_tri ne).imp decide_eq_true decide_eq_true
    refine rsorted hT ho hc hd (by omega) O (fun h2 s' hs' => ?_) fun pm hp ha => ?_
    · obtain ⟨fs, t, hS⟩ := katTups_of (I.hok.kept hs') hR r'
      have hfl : 0 < fs.length := by
        have := hS.length
        simp at this
        omega
      exact rowAsk t hS hfl hnd
    · obtain ⟨e, he⟩ := sortedAll_at s.heap its (outOf its pm).toArray
      have hpm : Pm rs.length pm := by rw [← hl']; exact hp
      have hlt : ∀ i ∈ pm.toList, i < rs.length := fun i hi => by
        have : i ∈ (List.toArray (List.range rs.length)) := hpm.mem_iff.mp (by simpa using hi)
        simpa using this
      have hv : Vals ((pm.toList.map fun i => (refs rs).getD i .non)) (outOf its pm) := vals_pick r' fun i hi => by simpa using hlt i hi
      have he2 : (pm.toList.map fun i => (refs rs).getD i .non) = refs (pm.toList.map fun i => rs.getD i (0, Str.empty)) := by
        unfold refs
        rw [List.map_map]
        exact List.map_congr_left fun i hi => by simp [hlt i hi]
      rw [he2] at hv
      have hfr : H (s.heap.objs.size + 1) = none := I.hok.fresh (Nat.le_succ _)
      have hpe := pick_perm (0, Str.empty) rs hpm
      refine ⟨.ref (s.heap.objs.size + 1), _, I.laid (t' := s.toks) (o := .lst (refs (pm.toList.map fun i => rs.getD i (0, Str.empty)))) (fun b o z => sortedAll_old z) (Nat.le_succ _) ⟨?_, outOf its pm, e, hv, ?_⟩, rfl, q _ _ hpe ?_ hfr⟩
      · unfold refs
        rw [List.length_map, hpe.length_eq, sizeLine_eq]; omega
      · simpa [seqObj] using he
      · rw [List.map_map, List.pairwise_map]
        refine List.pairwise_iff_getElem.mpr fun i j hi hj hij => ?_
        have hps := hp.size
        have hi' : i < pm.size := by simpa using hi
        have hj' : j < pm.size := by simpa using hj
        have z := of_decide_eq_true (ha i j hij (by omega))
        rw [gp_eq hi', gp_eq hj'] at z
        show ((rs.getD pm.toList[i] (0, Str.empty)).2).cps.toList < ((rs.getD pm.toList[j] (0, Str.empty)).2).cps.toList
        have b1 := hlt pm.toList[i] (List.getElem_mem _)
        have b2 := hlt pm.toList[j] (List.getElem_mem _)
        simp only [Array.getElem_toList] at b1 b2 ⊢
        simpa [b1, b2] using z
  rcases hq with hq | hq
  · obtain ⟨its, r', pl, hz⟩ := I.list hq
    obtain ⟨o, ho, hc, n, hd⟩ := pl.isList
    exact core "list" o its n (.inl rfl) ho hc hd r'
  · obtain ⟨its, r', pl, hz⟩ := I.tuple hq
    obtain ⟨o, ho, hc, n, hd⟩ := pl
    exact core "tuple" o its n (.inr rfl) ho hc hd r'
end
end L2

set_option Elab.async false
set_option linter.all false
set_option maxRecDepth 100000
set_option maxHeartbeats 4000000
namespace L2
open PySem PySem.Spec PyProof.Rows

/-! ### the signs of a plain text -/
noncomputable def Its (x : Str) : It := ⟨fun i _ => i < x.length, fun i H v H' => H' = H ∧ ∃ c, x.cps[i]? = some c ∧ v = .str ⟨#[c]⟩, fun i _ => x.length ≤ i⟩
theorem turn_str {P : Program} {w : World} {K : PySem.W.Frag} {tg : Expr} (x : Str) (t : Tok) (it : Addr) : Turn P w K tg (Its x) [it] it (fun i h => h.IsStrIter it "str_ascii_iterator" x t i) where
  mem := by simp
  obj := fun i h st b hb => by
    have e : b = it := by simpa using hb
    subst e
    obtain ⟨o, e, c, d⟩ := st
    exact ⟨o, e, fun v z => by rw [d] at z; cases z⟩
  keep := fun i h h' st k => by
    obtain ⟨o, e, r⟩ := st
    exact ⟨o, k it (by simp) o e, r⟩
  item := by
    intro X hP hw hK hc i pins s σ H E I hf st hg
    subst hP hw hK
    have hg' : i < x.cps.size := hg
    obtain ⟨f0, f1, f2, f3, f4, f5⟩ := hf it (by simp)
    refine wpAny_pyNext_ascii_item st (Array.getElem?_eq_getElem hg') fun h' st' sb => ?_
    have I1 : Inv X pins σ H { s with heap := h', toks := s.toks + 1 } := I.turned (fun b o hb e => (sb.2 b hb).trans e) f0 f1 f3 f4 f5
    obtain ⟨o, e, c, d⟩ := id st'
    exact ⟨_, rfl, go_of (s := { s with heap := h', toks := s.toks + 1 }) e c d (by decide) ⟨.str ⟨#[x.cps[i]]⟩, H, I1, ⟨_, rfl⟩, ⟨rfl, _, Array.getElem?_eq_getElem hg', rfl⟩, st', fun b hb => (hf b hb).1⟩⟩
  done := by
    intro X hP hw hK hc i pins s σ H E I hf st hg
    subst hP hw hK
    have hg' : x.cps.size ≤ i := hg
    obtain ⟨f0, f1, f2, f3, f4, f5⟩ := hf it (by simp)
    exact wpAny_pyNext_ascii_end (I.ok.hd hc) st (Array.getElem?_eq_none hg') fun h' eb => ⟨rfl, I.turned (t' := s.toks) (fun b o hb e => eb b o hb e) f0 f1 f3 f4 f5⟩
  self := fun A i s Q E st h => wpAny_pyIter_striter_ascii st h
section
variable {X : Cx} {tg : Expr}
noncomputable def iStr (tl : TE) : TI := fun σ H R => tl σ H fun v H1 => ∃ x : Str, v = .str x ∧ x.cps.all (· < 128) = true ∧ R (Its x) H1
theorem pi_str {l : Expr} {tl : TE} (hl : PE X l tl) : PI X tg l (iStr tl) := by
  intro pins s σ H R I h
  refine thn (hl pins s σ H _ I h) fun v s1 ⟨x, H1, I1, r1, q1⟩ => ?_
  obtain ⟨y, rfl, ha, q⟩ := q1
  obtain ⟨t, rfl⟩ := r1
  refine wpAny_pyIter_ascii ha ?_
  refine ⟨s1.heap.objs.size, [s1.heap.objs.size], _, _, H1, rfl, I1.kept (t' := s1.toks) fun b o e => Heap.get?_push_of_some _ e, turn_str y t _, ⟨_, Heap.get?_push_size _ rfl, rfl, rfl⟩, fun b hb => ?_, q⟩
  have e : b = s1.heap.objs.size := by simpa using hb
  subst e
  exact I1.fpOk (Nat.le_refl _) (I1.hok.fresh (Nat.le_refl _))

/-! ### slices -/
theorem sl_str : SlR X (fun x lo hi H Q => ∃ z, x = .str z ∧ z.length ≤ sizeLine ∧ Q (.str (Txt.slice z lo hi)) H) := by
  intro pins s σ H x v vl vu lo hi sl Q I rx hs pl pu h
  obtain ⟨z, rfl, hz, q⟩ := h
  obtain ⟨t, rfl⟩ := rx
  have fin : ∀ (t' : Tok) (k : Nat), EP X pins σ Q (.str (Txt.slice z lo hi) t') { s with toks := k } := fun t' k => ⟨.str (Txt.slice z lo hi), H, I.tok k, ⟨_, rfl⟩, q⟩
  refine ⟨"str", _, F.slot_str_getitem.lookup, typeIs_str _ _ _, ?_⟩
  obtain ⟨o, ho, hc, hd⟩ := hs
  cases pl with
  | none =>
    cases pu with
    | none => exact wpAny_getItem_str_slice (l := none) (u := none) (st := none) ⟨o, ho, hc, hd⟩ rfl (post_val_or_str ⟨Nat.le_trans (Txt.slice_le z _ _) hz, fun t' k => fin t' k⟩)
    | int j uj => exact wpAny_getItem_str_slice (l := none) (u := some (j, uj)) (st := none) ⟨o, ho, hc, hd⟩ rfl (post_val_or_str ⟨Nat.le_trans (Txt.slice_le z _ _) hz, fun t' k => fin t' k⟩)
  | int i ui =>
    cases pu with
    | none => exact wpAny_getItem_str_slice (l := some (i, ui)) (u := none) (st := none) ⟨o, ho, hc, hd⟩ rfl (post_val_or_str ⟨Nat.le_trans (Txt.slice_le z _ _) hz, fun t' k => fin t' k⟩)
    | int j uj => exact wpAny_getItem_str_slice (l := some (i, ui)) (u := some (j, uj)) (st := none) ⟨o, ho, hc, hd⟩ rfl (post_val_or_str ⟨Nat.le_trans (Txt.slice_le z _ _) hz, fun t' k => fin t' k⟩)

/-- the whole of a tuple is the tuple -/
theorem tup_whole {prog : Program} {w : World} {A : Around} {E : Value → Shared → Prop} {s : Shared} {t sl : Addr} {items : Array Value} {vl vu : Value} {lo hi : Option Int} {Q : Value → Shared → Prop} (ht : IsTup s.heap t items) (hs : s.heap.IsSliceOf sl vl vu .none) (pl : IsPart vl lo) (pu : IsPart vu hi)
    (h0 : HT.sIx items.size 0 lo = 0) (h1 : HT.sIx items.size items.size hi = items.size) (h : Q (.ref t) s) : wpAny (model prog w) A (getItem (.ref t) (.ref sl)) Q E s := by
  obtain ⟨os, hos, hcs, hds⟩ := id hs
  have hTs : s.TypeIs (.ref sl) "slice" := ⟨os, hos, hcs⟩
  unfold getItem
  try with_reducible refine wpAny_holding ?_
  first | refine wpAny_bind (wpAny_pure ?_) | skip
  refine wpAny_bind (wpAny_sequenceKey ht.typeIs (by decide) (wpAny_bind (wpAny_callSpecial?_slot (name := Str.ofString "__getitem__") ht.typeIs PyProof.Rows.slot_tuple_getitem
    (wpAny_call_entry PyProof.Rows.slot_tuple_getitem ht.typeIs entry_tuple_getitem ?_ (args_tuple_getitem _ _)))))
  show wpAny _ _ (Builtin.Tuple.tupleItemsOf (.ref t) >>= _) _ _ s
  refine wpAny_bind (tupleItemsOf_ ht (wpAny_bind (wpAny_typeOf hTs ?_)))
  rw [if_pos (by decide)]
  refine wpAny_bind (HT.sliceApplied_gen hs pl pu ?_)
  show wpAny _ _ (if (((HT.sIx items.size 0 lo : Nat) : Int) == 0 && (1 : Int) == 1 && (HT.sIx items.size items.size hi - HT.sIx items.size 0 lo) == items.size) = true then _ else _) _ _ s
  rw [h0, h1, if_pos (by simp)]
  refine wpAny_bind (wpAny_bind (wpAny_typeOf ht.typeIs (wpAny_pure ?_)))
  rw [if_pos (by rfl)]
  exact wpAny_bind (wpAny_rule (wpAny_pure ⟨_, rfl, wpAny_pure h⟩))
/-- t[lo:hi] of any tuple -/
noncomputable def rSlA (K : PySem.W.Frag) : V → Option Int → Option Int → Hp → VK → Prop := fun x lo hi H Q => ∃ a xs, x = .ref a ∧ SqT K H a xs ∧
  (cutV xs lo hi = xs → Q (.ref a) H) ∧ ∀ p, H p = none → Q (.ref p) (upd H p (.tup (cutV xs lo hi)))
theorem sl_tupA : SlR X (rSlA X.K) := by
  intro pins s σ H x v vl vu lo hi sl Q I rx hs pl pu h
  obtain ⟨a, xs, rfl, hx, q1, q2⟩ := h
  by_cases hw : HT.sIx xs.length 0 lo = 0 ∧ HT.sIx xs.length xs.length hi = xs.length
  · cases rx
    obtain ⟨its, r, ht, hz⟩ := I.tuple hx
    have hlen : its.toArray.size = xs.length := by rw [List.size_toArray]; exact r.length.symm
    refine ⟨"tuple", _, PyProof.Rows.slot_tuple_getitem.lookup, ht.typeIs, tup_whole ht hs pl pu (by rw [hlen]; exact hw.1) (by rw [hlen]; exact hw.2) ⟨.ref a, H, I, rfl, q1 ?_⟩⟩
    unfold cutV
    rw [hw.1, hw.2]
    simp
  · exact sl_tup pins s σ H (.ref a) v vl vu lo hi sl Q I rx hs pl pu ⟨a, xs, rfl, hx, hw, q2⟩

/-- t + u of any tuples -/
noncomputable def rCatA (K : PySem.W.Frag) : R2 := fun x y H Q => ∃ a b xs ys, x = .ref a ∧ y = .ref b ∧ SqT K H a xs ∧ SqT K H b ys ∧ xs.length + ys.length ≤ sizeLine ∧
  (xs = [] → Q (.ref b) H) ∧ (ys = [] → Q (.ref a) H) ∧ ∀ p, H p = none → Q (.ref p) (upd H p (.tup (xs ++ ys)))
theorem op_catA : OpR X (binaryOp .Add) (rCatA X.K) := by
  intro pins s σ H x y v u Q I rx ry h
  obtain ⟨a, b, xs, ys, rfl, rfl, ha, hb, hz, q0, q1, q2⟩ := h
  by_cases hx : xs = []
  · subst hx
    cases rx
    cases ry
    obtain ⟨its, r1, p1, _⟩ := I.tuple ha
    obtain ⟨its2, r2, p2, _⟩ := I.tuple hb
    cases r1
    obtain ⟨⟨cls, dd, data, sl⟩, ho, hc, n, hd⟩ := id p1
    obtain ⟨⟨cls2, dd2, data2, sl2⟩, ho2, hc2, n2, hd2⟩ := id p2
    simp only at hc hd hc2 hd2
    subst hc hd hc2 hd2
    exact concat_meets ⟨_, ho, rfl⟩ ⟨_, ho2, rfl⟩ noFill_tuple_add seq_tuple_add PySem.F.slot_tuple_add PySem.F.entry_tuple_add (PySem.F.args_tuple_add_2 _ _)
      (tuple_addW0 a b _ its2.toArray n n2 dd dd2 sl sl2 (by simp)) ⟨ho, ho2, ⟨.ref b, H, I, rfl, q0 rfl⟩⟩
  · exact op_catT pins s σ H (.ref a) (.ref b) v u Q I rx ry ⟨a, b, xs, ys, rfl, rfl, ha, hb, hx, hz, q1, fun _ => q2⟩

end
/-! ### what a comprehension's block shows, by an invariant over the turns -/
section
variable {K : PySem.W.Frag} {g : TG} {tt : TT} {te : TE} {σ' : St} {fin : List V → Hp → Prop} {H1 : Hp}
theorem lcw_gen {J : It} {n : Nat} (hn : n < sizeLine) (Pv : Nat → List V → St → Hp → Prop) (Yd : Nat → V → Prop) (h0 : Pv 0 [] σ' H1) (hl : ∀ i ys σ H, i ≤ n → Pv i ys σ H → ys.length ≤ i)
    (hgo : ∀ i ys σ H, i < n → Pv i ys σ H → J.go i H) (hst : ∀ ys σ H, Pv n ys σ H → J.stop n H) (hy : ∀ i ys σ H x H', i < n → Pv i ys σ H → J.yld i H x H' → H' = H ∧ Yd i x)
    (hs : ∀ i x ys σ H, i < n → Yd i x → Pv i ys σ H → g x σ H fun σ2 H2 => tt σ2 H2 fun b H3 => if b = true then te σ2 H3 (fun v H4 => Pv (i + 1) (ys ++ [v]) σ2 H4) else Pv (i + 1) ys σ2 H3) (hd : ∀ ys σ H, Pv n ys σ H → fin ys H) :
    LcW J g tt te σ' fin H1 := by
  refine ⟨fun i m ys σ H => m = n - i ∧ i ≤ n ∧ Pv i ys σ H, ⟨n, by simp, Nat.zero_le _, h0⟩, ?_⟩
  rintro i m ys σ H ⟨rfl, hi, p⟩
  have hly := hl i ys σ H hi p
  by_cases hlt : i < n
  · refine .inr ⟨hgo i ys σ H hlt p, by omega, fun ys' σ2 H2 => Pv (i + 1) ys' σ2 H2, fun ys' σ2 H2 q => ⟨n - (i + 1), by omega, rfl, hlt, q⟩, fun x H' y => ?_⟩
    obtain ⟨e, yd⟩ := hy i ys σ H x H' hlt p y
    subst e
    exact hs i x ys σ H' hlt yd p
  · have e : i = n := by omega
    subst e
    exact .inl ⟨hst ys σ H p, by omega, hd ys σ H p⟩
theorem lcw_tup {a : Addr} {xs : List V} (hn : xs.length < sizeLine) (Pv : Nat → List V → St → Hp → Prop) (h0 : Pv 0 [] σ' H1) (hl : ∀ i ys σ H, i ≤ xs.length → Pv i ys σ H → ys.length ≤ i ∧ SqT K H a xs)
    (hs : ∀ i x ys σ H, xs[i]? = some x → Pv i ys σ H → g x σ H fun σ2 H2 => tt σ2 H2 fun b H3 => if b = true then te σ2 H3 (fun v H4 => Pv (i + 1) (ys ++ [v]) σ2 H4) else Pv (i + 1) ys σ2 H3) (hd : ∀ ys σ H, Pv xs.length ys σ H → fin ys H) :
    LcW (Itt K a) g tt te σ' fin H1 :=
  lcw_gen hn Pv (fun i x => xs[i]? = some x) h0 (fun i ys σ H hi p => (hl i ys σ H hi p).1) (fun i ys σ H hi p => ⟨xs, xs[i], (hl i ys σ H (Nat.le_of_lt hi) p).2, by simp [hi]⟩) (fun ys σ H p => ⟨xs, (hl _ ys σ H (Nat.le_refl _) p).2, Nat.le_refl _⟩)
    (fun i ys σ H x H' hi p y => ⟨y.1, y.2 xs (hl i ys σ H (Nat.le_of_lt hi) p).2⟩) (fun i x ys σ H _ yd p => hs i x ys σ H yd p) hd
theorem lcw_list {a : Addr} {xs : List V} (hn : xs.length < sizeLine) (Pv : Nat → List V → St → Hp → Prop) (h0 : Pv 0 [] σ' H1) (hl : ∀ i ys σ H, i ≤ xs.length → Pv i ys σ H → ys.length ≤ i ∧ SqL K H a xs)
    (hs : ∀ i x ys σ H, xs[i]? = some x → Pv i ys σ H → g x σ H fun σ2 H2 => tt σ2 H2 fun b H3 => if b = true then te σ2 H3 (fun v H4 => Pv (i + 1) (ys ++ [v]) σ2 H4) else Pv (i + 1) ys σ2 H3) (hd : ∀ ys σ H, Pv xs.length ys σ H → fin ys H) :
    LcW (Itl K a) g tt te σ' fin H1 :=
  lcw_gen hn Pv (fun i x => xs[i]? = some x) h0 (fun i ys σ H hi p => (hl i ys σ H hi p).1) (fun i ys σ H hi p => ⟨xs, xs[i], (hl i ys σ H (Nat.le_of_lt hi) p).2, by simp [hi]⟩) (fun ys σ H p => ⟨xs, (hl _ ys σ H (Nat.le_refl _) p).2, Nat.le_refl _⟩)
    (fun i ys σ H x H' hi p y => ⟨y.1, y.2 xs (hl i ys σ H (Nat.le_of_lt hi) p).2⟩) (fun i x ys σ H _ yd p => hs i x ys σ H yd p) hd
theorem lcw_range {lo : Int} {n : Nat} (hn : n < sizeLine) (Pv : Nat → List V → St → Hp → Prop) (h0 : Pv 0 [] σ' H1) (hl : ∀ i ys σ H, i ≤ n → Pv i ys σ H → ys.length ≤ i)
    (hs : ∀ i ys σ H, i < n → Pv i ys σ H → g (.int (lo + i)) σ H fun σ2 H2 => tt σ2 H2 fun b H3 => if b = true then te σ2 H3 (fun v H4 => Pv (i + 1) (ys ++ [v]) σ2 H4) else Pv (i + 1) ys σ2 H3) (hd : ∀ ys σ H, Pv n ys σ H → fin ys H) :
    LcW (Itr lo n) g tt te σ' fin H1 :=
  lcw_gen hn Pv (fun i x => x = .int (lo + i)) h0 hl (fun i ys σ H hi p => hi) (fun ys σ H p => Nat.le_refl _) (fun i ys σ H x H' hi p y => y) (fun i x ys σ H hi yd p => by subst yd; exact hs i ys σ H hi p) hd
theorem lcw_str {x : Str} (hn : x.length < sizeLine) (Pv : Nat → List V → St → Hp → Prop) (h0 : Pv 0 [] σ' H1) (hl : ∀ i ys σ H, i ≤ x.length → Pv i ys σ H → ys.length ≤ i)
    (hs : ∀ i c ys σ H, x.cps[i]? = some c → Pv i ys σ H → g (.str ⟨#[c]⟩) σ H fun σ2 H2 => tt σ2 H2 fun b H3 => if b = true then te σ2 H3 (fun v H4 => Pv (i + 1) (ys ++ [v]) σ2 H4) else Pv (i + 1) ys σ2 H3) (hd : ∀ ys σ H, Pv x.length ys σ H → fin ys H) :
    LcW (Its x) g tt te σ' fin H1 :=
  lcw_gen hn Pv (fun i v => ∃ c, x.cps[i]? = some c ∧ v = .str ⟨#[c]⟩) h0 hl (fun i ys σ H hi p => hi) (fun ys σ H p => Nat.le_refl _) (fun i ys σ H v H' hi p y => y) (fun i v ys σ H hi yd p => by obtain ⟨c, e, rfl⟩ := yd; exact hs i c ys σ H e p) hd
end
end L2

set_option Elab.async false
set_option linter.all false
set_option maxRecDepth 100000
set_option maxHeartbeats 4000000
namespace L2
open PySem PySem.Spec PyProof.Rows
section
variable {K : PySem.W.Frag} {tt : TT} {te : TE} {σ' : St} {fin : List V → Hp → Prop} {H1 : Hp} {j : Nat}
theorem lcw_tup0 {a : Addr} {xs : List V} (hn : xs.length < sizeLine) (Pv : Nat → List V → St → Hp → Prop) (h0 : Pv 0 [] σ' H1) (hl : ∀ i ys σ H, i ≤ xs.length → Pv i ys σ H → ys.length ≤ i ∧ SqT K H a xs)
    (hs : ∀ i x ys σ H, xs[i]? = some x → Pv i ys σ H → te (σ.set j (some x)) H fun v H4 => Pv (i + 1) (ys ++ [v]) (σ.set j (some x)) H4) (hd : ∀ ys σ H, Pv xs.length ys σ H → fin ys H) : LcW (Itt K a) (gName j) tYes te σ' fin H1 :=
  lcw_tup hn Pv h0 hl (fun i x ys σ H hx p => by unfold gName tYes; exact iteT (hs i x ys σ H hx p)) hd
theorem lcw_list0 {a : Addr} {xs : List V} (hn : xs.length < sizeLine) (Pv : Nat → List V → St → Hp → Prop) (h0 : Pv 0 [] σ' H1) (hl : ∀ i ys σ H, i ≤ xs.length → Pv i ys σ H → ys.length ≤ i ∧ SqL K H a xs)
    (hs : ∀ i x ys σ H, xs[i]? = some x → Pv i ys σ H → te (σ.set j (some x)) H fun v H4 => Pv (i + 1) (ys ++ [v]) (σ.set j (some x)) H4) (hd : ∀ ys σ H, Pv xs.length ys σ H → fin ys H) : LcW (Itl K a) (gName j) tYes te σ' fin H1 :=
  lcw_list hn Pv h0 hl (fun i x ys σ H hx p => by unfold gName tYes; exact iteT (hs i x ys σ H hx p)) hd
theorem lcw_range0 {lo : Int} {n : Nat} (hn : n < sizeLine) (Pv : Nat → List V → St → Hp → Prop) (h0 : Pv 0 [] σ' H1) (hl : ∀ i ys σ H, i ≤ n → Pv i ys σ H → ys.length ≤ i)
    (hs : ∀ i ys σ H, i < n → Pv i ys σ H → te (σ.set j (some (.int (lo + i)))) H fun v H4 => Pv (i + 1) (ys ++ [v]) (σ.set j (some (.int (lo + i)))) H4) (hd : ∀ ys σ H, Pv n ys σ H → fin ys H) : LcW (Itr lo n) (gName j) tYes te σ' fin H1 :=
  lcw_range hn Pv h0 hl (fun i ys σ H hx p => by unfold gName tYes; exact iteT (hs i ys σ H hx p)) hd
theorem lcw_str0 {x : Str} (hn : x.length < sizeLine) (Pv : Nat → List V → St → Hp → Prop) (h0 : Pv 0 [] σ' H1) (hl : ∀ i ys σ H, i ≤ x.length → Pv i ys σ H → ys.length ≤ i)
    (hs : ∀ i c ys σ H, x.cps[i]? = some c → Pv i ys σ H → te (σ.set j (some (.str ⟨#[c]⟩))) H fun v H4 => Pv (i + 1) (ys ++ [v]) (σ.set j (some (.str ⟨#[c]⟩))) H4) (hd : ∀ ys σ H, Pv x.length ys σ H → fin ys H) : LcW (Its x) (gName j) tYes te σ' fin H1 :=
  lcw_str hn Pv h0 hl (fun i c ys σ H hx p => by unfold gName tYes; exact iteT (hs i c ys σ H hx p)) hd
theorem lcw_tup1 {a : Addr} {xs : List V} (hn : xs.length < sizeLine) (Pv : Nat → List V → St → Hp → Prop) (h0 : Pv 0 [] σ' H1) (hl : ∀ i ys σ H, i ≤ xs.length → Pv i ys σ H → ys.length ≤ i ∧ SqT K H a xs)
    (hs : ∀ i x ys σ H, xs[i]? = some x → Pv i ys σ H → tt (σ.set j (some x)) H fun b H3 => if b = true then te (σ.set j (some x)) H3 (fun v H4 => Pv (i + 1) (ys ++ [v]) (σ.set j (some x)) H4) else Pv (i + 1) ys (σ.set j (some x)) H3)
    (hd : ∀ ys σ H, Pv xs.length ys σ H → fin ys H) : LcW (Itt K a) (gName j) tt te σ' fin H1 := lcw_tup hn Pv h0 hl hs hd
end
end L2

set_option Elab.async false
set_option linter.all false
set_option maxRecDepth 100000
set_option maxHeartbeats 4000000
namespace L2
open PySem PySem.Spec PyProof.Rows

/-! ### zip of two lists -/
section
variable {X : Cx} {pins : List (Addr × Obj)} {σ : St} {H : Hp} {s : Shared} {h' : Heap}
/-- several untracked records of ours have turned -/
theorem Inv.turnedS {t' : Nat} {ch : List Addr} (I : Inv X pins σ H s) (k : ∀ b o, b ∉ ch → s.heap.get? b = some o → h'.get? b = some o) (hf : ∀ b ∈ ch, FpOk X pins H b) : Inv X pins σ H { s with heap := h', toks := t' } := by
  have nit : ∀ b u, H b = some u → b ∉ ch := fun b u e z => by rw [(hf b z).1] at e; cases e
  have hL : X.env.locals ∉ ch := fun z => (hf _ z).2.1 rfl
  refine I.step (g' := s.gens) (d' := s.drawn) (ch := ch) (fun b hb => ⟨(hf b hb).2.2.2.1, (hf b hb).2.1, (hf b hb).2.2.2.2.1, (hf b hb).2.2.2.2.2⟩) (fun b o _ _ hc e _ => k b o hc e) (fun b o _ _ hc e _ => ⟨o.slots, k b o hc e⟩) (fun _ _ _ _ n => n)
    (fun b o hc e => ⟨o, k b o hc e⟩) (fun _ _ e => e) (fun _ _ _ e => e) (fun b ps e => ⟨#[], by rw [e]; simp⟩) (fun m hm => ?_) (fun b u e => ?_) I.bare
  · obtain ⟨o, es, ep, ho, r⟩ := hm
    exact ⟨o, es, ep, k _ o hL ho, r⟩
  · refine (I.hok b u e).stay (fun c v hc q => k c v ?_ q) (fun _ q => q) fun _ _ q => q
    rcases hc with z | z
    · rw [z]; exact nit b u e
    · exact nit c _ z
end
section
variable {X : Cx}
end
end L2

set_option Elab.async false
set_option linter.all false
set_option maxRecDepth 100000
set_option maxHeartbeats 4000000
namespace L2
open PySem PySem.Spec PyProof.Rows
section
variable {prog : Program} {w : World} {A : Around} {E : Value → Shared → Prop} {s : Shared}
end
section
variable {X : Cx}
end
end L2

set_option Elab.async false
set_option linter.all false
set_option maxRecDepth 100000
set_option maxHeartbeats 4000000
namespace L2
open PySem PySem.Spec PyProof.Rows

/-! ### lists of pairs as tables -/
section
variable {κ : Type} [DecidableEq κ]
noncomputable def valV (kvs : List (κ × V)) (k : κ) : Option V := (kvs.find? fun kv => decide (kv.1 = k)).map (·.2)
/-- in its place, or at the end -/
noncomputable def putK (kvs : List (κ × V)) (k : κ) (v : V) : List (κ × V) :=
  if (kvs.any fun kv => decide (kv.1 = k)) = true then kvs.map (fun kv => if kv.1 = k then (kv.1, v) else kv) else kvs ++ [(k, v)]
noncomputable def dropK (kvs : List (κ × V)) (k : κ) : List (κ × V) := kvs.filter fun kv => decide (kv.1 ≠ k)

theorem valV_pos {p : κ × V} {r : List (κ × V)} {k : κ} (e : p.1 = k) : valV (p :: r) k = some p.2 := by simp [valV, List.find?_cons, e]
theorem valV_neg {p : κ × V} {r : List (κ × V)} {k : κ} (e : ¬ p.1 = k) : valV (p :: r) k = valV r k := by simp [valV, List.find?_cons, e]
theorem valV_any (k : κ) : ∀ kvs : List (κ × V), (kvs.any fun kv => decide (kv.1 = k)) = (valV kvs k).isSome
  | [] => rfl
  | p :: r => by
    rw [List.any_cons]
    by_cases e : p.1 = k
    · simp only [valV_pos e, decide_eq_true e, Bool.true_or, Option.isSome_some]
    · rw [valV_neg e, decide_eq_false e, Bool.false_or]; exact valV_any k r
theorem valV_map (k j : κ) (y : V) : ∀ kvs : List (κ × V), valV (kvs.map fun kv => if kv.1 = k then (kv.1, y) else kv) j = (valV kvs j).map fun x => if j = k then y else x
  | [] => rfl
  | p :: r => by
    have ih := valV_map k j y r
    rw [List.map_cons]
    by_cases h : p.1 = k
    · rw [if_pos h]
      by_cases e : p.1 = j
      · rw [valV_pos (p := (p.1, y)) e, valV_pos e, Option.map_some, if_pos (e.symm.trans h)]
      · rw [valV_neg (p := (p.1, y)) e, valV_neg e, ih]
    · rw [if_neg h]
      by_cases e : p.1 = j
      · rw [valV_pos (p := p) e, valV_pos e, Option.map_some, if_neg (fun z => h (e.trans z))]
      · rw [valV_neg (p := p) e, valV_neg e, ih]
theorem valV_snoc (k j : κ) (y : V) : ∀ kvs : List (κ × V), valV kvs k = none → valV (kvs ++ [(k, y)]) j = if j = k then some y else valV kvs j
  | [], _ => by
    by_cases e : k = j
    · rw [if_pos e.symm]; exact valV_pos (p := (k, y)) e
    · rw [if_neg (fun z => e z.symm)]; exact valV_neg (p := (k, y)) e
  | p :: r, hn => by
    rw [List.cons_append]
    have hk : ¬ p.1 = k := fun z => by rw [valV_pos z] at hn; cases hn
    rw [valV_neg hk] at hn
    have ih := valV_snoc k j y r hn
    by_cases e : p.1 = j
    · rw [valV_pos e, valV_pos e, if_neg (fun z => hk (e.trans z))]
    · rw [valV_neg e, valV_neg e, ih]
theorem valV_put (kvs : List (κ × V)) (k j : κ) (y : V) : valV (putK kvs k y) j = if j = k then some y else valV kvs j := by
  unfold putK
  by_cases a : (kvs.any fun kv => decide (kv.1 = k)) = true
  · rw [if_pos a, valV_map]
    rw [valV_any] at a
    by_cases e : j = k
    · obtain ⟨x, hx⟩ := Option.isSome_iff_exists.mp a
      rw [if_pos e, e, hx, Option.map_some, if_pos rfl]
    · rw [if_neg e]
      cases valV kvs j with
      | none => rfl
      | some x => rw [Option.map_some, if_neg e]
  · rw [if_neg a]
    refine valV_snoc k j y kvs ?_
    rw [valV_any] at a
    cases q : valV kvs k with
    | none => rfl
    | some x => rw [q] at a; exact (a rfl).elim
theorem length_putK (kvs : List (κ × V)) (k : κ) (v : V) : (putK kvs k v).length ≤ kvs.length + 1 := by
  unfold putK
  split
  · rw [List.length_map]; omega
  · rw [List.length_append, List.length_cons, List.length_nil]; omega
theorem putK_new {kvs : List (κ × V)} {k : κ} (v : V) (h : valV kvs k = none) : putK kvs k v = kvs ++ [(k, v)] := by
  unfold putK
  rw [valV_any, h]
  exact if_neg (by decide)

theorem RelO.isSome_eq {o : Option V} {u : Option Value} (r : RelO o u) : o.isSome = u.isSome := by
  cases o with
  | none => cases u with
    | none => rfl
    | some _ => exact (show False from r).elim
  | some _ => cases u with
    | none => exact (show False from r).elim
    | some _ => rfl
/-- raw tables of the same keys -/
theorem KV.val {kvs : List (κ × V)} {vs : List (κ × Value)} (r : KV kvs vs) (k : κ) : RelO (valV kvs k) (valueAt vs k) := by
  unfold KV at r
  induction r with
  | nil => exact True.intro
  | @cons p q ps qs h t ih =>
    obtain ⟨h1, h2⟩ := h
    by_cases e : p.1 = k
    · have e' : q.1 = k := h1.symm.trans e
      have b : valueAt (q :: qs) k = some q.2 := by simp [valueAt, List.find?_cons, e']
      rw [valV_pos e, b]; exact h2
    · have e' : ¬ q.1 = k := fun z => e (h1.trans z)
      have b : valueAt (q :: qs) k = valueAt qs k := by simp [valueAt, List.find?_cons, e']
      rw [valV_neg e, b]; exact ih
theorem KV.any {kvs : List (κ × V)} {vs : List (κ × Value)} (r : KV kvs vs) (k : κ) : (kvs.any fun kv => decide (kv.1 = k)) = vs.any fun kv => decide (kv.1 = k) := by
  unfold KV at r
  induction r with
  | nil => rfl
  | cons h t ih => rw [List.any_cons, List.any_cons, ih, h.1]
theorem KV.repl {kvs : List (κ × V)} {vs : List (κ × Value)} (r : KV kvs vs) (k : κ) {y : V} {u : Value} (ry : RelV y u) :
    KV (kvs.map fun kv => if kv.1 = k then (kv.1, y) else kv) (vs.map fun kv => if kv.1 = k then (kv.1, u) else kv) := by
  unfold KV at r ⊢
  induction r with
  | nil => exact .nil
  | @cons p q ps qs h t ih =>
    rw [List.map_cons, List.map_cons]
    refine .cons ?_ ih
    obtain ⟨h1, h2⟩ := h
    by_cases e : p.1 = k
    · rw [if_pos e, if_pos (h1.symm.trans e)]; exact ⟨h1, ry⟩
    · rw [if_neg e, if_neg (fun z => e (h1.trans z))]; exact ⟨h1, h2⟩
theorem KV.put {kvs : List (κ × V)} {vs : List (κ × Value)} (r : KV kvs vs) (k : κ) {y : V} {u : Value} (ry : RelV y u) : KV (putK kvs k y) (stored vs k u) := by
  unfold putK stored
  rw [r.any k]
  by_cases e : (vs.any fun kv => decide (kv.1 = k)) = true
  · rw [if_pos e, if_pos e]; exact r.repl k ry
  · rw [if_neg e, if_neg e]; exact Paired.snoc r ⟨rfl, ry⟩
theorem KV.length {kvs : List (κ × V)} {vs : List (κ × Value)} (r : KV kvs vs) : kvs.length = vs.length := Paired.length r
end


/-! ### a tracked dict, its keys ints and texts or tuples of these -/
theorem kV_is {P : Program} {w : World} {k : Key} {u : Value} (r : RelV (kV k) u) : (mixKind P w).is k u = true := by
  cases k with
  | inl i => obtain ⟨t, e⟩ := (show ∃ t, u = Value.int i t from r); subst e; exact mixKind_int P w i t
  | inr x => obtain ⟨t, e⟩ := (show ∃ t, u = Value.str x t from r); subst e; exact mixKind_str P w x t
theorem items_are {P : Program} {w : World} : ∀ {ks : List Key} {us : List Value}, Vals (ks.map kV) us → ItemsAre (mixKind P w) ks us
  | [], _, r => by rw [List.map_nil] at r; cases r; exact .nil
  | k :: ks, _, r => by
    rw [List.map_cons] at r
    cases r with
    | cons h t => exact .cons (kV_is h) (items_are t)

/-- raw entries of a dict with tuple keys -/
noncomputable abbrev KT (H : Hp) : List (List Key × V) → List (List Key × Addr × Value) → Prop := Paired fun p q => p.1 = q.1 ∧ H q.2.1 = some (.tup (p.1.map kV)) ∧ RelV p.2 q.2.2
theorem KT.val {H : Hp} {kvs : List (List Key × V)} {xs : List (List Key × Addr × Value)} (r : KT H kvs xs) (k : List Key) : RelO (valV kvs k) ((atKey xs k).map (·.2)) := by
  induction r with
  | nil => exact True.intro
  | @cons p q ps qs h t ih =>
    obtain ⟨h1, _, h2⟩ := h
    by_cases e : p.1 = k
    · have e' : q.1 = k := h1.symm.trans e
      have b : atKey (q :: qs) k = some q.2 := by simp [atKey, List.find?_cons, e']
      rw [valV_pos e, b]; exact h2
    · have e' : ¬ q.1 = k := fun z => e (h1.trans z)
      have b : atKey (q :: qs) k = atKey qs k := by simp [atKey, List.find?_cons, e']
      rw [valV_neg e, b]; exact ih
theorem KT.repl {H : Hp} {kvs : List (List Key × V)} {xs : List (List Key × Addr × Value)} (r : KT H kvs xs) (k : List Key) {y : V} {u : Value} (ry : RelV y u) :
    KT H (kvs.map fun kv => if kv.1 = k then (kv.1, y) else kv) (xs.map (putAt k u)) := by
  induction r with
  | nil => exact .nil
  | @cons p q ps qs h t ih =>
    rw [List.map_cons, List.map_cons]
    refine .cons ?_ ih
    obtain ⟨h1, h2, h3⟩ := h
    unfold putAt
    by_cases e : p.1 = k
    · rw [if_pos e, if_pos (h1.symm.trans e)]; exact ⟨h1, h2, ry⟩
    · rw [if_neg e, if_neg (fun z => e (h1.trans z))]; exact ⟨h1, h2, h3⟩
theorem KT.put {H : Hp} {kvs : List (List Key × V)} {xs : List (List Key × Addr × Value)} (r : KT H kvs xs) (k : List Key) {b : Addr} {y : V} {u : Value} (hb : H b = some (.tup (k.map kV))) (ry : RelV y u) :
    KT H (putK kvs k y) (storedH xs k b u) := by
  have e : (kvs.any fun kv => decide (kv.1 = k)) = (atKey xs k).isSome := by
    rw [valV_any, (r.val k).isSome_eq, Option.isSome_map]
  unfold putK storedH
  rw [e]
  by_cases q : (atKey xs k).isSome = true
  · rw [if_pos q, if_pos q]; exact r.repl k ry
  · rw [if_neg q, if_neg q]; exact Paired.snoc r ⟨rfl, hb, ry⟩
theorem KT.keeps {H H' : Hp} {kvs : List (List Key × V)} {xs : List (List Key × Addr × Value)} (r : KT H kvs xs) (ht : ∀ b ys, H b = some (.tup ys) → H' b = some (.tup ys)) : KT H' kvs xs :=
  Paired.mapP r fun _ _ z => ⟨z.1, ht _ _ z.2.1, z.2.2⟩

section
variable {P : Program} {w : World} {H : Hp} {h : Heap} {a : Addr}
theorem rd_of {u : HO} (ok : HOk P w H h) (e : Rd H a u) : ObjOk P w H h a u := e.ok ok
theorem dk_rd {kvs : List (Key × V)} (ok : HOk P w H h) (e : Rd H a (.dK kvs)) : kvs.length ≤ sizeLine ∧ (a == sysModules) = false ∧ ∃ vs, KV kvs vs ∧ h.DictOf (mixKind P w) a vs :=
  show ObjOk P w H h a (.dK kvs) from rd_of ok e
theorem dk_of {kvs : List (Key × V)} (ok : HOk P w H h) (e : H a = some (.dK kvs)) : kvs.length ≤ sizeLine ∧ (a == sysModules) = false ∧ ∃ vs, KV kvs vs ∧ h.DictOf (mixKind P w) a vs := dk_rd ok (.inl e)
/-- a tracked tuple of ints and texts is a key -/
theorem key_of {ks : List Key} (ok : HOk P w H h) (e : H a = some (.tup (ks.map kV))) : (tupleKind (mixKind P w)).is h ks a := by
  obtain ⟨_, its, r, o, h1, h2, n, h3⟩ := (show ObjOk P w H h a (.tup (ks.map kV)) from ok a _ e)
  exact ⟨o, its.toArray, n, h1, h2, h3, by simpa using items_are r⟩
theorem dt_rd {kvs : List (List Key × V)} (ok : HOk P w H h) (e : Rd H a (.dT kvs)) : kvs.length ≤ sizeLine ∧ (a == sysModules) = false ∧
    ∃ xs, KT H kvs xs ∧ h.DictOfH (tupleKind (mixKind P w)) a xs := by
  obtain ⟨z, y, xs, r, o, es, ep, h1, h2, h3, h4, h5⟩ := (show ObjOk P w H h a (.dT kvs) from rd_of ok e)
  refine ⟨z, y, xs, r, o, es, ep, h1, h2, h3, h4, fun x hx => ?_, h5⟩
  have all : ∀ {l : List (List Key × V)} {m : List (List Key × Addr × Value)}, KT H l m → ∀ x ∈ m, (tupleKind (mixKind P w)).is h x.1 x.2.1 := by
    intro l m q
    induction q with
    | nil => intro x hx; exact nomatch hx
    | @cons p q ps qs hq t ih =>
      intro x hx
      rcases List.mem_cons.mp hx with e | hx
      · subst e
        exact key_of ok (by rw [← hq.1]; exact hq.2.1)
      · exact ih x hx
  exact all r x hx
theorem dt_of {kvs : List (List Key × V)} (ok : HOk P w H h) (e : H a = some (.dT kvs)) : kvs.length ≤ sizeLine ∧ (a == sysModules) = false ∧
    ∃ xs, KT H kvs xs ∧ h.DictOfH (tupleKind (mixKind P w)) a xs := dt_rd ok (.inl e)
end

/-- what the dict at a holds at the key y -/
noncomputable def DGet (H : Hp) (a : Addr) (y : V) (r : Option V) : Prop :=
  (∃ kvs k, Rd H a (.dK kvs) ∧ y = kV k ∧ r = valV kvs k) ∨ ∃ kvs k b, Rd H a (.dT kvs) ∧ y = .ref b ∧ H b = some (.tup (k.map kV)) ∧ r = valV kvs k
/-- the heap behind a[y] = v -/
noncomputable def DPut (H : Hp) (a : Addr) (y v : V) (H' : Hp) : Prop :=
  (∃ kvs k, H a = some (.dK kvs) ∧ y = kV k ∧ kvs.length < sizeLine ∧ H' = upd H a (.dK (putK kvs k v))) ∨
  ∃ kvs k b, H a = some (.dT kvs) ∧ y = .ref b ∧ H b = some (.tup (k.map kV)) ∧ kvs.length < sizeLine ∧ H' = upd H a (.dT (putK kvs k v))
theorem DGet.t {H : Hp} {a b : Addr} {kvs : List (List Key × V)} {k : List Key} (e : H a = some (.dT kvs)) (eb : H b = some (.tup (k.map kV))) : DGet H a (.ref b) (valV kvs k) := .inr ⟨kvs, k, b, .inl e, rfl, eb, rfl⟩
theorem DPut.t {H : Hp} {a b : Addr} {kvs : List (List Key × V)} {k : List Key} {v : V} (e : H a = some (.dT kvs)) (eb : H b = some (.tup (k.map kV))) (hl : kvs.length < sizeLine) :
    DPut H a (.ref b) v (upd H a (.dT (putK kvs k v))) := .inr ⟨kvs, k, b, e, rfl, eb, hl, rfl⟩


section
variable {X : Cx} {pins : List (Addr × Obj)} {σ : St} {H : Hp} {s : Shared} {a : Addr} {y v : V} {u r : Value} {o : Option V} {A : Around} {E : Value → Shared → Prop}

theorem Inv.big (I : Inv X pins σ H s) : sysModules < s.heap.objs.size := by
  have h : mainGlobals < s.heap.objs.size := (I.mod.glob.keeps I.bk).lt
  exact Nat.lt_trans (by decide) h

/-- d[y], there -/
theorem d_getItem {Q : Value → Shared → Prop} (hu : A.units + 1 < cLine) (I : Inv X pins σ H s) (g : DGet H a y (some v)) (ry : RelV y u) (h : ∀ w' s', Inv X pins σ H s' → RelV v w' → Q w' s') :
    wpAny (model X.prog X.w) A (getItem (.ref a) u) Q E s := by
  rcases g with ⟨kvs, k, e, ey, l⟩ | ⟨kvs, k, b, e, ey, eb, l⟩
  · subst ey
    obtain ⟨z, hd, vs, rel, dd⟩ := dk_rd I.hok e
    obtain ⟨w', hw, rw'⟩ := RelO.some_of (v := v) (o := valueAt vs k) (by rw [l]; exact rel.val k)
    exact wpAny_getItem_of (kV_is ry) dd.mapOf hw (h w' _ (I.tok _) rw')
  · subst ey
    cases (show u = Value.ref b from ry)
    obtain ⟨z, hd, xs, rel, dd⟩ := dt_rd I.hok e
    obtain ⟨w', hw, rw'⟩ := RelO.some_of (v := v) (o := (atKey xs k).map (·.2)) (by rw [l]; exact rel.val k)
    obtain ⟨p, hp, hp2⟩ := Option.map_eq_some_iff.mp hw
    refine wpAny_getItem_heap (tupleKind_room_in1 hu) (key_of I.hok eb) dd hp ?_
    rw [hp2]
    exact h w' _ (I.tok _) rw'
/-- a dict's object is replaced -/
theorem d_write {h' : Heap} {t' : Nat} {ob : HO} (I : Inv X pins σ H s) (mu : Mut (H a)) (hs : Heap.SameBut a s.heap h') (he : ∃ q, h'.get? a = some q) (new : ObjOk X.prog X.w (upd H a ob) h' a ob) :
    Inv X pins σ (upd H a ob) { s with heap := h', toks := t' } :=
  I.write (x := a) (e := a) mu (.inl rfl) (fun b q hb z => (hs.2 b hb).trans z) he new
theorem dk_new {P : Program} {w : World} {H' : Hp} {h' : Heap} {kvs : List (Key × V)} {vs : List (Key × Value)} (z : kvs.length ≤ sizeLine) (hd : (a == sysModules) = false) (rel : KV kvs vs) (dd : h'.DictOf (mixKind P w) a vs) :
    ObjOk P w H' h' a (.dK kvs) := ⟨z, hd, vs, rel, dd⟩
/-- d[y] = v -/
theorem d_setItem {H' : Hp} {Q : Unit → Shared → Prop} (hu : A.units + 1 < cLine) (I : Inv X pins σ H s) (g : DPut H a y v H') (ry : RelV y u) (rv : RelV v r) (h : ∀ s', Inv X pins σ H' s' → Q () s') :
    wpAny (model X.prog X.w) A (setItem (.ref a) u r) Q E s := by
  rcases g with ⟨kvs, k, e, ey, l, eH⟩ | ⟨kvs, k, b, e, ey, eb, l, eH⟩
  · subst ey eH
    obtain ⟨z, hd, vs, rel, dd⟩ := dk_of I.hok e
    have hz : vs.length ≤ sizeLine := by rw [← rel.length]; exact z
    have hl : (putK kvs k v).length ≤ sizeLine := by have := length_putK kvs k v; omega
    refine wpAny_setItem_pairs (hsz := hz) (kV_is ry) dd fun h' dd' hs => h _ ?_
    have he : ∃ q, h'.get? a = some q := let ⟨q, _, _, hq, _⟩ := dd'; ⟨q, hq⟩
    exact d_write I (by rw [e]; exact True.intro) hs he (dk_new hl hd (rel.put k rv) dd')
  · subst ey eH
    cases (show u = Value.ref b from ry)
    obtain ⟨z, hd, xs, rel, dd⟩ := dt_of I.hok e
    have hz : xs.length ≤ sizeLine := by rw [← Paired.length rel]; exact z
    have hl : (putK kvs k v).length ≤ sizeLine := by have := length_putK kvs k v; omega
    refine wpAny_setItem_heap (hsz := hz) (tupleKind_room_in1 hu) (key_of I.hok eb) dd fun h' dd' hs => h _ ?_
    obtain ⟨q, es, ep, hq, h2, h3, h4, _, h5⟩ := dd'
    refine d_write I (by rw [e]; exact True.intro) hs ⟨q, hq⟩ ⟨hl, hd, _, (rel.put k eb rv).keeps fun c ys ec => ?_, q, es, ep, hq, h2, h3, h4, h5⟩
    rw [upd_ne (ne_of ec e (fun z => nomatch z))]
    exact ec
end

section
variable {X : Cx} {pins : List (Addr × Obj)} {σ : St} {H : Hp} {s : Shared} {a : Addr} {kvs : List (Key × V)} {k : Key} {u : Value} {A : Around} {E : Value → Shared → Prop}
end


/-! ### readings and rules -/
/-- the element of a subscription, not a slice -/
noncomputable def NoSl (i : Expr) : Prop := ∀ ov iv, subscripted i false ov iv = operate [ov, iv] (getItem ov iv)
theorem subD_of {prog : Program} {w : World} {A : Around} {E : Value → Shared → Prop} {s : Shared} {env : Env} {value slice : Expr} {pos : Pos} {T id : String} {Q : Value → Shared → Prop}
    (hl : typeLookup (.type T) "__getitem__" = pure (some (.builtin id))) (hs : NoSl slice)
    (h : wpAny (model prog w) A (eval value env) (fun o s₁ => wpAny (model prog w) A (eval slice env) (fun i s₂ => s₂.TypeIs o T ∧ wpAny (model prog w) A (getItem o i) Q E s₂) E s₁) E s) :
    wpAny (model prog w) A (eval (.Subscript value slice pos) env) Q E s := by
  refine Subscript_ (wpAny_mono h (fun o s₁ h₁ => wpAny_mono h₁ (fun i s₂ h₂ => ?_) fun _ _ x => x) fun _ _ x => x)
  obtain ⟨hT, h₂⟩ := h₂
  unfold subscriptTail
  refine wpAny_bind ?_
  rw [getitemInPython_of_ne hT.not_modules]
  refine wpAny_bind (wpAny_specialOf hT hl ?_)
  have fin : wpAny (model prog w) A (subscripted slice false o i) (fun r s₃ => wpAny (model prog w) A (letTemporaryGo value o r >>= fun _ => pure r) Q E s₃) E s₂ := by
    rw [hs o i]
    exact wpAny_operating (wpAny_mono h₂ (fun r s₃ h₃ => wpAny_bind (wpAny_letTemporaryGo (wpAny_pure h₃))) fun _ _ x => x)
  first
    | exact wpAny_pure (wpAny_bind fin)
    | exact wpAny_bind (wpAny_pure (wpAny_bind fin))
    | exact wpAny_bind fin

theorem dict_typeIs {X : Cx} {pins : List (Addr × Obj)} {σ : St} {H : Hp} {s : Shared} {a : Addr} {y : V} {o : Option V} (I : Inv X pins σ H s) (g : DGet H a y o) : s.TypeIs (.ref a) "dict" := by
  rcases g with ⟨kvs, k, e, _, _⟩ | ⟨kvs, k, b, e, _, _, _⟩
  · obtain ⟨_, _, vs, _, dd⟩ := dk_rd I.hok e
    exact dd.typeIs
  · obtain ⟨_, _, xs, _, dd⟩ := dt_rd I.hok e
    exact dd.typeIs
/-- d[y] -/
noncomputable def tDGet (td ty : TE) : TE := fun σ H Q => td σ H fun x H1 => ty σ H1 fun y H2 => ∃ a v, x = .ref a ∧ DGet H2 a y (some v) ∧ Q v H2
/-- d[y] op= v -/
noncomputable def sDAug (td ty tv : TE) (rd : V → V → Hp → VK → Prop) : TS := fun D σ H => td σ H fun x H1 => ty σ H1 fun y H2 => ∃ a v, x = .ref a ∧ DGet H2 a y (some v) ∧
  tv σ H2 fun y2 H3 => rd v y2 H3 fun z H4 => ∃ H5, DPut H4 a y z H5 ∧ D.nx σ H5
section
variable {X : Cx} {o i e value : Expr} {pos pos' tpos : Pos} {td ty tv : TE}
theorem pe_dget (hu : X.A.units + 1 < cLine) (ho : PE X o td) (hi : PE X i ty) (hs : NoSl i) : PE X (.Subscript o i pos) (tDGet td ty) := by
  intro pins s σ H Q I h
  refine subD_of PySem.F.slot_dict_getitem.lookup hs (thn (ho pins s σ H _ I h) fun u s1 ⟨x, H1, I1, rx, q1⟩ => thn (hi pins s1 σ H1 _ I1 q1) fun iv s2 ⟨y, H2, I2, ry, a, v, ex, g, q2⟩ => ?_)
  subst ex
  obtain rfl : u = Value.ref a := rx
  exact ⟨dict_typeIs I2 g, d_getItem hu I2 g ry fun w' s3 I3 rw' => ⟨v, H2, I3, rw', q2⟩⟩
theorem ps_daug {op : Operator} {rd : V → V → Hp → VK → Prop} (hu : X.A.units + 1 < cLine) (ho : PE X o td) (hi : PE X i ty) (hv : PE X value tv) (hop : InOp X op rd)
    (ha : ∀ ov iv new, augStore i ov iv new = (do holding [new, ov, iv] (setItem ov iv new); release [new, ov, iv] []; pure .next)) : PS X (.AugAssign (.Subscript o i tpos) op value pos) (sDAug td ty tv rd) := by
  intro pins s σ H D I h
  refine wpAny_AugAssign_SubscriptAny (thn (ho pins s σ H _ I h) fun u s1 ⟨x, H1, I1, rx, q1⟩ => thn (hi pins s1 σ H1 _ I1 q1) fun iv s2 ⟨y, H2, I2, ry, a, v, ex, g, q2⟩ => ?_) ha
  subst ex
  obtain rfl : u = Value.ref a := rx
  refine d_getItem hu I2 g ry fun w' s3 I3 rw' => thn (hv pins s3 σ H2 _ I3 q2) fun w2 s4 ⟨y2, H3, I4, ry2, q3⟩ => thn (hop pins s4 σ H3 v y2 w' w2 _ I4 rw' ry2 q3) fun w3 s5 ⟨z, H4, I5, rz, H5, g5, q4⟩ => ?_
  exact d_setItem hu I5 g5 ry rz fun s6 I6 => ⟨σ, H5, I6, q4⟩
end


/-! ### displays -/
theorem dt_empty {P : Program} {w : World} {H : Hp} (h : Heap) (hb : sysModules < h.objs.size) : ObjOk P w H (h.push { cls := .type "dict", data := .dict #[] }) h.objs.size (.dT []) :=
  ⟨Nat.zero_le _, beq_eq_false_iff_ne.mpr (Ne.symm (Nat.ne_of_lt hb)), [], .nil, _, #[], 0, Heap.get?_push_size _ rfl, ⟨rfl, rfl, rfl⟩, rfl, rfl, List.nodup_nil⟩
section
variable {X : Cx} {pos : Pos}
end

end L2

set_option Elab.async false
set_option linter.all false
set_option maxRecDepth 100000
set_option maxHeartbeats 4000000
namespace L2
open PySem PySem.Spec PyProof.Rows

/-! ### a dict comprehension of one clause, keys tuples -/
section
variable {prog : Program} {w : World} {A : Around} {R : Result → Shared → Prop} {s : Shared}
theorem dc_loop {kx vx tg iter : Expr} {ifs : List Expr} {scope : Scope} {pos : Pos} {it : Value} {D : Addr} {env : Env} (J : Nat → Shared → Prop)
    (turn : ∀ n s, J n s → wpAny (model prog w) A (pyNext it) (fun r s1 => match r with
      | none => R (.ok .next) s1
      | some v => wpAny (model prog w) A (letOwnedTupleGo tg it v) (fun _ s2 => wpAny (model prog w) A (assign tg env v) (fun _ s3 =>
          wpAny (model prog w) A (forIn ifs true fun c r => if r = true then do let ok ← isTrue c env (eval c env); pure (ForInStep.yield ok) else pure (ForInStep.yield r)) (fun ok s4 =>
            if ok = true then wpAny (model prog w) A (eval kx env) (fun y s5 => wpAny (model prog w) A (eval vx env) (fun x s6 => wpAny (model prog w) A (dictSet D y x) (fun _ s7 => ∃ m, m < n ∧ J m s7) (fun _ _ => False) s6) (fun _ _ => False) s5) (fun _ _ => False) s4
            else ∃ m, m < n ∧ J m s4) (fun _ _ => False) s3) (fun _ _ => False) s2) (fun _ _ => False) s1) (fun _ _ => False) s)
    (n : Nat) (h : J n s) : codeAny (model prog w) A (.compLoop (.DictComp kx vx [⟨tg, iter, ifs, 0⟩] scope pos) 0 it (.ref D) env) R s := by
  refine codeAny_loop rfl J (fun k t hJ => ?_) n h
  show wpAny _ A ((compTurn (.DictComp kx vx [⟨tg, iter, ifs, 0⟩] scope pos) 0 it (.ref D) env).onRaise (fun x => do noteFrame x env; theTreesLotGoes x)) _ _ t
  refine wpAny_noted (wpAny_mono (E := fun _ _ => False) ?_ (fun _ _ q => q) fun _ _ f => f.elim)
  rw [compTurn_dict]
  refine wpAny_bind (wpAny_standAt (wpAny_bind (thn (turn k t hJ) fun r s1 h1 => ?_)))
  cases r with
  | none => exact wpAny_pure h1
  | some v =>
    refine wpAny_bind (thn h1 fun _ s2 h2 => wpAny_bind (thn h2 fun _ s3 h3 => wpAny_bind (thn h3 fun ok s4 h4 => ?_)))
    cases ok with
    | false => exact wpAny_pure ⟨rfl, h4⟩
    | true => exact wpAny_bind (wpAny_bind (thn h4 fun y s5 h5 => wpAny_bind (wpAny_holding (thn h5 fun x s6 h6 => wpAny_bind (wpAny_standAt (wpAny_holding (thn h6 fun _ s7 h7 => wpAny_pure ⟨rfl, h7⟩)))))))
end
/-- D[y] = v, y a tuple -/
noncomputable def DPutT (H : Hp) (a : Addr) (y v : V) (H' : Hp) : Prop := ∃ kvs k b, H a = some (.dT kvs) ∧ y = .ref b ∧ H b = some (.tup (k.map kV)) ∧ kvs.length < sizeLine ∧ H' = upd H a (.dT (putK kvs k v))
theorem d_dictSet {X : Cx} {pins : List (Addr × Obj)} {σ : St} {H H' : Hp} {s : Shared} {a : Addr} {y v : V} {u r : Value} {A : Around} {E : Value → Shared → Prop} {Q : Unit → Shared → Prop} (hu : A.units < cLine) (I : Inv X pins σ H s) (g : DPutT H a y v H') (ry : RelV y u) (rv : RelV v r) (h : ∀ s', Inv X pins σ H' s' → Q () s') :
    wpAny (model X.prog X.w) A (dictSet a u r) Q E s := by
  obtain ⟨kvs, k, b, e, ey, eb, l, eH⟩ := g
  subst ey eH
  cases (show u = Value.ref b from ry)
  obtain ⟨z, hd, xs, rel, dd⟩ := dt_of I.hok e
  have hz : xs.length ≤ sizeLine := by rw [← Paired.length rel]; exact z
  have hl : (putK kvs k v).length ≤ sizeLine := by have := length_putK kvs k v; omega
  refine wpAny_dictSet_heap (hsz := hz) (show (tupleKind (mixKind X.prog X.w)).room A from hu) (key_of I.hok eb) dd (fun h' dd' hs => h _ ?_)
  obtain ⟨q, es, ep, hq, h2, h3, h4, _, h5⟩ := dd'
  refine d_write I (by rw [e]; exact True.intro) hs ⟨q, hq⟩ ⟨hl, hd, _, (rel.put k eb rv).keeps fun c ys ec => ?_, q, es, ep, hq, h2, h3, h4, h5⟩
  rw [upd_ne (ne_of ec e (fun z => nomatch z))]
  exact ec
noncomputable def DcW (D : Addr) (J : It) (g : TG) (tt : TT) (tk tv : TE) (σ' : St) (fin : Hp → Prop) (H1 : Hp) : Prop :=
  ∃ W : Nat → Nat → St → Hp → Prop, (∃ m, W 0 m σ' H1) ∧ ∀ i m σ H, W i m σ H →
    (J.stop i H ∧ fin H) ∨ (J.go i H ∧ ∃ Nx : St → Hp → Prop, (∀ σ' H', Nx σ' H' → ∃ m', m' < m ∧ W (i + 1) m' σ' H') ∧
      ∀ x H', J.yld i H x H' → g x σ H' fun σ2 H2 => tt σ2 H2 fun b H3 => if b = true then tk σ2 H3 (fun y H4 => tv σ2 H4 fun v H5 => ∃ H6, DPutT H5 D y v H6 ∧ Nx σ2 H6) else Nx σ2 H3)
/-- name = {..} -/
noncomputable def tSetDc (i : Nat) (wi : TI) (g : TG) (tt : TT) (tk tv : TE) (ix : List (Option Nat)) : TS := fun E σ H => wi σ H fun J H1 => ∀ D, H1 D = none → DcW D J g tt tk tv (emb ix σ) (fun H' => E.nx (σ.set i (some (.ref D))) H') (upd H1 D (.dT []))

theorem nlt_aux {b D C : Nat} (h : b < D) (e : C = D + 1) (z : b = C) : False := by omega
section
variable {X : Cx} {scope : Scope} {N : List Str} {ix : List (Option Nat)}
theorem dc_fin {pins pins' : List (Addr × Obj)} {σ σ' : St} {H2 H' : Hp} {s2 s' : Shared} {C : Addr} {fp : List Addr} {h' : Heap} (I2 : Inv X pins σ H2 s2) (hf : ∀ b ∈ fp, FpOk X pins H2 b)
    (I' : Inv (cxLc X scope N C s2 H2 fp) pins' σ' H' s') (hC : s2.heap.objs.size ≤ C) (hs : ∀ b o, b ≠ C → s'.heap.get? b = some o → h'.get? b = some o) : Inv X pins σ H' { s' with heap := h' } := by
  have B : Un (frs X.stack) fp H2 H' s2.heap s'.heap := I'.base
  have neC : ∀ b o, s2.heap.get? b = some o → b ≠ C := fun b o e => Nat.ne_of_lt (Nat.lt_of_lt_of_le (Heap.lt_size e) hC)
  have hCn : H' C = none := I'.free
  have tC : ∀ b u, H' b = some u → b ≠ C := fun b u e => ne_of_none e hCn
  refine I2.call' (s' := { s' with heap := h' }) (ch := fp) I'.os ⟨fun b o e n hb hx => ?_, fun b o e n hb hx => ?_, fun b o e n hx => ?_, fun b o e hx => ?_, fun b xs e => ?_, fun b o u e => ?_, fun b ps e => ?_⟩ (fun b u e => ?_) I'.bare fun b hb => ⟨(hf b hb).2.2.2.1, (hf b hb).2.1, (hf b hb).2.2.2.2.1, (hf b hb).2.2.2.2.2⟩
  · exact hs b o (neC b o e) (B.keep b o e n hb hx)
  · obtain ⟨sl, q⟩ := B.slot b o e n hb hx
    exact ⟨sl, hs b _ (neC b o e) q⟩
  · exact B.free b o e n hx
  · obtain ⟨o', q⟩ := B.there b o e hx
    exact ⟨o', hs b o' (neC b o e) q⟩
  · exact B.tups b xs e
  · exact B.frzs b o u e
  · exact B.tbls b ps e
  · refine (I'.hok b u e).stay (fun c v hc q => hs c v ?_ q) (fun c q => q) fun c xs q => q
    rcases hc with z | z
    · rw [z]; exact tC b u e
    · exact tC c _ z

variable {tg iter kx vx : Expr} {ifs : List Expr} {pos : Pos} {g : TG} {tt : TT} {tk tv : TE}
theorem dc_run (L : LcOk X scope N ix) (hc : X.calm = true) (hu : X.A.units < cLine) (hg : ∀ C s0 H0 fp, PG (cxLc X scope N C s0 H0 fp) tg g) (ht : ∀ C s0 H0 fp, PTs (cxLc X scope N C s0 H0 fp) ifs tt) (hk : ∀ C s0 H0 fp, PE (cxLc X scope N C s0 H0 fp) kx tk) (hv : ∀ C s0 H0 fp, PE (cxLc X scope N C s0 H0 fp) vx tv)
    {pins : List (Addr × Obj)} {σ : St} {H1 : Hp} {s1 : Shared} {it : Addr} {fp : List Addr} {tn : Nat → Heap → Prop} {J : It} {fin : Addr → Hp → Prop} {E : Value → Shared → Prop} {RR : Value → Addr → Result → Shared → Prop}
    (I1 : Inv X pins σ H1 s1) (T : Turn X.prog X.w X.K tg J fp it tn) (st : tn 0 s1.heap) (f1 : ∀ b ∈ fp, FpOk X pins H1 b) (hW : ∀ D, H1 D = none → DcW D J g tt tk tv (emb ix σ) (fin D) (upd H1 D (.dT [])))
    (hRR : ∀ D C s' m H', s'.heap.Ns C m → s'.os = s1.os → FpOk X pins H' C → (∀ h', Heap.SameBut C s'.heap h' → Inv X pins σ H' { s' with heap := h' }) → fin D H' → RR (.ref D) C (.ok .next) s') :
    wpAny (model X.prog X.w) X.A newDict (fun acc s3 => wpAny (model X.prog X.w) X.A (newFunctionEnv scope X.env.globals (clOf X.env scope.names []) [] X.env.qual none .none (some X.env)) (fun cenv s4 =>
      codeAny (model X.prog X.w) X.A (.compStart (.DictComp kx vx [⟨tg, iter, ifs, 0⟩] scope pos) 0 (.ref it) acc { cenv with scope := relabel scope X.env }) (RR acc cenv.locals) s4) E s3) E s1 := by
  have hb1 : ∀ b ∈ fp, b < s1.heap.objs.size := fun b hb => by
    obtain ⟨o, e, _⟩ := T.obj _ _ st b hb
    exact Heap.lt_size e
  have hDn : H1 s1.heap.objs.size = none := I1.hok.fresh (Nat.le_refl _)
  obtain ⟨W, ⟨m0, w0⟩, turn⟩ := hW s1.heap.objs.size hDn
  refine wpAny_newObj_type (wpAny_newFunctionEnv L.nocell (by intro y hy; simp at hy) (fun h1 hns hsb => ?_) L.kind)
  dsimp only at hns hsb ⊢
  have I2 : Inv X pins σ (upd H1 s1.heap.objs.size (.dT [])) { s1 with heap := s1.heap.push { cls := .type "dict", data := .dict #[] }, toks := s1.toks } :=
    I1.laid (t' := s1.toks) (a := s1.heap.objs.size) (o := .dT []) (fun _ _ q => Heap.get?_push_of_some _ q) (Nat.le_refl _) (dt_empty s1.heap I1.big)
  have f2 : ∀ b ∈ fp, FpOk X pins (upd H1 s1.heap.objs.size (.dT [])) b := fun b hb => by
    obtain ⟨q0, q1⟩ := f1 b hb
    exact ⟨by rw [upd_ne (Nat.ne_of_lt (hb1 b hb))]; exact q0, q1⟩
  have st2 : tn 0 (s1.heap.push { cls := .type "dict", data := .dict #[] }) := T.keep _ _ _ st fun b _ o e => Heap.get?_push_of_some _ e
  generalize hD : s1.heap.objs.size = D at *
  generalize hH2 : upd H1 D (.dT []) = H2 at *
  generalize hG : s1.heap.push { cls := .type "dict", data := .dict #[] } = G at *
  have hGs : G.objs.size = D + 1 := by rw [← hG, Heap.size_push, hD]
  generalize hCe : G.objs.size = C at *
  have kp : ∀ b o, G.get? b = some o → h1.get? b = some o := fun b o e => hsb.extBut b o (fun z => by have := Heap.lt_size e; rw [hCe] at this; exact absurd (z ▸ this) (Nat.lt_irrefl _)) (Heap.get?_push_of_some _ e)
  have I4 := lc_in L (tk := s1.toks + ([] : List (Str × Value)).length) I2 (C := C) (by show G.objs.size ≤ C; rw [hCe]; exact Nat.le_refl _) f2 (fun b hb => by show b < G.objs.size; rw [hCe, hGs]; exact Nat.lt_succ_of_lt (hb1 b hb)) kp hns
  have st4 : tn 0 h1 := T.keep _ _ _ st2 fun b _ o e => kp b o e
  generalize hs2 : ({ s1 with heap := G, toks := s1.toks } : Shared) = s2 at I2 I4
  have hs2h : s2.heap = G := by rw [← hs2]
  have hs2o : s2.os = s1.os := by rw [← hs2]
  have stat : ∀ {H' : Hp}, (∀ b ∈ fp, H' b = none) → ∀ b ∈ fp, FpOk (cxLc X scope N C s2 H2 fp) [] H' b := fun {H'} hn b hb => by
    have hlt := hb1 b hb
    refine ⟨hn b hb, fun z => ?_, fun z => ?_, .inl hb, fun x c e => (f2 b hb).2.2.2.2.1 x c (clOf_look e), fun p hq z => ?_⟩
    · exact nlt_aux hlt hGs z
    · exact (List.mem_cons.mp (I2.stkSub b z)).elim (f2 b hb).2.1 (f2 b hb).2.2.1
    · have hq' : p ∈ ([] : List (Addr × Obj)) := by simpa [cxLc] using hq
      cases hq'
  have loop : ∀ s4 : Shared, Inv (cxLc X scope N C s2 H2 fp) [] (emb ix σ) H2 s4 → tn 0 s4.heap → codeAny (model X.prog X.w) X.A (.compLoop (.DictComp kx vx [⟨tg, iter, ifs, 0⟩] scope pos) 0 (.ref it) (.ref D) (cxLc X scope N C s2 H2 fp).env) (RR (.ref D) C) s4 := by
    intro s4 I4' st4'
    refine dc_loop (fun n s' => ∃ i σ' H', Inv (cxLc X scope N C s2 H2 fp) [] σ' H' s' ∧ tn i s'.heap ∧ (∀ b ∈ fp, H' b = none) ∧ W i n σ' H') ?_ m0 ⟨0, emb ix σ, H2, I4', st4', fun b hb => (f2 b hb).1, w0⟩
    rintro n s' ⟨i, σ', H', I', st', fr', w'⟩
    rcases turn i n σ' H' w' with ⟨stop, qf⟩ | ⟨go, Nx, hN, step⟩
    · refine thn (T.done (cxLc X scope N C s2 H2 fp) rfl rfl rfl hc i _ s' σ' H' _ I' (stat fr') st' stop) fun r s5 ⟨hr, I5⟩ => ?_
      subst hr
      obtain ⟨m5, hn5, _⟩ := I5.loc
      refine hRR D C s5 m5 H' hn5 (I5.os.trans hs2o) (I2.fpOk (by rw [hs2h, hCe]; exact Nat.le_refl _) I5.free) (fun h' hs' => ?_) qf
      exact dc_fin I2 f2 I5 (by rw [hs2h, hCe]; exact Nat.le_refl _) fun b o hb e => hs'.extBut b o hb e
    · refine thn (T.item (cxLc X scope N C s2 H2 fp) rfl rfl rfl hc i _ s' σ' H' _ I' (stat fr') st' go) fun r s5 ⟨u, hr, h5⟩ => ?_
      subst hr
      refine thn h5 fun _ s6 ⟨x, H6, I6, r6, y6, st6, fr6⟩ => ?_
      have I6' := I6.pinned (stat fr6) (T.obj _ _ st6)
      refine thn (hg C s2 H2 fp _ s6 σ' H6 x u _ I6' r6 (step x H6 y6)) fun _ s7 ⟨σ7, H7, I7, q7⟩ => ?_
      refine thn (ht C s2 H2 fp _ s7 σ7 H7 _ I7 q7) fun ok s8 ⟨H8, I8, q8⟩ => ?_
      have back : ∀ {H9 : Hp} {s9 : Shared}, Inv (cxLc X scope N C s2 H2 fp) ([] ++ pinsAt fp s6.heap) σ7 H9 s9 → tn (i + 1) s9.heap ∧ ∀ b ∈ fp, H9 b = none := fun {H9 s9} I9 => by
        refine ⟨T.keep _ _ _ st6 fun b hb o e => (I9.pin (b, o) (List.mem_append_right _ (List.mem_append_right _ (mem_pinsAt hb e)))).1, fun b hb => ?_⟩
        obtain ⟨o, e, d⟩ := T.obj _ _ st6 b hb
        exact (I9.pin (b, o) (List.mem_append_right _ (List.mem_append_right _ (mem_pinsAt hb e)))).2.1
      cases ok with
      | false =>
        rw [if_neg Bool.false_ne_true] at q8 ⊢
        obtain ⟨m', hm, w8⟩ := hN _ _ q8
        obtain ⟨st8, fr8⟩ := back I8
        exact ⟨m', hm, i + 1, σ7, H8, I8.unpinned, st8, fr8, w8⟩
      | true =>
        rw [if_pos rfl] at q8 ⊢
        refine thn (hk C s2 H2 fp _ s8 σ7 H8 _ I8 q8) fun yv s9 ⟨y, H9, I9, r9, q9⟩ => ?_
        refine thn (hv C s2 H2 fp _ s9 σ7 H9 _ I9 q9) fun xv s10 ⟨v, H10, I10, r10, H11, g11, q11⟩ => ?_
        refine d_dictSet (X := cxLc X scope N C s2 H2 fp) hu I10 g11 r9 r10 fun s11 I11 => ?_
        obtain ⟨m', hm, w11⟩ := hN _ _ q11
        obtain ⟨st11, fr11⟩ := back I11
        exact ⟨m', hm, i + 1, σ7, H11, I11.unpinned, st11, fr11, w11⟩
  have q := loop _ I4 st4
  subst hs2
  exact codeAny_compStart_dict q (T.self _ 0 _ _ _ st4 q)
theorem ps_setDc {i : Nat} {y : Str} {py spos : Pos} {wi : TI} (hu : X.A.units < cLine) (hN : X.N.Nodup) (hi' : X.N[i]? = some y) (hx : Loc X.env.scope y) (L : LcOk X scope N ix) (hc : X.calm = true) (hi : PI X tg iter wi) (hg : ∀ C s0 H0 fp, PG (cxLc X scope N C s0 H0 fp) tg g)
    (ht : ∀ C s0 H0 fp, PTs (cxLc X scope N C s0 H0 fp) ifs tt) (hk : ∀ C s0 H0 fp, PE (cxLc X scope N C s0 H0 fp) kx tk) (hv : ∀ C s0 H0 fp, PE (cxLc X scope N C s0 H0 fp) vx tv)
    (hsw : swapsWith (.DictComp kx vx [⟨tg, iter, ifs, 0⟩] scope pos) (some (.Name y py)) spos.line X.env = pure true := by rfl) (hs : ∀ x, foldedSetIterable iter X.env x = pure x := by intro _; rfl)
    (hf : X.fn y = true ∨ X.env.scope.names.lookup y = some .local := by first | exact .inl rfl | exact .inr rfl | assumption) :
    PS X (.Assign [.Name y py] (.DictComp kx vx [⟨tg, iter, ifs, 0⟩] scope pos) spos) (tSetDc i wi g tt tk tv ix) := by
  intro pins s σ H D I h
  rw [exec_Assign_Name_used _ _ _ _ hsw]
  refine wpAny_bind (wpAny_standAt (wpAny_bind ?_))
  show wpAny _ X.A (do let _ ← comprehension (.DictComp kx vx [⟨tg, iter, ifs, 0⟩] scope pos) scope X.env _ newDict false (eval iter X.env) (some (assign (.Name y py) X.env))) _ _ s
  refine wpAny_bind (thn (wpAny_comprehension_free (use := some (assign (.Name y py) X.env)) (Q := fun _ s' => SP X pins D .next s') rfl hs (L.clos I.ok) L.kind L.locals
    (thn (hi pins s σ H _ I h) fun v s1 h1 => thn h1 fun itv s2 h2 => ?_)) fun _ s' hq => wpAny_pure (wpAny_pure hq))
  obtain ⟨it, fp, tn, J, H2, rfl, I2, T, st2, f2, hW⟩ := h2
  refine dc_run (RR := fun acc C => compPost (model X.prog X.w) X.A X.xe (some (assign (.Name y py) X.env)) (fun _ s' => SP X pins D .next s') acc C) L hc hu hg ht hk hv I2 T st2 f2 hW ?_
  intro Da C s' m H' hn ho hC hI fin
  have I' := hI s'.heap (Heap.SameBut.refl _ _)
  show wpAny _ X.A (assign (.Name y py) X.env (.ref Da)) _ _ s'
  refine wpAny_assign_Name (store_ok2 (v := .ref Da) I' hN hi' hx rfl (fun s'' I'' ch => ?_) hf)
  obtain ⟨a, hsa, hwa⟩ := ch
  obtain ⟨c1, c2, c3, c4, c5, c6⟩ := hC
  have hCa : C ≠ a := by
    rcases hwa with z | z
    · rw [z]; exact c2
    · exact fun w => c5 y a z w.symm
  refine ⟨m, hn.sameBut hsa hCa, fun h' hs' => ⟨_, _, I''.turned (t' := s''.toks) (it := C) (fun b o hb e => hs'.extBut b o hb e) c1 c2 c4 c5 c6, fin⟩⟩
end
end L2

set_option Elab.async false
set_option linter.all false
set_option maxRecDepth 100000
set_option maxHeartbeats 4000000
namespace L2
open PySem PySem.Spec PyProof.Rows

/-! ### t < u of any tuples, pair by pair -/
inductive CmpAll (A : Around) (s : Shared) : List (Value × Value) → List (Bool × Bool) → Prop
  | nil : CmpAll A s [] []
  | cons {v u : Value} {e b : Bool} {r : List (Value × Value)} {cs : List (Bool × Bool)} : SeqAt.EqAt A s v u e →
      (e = false → ∀ (prog : Program) (w : World) (E : Value → Shared → Prop) (Q : Value → Shared → Prop), Q (.bool b) s → wpAny (model prog w) A (richCompare .Lt v u) Q E s) → CmpAll A s r cs → CmpAll A s ((v, u) :: r) ((e, b) :: cs)
noncomputable def lexC (d : Bool) : List (Bool × Bool) → Bool
  | [] => d
  | (true, _) :: r => lexC d r
  | (false, b) :: _ => b
section
open PySem.SeqAt
open PySem.AutoSeq1 (wpAny_loadPart')
open PySem.MeetsSeq PySem.MeetsSeq2 PySem.MeetsSeq3
theorem tuple_lt_cmp (l b : Addr) (xs ys : Array Value) (n n2 : Nat) (dd dd2 : Option Addr) (sl sl2 : Array (Option Value)) :
    Meets (Builtin.«tuple.__lt__» ⟨[.ref l, .ref b], []⟩)
      (fun A R s => s.heap.get? l = some { cls := .type "tuple", dict := dd, data := .seq xs n, slots := sl } ∧ s.heap.get? b = some { cls := .type "tuple", dict := dd2, data := .seq ys n2, slots := sl2 } ∧
        ∃ cs, CmpAll A.in1 s (xs.toList.zip ys.toList) cs ∧ R (.ok (.ret (.bool (lexC (decide (xs.size < ys.size)) cs)))) s) :=
  .of_wp fun prog w A R s h => by
    obtain ⟨hp, g, d, tk, os⟩ := s; obtain ⟨hl, hb, cs, hcs, h⟩ := h
    have f2 := AutoSeq1.sub_tuple_tuple
    wp_walk using wpAny_loadPart' hl, wpAny_loadPart' hb, wpAny_forIn_list _ (fun rest b s' => b.1 = none ∧ s' = ⟨hp, g, d, tk, os⟩ ∧ ∃ cs', CmpAll A.in1 ⟨hp, g, d, tk, os⟩ rest cs' ∧ R (.ok (.ret (.bool (lexC (decide (xs.size < ys.size)) cs')))) ⟨hp, g, d, tk, os⟩) _
    case turn =>
      rintro ⟨y, x⟩ rest b s' ⟨hb', rfl, cs', hc, hR⟩
      cases hc with
      | @cons _ _ e bb _ cs'' he hlt hr =>
        refine wpAny_bind (he prog w _ _ ?_)
        cases e with
        | true =>
          wp_walk
          exact ⟨rfl, rfl, _, hr, hR⟩
        | false =>
          have hri := hlt rfl prog w
          wp_walk using hri
          exact ⟨_, rfl, by simpa [lexC] using hR⟩
    case fin =>
      rintro ⟨b1, b2⟩ s' ⟨hb', rfl, cs', hc, hR⟩
      simp only at hb'
      subst hb'
      cases hc
      wp_walk
      exact ⟨_, rfl, by simpa [Builtin.Tuple.tupleCompareSizes, lexC] using hR⟩
    case h =>
      exact ⟨rfl, rfl, cs, hcs, h⟩
end
section
variable {prog : Program} {w : World} {A : Around} {E : Value → Shared → Prop} {s : Shared}
theorem rc_lt_tup {l b : Addr} {xs ys : Array Value} {cs : List (Bool × Bool)} {Q : Value → Shared → Prop} (hl : IsTup s.heap l xs) (hb : IsTup s.heap b ys) (hu : A.units < cLine) (hc : CmpAll A.in1 s (xs.toList.zip ys.toList) cs)
    (h : Q (.bool (lexC (decide (xs.size < ys.size)) cs)) s) : wpAny (model prog w) A (richCompare .Lt (.ref l) (.ref b)) Q E s := by
  obtain ⟨⟨cls, dd, data, sl⟩, ho, hc', n, hd⟩ := id hl
  obtain ⟨⟨cls2, dd2, data2, sl2⟩, ho2, hc2, n2, hd2⟩ := id hb
  simp only at hc' hd hc2 hd2
  subst hc' hd hc2 hd2
  exact richCompare_meets_room (op := .Lt) ⟨_, ho, rfl⟩ ⟨_, ho2, rfl⟩ PySem.F.slot_tuple_lt PySem.F.entry_tuple_lt (PySem.F.args_tuple_lt_2 _ _) (tuple_lt_cmp l b xs ys n n2 dd dd2 sl sl2)
    ⟨ho, ho2, cs, hc, show Value.bool (lexC (decide (xs.size < ys.size)) cs) ≠ Value.notImplemented ∧ Q (.bool (lexC (decide (xs.size < ys.size)) cs)) s from ⟨(fun x => nomatch x), h⟩⟩ hu
end

theorem nlt2 {l I : Nat} (h : l < I) (q : I + 1 = l) : False := by omega
/-! ### min of a list of things of the heap -/
section
variable {prog : Program} {w : World} {A : Around} {R : Result → Shared → Prop} {I : Addr} {fp wr : List Addr} {n : Nat} {P : Nat → Value → Prop} {St : Nat → Heap → Prop}
noncomputable def CmpIn (prog : Program) (w : World) (A : Around) (s0 : Shared) (P : Nat → Value → Prop) (St : Nat → Heap → Prop) (bt : Nat → Nat → Bool) : Prop :=
  ∀ i j k x y (G : Heap) (tk : Nat) (Q : Value → Shared → Prop) (E : Value → Shared → Prop), St k G → P i x → P j y → Q (.bool (bt i j)) { s0 with heap := G, toks := tk } → wpAny (model prog w) A (richCompare .Lt x y) Q E { s0 with heap := G, toks := tk }
theorem min_again (W : Walks prog w A.in1 I fp wr n P St) (bt : Nat → Nat → Bool) {s0 : Shared} (cmp : CmpIn prog w A.in1 s0 P St bt) (S : Addr) (nS : S ∉ fp) :
    ∀ (k j : Nat) (G0 : Heap) (k0 : Nat) (y : Value) (c : Nat), n - (j + 1) = k → j + 1 ≤ n → St (j + 1) G0 → P (argBest bt j) y →
    G0.get? S = some { cls := .type "list", dict := none, data := .seq #[y, y] c, slots := #[] } →
    (∀ v G tk, P (argBest bt (n - 1)) v → (∀ b o, b ∉ wr → b ≠ S → G0.get? b = some o → G.get? b = some o) → R (.ok (.ret v)) { s0 with heap := G, toks := tk }) →
    codeAny (model prog w) A (.builtin "min.loop" ⟨[.ref I, .none, .ref S], []⟩) R { s0 with heap := G0, toks := k0 } := by
  have nw : S ∉ wr := fun q => nS (W.sub _ q)
  have nm : (toString "min" ++ toString ".loop" : String) = "min.loop" := by decide
  intro k
  induction k with
  | zero =>
    intro j G0 k0 y c hk hj st py hS hR
    have ej : j + 1 = n := by omega
    refine codeAny_builtin F.entry_min_loop ?_
    rw [Around.under_plainId F.plain_min_loop _]
    refine (show wpAny _ A.in1 (seqItems? (.ref S) >>= _) _ _ { s0 with heap := G0, toks := k0 } from wpAny_bind (wpAny_seqItems hS rfl ?_))
    refine (show wpAny _ A.in1 (tryCatch (pyNext (.ref I)) _ >>= _) _ _ { s0 with heap := G0, toks := k0 } from wpAny_bind (wpAny_tryCatch (W.done { s0 with heap := G0, toks := k0 } _ _ (ej ▸ st) fun G tk kp => ?_)))
    have hS2 := kp S _ nw hS
    refine (show wpAny _ A.in1 (updateSeq S (fun _ => #[]) >>= _) _ _ _ from wpAny_bind (wpAny_updateSeq hS2 rfl (wpAny_bind (wpAny_letGo (wpAny_pure ?_)))))
    exact hR y _ tk (by rw [← ej]; exact py) fun b o h1 h2 e => (Heap.get?_update_other _ _ (Ne.symm h2)).trans (kp b o h1 e)
  | succ k ih =>
    intro j G0 k0 y c hk hj st py hS hR
    have lt : j + 1 < n := by omega
    refine codeAny_builtin F.entry_min_loop ?_
    rw [Around.under_plainId F.plain_min_loop _]
    refine (show wpAny _ A.in1 (seqItems? (.ref S) >>= _) _ _ { s0 with heap := G0, toks := k0 } from wpAny_bind (wpAny_seqItems hS rfl ?_))
    refine (show wpAny _ A.in1 (tryCatch (pyNext (.ref I)) _ >>= _) _ _ { s0 with heap := G0, toks := k0 } from wpAny_bind (wpAny_tryCatch (W.item (j + 1) { s0 with heap := G0, toks := k0 } _ _ lt st fun x G tk px st2 kp => ?_)))
    have hS2 := kp S _ nw hS
    refine (show wpAny _ A.in1 (tryCatch (holding [x, x] (richCompare .Lt x y >>= _)) _ >>= _) _ _ _ from wpAny_bind (wpAny_tryCatch (wpAny_holding (wpAny_bind (cmp (j + 1) (argBest bt j) _ x y G tk _ _ st2 px py ?_)))))
    refine wpAny_bind (wpAny_holding (wpAny_truthy_bool (wpAny_bind (wpAny_letGo (wpAny_pure ?_)))))
    cases hb : bt (j + 1) (argBest bt j) with
    | true =>
      simp only [if_true]
      refine wpAny_bind (wpAny_updateSeq hS2 rfl (wpAny_bind (wpAny_letGo ?_)))
      rw [nm]
      refine wpAny_pure ⟨plainId_quiet F.plain_min_loop _, ih (j + 1) _ _ x _ (by omega) lt (W.frame _ _ _ st2 fun b hf o e => (Heap.get?_update_other _ _ (fun q : S = b => nS (by rw [q]; exact hf))).trans e) (by simp only [argBest, hb, if_true]; exact px) (Heap.get?_update_self _ hS2 rfl) fun v G2 tk2 pv kp2 => ?_⟩
      exact hR v G2 tk2 pv fun b o h1 h2 e => kp2 b o h1 h2 ((Heap.get?_update_other _ _ (Ne.symm h2)).trans (kp b o h1 e))
    | false =>
      simp only [Bool.false_eq_true, if_false]
      refine wpAny_bind (wpAny_letGo ?_)
      rw [nm]
      exact wpAny_pure ⟨plainId_quiet F.plain_min_loop _, ih (j + 1) _ _ y c (by omega) lt st2 (by simp only [argBest, hb, Bool.false_eq_true, if_false]; exact py) hS2 fun v G2 tk2 pv kp2 => hR v G2 tk2 pv fun b o h1 h2 e => kp2 b o h1 h2 (kp b o h1 e)⟩
theorem min_start (W : Walks prog w A.in1 I fp wr n P St) (bt : Nat → Nat → Bool) {s0 : Shared} (cmp : CmpIn prog w A.in1 s0 P St bt) (S : Addr) (nS : S ∉ fp) (hn : 0 < n) {G0 : Heap} {k0 : Nat} {c : Nat} (st : St 0 G0)
    (hS : G0.get? S = some { cls := .type "list", dict := none, data := .seq #[] c, slots := #[] })
    (hR : ∀ v G tk, P (argBest bt (n - 1)) v → (∀ b o, b ∉ wr → b ≠ S → G0.get? b = some o → G.get? b = some o) → R (.ok (.ret v)) { s0 with heap := G, toks := tk }) :
    codeAny (model prog w) A (.builtin "min.loop" ⟨[.ref I, .none, .ref S], []⟩) R { s0 with heap := G0, toks := k0 } := by
  have nw : S ∉ wr := fun q => nS (W.sub _ q)
  have nm : (toString "min" ++ toString ".loop" : String) = "min.loop" := by decide
  refine codeAny_builtin F.entry_min_loop ?_
  rw [Around.under_plainId F.plain_min_loop _]
  refine (show wpAny _ A.in1 (seqItems? (.ref S) >>= _) _ _ { s0 with heap := G0, toks := k0 } from wpAny_bind (wpAny_seqItems hS rfl ?_))
  refine (show wpAny _ A.in1 (tryCatch (pyNext (.ref I)) _ >>= _) _ _ { s0 with heap := G0, toks := k0 } from wpAny_bind (wpAny_tryCatch (W.item 0 { s0 with heap := G0, toks := k0 } _ _ hn st fun x G tk px st2 kp => ?_)))
  have hS2 := kp S _ nw hS
  refine (show wpAny _ A.in1 (updateSeq S (fun _ => #[x, x]) >>= _) _ _ _ from wpAny_bind (wpAny_updateSeq hS2 rfl ?_))
  rw [nm]
  refine wpAny_pure ⟨plainId_quiet F.plain_min_loop _, min_again W bt cmp S nS _ 0 _ _ x _ rfl hn (W.frame _ _ _ st2 fun b hf o e => (Heap.get?_update_other _ _ (fun q : S = b => nS (by rw [q]; exact hf))).trans e) px (Heap.get?_update_self _ hS2 rfl) fun v G2 tk2 pv kp2 => ?_⟩
  exact hR v G2 tk2 pv fun b o h1 h2 e => kp2 b o h1 h2 ((Heap.get?_update_other _ _ (Ne.symm h2)).trans (kp b o h1 e))
end
section
variable {prog : Program} {w : World} {A : Around} {E : Value → Shared → Prop} {s : Shared}
theorem min_of_list {l : Addr} {its : Array Value} {Q : Value → Shared → Prop} (bt : Nat → Nat → Bool) (hh : A.handled = none) (hl : s.heap.IsList l its) (hn : 0 < its.size)
    (cmp : ∀ i j x y (G : Heap) (tk : Nat) (Q : Value → Shared → Prop) (E : Value → Shared → Prop), (∀ b o, s.heap.get? b = some o → G.get? b = some o) → its[i]? = some x → its[j]? = some y → Q (.bool (bt i j)) { s with heap := G, toks := tk } → wpAny (model prog w) A.in1 (richCompare .Lt x y) Q E { s with heap := G, toks := tk })
    (h : ∀ v G tk, its[argBest bt (its.size - 1)]? = some v → (∀ b o, s.heap.get? b = some o → G.get? b = some o) → Q v { s with heap := G, toks := tk }) : wpAny (model prog w) A (call (.builtin "min") [.ref l]) Q E s := by
  have nm : (toString "min" ++ toString ".loop" : String) = "min.loop" := by decide
  have hll : l < s.heap.objs.size := by obtain ⟨_, e, _⟩ := hl; exact Heap.lt_size e
  refine call_function_tree F.kind_min F.plain_min F.entry_min (F.args_min1 _) ?_
  refine (show wpAny _ A.in1 (Builtin.Builtins.bindParams "min" ["key", "default"] 0 ⟨[], []⟩ >>= _) _ _ s from wpAny_bind (wpAny_of_eq (show Builtin.Builtins.bindParams "min" ["key", "default"] 0 ⟨[], []⟩ = pure [none, none] from rfl) (wpAny_bind (wpAny_pure (wpAny_bind (wpAny_pyIter_list hl (wpAny_bind (wpAny_newObj_type ?_))))))))
  generalize hG : s.heap.push { cls := .type "list_iterator", data := .fields #[.ref l, .int 0 0] } = G
  generalize hI : s.heap.objs.size = I at *
  have nl : l ≠ I := Nat.ne_of_lt hll
  have gs : G.objs.size = I + 1 := by rw [← hG, Heap.size_push, hI]
  have W0 := Walks.list (prog := prog) (w := w) (A := A.in1) hh I l nl its
  have W : Walks prog w A.in1 I ([I, l] ++ List.range I) [I] its.size (fun i v => its[i]? = some v) (fun i h => (h.IsListIter I l i ∧ h.IsList l its) ∧ ∀ b o, s.heap.get? b = some o → h.get? b = some o) := {
    sub := fun b hb => List.mem_append_left _ (W0.sub b hb)
    frame := fun i h h' st k => ⟨W0.frame i h h' st.1 fun b hb o e => k b (List.mem_append_left _ hb) o e, fun b o e => k b (List.mem_append_right _ (List.mem_range.mpr (by have := Heap.lt_size e; rw [hI] at this; exact this))) o (st.2 b o e)⟩
    item := fun i t Q E hi st hQ => W0.item i t Q E hi st.1 fun v G' tk pv st' k => hQ v G' tk pv ⟨st', fun b o e => k b o (fun z => by
      have z' : b = I := by simpa using z
      have := Heap.lt_size e
      rw [hI, z'] at this
      exact absurd this (Nat.lt_irrefl _)) (st.2 b o e)⟩ k
    done := fun t Q E st hQ => W0.done t Q E st.1 hQ
    self := fun i t Q E st hQ => W0.self i t Q E st.1 hQ }
  have nS : G.objs.size ∉ [I, l] ++ List.range I := fun z => by
    rw [gs] at z
    rcases List.mem_append.mp z with q | q
    · simp only [List.mem_cons, List.not_mem_nil, or_false] at q
      rcases q with q | q
      · exact absurd q (Nat.succ_ne_self I)
      · exact (nlt2 hll q).elim
    · exact absurd (List.mem_range.mp q) (Nat.not_lt_of_lt (Nat.lt_succ_self I))
  have kp : ∀ b o, s.heap.get? b = some o → G.get? b = some o := fun b o e => by rw [← hG]; exact Heap.get?_push_of_some _ e
  have st0 : G.IsListIter I l 0 ∧ G.IsList l its := ⟨⟨_, by rw [← hG, ← hI]; exact Heap.get?_push_size _ rfl, rfl, rfl⟩, by rw [← hG]; exact hl.push _⟩
  rw [nm]
  refine wpAny_pure ⟨plainId_quiet F.plain_min_loop _, min_start (s0 := s) W bt (fun i j k x y G' tk Q E st px py hq => cmp i j x y G' tk Q E st.2 px py hq) G.objs.size nS hn (W.frame 0 G _ ⟨st0, kp⟩ fun b _ o e => Heap.get?_push_of_some _ e) (Heap.get?_push_size _ rfl) fun v G' tk pv k => ?_⟩
  exact h v G' tk pv fun b o e => k b o (fun z => by
    have z' : b = I := by simpa using z
    have := Heap.lt_size e
    rw [hI, z'] at this
    exact absurd this (Nat.lt_irrefl _)) (fun z => by
    have := Heap.lt_size (kp b o e)
    rw [z] at this
    exact absurd this (Nat.lt_irrefl _)) (Heap.get?_push_of_some _ (kp b o e))
end
end L2

set_option Elab.async false
set_option linter.all false
set_option maxRecDepth 100000
set_option maxHeartbeats 4000000
namespace L2
open PySem PySem.Spec PyProof.Rows

/-! ### sum, abs, list.index -/
section
variable {X : Cx}
end
end L2

set_option Elab.async false
set_option linter.all false
set_option maxRecDepth 100000
set_option maxHeartbeats 4000000
namespace L2
open PySem PySem.Spec PyProof.Rows

/-! ### zip of two tuples -/
section
variable {prog : Program} {w : World} {A : Around} {E : Value → Shared → Prop} {s : Shared}
theorem tn_item {c t : Addr} {i : Nat} {its : Array Value} {v : Value} {Q : Value → Shared → Prop} (hi : s.heap.IsTupleIter c t i) (ht : s.heap.IsTuple t its) (hv : its[i]? = some v)
    (k : ∀ G, G.IsTupleIter c t (i + 1) → Heap.SameBut c s.heap G → Q v { s with heap := G }) : wpAny (model prog w) A (Builtin.SmallTypes.nextOf (.ref c)) Q E s := by
  obtain ⟨o, e, cl, d⟩ := id hi
  obtain ⟨o2, e2, _, n2, d2⟩ := ht
  unfold Builtin.SmallTypes.nextOf
  refine wpAny_bind (wpAny_callSpecial?_slot (name := Str.ofString "__next__") hi.typeIs F.slot_tuple_iterator_next (wpAny_call_entry F.slot_tuple_iterator_next hi.typeIs F.entry_tuple_iterator_next ?_ (F.args_tuple_iterator_next_1 _)))
  refine (show wpAny _ _ (field (.ref c) 0 >>= _) _ _ s from wpAny_bind (wpAny_field e d (x := .ref t) rfl ?_))
  refine (show wpAny _ _ (if (Value.ref t == Value.none) = true then _ else _) _ _ s from ?_); rw [if_neg (show ¬ ((Value.ref t == Value.none) = true) from Bool.false_ne_true)]
  refine (show wpAny _ _ (field (.ref c) 1 >>= _) _ _ s from wpAny_bind (wpAny_field e d (x := .int i 0) rfl ?_))
  refine (show wpAny _ _ (seqItems? (.ref t) >>= _) _ _ s from wpAny_bind (wpAny_seqItems e2 d2 ?_)); simp only [Int.toNat_natCast, hv]
  refine wpAny_bind (wpAny_setField e d (by simp) (wpAny_pure ⟨v, rfl, wpAny_pure (k _ ⟨_, Heap.get?_update_self _ e (Obj.isFreed_of_fields (Obj.data_mapFields d _)), (Obj.cls_mapFields ..).trans cl, by rw [Obj.data_mapFields d]; simp [rawInt]⟩ (Heap.SameBut.update ..))⟩))
theorem tn_end {c t : Addr} {i : Nat} {its : Array Value} {Q : Value → Shared → Prop} (hh : A.handled = none) (hi : s.heap.IsTupleIter c t i) (ht : s.heap.IsTuple t its) (hv : its[i]? = none)
    (k : ∀ G x, Heap.ExtBut c s.heap G → (∃ o, G.get? x = some o ∧ o.cls = .type "StopIteration") → E (.ref x) { s with heap := G }) : wpAny (model prog w) A (Builtin.SmallTypes.nextOf (.ref c)) Q E s := by
  obtain ⟨o, e, cl, d⟩ := id hi
  obtain ⟨o2, e2, _, n2, d2⟩ := ht
  unfold Builtin.SmallTypes.nextOf
  refine wpAny_bind (wpAny_callSpecial?_slot (name := Str.ofString "__next__") hi.typeIs F.slot_tuple_iterator_next (wpAny_call_entry F.slot_tuple_iterator_next hi.typeIs F.entry_tuple_iterator_next ?_ (F.args_tuple_iterator_next_1 _)))
  refine (show wpAny _ _ (field (.ref c) 0 >>= _) _ _ s from wpAny_bind (wpAny_field e d (x := .ref t) rfl ?_))
  refine (show wpAny _ _ (if (Value.ref t == Value.none) = true then _ else _) _ _ s from ?_); rw [if_neg (show ¬ ((Value.ref t == Value.none) = true) from Bool.false_ne_true)]
  refine (show wpAny _ _ (field (.ref c) 1 >>= _) _ _ s from wpAny_bind (wpAny_field e d (x := .int i 0) rfl ?_))
  refine (show wpAny _ _ (seqItems? (.ref t) >>= _) _ _ s from wpAny_bind (wpAny_seqItems e2 d2 ?_)); simp only [Int.toNat_natCast, hv]
  refine wpAny_bind (wpAny_rule (wpAny_bind (wpAny_setField e d (by simp) (show wpAny _ _ (newExc (.type "StopIteration") [] >>= _) _ _ _ from wpAny_bind ?_)))); simp only [newExc, newTuple]
  refine wpAny_bind (wpAny_newObj_type (wpAny_bind (m := firstArgMember _ _) (wpAny_of_eq (a := Value.none) (by first | rfl | (simp only [firstArgMember]; rfl)) (wpAny_newObj_type ?_ (by size_fits)))) (by size_fits)); simp only [raiseNew]
  refine wpAny_bind (wpAny_handled ?_); (first | rw [show A.in1.handled = none from hh] | rw [hh])
  exact wpAny_bind (wpAny_pure (wpAny_throw (k _ _ (((Heap.SameBut.update ..).extBut.push _).push _) ⟨_, Heap.get?_push_size _ rfl, rfl⟩)))
end
end L2

set_option Elab.async false
set_option linter.all false
set_option maxRecDepth 100000
set_option maxHeartbeats 4000000
namespace L2
open PySem PySem.Spec PyProof.Rows
section
variable {prog : Program} {w : World} {A : Around} {E : Value → Shared → Prop} {s : Shared}
end
section
variable {X : Cx}
end
end L2

set_option Elab.async false
set_option linter.all false
set_option maxRecDepth 100000
set_option maxHeartbeats 4000000
namespace L2
open PySem PySem.Spec PyProof.Rows

/-! ### the keys of a dict whose keys are tuples, walked -/
section
variable {prog : Program} {w : World} {A : Around} {E : Value → Shared → Prop} {s : Shared}
theorem dk_next {c d : Addr} {i ep : Nat} {o : Obj} {es : Array DictEntry} {Q : Option Value → Shared → Prop} (hi : s.heap.IsKeyIter c d i es.size ep) (ho : s.heap.get? d = some o) (hd : o.data = .dict es ep) (lt : i < es.size)
    (q : ∀ G, G.IsKeyIter c d (i + 1) es.size ep → Heap.SameBut c s.heap G → Q (some es[i].key) { s with heap := G }) : wpAny (model prog w) A (pyNext (.ref c)) Q E s := by
  obtain ⟨oc, e, cl, dc⟩ := id hi
  have own : Builtin.Dict_items.ownsTuple "dict_keyiterator" = false := by decide
  unfold pyNext
  refine wpAny_bind (wpAny_attempt (wpAny_callSpecial?_slot (name := Str.ofString "__next__") hi.typeIs F.slot_dict_keyiterator_next (wpAny_call_entry F.slot_dict_keyiterator_next hi.typeIs F.entry_dict_keyiterator_next ?_ (F.args_dict_keyiterator_next_1 _))))
  refine wpAny_bind (wpAny_pure (wpAny_bind (wpAny_bind ?_)))
  (first | refine wpAny_bind (wpAny_typeNameOfWhole_keyiter hi.typeIs (wpAny_pure (wpAny_bind (wpAny_fieldsOf e dc ?_)))) | refine wpAny_bind (wpAny_typeNameOf_keyiter hi.typeIs (wpAny_pure (wpAny_bind (wpAny_fieldsOf e dc ?_))))); simp only [own, Bool.false_eq_true, if_false]
  refine (show wpAny _ _ (if (Value.ref d == Value.none) = true then _ else _) _ _ s from ?_); rw [if_neg (show ¬ ((Value.ref d == Value.none) = true) from Bool.false_ne_true)]
  refine wpAny_bind (wpAny_pure (wpAny_bind (wpAny_dictEntries ho hd ?_))); rw [if_neg (by simp)]
  refine wpAny_bind (wpAny_pure (wpAny_bind (wpAny_dictEpoch ho hd ?_))); rw [if_neg (by simp)]
  refine wpAny_pure ?_; simp only [show ¬ ((i : Int) < 0) from by omega, if_false, Int.toNat_natCast, Array.getElem?_eq_getElem lt]
  refine wpAny_bind ?_; (first | refine wpAny_bind (wpAny_typeNameOfWhole_keyiter hi.typeIs (wpAny_pure (wpAny_bind (wpAny_isOneOf_keyiter hi.typeIs ?_)))) | refine wpAny_bind (wpAny_typeNameOf_keyiter hi.typeIs (wpAny_pure (wpAny_bind (wpAny_isOneOf_keyiter hi.typeIs ?_)))))
  refine (show wpAny _ _ (setField (.ref c) 1 (rawInt ((i : Int) + 1)) >>= _) _ _ s from wpAny_bind (wpAny_setField e dc (by simp) ?_))
  have hi2 : (s.heap.update c (Obj.mapFields (·.setIfInBounds 1 (rawInt ((i : Int) + 1))))).IsKeyIter c d (i + 1) es.size ep := ⟨_, Heap.get?_update_self _ e (Obj.isFreed_of_fields (Obj.data_mapFields dc _)), (Obj.cls_mapFields ..).trans cl, by rw [Obj.data_mapFields dc]; simp [rawInt]⟩
  refine wpAny_bind (wpAny_holding (wpAny_bind (wpAny_isOneOf_keyiter (s := { s with heap := s.heap.update c (Obj.mapFields (·.setIfInBounds 1 (rawInt ((i : Int) + 1)))) }) hi2.typeIs ?_)))
  exact (show wpAny _ _ (pure es[i].key) _ _ _ from wpAny_pure (wpAny_pure ⟨_, rfl, wpAny_pure (q _ hi2 (Heap.SameBut.update ..))⟩))
theorem dk_end {c d : Addr} {i ep : Nat} {o : Obj} {es : Array DictEntry} {Q : Option Value → Shared → Prop} (hh : A.handled = none) (hi : s.heap.IsKeyIter c d i es.size ep) (ho : s.heap.get? d = some o) (hd : o.data = .dict es ep) (ge : es.size ≤ i)
    (q : ∀ G, Heap.ExtBut c s.heap G → Q none { s with heap := G }) : wpAny (model prog w) A (pyNext (.ref c)) Q E s := by
  obtain ⟨oc, e, cl, dc⟩ := id hi
  have own : Builtin.Dict_items.ownsTuple "dict_keyiterator" = false := by decide
  unfold pyNext
  refine wpAny_bind (wpAny_attempt (wpAny_callSpecial?_slot (name := Str.ofString "__next__") hi.typeIs F.slot_dict_keyiterator_next (wpAny_call_entry F.slot_dict_keyiterator_next hi.typeIs F.entry_dict_keyiterator_next ?_ (F.args_dict_keyiterator_next_1 _))))
  refine wpAny_bind (wpAny_pure (wpAny_bind (wpAny_bind ?_)))
  (first | refine wpAny_bind (wpAny_typeNameOfWhole_keyiter hi.typeIs (wpAny_pure (wpAny_bind (wpAny_fieldsOf e dc ?_)))) | refine wpAny_bind (wpAny_typeNameOf_keyiter hi.typeIs (wpAny_pure (wpAny_bind (wpAny_fieldsOf e dc ?_))))); simp only [own, Bool.false_eq_true, if_false]
  refine (show wpAny _ _ (if (Value.ref d == Value.none) = true then _ else _) _ _ s from ?_); rw [if_neg (show ¬ ((Value.ref d == Value.none) = true) from Bool.false_ne_true)]
  refine wpAny_bind (wpAny_pure (wpAny_bind (wpAny_dictEntries ho hd ?_))); rw [if_neg (by simp)]
  refine wpAny_bind (wpAny_pure (wpAny_bind (wpAny_dictEpoch ho hd ?_))); rw [if_neg (by simp)]
  refine wpAny_pure ?_; simp only [show ¬ ((i : Int) < 0) from by omega, if_false, Int.toNat_natCast, Array.getElem?_eq_none ge]
  refine wpAny_bind ?_; (first | refine wpAny_bind (wpAny_typeNameOfWhole_keyiter hi.typeIs (wpAny_pure ?_)) | refine wpAny_bind (wpAny_typeNameOf_keyiter hi.typeIs (wpAny_pure ?_)))
  refine (show wpAny _ _ (setField (.ref c) 0 .none >>= _) _ _ s from wpAny_bind (wpAny_setField e dc (by simp) (show wpAny _ _ (newExc (.type "StopIteration") [] >>= _) _ _ _ from wpAny_bind ?_))); simp only [newExc, newTuple]
  refine wpAny_bind (wpAny_newObj_type (wpAny_bind (m := firstArgMember _ _) (wpAny_of_eq (a := Value.none) (by first | rfl | (simp only [firstArgMember]; rfl)) (wpAny_newObj_type ?_ (by size_fits)))) (by size_fits)); simp only [raiseNew]
  refine wpAny_bind (wpAny_handled ?_); rw [show A.in1.handled = none from hh]
  refine wpAny_bind (wpAny_pure (wpAny_throw ?_)); refine wpAny_bind (wpAny_isInstance (T := "StopIteration") (b := true) ⟨_, Heap.get?_push_size _ rfl, rfl⟩ isSubtype_stop (wpAny_pure (q _ (((Heap.SameBut.update ..).extBut.push _).push _))))
theorem dk_iter {d : Addr} {ep : Nat} {o : Obj} {es : Array DictEntry} {Q : Value → Shared → Prop} (nd : (d == sysModules) = false) (ho : s.heap.get? d = some o) (ex : o.ExactDict) (hd : o.data = .dict es ep)
    (q : Q (.ref s.heap.objs.size) { s with heap := s.heap.push { cls := .type "dict_keyiterator", data := .fields #[.ref d, .int 0 0, .int es.size 0, .int ep 0] } }) : wpAny (model prog w) A (pyIter (.ref d)) Q E s := by
  have ty : s.TypeIs (.ref d) "dict" := ⟨o, ho, ex.1⟩
  refine wpAny_pyIter_slot ty F.slot_dict_iter (wpAny_call_entry F.slot_dict_iter ty F.entry_dict_iter ?_ (F.args_dict_iter_1 _))
  unfold Builtin.«dict.__iter__»; refine wpAny_bind ?_; unfold Builtin.Dict.dictSlotNone
  refine wpAny_bind (wpAny_notOrdered_dict ty (show wpAny _ _ (pure (Value.ref d)) _ _ s from wpAny_pure (show wpAny _ _ (Builtin.Dict.showsAll d >>= _) _ _ s from ?_))); unfold Builtin.Dict.showsAll; rw [if_neg (by rw [nd]; exact Bool.false_ne_true)]
  refine wpAny_bind (wpAny_pure (wpAny_bind (wpAny_dictEntries ho hd (wpAny_bind (wpAny_dictEpoch ho hd (wpAny_bind (wpAny_newObj_type (wpAny_pure ⟨_, rfl, "dict_keyiterator", _, ⟨_, Heap.get?_push_size _ rfl, rfl⟩, F.slot_dict_keyiterator_next.lookup, ?_⟩))))))))
  simpa [rawInt] using q
end
/-- a dict is frozen: its record stays as it is -/
theorem Inv.freeze {X : Cx} {pins : List (Addr × Obj)} {σ : St} {H : Hp} {s : Shared} {a : Addr} {o : Obj} {kvs : List (List Key × V)} (I : Inv X pins σ H s) (e : H a = some (.dT kvs)) (ho : s.heap.get? a = some o) : Inv X pins σ (upd H a (.frz o (.dT kvs))) s := by
  have ne : ∀ b u, H b = some u → (∀ k, u ≠ .dT k) → b ≠ a := fun b u q n z => by
    rw [z, e] at q
    cases q
    exact n _ rfl
  have st : ∀ {b : Addr} {u : HO}, ObjOk X.prog X.w H s.heap b u → ObjOk X.prog X.w (upd H a (.frz o (.dT kvs))) s.heap b u := fun x => x.stay (fun _ _ _ q => q) (fun b q => by rw [upd_ne (ne b _ q (by intro k z; cases z))]; exact q) fun b xs q => by rw [upd_ne (ne b _ q (by intro k z; cases z))]; exact q
  refine I.step (h' := s.heap) (g' := s.gens) (t' := s.toks) (d' := s.drawn) (ch := []) (fun _ z => nomatch z) (fun b o _ _ _ q _ => q) (fun b o _ _ _ q _ => ⟨o.slots, q⟩) (fun b o' _ q n => ?_) (fun b o _ q => ⟨o, q⟩) (fun b xs q => ?_) (fun b o u q => ?_) (fun b ps q => ?_) (fun m h => h) (fun b u q => ?_) I.bare
  · rw [upd_ne (fun z => by rw [z, e] at n; cases n)]; exact n
  · rw [upd_ne (ne b _ q (by intro k z; cases z))]; exact q
  · rw [upd_ne (ne b _ q (by intro k z; cases z))]; exact q
  · exact ⟨#[], by rw [upd_ne (ne b _ q (by intro k z; cases z)), q]; simp⟩
  · by_cases hb : b = a
    · subst hb
      rw [upd_same] at q
      cases q
      exact ⟨ho, st (I.hok b _ e)⟩
    · rw [upd_ne hb] at q
      exact st (I.hok b u q)
noncomputable def Itd (a : Addr) (o : Obj) : It :=
  ⟨fun i H => ∃ kvs, H a = some (.frz o (.dT kvs)) ∧ i < kvs.length,
   fun i H v H' => H' = H ∧ ∀ kvs, H a = some (.frz o (.dT kvs)) → ∃ p b, kvs[i]? = some p ∧ v = .ref b ∧ H b = some (.tup (p.1.map kV)),
   fun i H => ∃ kvs, H a = some (.frz o (.dT kvs)) ∧ kvs.length ≤ i⟩
theorem Paired.at {α β : Type} {F : α → β → Prop} : ∀ {l : List α} {m : List β}, Paired F l m → ∀ {i : Nat} {x : α}, l[i]? = some x → ∃ y, m[i]? = some y ∧ F x y
  | _, _, .cons r t, 0, x, h => by simp at h; subst h; exact ⟨_, rfl, r⟩
  | _, _, .cons r t, i + 1, x, h => by simpa using Paired.at t (by simpa using h)
theorem turn_dict {P : Program} {w : World} {K : PySem.W.Frag} {tg : Expr} (a it : Addr) (o : Obj) (es : Array DictEntry) (ep : Nat) (hd : o.data = .dict es ep) : Turn P w K tg (Itd a o) [it] it (fun i h => h.IsKeyIter it a i es.size ep) where
  mem := by simp
  obj := fun i h st b hb => by
    have e : b = it := by simpa using hb
    subst e
    obtain ⟨o, e, c, d⟩ := st
    exact ⟨o, e, fun v z => by rw [d] at z; cases z⟩
  keep := fun i h h' st k => st.at fun o e => k it (by simp) o e
  item := by
    intro X hP hw hK hc i pins s σ H E I hf st hg
    subst hP hw hK
    obtain ⟨kvs, ha, lt⟩ := hg
    obtain ⟨ho, _, _, xs, rel, o2, es2, ep2, h1, _, h2, h3, _⟩ := (show ObjOk X.prog X.w H s.heap a (.frz o (.dT kvs)) from I.hok a _ ha)
    rw [ho] at h1
    cases h1
    rw [hd] at h2
    cases h2
    have hl := Paired.length rel
    have hes : es.size = xs.length := size_of_entries h3
    have lt2 : i < es.size := by omega
    obtain ⟨p, hp⟩ : ∃ p, kvs[i]? = some p := ⟨_, List.getElem?_eq_getElem lt⟩
    obtain ⟨y, hy, r1, r2, r3⟩ := Paired.at rel hp
    have ek : es[i].key = .ref y.2.1 := by
      have q := entry_at h3 i
      rw [hy, Array.getElem?_eq_getElem lt2] at q
      simp only [Option.map_some, Option.some.injEq] at q
      rw [q]; rfl
    obtain ⟨f0, f1, f2, f3, f4, f5⟩ := hf it (by simp)
    refine dk_next st ho hd lt2 fun h' st' sb => ?_
    rw [ek]
    have I1 : Inv X pins σ H { s with heap := h' } := I.turned (t' := s.toks) (fun b o hb e => (sb.2 b hb).trans e) f0 f1 f3 f4 f5
    obtain ⟨o', e, c, d⟩ := id st'
    exact ⟨_, rfl, go_of (s := { s with heap := h' }) e c d (by decide) ⟨.ref y.2.1, H, I1, rfl, ⟨rfl, fun kvs' ha' => by rw [ha] at ha'; cases ha'; exact ⟨p, _, hp, rfl, r2⟩⟩, st', fun b hb => (hf b hb).1⟩⟩
  done := by
    intro X hP hw hK hc i pins s σ H E I hf st hg
    subst hP hw hK
    obtain ⟨kvs, ha, ge⟩ := hg
    obtain ⟨ho, _, _, xs, rel, o2, es2, ep2, h1, _, h2, h3, _⟩ := (show ObjOk X.prog X.w H s.heap a (.frz o (.dT kvs)) from I.hok a _ ha)
    rw [ho] at h1
    cases h1
    rw [hd] at h2
    cases h2
    have hl := Paired.length rel
    have hes : es.size = xs.length := size_of_entries h3
    obtain ⟨f0, f1, f2, f3, f4, f5⟩ := hf it (by simp)
    exact dk_end (I.ok.hd hc) st ho hd (by omega) fun h' eb => ⟨rfl, I.turned (t' := s.toks) (fun b o hb e => eb b o hb e) f0 f1 f3 f4 f5⟩
  self := fun _ _ _ _ _ st h => wpAny_pyIter_keyiter st h
section
variable {X : Cx} {tg : Expr}
noncomputable def iDict (tl : TE) : TI := fun σ H R => tl σ H fun x H1 => ∃ a kvs, x = .ref a ∧ H1 a = some (.dT kvs) ∧ ∀ o, R (Itd a o) (upd H1 a (.frz o (.dT kvs)))
theorem pi_dict {l : Expr} {tl : TE} (hl : PE X l tl) : PI X tg l (iDict tl) := by
  intro pins s σ H R I h
  refine thn (hl pins s σ H _ I h) fun v s1 ⟨x, H1, I1, r1, q1⟩ => ?_
  obtain ⟨a, kvs, rfl, ha, q⟩ := q1
  cases r1
  obtain ⟨_, nd, xs, rel, o, es, ep, ho, ex, hd, h3, _⟩ := (show ObjOk X.prog X.w H1 s1.heap a (.dT kvs) from I1.hok a _ ha)
  refine dk_iter nd ho ex hd ?_
  have I2 := I1.freeze ha ho
  refine ⟨s1.heap.objs.size, [s1.heap.objs.size], _, _, _, rfl, I2.kept (t' := s1.toks) fun b o e => Heap.get?_push_of_some _ e, turn_dict a _ o es ep hd, ⟨_, Heap.get?_push_size _ rfl, rfl, rfl⟩, fun b hb => ?_, q o⟩
  have e : b = s1.heap.objs.size := by simpa using hb
  subst e
  exact I2.fpOk (Nat.le_refl _) (I2.hok.fresh (Nat.le_refl _))
end
end L2

set_option Elab.async false
set_option linter.all false
set_option maxRecDepth 100000
set_option maxHeartbeats 4000000
namespace L2
open PySem PySem.Spec PyProof.Rows
section
variable {X : Cx} {scope : Scope} {N : List Str} {ix : List (Option Nat)}
variable {tg iter kx vx : Expr} {ifs : List Expr} {pos : Pos} {g : TG} {tt : TT} {tk tv : TE}
end
end L2

set_option Elab.async false
set_option linter.all false
set_option maxRecDepth 100000
set_option maxHeartbeats 4000000
namespace L2
open PySem PySem.Spec PyProof.Rows

/-! ### methods -/
/-- a method call o.m(e) of a built-in, with one argument: what must be seen of the text -/
structure M1 (X : Cx) (o : Expr) (m : Str) (apos : Pos) (e : Expr) (cpos : Pos) : Prop where
  base : attributeBase o m X.env (eval o X.env) = eval o X.env
  few : ((backTo cpos (starEach [e] X.env)).all (fun x => !x.1) && (backToKw cpos (keywordEach [] X.env)).all (fun x => x.1.isSome)
    && decide (([e] : List Expr).length + ([] : List Keyword).length + (if ([] : List Keyword).isEmpty then 0 else 1) < 30)) = true
  line : (apos.endLine == cpos.line) = true
  trees : backTo cpos (starEach [e] X.env) = [(false, eval e X.env)]
structure M2 (X : Cx) (o : Expr) (m : Str) (apos : Pos) (e f : Expr) (cpos : Pos) : Prop where
  base : attributeBase o m X.env (eval o X.env) = eval o X.env
  few : ((backTo cpos (starEach [e, f] X.env)).all (fun x => !x.1) && (backToKw cpos (keywordEach [] X.env)).all (fun x => x.1.isSome)
    && decide (([e, f] : List Expr).length + ([] : List Keyword).length + (if ([] : List Keyword).isEmpty then 0 else 1) < 30)) = true
  line : (apos.endLine == cpos.line) = true
  trees : backTo cpos (starEach [e, f] X.env) = [(false, eval e X.env), (false, eval f X.env)]

section
variable {X : Cx} {pins : List (Addr × Obj)} {σ : St} {H : Hp} {s : Shared} {a : Addr} {y d : V} {u r : Value} {o : Option V} {A : Around} {E : Value → Shared → Prop}
end

section
variable {X : Cx} {o e f : Expr} {apos cpos : Pos} {td ty tx : TE}
end

/-! ### dict(d): a copy -/
section
variable {X : Cx} {pins : List (Addr × Obj)} {σ : St} {H : Hp} {s : Shared} {a : Addr} {kvs : List (Key × V)} {A : Around} {E : Value → Shared → Prop}
end


section
variable {X : Cx} {pins : List (Addr × Obj)} {σ : St} {H : Hp} {s : Shared} {a : Addr} {y : V} {u : Value} {A : Around} {E : Value → Shared → Prop}
end
section
variable {X : Cx}
end
/-! ### a dict's pairs: keys that differ -/
section
variable {κ : Type} [DecidableEq κ]
end
end L2

set_option Elab.async false
set_option linter.all false
set_option maxRecDepth 100000
set_option maxHeartbeats 4000000
namespace L2
open PySem PySem.Spec PyProof.Rows PySem.W PySem.Calls

/-! ### sorted(d): the keys of a dict by texts, sorted -/
section
variable {X : Cx}
end
end L2

set_option Elab.async false
set_option linter.all false
set_option maxRecDepth 100000
set_option maxHeartbeats 4000000
namespace L2
open PySem PySem.Spec PyProof.Rows PySem.W PySem.Calls

/-! ### dict([(k, v), ..]) -/
section
variable {prog : Program} {w : World} {A : Around} {E : Value → Shared → Prop} {s : Shared}
end
section
variable {prog : Program} {w : World} {A : Around} {R : Result → Shared → Prop} {K : Type} [DecidableEq K] {knd : PySem.KeyKind prog w K}
end
end L2

set_option Elab.async false
set_option linter.all false
set_option maxRecDepth 100000
set_option maxHeartbeats 4000000
namespace L2
open PySem PySem.Spec PyProof.Rows PySem.W PySem.Calls
section
variable {X : Cx}
end
end L2

set_option Elab.async false
set_option linter.all false
set_option maxRecDepth 100000
set_option maxHeartbeats 4000000
namespace L2
open PySem PySem.Spec PyProof.Rows

/-! ### enumerate of a list -/
theorem boot_enum : bootBuiltins "enumerate" = some (.type "enumerate") := by decide +kernel
section
variable {X : Cx}
end
end L2

set_option Elab.async false
set_option linter.all false
set_option maxRecDepth 100000
set_option maxHeartbeats 4000000
namespace L2
open PySem PySem.Spec PyProof.Rows PySem.W PySem.Calls
section
variable {X : Cx}
end
end L2

set_option Elab.async false
set_option linter.all false
set_option maxRecDepth 100000
set_option maxHeartbeats 4000000
namespace L2
open PySem PySem.Spec PyProof.Rows PySem.W PySem.Calls
/-! ### a set of texts: how it is kept -/
noncomputable def txtOf : Value → Str
  | .str x _ => x
  | _ => default
/-- a set of the texts ss, none twice, in some order; of a set of texts the order is never led by numbers -/
structure TextSet (w : World) (o : Obj) (ss : List Str) (es : Array (Int × Value)) (ep : Nat) (t : SetTable) : Prop where
  cls : o.cls = .type "set"
  dic : o.dict = none
  slo : o.slots = #[]
  dat : o.data = .set es ep t
  els : ∀ e ∈ es.toList, ∃ tk, e.2 = .str (txtOf e.2) tk ∧ e.1 = hashStr w (txtOf e.2)
  all : (es.toList.map fun e => txtOf e.2).Perm ss
  one : ss.Nodup
  few : ss.length < 4000
  fit : t.fits es.size = true
  led : t.led = !w.params.followText "set-order"
  pla : es.size = 0 ∨ t.plain = false
theorem putSet_at {h : Heap} {a : Addr} {o : Obj} {es es' : Array (Int × Value)} {ep : Nat} {t t' : SetTable} (ho : h.get? a = some o) (hd : o.data = .set es ep t) :
    (h.update a (Obj.putSet es' t')).get? a = some { o with data := .set es' (ep + 1) t' } := by
  have q := Heap.get?_update_self (Obj.putSet es' t') ho (by rw [putSet_of es' t' hd]; rfl)
  rw [putSet_of es' t' hd] at q
  exact q
section
variable {prog : Program} {w : World} {A : Around} {E : Value → Shared → Prop} {s : Shared}
end
end L2

set_option Elab.async false
set_option linter.all false
set_option maxRecDepth 100000
set_option maxHeartbeats 4000000
namespace L2
open PySem PySem.Spec PyProof.Rows PySem.W PySem.Calls
section
variable {prog : Program} {w : World} {A : Around} {E : Value → Shared → Prop} {s : Shared}
end
end L2

set_option Elab.async false
set_option linter.all false
set_option maxRecDepth 100000
set_option maxHeartbeats 4000000
namespace L2
open PySem PySem.Spec PyProof.Rows PySem.W PySem.Calls
section
variable {prog : Program} {w : World} {A : Around} {E : Value → Shared → Prop} {s : Shared}
/-- set.__new__: the table is led unless the order is told by the text -/
theorem new_set1 (a : Value) {Q₁ : Value → Shared → Prop}
    (h : Q₁ (.ref s.heap.objs.size) { s with heap := s.heap.push { cls := .type "set", dict := none, data := .set #[] 0 (.fresh 0 0 (!w.params.followText "set-order")) } }) :
    codeAny (model prog w) A (.call (.builtin "set.__new__") ⟨[.type "set", a], []⟩) (wants Q₁ E) s := by
  refine codeAny_of_tree ?_
  show wpAny _ A.in1 (checkBuiltinCall "set.__new__" ⟨[.type "set", a], []⟩ >>= fun _ => again (.builtin "set.__new__" ⟨[.type "set", a], []⟩)) _ _ s
  refine wpAny_bind (wpAny_of_eq (PySem.F.newCall_set_1 a) (wpAny_pure ⟨plainId_quiet PySem.F.plain_set_new _, codeAny_builtin PySem.F.entry_set_new ?_⟩))
  rw [Around.under_plainId PySem.F.plain_set_new _]
  unfold Builtin.«set.__new__» Builtin.Frozenset.newClass
  have known := sub_set_self
  obtain ⟨h0, g0, d0, tk0, os0⟩ := s
  dsimp only
  wp_walk
  refine wpAny_askSetting (wpAny_pure ?_)
  dsimp only
  simp only [newObj]
  exact wpAny_bind (wpAny_alloc (wpAny_pure (wpAny_pure h)))
end
end L2

set_option Elab.async false
set_option linter.all false
set_option maxRecDepth 100000
set_option maxHeartbeats 8000000
namespace L2
open PySem PySem.Spec PyProof.Rows PySem.W PySem.Calls
section
variable {prog : Program} {w : World} {A : Around} {E : Value → Shared → Prop} {s : Shared}

theorem sub_list_set : isSubtype (.type "list") (.type "set") = pure false := by rw [isSubtype_type]; kernel_rfl
theorem sub_list_fro : isSubtype (.type "list") (.type "frozenset") = pure false := by rw [isSubtype_type]; kernel_rfl
end
end L2

set_option Elab.async false
set_option linter.all false
set_option maxRecDepth 100000
set_option maxHeartbeats 8000000
namespace L2
open PySem PySem.Spec PyProof.Rows PySem.W PySem.Calls
noncomputable def sitF (first : Value) (i : Nat) (a : Addr) (n ep : Nat) : Array Value := #[first, rawInt (i : Int), .ref a, rawInt (n : Int), rawInt (ep : Int)]
/-- an iterator of the set at a, before its i-th -/
noncomputable def IsSit (h : Heap) (I : Addr) (first : Value) (i : Nat) (a : Addr) (n ep : Nat) : Prop := ∃ o, h.get? I = some o ∧ o.cls = .type "set_iterator" ∧ o.data = .fields (sitF first i a n ep)
section
variable {prog : Program} {w : World} {A : Around} {E : Value → Shared → Prop} {s : Shared}
end
end L2

set_option Elab.async false
set_option linter.all false
set_option maxRecDepth 100000
set_option maxHeartbeats 8000000
namespace L2
open PySem PySem.Spec PyProof.Rows PySem.W PySem.Calls
section
variable {prog : Program} {w : World} {A : Around} {E : Value → Shared → Prop} {s : Shared}
end
end L2

set_option Elab.async false
set_option linter.all false
set_option maxRecDepth 100000
set_option maxHeartbeats 8000000
namespace L2
open PySem PySem.Spec PyProof.Rows PySem.W PySem.Calls
section
variable {prog : Program} {w : World} {A : Around} {E : Value → Shared → Prop} {s : Shared}
/-- a walk over a set of texts: in some order, each once -/
structure SetWalk (prog : Program) (w : World) (A : Around) (s s₁ : Shared) (a I : Addr) (ss : List Str) (fp : List Addr) (ws : List Value) (St : Nat → Heap → Prop) : Prop where
  os : s₁.os = s.os
  gens : s₁.gens = s.gens
  toks : s₁.toks = s.toks
  keep : ∀ b o, s.heap.get? b = some o → s₁.heap.get? b = some o
  new : ∀ b ∈ fp, b = a ∨ s.heap.objs.size ≤ b
  newI : s.heap.objs.size ≤ I
  wk : Walks prog w A I fp [I] ss.length (fun i v => ws[i]? = some v) St
  st : St 0 s₁.heap
  txt : ∃ ss', StrsAre ws ss' ∧ ss'.Perm ss
end
end L2

set_option Elab.async false
set_option linter.all false
set_option maxRecDepth 100000
set_option maxHeartbeats 8000000
namespace L2
open PySem PySem.Spec PyProof.Rows PySem.W PySem.Calls
section
variable {prog : Program} {w : World} {A : Around} {E : Value → Shared → Prop} {s : Shared}
end
end L2

set_option Elab.async false
set_option linter.all false
set_option maxRecDepth 100000
set_option maxHeartbeats 8000000
namespace L2
open PySem PySem.Spec PyProof.Rows PySem.W PySem.Calls
section
variable {prog : Program} {w : World} {A : Around} {E : Value → Shared → Prop} {s : Shared}
end
end L2

set_option Elab.async false
set_option linter.all false
set_option maxRecDepth 100000
set_option maxHeartbeats 8000000
namespace L2
open PySem PySem.Spec PyProof.Rows PySem.W PySem.Calls
section
variable {prog : Program} {w : World} {A : Around} {E : Value → Shared → Prop} {s : Shared}
end
end L2

set_option Elab.async false
set_option linter.all false
set_option maxRecDepth 100000
set_option maxHeartbeats 8000000
namespace L2
open PySem PySem.Spec PyProof.Rows PySem.W PySem.Calls
section
variable {X : Cx}
end
end L2

set_option Elab.async false
set_option linter.all false
set_option maxRecDepth 100000
set_option maxHeartbeats 4000000
namespace L2
open PySem PySem.SetTable
/-! ### a set's table: that a search comes to an end -/
noncomputable def lps (mask : Nat) : Nat → Nat × Nat → Nat × Nat
  | 0, x => x
  | n + 1, x => lps mask n (leap mask x.1 x.2)
theorem lps_add (mask : Nat) : ∀ (a b : Nat) (x : Nat × Nat), lps mask (a + b) x = lps mask b (lps mask a x)
  | 0, b, x => by rw [Nat.zero_add]; rfl
  | a + 1, b, x => by rw [Nat.succ_add]; exact lps_add mask a b _
theorem lps_snd (mask : Nat) : ∀ (n : Nat) (x : Nat × Nat), (lps mask n x).2 = x.2 / 32 ^ n
  | 0, x => by simp [lps]
  | n + 1, x => by
    show (lps mask n (leap mask x.1 x.2)).2 = _
    rw [lps_snd mask n]
    unfold leap
    rw [Nat.div_div_eq_div_mul, Nat.pow_succ, Nat.mul_comm]
theorem lps_lt {mask : Nat} : ∀ (n : Nat) (x : Nat × Nat), x.1 < mask + 1 → (lps mask n x).1 < mask + 1
  | 0, x, h => h
  | n + 1, x, h => lps_lt n _ (Nat.mod_lt _ (Nat.succ_pos _))
/-- from anywhere to anywhere, once nothing is left of the hash -/
noncomputable def go0 (mask : Nat) : Nat → Nat → Nat
  | 0, i => i
  | n + 1, i => go0 mask n ((i * 5 + 1) % (mask + 1))
theorem lps_go0 (mask : Nat) : ∀ n i, (lps mask n (i, 0)).1 = go0 mask n i
  | 0, i => rfl
  | n + 1, i => by
    show (lps mask n (leap mask i 0)).1 = _
    unfold leap
    rw [show 0 / 32 = 0 from rfl, Nat.add_zero]
    exact lps_go0 mask n _
noncomputable def coversB (mask : Nat) : Bool := (List.range (mask + 1)).all fun i => (List.range (mask + 1)).all fun e => (List.range (mask + 1)).any fun n => go0 mask n i == e
theorem covers7 : coversB 7 = true := by decide +kernel
theorem covers31 : coversB 31 = true := by decide +kernel
theorem covers {mask i e : Nat} (hm : mask = 7 ∨ mask = 31) (hi : i < mask + 1) (he : e < mask + 1) : ∃ n, n < mask + 1 ∧ go0 mask n i = e := by
  have h : coversB mask = true := by rcases hm with rfl | rfl; exact covers7; exact covers31
  have h1 := List.all_eq_true.mp (List.all_eq_true.mp h i (List.mem_range.mpr hi)) e (List.mem_range.mpr he)
  obtain ⟨n, hn, q⟩ := List.any_eq_true.mp h1
  exact ⟨n, List.mem_range.mp hn, by simpa using q⟩
theorem reach {mask i p e : Nat} (hm : mask = 7 ∨ mask = 31) (hi : i < mask + 1) (hp : p < 2 ^ 64) (he : e < mask + 1) : ∃ n, 13 ≤ n ∧ n ≤ 13 + mask ∧ (lps mask n (i, p)).1 = e := by
  have z : (lps mask 13 (i, p)).2 = 0 := by
    rw [lps_snd]
    exact Nat.div_eq_of_lt (Nat.lt_of_lt_of_le hp (by decide))
  have l := lps_lt (mask := mask) 13 (i, p) hi
  generalize hx : lps mask 13 (i, p) = x at z l
  obtain ⟨j, q⟩ := x
  simp only at z l
  subst z
  obtain ⟨n, hn, e1⟩ := covers hm l he
  refine ⟨13 + n, by omega, by omega, ?_⟩
  rw [lps_add, hx, lps_go0]
  exact e1
/-! the slots -/
theorem below_of {t : SetTable} {j : Nat} (hd : t.dummies = #[]) : t.slot j = .empty ∨ ∃ i, t.slot j = .live i ∧ t.place[i]? = some j := by
  unfold SetTable.slot
  simp only
  by_cases c : t.place[below t.place j]? = some j
  · right
    exact ⟨below t.place j, by rw [if_pos (by simpa using c)], c⟩
  · left
    rw [if_neg (by simpa using c), if_neg]
    rw [hd]
    unfold has
    simp
theorem slot_free {t : SetTable} {j : Nat} (hd : t.dummies = #[]) (h : j ∉ t.place.toList) : t.slot j = .empty := by
  rcases below_of (j := j) hd with e | ⟨i, _, e⟩
  · exact e
  · exact absurd (by rw [← Array.getElem?_toList] at e; exact List.mem_of_getElem? e) h
theorem free_at {mask : Nat} {l : List Nat} (h : l.length < mask + 1) : ∃ e, e < mask + 1 ∧ e ∉ l := by
  refine Classical.byContradiction fun c => ?_
  have : ∀ e, e < mask + 1 → e ∈ l := fun e he => Classical.byContradiction fun z => c ⟨e, he, z⟩
  have q := List.Nodup.length_le_of_subset (l₁ := List.range (mask + 1)) (l₂ := l) List.nodup_range fun x hx => this x (List.mem_range.mp hx)
  rw [List.length_range] at q
  omega
/-! the steps of a search -/
noncomputable def advs (t : SetTable) : Nat → Probe → Probe
  | 0, p => p
  | n + 1, p => advs t n (t.advance p)
theorem advs_add (t : SetTable) : ∀ (a b : Nat) (p : Probe), advs t (a + b) p = advs t b (advs t a p)
  | 0, b, p => by rw [Nat.zero_add]; rfl
  | a + 1, b, p => by rw [Nat.succ_add]; exact advs_add t a b _
structure PIn (mask : Nat) (p : Probe) : Prop where
  i : p.i < mask + 1
  more : p.more ≤ 9
  per : p.perturb < 2 ^ 64
  dum : p.dummy = none
theorem runEnd_le (mask i : Nat) : runEnd mask i - i ≤ 9 := by unfold runEnd; split <;> omega
theorem PIn.adv {t : SetTable} {p : Probe} (h : PIn t.mask p) : PIn t.mask (t.advance p) := by
  unfold SetTable.advance
  split
  · exact ⟨h.i, by have := h.more; show p.more - 1 ≤ 9; omega, h.per, h.dum⟩
  · exact ⟨Nat.mod_lt _ (Nat.succ_pos _), runEnd_le _ _, Nat.lt_of_le_of_lt (Nat.div_le_self _ _) h.per, h.dum⟩
theorem PIn.advs {t : SetTable} : ∀ (n : Nat) {p : Probe}, PIn t.mask p → PIn t.mask (L2.advs t n p)
  | 0, _, h => h
  | n + 1, _, h => PIn.advs n h.adv
theorem to_leap (t : SetTable) : ∀ (m : Nat) (p : Probe), p.more = m → (L2.advs t (m + 1) p).j = (leap t.mask p.i p.perturb).1 ∧ (L2.advs t (m + 1) p).i = (leap t.mask p.i p.perturb).1 ∧ (L2.advs t (m + 1) p).perturb = (leap t.mask p.i p.perturb).2
  | 0, p, h => by
    show (t.advance p).j = _ ∧ (t.advance p).i = _ ∧ (t.advance p).perturb = _
    unfold SetTable.advance
    rw [if_neg (by omega)]
    exact ⟨rfl, rfl, rfl⟩
  | m + 1, p, h => by
    have e : t.advance p = { p with j := p.j + 1, more := p.more - 1 } := by
      unfold SetTable.advance
      rw [if_pos (by omega)]
    have := to_leap t m (t.advance p) (by rw [e]; show p.more - 1 = m; omega)
    rw [e] at this
    show (L2.advs t (m + 1) (t.advance p)).j = _ ∧ (L2.advs t (m + 1) (t.advance p)).i = _ ∧ (L2.advs t (m + 1) (t.advance p)).perturb = _
    rw [e]
    exact this
theorem leaps_at {t : SetTable} : ∀ (L : Nat) {p : Probe}, PIn t.mask p → ∃ s, s ≤ 10 * (L + 1) ∧ (L2.advs t s p).j = (lps t.mask (L + 1) (p.i, p.perturb)).1 ∧ (L2.advs t s p).i = (lps t.mask (L + 1) (p.i, p.perturb)).1 ∧ (L2.advs t s p).perturb = (lps t.mask (L + 1) (p.i, p.perturb)).2
  | 0, p, h => by
    obtain ⟨a, b, c⟩ := to_leap t p.more p rfl
    exact ⟨p.more + 1, by have := h.more; omega, a, b, c⟩
  | L + 1, p, h => by
    obtain ⟨s, hs, a, b, c⟩ := leaps_at L h
    have hq := h.advs (n := s)
    obtain ⟨a', b', c'⟩ := to_leap t (L2.advs t s p).more (L2.advs t s p) rfl
    have e : lps t.mask (L + 1 + 1) (p.i, p.perturb) = leap t.mask (L2.advs t s p).i (L2.advs t s p).perturb := by
      rw [lps_add t.mask (L + 1) 1, b, c]
      rfl
    refine ⟨s + ((L2.advs t s p).more + 1), by have := hq.more; omega, ?_, ?_, ?_⟩
    · rw [advs_add, e]; exact a'
    · rw [advs_add, e]; exact b'
    · rw [advs_add, e]; exact c'
theorem reach_slot {t : SetTable} (hm : t.mask = 7 ∨ t.mask = 31) {p : Probe} (h : PIn t.mask p) {e : Nat} (he : e < t.mask + 1) : ∃ n, n < 10 * turns t.mask ∧ (L2.advs t n p).j = e := by
  obtain ⟨n, h1, h2, h3⟩ := reach hm h.i h.per he
  obtain ⟨s, hs, hj, _⟩ := leaps_at (t := t) (n - 1) h
  rw [show n - 1 + 1 = n by omega] at hs hj
  refine ⟨s, ?_, by rw [hj]; exact h3⟩
  unfold turns
  omega
/-- what a search meets, if a free slot stands n steps ahead -/
theorem go_met {t : SetTable} (hd : t.dummies = #[]) {hashAt : Nat → Int} {h : Int} : ∀ (n fuel : Nat) (p : Probe), n < fuel → p.dummy = none → t.slot (L2.advs t n p).j = .empty →
    (∃ j, probe.go t hashAt h fuel p = some (.empty j none) ∧ t.slot j = .empty) ∨ ∃ m i, m < n ∧ probe.go t hashAt h fuel p = some (.candidate (L2.advs t m p).j i (L2.advs t (m + 1) p)) ∧ t.slot (L2.advs t m p).j = .live i := by
  intro n
  induction n with
  | zero =>
    intro fuel p hf hp hs
    obtain ⟨f, rfl⟩ : ∃ f, fuel = f + 1 := ⟨fuel - 1, by omega⟩
    left
    refine ⟨p.j, ?_, hs⟩
    have hs' : t.slot p.j = .empty := hs
    unfold probe.go
    rw [hs', hp]
  | succ n ih =>
    intro fuel p hf hp hs
    obtain ⟨f, rfl⟩ : ∃ f, fuel = f + 1 := ⟨fuel - 1, by omega⟩
    have hp' : (t.advance p).dummy = none := by
      unfold SetTable.advance
      split <;> exact hp
    rcases below_of (t := t) (j := p.j) hd with q | ⟨i, q, _⟩
    · left
      refine ⟨p.j, ?_, q⟩
      unfold probe.go
      rw [q, hp]
    · by_cases c : hashAt i = h
      · right
        refine ⟨0, i, by omega, ?_, q⟩
        unfold probe.go
        rw [q]
        simp only
        rw [if_pos (by simpa using c)]
        rfl
      · have e : probe.go t hashAt h (f + 1) p = probe.go t hashAt h f (t.advance p) := by
          conv => lhs; unfold probe.go
          rw [q]
          simp only
          rw [if_neg (by simpa using c)]
        rw [e]
        rcases ih f (t.advance p) (by omega) hp' hs with z | ⟨m, i', hm, z1, z2⟩
        · exact .inl z
        · exact .inr ⟨m + 1, i', by omega, z1, z2⟩
end L2

set_option Elab.async false
set_option linter.all false
set_option maxRecDepth 100000
set_option maxHeartbeats 4000000
namespace L2
open PySem PySem.SetTable
theorem free_ok {mask : Nat} {owner : Array (Option Nat)} {e : Nat} (ho : (owner.getD e (some 0)).isNone = true) : ∀ (n fuel i p : Nat), n < fuel → (lps mask n (i, p)).1 = e → ∃ j, layClean.free mask owner fuel i p = some j ∧ (owner.getD j (some 0)).isNone = true := by
  intro n
  induction n with
  | zero =>
    intro fuel i p hf he
    obtain ⟨f, rfl⟩ : ∃ f, fuel = f + 1 := ⟨fuel - 1, by omega⟩
    have he' : i = e := he
    unfold layClean.free
    cases c : (List.range (runEnd mask i + 1 - i)).find? fun k => (owner.getD (i + k) (some 0)).isNone with
    | some k =>
      refine ⟨i + k, rfl, ?_⟩
      simpa using List.find?_some c
    | none =>
      have := List.find?_eq_none.mp c 0 (List.mem_range.mpr (by unfold runEnd; split <;> omega))
      rw [Nat.add_zero, he', ho] at this
      exact absurd rfl this
  | succ n ih =>
    intro fuel i p hf he
    obtain ⟨f, rfl⟩ : ∃ f, fuel = f + 1 := ⟨fuel - 1, by omega⟩
    unfold layClean.free
    cases c : (List.range (runEnd mask i + 1 - i)).find? fun k => (owner.getD (i + k) (some 0)).isNone with
    | some k =>
      refine ⟨i + k, rfl, ?_⟩
      simpa using List.find?_some c
    | none => exact ih f (leap mask i p).1 (leap mask i p).2 (by omega) he
theorem set_count : ∀ (l : List (Option Nat)) (j k : Nat), l[j]? = some none → ((l.set j (some k)).filter Option.isSome).length = (l.filter Option.isSome).length + 1
  | [], j, k, h => by simp at h
  | x :: r, 0, k, h => by
    have e : x = none := by simpa using h
    subst e
    simp
  | x :: r, j + 1, k, h => by
    have ih := set_count r j k (by simpa using h)
    rw [List.set_cons_succ, List.filter_cons, List.filter_cons]
    split <;> simp [ih]
theorem some_none : ∀ (l : List (Option Nat)), (l.filter Option.isSome).length < l.length → ∃ e, e < l.length ∧ l[e]? = some none
  | [], h => by simp at h
  | x :: r, h => by
    cases x with
    | none => exact ⟨0, by simp, rfl⟩
    | some v =>
      rw [List.filter_cons, if_pos (show (some v).isSome = true from rfl), List.length_cons, List.length_cons] at h
      obtain ⟨e, h1, h2⟩ := some_none r (by omega)
      exact ⟨e + 1, by simpa using h1, by simpa using h2⟩
structure Own (mask : Nat) (owner : Array (Option Nat)) (k : Nat) : Prop where
  sz : owner.size = mask + 1
  ct : (owner.toList.filter Option.isSome).length = k
  lt : ∀ v, some v ∈ owner.toList → v < k
theorem bits_lt (h : Int) : bits h < 2 ^ 64 := by
  unfold bits
  have := Int.emod_lt_of_pos h (show (0 : Int) < 2 ^ 64 by decide)
  have := Int.emod_nonneg h (show ((2 : Int) ^ 64) ≠ 0 by decide)
  omega
theorem Own.step {mask : Nat} (hm : mask = 7 ∨ mask = 31) {owner : Array (Option Nat)} {k : Nat} (o : Own mask owner k) (hk : k < mask + 1) (h : Int) : ∃ j, layClean.free mask owner (turns mask) (bits h % (mask + 1)) (bits h) = some j ∧ Own mask (owner.setIfInBounds j (some k)) (k + 1) := by
  obtain ⟨e, he, hn⟩ := some_none owner.toList (by rw [o.ct, Array.length_toList, o.sz]; exact hk)
  rw [Array.length_toList, o.sz] at he
  have ho : (owner.getD e (some 0)).isNone = true := by
    rw [Array.getElem?_toList] at hn
    rw [Array.getD_eq_getD_getElem?, hn]
    rfl
  obtain ⟨n, n1, n2, n3⟩ := reach hm (Nat.mod_lt (bits h) (Nat.succ_pos mask)) (bits_lt h) he
  obtain ⟨j, hj, hf⟩ := free_ok (mask := mask) ho n (turns mask) (bits h % (mask + 1)) (bits h) (by unfold turns; omega) n3
  refine ⟨j, hj, ?_⟩
  have hjn : owner.toList[j]? = some none := by
    rw [Array.getElem?_toList]
    rw [Array.getD_eq_getD_getElem?] at hf
    cases c : owner[j]? with
    | none => rw [c] at hf; simp at hf
    | some x =>
      rw [c] at hf
      cases x with
      | none => rfl
      | some v => simp at hf
  refine ⟨by rw [Array.size_setIfInBounds]; exact o.sz, ?_, fun v hv => ?_⟩
  · rw [Array.toList_setIfInBounds, set_count _ _ _ hjn, o.ct]
  · rw [Array.toList_setIfInBounds] at hv
    rcases List.mem_or_eq_of_mem_set hv with z | z
    · have := o.lt v z; omega
    · have : v = k := Option.some.inj z
      omega
theorem fold_own {mask : Nat} (hm : mask = 7 ∨ mask = 31) : ∀ (hs : List Int) (owner : Array (Option Nat)) (k : Nat), Own mask owner k → k + hs.length ≤ mask + 1 →
    ∃ owner', hs.foldl (fun (acc : Option (Array (Option Nat) × Nat)) h => do
      let (owner, k) ← acc
      let j ← layClean.free mask owner (turns mask) (bits h % (mask + 1)) (bits h)
      pure (owner.setIfInBounds j (some k), k + 1)) (some (owner, k)) = some (owner', k + hs.length) ∧ Own mask owner' (k + hs.length)
  | [], owner, k, o, _ => ⟨owner, rfl, o⟩
  | h :: r, owner, k, o, hl => by
    obtain ⟨j, hj, o'⟩ := o.step hm (by simp at hl; omega) h
    obtain ⟨owner', e, o''⟩ := fold_own hm r _ _ o' (by simp at hl; omega)
    refine ⟨owner', ?_, by rw [List.length_cons, show k + (r.length + 1) = k + 1 + r.length by omega]; exact o''⟩
    rw [List.foldl_cons, List.length_cons, show k + (r.length + 1) = k + 1 + r.length by omega, ← e]
    congr 1
    show (layClean.free mask owner (turns mask) (bits h % (mask + 1)) (bits h) >>= fun j => pure (owner.setIfInBounds j (some k), k + 1)) = _
    rw [hj]
    rfl
theorem live_snd (owner : Array (Option Nat)) : ((List.range owner.size).filterMap fun j => (owner.getD j none).map (j, ·)).map (·.2) = owner.toList.filterMap id := by
  rw [List.map_filterMap]
  have e : (fun j => Option.map (fun x : Nat × Nat => x.2) ((owner.getD j none).map (j, ·))) = fun j => owner.getD j none := by
    funext j
    cases owner.getD j none <;> rfl
  rw [e]
  have e2 : (List.range owner.size).map (fun j => owner.getD j none) = owner.toList := by
    refine List.ext_getElem? fun i => ?_
    rw [List.getElem?_map]
    by_cases c : i < owner.size
    · rw [List.getElem?_range c]
      simp [Array.getD_eq_getD_getElem?, c]
    · rw [List.getElem?_eq_none (by simpa using c), List.getElem?_eq_none (by simpa using c)]
      rfl
  conv => rhs; rw [← e2, List.filterMap_map]
  rfl
theorem filter_id (l : List (Option Nat)) : (l.filterMap id).length = (l.filter Option.isSome).length := by
  induction l with
  | nil => rfl
  | cons x r ih => cases x <;> simp [ih]
/-- a table laid anew has room for all -/
theorem relaid_ok (t : SetTable) (hs : Array Int) (h5 : hs.size ≤ 32) : ∃ t' order, t.relaid hs 20 = some (t', order) ∧ t'.mask = 31 ∧ t'.dummies = #[] ∧ t'.place.size = hs.size ∧ order.size = hs.size ∧ (∀ k ∈ order.toList, k < hs.size) ∧ t'.led = t.led ∧ t'.plain = t.plain := by
  have o0 : Own 31 (Array.replicate (31 + 1) none) 0 := ⟨by simp, by decide, fun v hv => by simp at hv⟩
  obtain ⟨owner, e, o⟩ := fold_own (mask := 31) (.inr rfl) hs.toList _ 0 o0 (by rw [Array.length_toList]; omega)
  rw [Nat.zero_add, Array.length_toList] at e o
  have ec : layClean 31 hs = some owner := by
    unfold layClean
    rw [← Array.foldl_toList]
    have := congrArg (Option.map (·.1)) e
    exact this
  have hl : ((List.range (31 + 1)).filterMap fun j => (owner.getD j none).map (j, ·)).map (·.2) = owner.toList.filterMap id := by
    have := live_snd owner
    rw [o.sz] at this
    exact this
  have hlen : ((List.range (31 + 1)).filterMap fun j => (owner.getD j none).map (j, ·)).length = hs.size := by
    have := congrArg List.length hl
    rw [List.length_map, filter_id, o.ct] at this
    exact this
  have er : t.relaid hs 20 = some ({ mask := 31, place := (((List.range (31 + 1)).filterMap fun j => (owner.getD j none).map (j, ·)).map (·.1)).toArray, dummies := #[], finger := t.finger, led := t.led, moves := t.movedTo 31, plain := t.plain }, (((List.range (31 + 1)).filterMap fun j => (owner.getD j none).map (j, ·)).map (·.2)).toArray) := by
    unfold SetTable.relaid
    rw [show sizeAbove 20 - 1 = 31 from by decide]
    unfold laid
    rw [ec]
    rfl
  refine ⟨_, _, er, rfl, rfl, ?_, ?_, fun k hk => ?_, rfl, rfl⟩
  · simpa using hlen
  · simpa using hlen
  · rw [hl] at hk
    have hk' : k ∈ owner.toList.filterMap id := by simpa using hk
    obtain ⟨x, hx, ex⟩ := List.mem_filterMap.mp hk'
    have : x = some k := ex
    rw [this] at hx
    exact o.lt k hx
end L2

set_option Elab.async false
set_option linter.all false
set_option maxRecDepth 100000
set_option maxHeartbeats 4000000
namespace L2
open PySem PySem.Spec PyProof.Rows PySem.W PySem.Calls PySem.SetTable
theorem ofClass_byValue (n : Nat) {v : Value} (h : carriedByValue v = true) : ofAClassStatement n v = pure false := by
  cases v with
  | ref a => simp [carriedByValue] at h
  | _ => first | rfl | (unfold ofAClassStatement; rfl) | simp [ofAClassStatement]
section
variable {prog : Program} {w : World} {A : Around} {E : Value → Shared → Prop} {s : Shared}
noncomputable abbrev TKey (prog : Program) (w : World) (h : Heap) (ks : List Str) (a : Addr) : Prop := IsTupleKey (PySem.strKind prog w) h ks a
theorem ofClass_tuple {ks : List Str} {a : Addr} {Q : Bool → Shared → Prop} (hk : TKey prog w s.heap ks a) (h : Q false s) : wpAny (model prog w) A (ofAClassStatement 8 (.ref a)) Q E s := by
  have hT := hk.typeIs
  obtain ⟨o, items, n, ho, _, hd, hi⟩ := hk
  unfold ofAClassStatement
  refine wpAny_bind (wpAny_typeOf hT ?_)
  show wpAny _ _ ((if ("tuple" == "tuple") = true then pure true else isSubtype (.type "tuple") (.type "tuple")) >>= _) _ _ s
  rw [if_pos (by decide)]
  refine wpAny_bind (wpAny_pure ?_)
  simp only [Bool.not_true, Bool.false_eq_true, if_false]
  refine wpAny_bind (wpAny_seqItems ho hd ?_)
  dsimp only
  refine wpAny_bind ?_
  show wpAny _ _ (forIn items _ _) _ _ s
  rw [← Array.forIn_toList]
  refine wpAny_forIn_list _ (fun rest r s' => r.1 = none ∧ s' = s ∧ ∀ v ∈ rest, carriedByValue v = true) _ ?_ ?_ _ _ ⟨rfl, rfl, hi.byValue⟩
  · rintro v rest r s' ⟨hr, rfl, hall⟩
    rw [ofClass_byValue _ (hall v List.mem_cons_self)]
    refine wpAny_bind (wpAny_pure ?_)
    simp only [Bool.false_eq_true, if_false]
    exact wpAny_pure ⟨rfl, rfl, fun u hu' => hall u (List.mem_cons_of_mem _ hu')⟩
  · rintro ⟨r1, r2⟩ s' ⟨hr, rfl, _⟩
    simp only at hr
    subst hr
    exact wpAny_pure h
theorem seen_tuple {ks : List Str} {a : Addr} {l : List Value} {Q : Bool → Shared → Prop} (hk : TKey prog w s.heap ks a) (hl : ∀ v ∈ l, ∃ b ks', v = .ref b ∧ TKey prog w s.heap ks' b) (h : Q false s) : wpAny (model prog w) A (searchCouldBeSeen (.ref a) l) Q E s := by
  unfold searchCouldBeSeen
  refine wpAny_bind ?_
  refine wpAny_forIn_list _ (fun rest r s' => r.1 = none ∧ s' = s ∧ ∀ v ∈ rest, ∃ b ks', v = .ref b ∧ TKey prog w s.heap ks' b) _ ?_ ?_ _ _ ⟨rfl, rfl, hl⟩
  · rintro v rest r s' ⟨hr, rfl, hall⟩
    obtain ⟨b, ks', rfl, hb⟩ := hall v List.mem_cons_self
    have go : ∀ u ∈ rest, ∃ b ks', u = .ref b ∧ TKey prog w s'.heap ks' b := fun u hu => hall u (List.mem_cons_of_mem _ hu)
    dsimp only
    by_cases c : (a == b) = true
    · rw [if_pos (by rw [c]; rfl)]
      exact wpAny_pure ⟨rfl, rfl, go⟩
    · rw [if_neg (by simp only [Bool.not_eq_true] at c; rw [c]; simp [carriedByValue])]
      refine wpAny_bind (wpAny_eqIsQuiet_tuple hk ?_)
      simp only [Bool.not_true, Bool.false_eq_true, if_false]
      refine wpAny_bind (wpAny_eqIsQuiet_tuple hb ?_)
      simp only [Bool.not_true, Bool.false_eq_true, if_false]
      refine wpAny_bind (ofClass_tuple hk ?_)
      simp only [Bool.false_eq_true, if_false]
      refine wpAny_bind (ofClass_tuple hb ?_)
      simp only [Bool.false_eq_true, if_false]
      exact wpAny_pure ⟨rfl, rfl, go⟩
  · rintro ⟨r1, r2⟩ s' ⟨hr, rfl, _⟩
    simp only at hr
    subst hr
    exact wpAny_pure h
theorem hbv_tuple {ks : List Str} {a : Addr} {Q : Bool → Shared → Prop} (hk : TKey prog w s.heap ks a) (h : ∀ b, Q b s) : wpAny (model prog w) A (hashByValue 8 (.ref a)) Q E s := by
  have hT := hk.typeIs
  obtain ⟨o, items, n, ho, _, hd, hi⟩ := hk
  unfold hashByValue
  refine wpAny_bind (wpAny_specialOf hT F.slot_tuple_hash.lookup ?_)
  show wpAny _ _ (seqItems? (.ref a) >>= _) _ _ s
  refine wpAny_bind (wpAny_seqItems ho hd ?_)
  refine wpAny_bind ?_
  show wpAny _ _ (forIn items _ _) _ _ s
  rw [← Array.forIn_toList]
  refine wpAny_forIn_list _ (fun rest r s' => s' = s ∧ (r.1 = none ∨ ∃ b, r.1 = some b) ∧ ∃ ks', ItemsAre (PySem.strKind prog w) ks' rest) _ ?_ ?_ _ _ ⟨rfl, .inl rfl, ks, hi⟩
  · rintro v rest r s' ⟨rfl, hr, ks', hit⟩
    cases hit with
    | @cons k _ ks2 _ h1 h2 =>
      obtain ⟨t, rfl⟩ := Value.isStrOf_shape (x := k) (v := v) h1
      show wpAny _ _ ((pure false : Sem Bool) >>= _) _ _ _
      refine wpAny_bind (wpAny_pure ?_)
      simp only [Bool.not_false, if_true]
      first
        | exact wpAny_pure ⟨rfl, .inr ⟨_, rfl⟩, ks2, h2⟩
        | exact wpAny_pure (h _)
        | exact wpAny_pure (wpAny_pure (h _))
  · rintro ⟨r1, r2⟩ s' ⟨rfl, hr, _⟩
    simp only at hr
    rcases hr with rfl | ⟨b, rfl⟩
    · exact wpAny_pure (h _)
    · exact wpAny_pure (h _)
end
end L2

set_option Elab.async false
set_option linter.all false
set_option maxRecDepth 100000
set_option maxHeartbeats 4000000
namespace L2
open PySem PySem.Spec PyProof.Rows PySem.W PySem.Calls PySem.SetTable
theorem met_by {t : SetTable} (hd : t.dummies = #[]) {h : Int} {p : Probe} {n : Nat} (hn : n < 10 * turns t.mask) (hp : p.dummy = none) (hs : t.slot (L2.advs t n p).j = .empty) (hashAt : Nat → Int) :
    (∃ j, t.probe hashAt h p = some (.empty j none) ∧ t.slot j = .empty) ∨ ∃ m i, m < n ∧ t.probe hashAt h p = some (.candidate (L2.advs t m p).j i (L2.advs t (m + 1) p)) ∧ t.slot (L2.advs t m p).j = .live i :=
  go_met hd n (10 * turns t.mask) p hn hp hs
section
variable {prog : Program} {w : World} {A : Around} {E : Value → Shared → Prop} {s : Shared}
theorem isSame_self {c : Addr} {Q : Bool → Shared → Prop} (h : Q true s) : wpAny (model prog w) A (isSame (.ref c) (.ref c)) Q E s := by
  unfold isSame
  first | (simp; exact wpAny_pure h) | (refine wpAny_pure ?_; simpa using h)
theorem search_tuple {a b : Addr} {o : Obj} {es : Array (Int × Value)} {ep : Nat} {t : SetTable} {ks : List Str} {h : Int} {Q : SetFound → Shared → Prop} (ho : s.heap.get? a = some o) (hd : o.data = .set es ep t) (hf : t.fits es.size = true) (hdm : t.dummies = #[]) (hm : t.mask = 7 ∨ t.mask = 31)
    (hu : A.units < cLine) (hk : TKey prog w s.heap ks b) (hne : ∀ e ∈ es.toList, ∃ c ks', e.2 = .ref c ∧ TKey prog w s.heap ks' c ∧ ks' ≠ ks) (hQ : ∀ j, t.slot j = .empty → Q (.free j false) s) :
    ∀ (n fuel : Nat) (stand : Option Probe), n < fuel → n < 10 * turns t.mask → PIn t.mask (stand.getD (t.probeStart h)) → t.slot (L2.advs t n (stand.getD (t.probeStart h))).j = .empty → wpAny (model prog w) A (setSearchFrom a (.ref b) h true fuel stand) Q E s := by
  intro n
  induction n using Nat.strongRecOn with
  | _ n ih =>
    intro fuel stand hfu hn hp hs
    obtain ⟨f, rfl⟩ : ∃ f, fuel = f + 1 := ⟨fuel - 1, by omega⟩
    have hgw : t.gaveWay = false := by
      unfold SetTable.gaveWay
      rcases hm with e | e <;> rw [e] <;> rfl
    have hps : t.place.size = es.size := by
      unfold SetTable.fits at hf
      simp only [Bool.and_eq_true, beq_iff_eq] at hf
      exact hf.1
    unfold setSearchFrom
    refine wpAny_bind (wpAny_setState_of ho hd hf ?_)
    dsimp only
    rw [hgw]
    simp only [Bool.false_eq_true, if_false]
    generalize hpr : SetTable.probe t _ h (stand.getD (t.probeStart h)) = pr
    rcases met_by hdm hn hp.dum hs _ with ⟨j, e, hj⟩ | ⟨m, i, hmn, e, hl⟩
    · rw [hpr] at e
      rw [e]
      exact wpAny_pure (hQ j hj)
    · rw [hpr] at e
      rw [e]
      dsimp only
      obtain ⟨i', hi', hpl⟩ := (below_of (t := t) (j := (L2.advs t m (stand.getD (t.probeStart h))).j) hdm).resolve_left (by rw [hl]; exact fun z => nomatch z)
      have ei : i' = i := by rw [hl] at hi'; exact (Slot.live.inj hi').symm
      subst ei
      have hlt : i' < es.size := by
        rw [← hps]
        exact (Array.getElem?_eq_some_iff.mp hpl).1
      have hge : es[i']? = some es[i'] := Array.getElem?_eq_getElem hlt
      obtain ⟨c, ks', e2, hc, hcn⟩ := hne es[i'] (Array.getElem_mem_toList hlt)
      by_cases hled : t.led = true
      · rw [hled]
        simp only [Bool.not_true, Bool.false_eq_true, if_false]
        rw [hge]
        generalize hei : es[i'] = pe at e2
        obtain ⟨hh0, y0⟩ := pe
        have ey : y0 = .ref c := e2
        subst ey
        dsimp only
        refine wpAny_bind (wpAny_holding (wpAny_eqBool_tuple hu hc hk ?_))
        rw [decide_eq_false hcn]
        refine wpAny_bind (wpAny_setState_of ho hd hf ?_)
        simp only [Bool.true_and, Bool.false_eq_true, if_false]
        have hsm : t.sameMemory t.moves t.mask = some true := by unfold SetTable.sameMemory; simp
        rw [hsm]
        dsimp only
        rw [if_pos rfl, hl]
        dsimp only
        rw [hge, hei]
        dsimp only
        refine wpAny_bind (isSame_self ?_)
        rw [if_pos rfl]
        refine wpAny_bind (wpAny_pure ?_)
        dsimp only
        refine ih (n - (m + 1)) (by omega) f (some (L2.advs t (m + 1) (stand.getD (t.probeStart h)))) (by omega) (by omega) (hp.advs (m + 1)) ?_
        show t.slot (L2.advs t (n - (m + 1)) (L2.advs t (m + 1) (stand.getD (t.probeStart h)))).j = .empty
        rw [← advs_add, show m + 1 + (n - (m + 1)) = n by omega]
        exact hs
      · simp only [Bool.not_eq_true] at hled
        rw [hled]
        simp only [Bool.not_false, if_true]
        refine wpAny_bind (seen_tuple hk (fun v hv => ?_) ?_)
        · obtain ⟨x, hx, rfl⟩ := List.mem_map.mp hv
          obtain ⟨c1, k1, q1, q2, _⟩ := hne x (by
            have := Array.mem_toList_iff.mp hx
            exact Array.mem_toList_iff.mpr (Array.mem_filter.mp this).1)
          exact ⟨c1, k1, q1, q2⟩
        simp only [Bool.false_eq_true, if_false]
        rw [hge]
        generalize hei : es[i'] = pe at e2
        obtain ⟨hh0, y0⟩ := pe
        have ey : y0 = .ref c := e2
        subst ey
        dsimp only
        refine wpAny_bind (wpAny_holding (wpAny_eqBool_tuple hu hc hk ?_))
        rw [decide_eq_false hcn]
        refine wpAny_bind (wpAny_setState_of ho hd hf ?_)
        simp only [Bool.true_and, Bool.false_eq_true, if_false]
        have hsm : t.sameMemory t.moves t.mask = some true := by unfold SetTable.sameMemory; simp
        rw [hsm]
        dsimp only
        rw [if_pos rfl, hl]
        dsimp only
        rw [hge, hei]
        dsimp only
        refine wpAny_bind (isSame_self ?_)
        rw [if_pos rfl]
        refine wpAny_bind (wpAny_pure ?_)
        dsimp only
        refine ih (n - (m + 1)) (by omega) f (some (L2.advs t (m + 1) (stand.getD (t.probeStart h)))) (by omega) (by omega) (hp.advs (m + 1)) ?_
        show t.slot (L2.advs t (n - (m + 1)) (L2.advs t (m + 1) (stand.getD (t.probeStart h)))).j = .empty
        rw [← advs_add, show m + 1 + (n - (m + 1)) = n by omega]
        exact hs
end
end L2

set_option Elab.async false
set_option linter.all false
set_option maxRecDepth 100000
set_option maxHeartbeats 4000000
namespace L2
open PySem PySem.Spec PyProof.Rows PySem.W PySem.Calls PySem.SetTable
theorem ins_size {α : Type} (xs : Array α) (p : Nat) (x : α) : (insertAt xs p x).size = xs.size + 1 := by
  unfold insertAt
  simp
  omega
theorem ins_mem {α : Type} {xs : Array α} {p : Nat} {x y : α} (h : y ∈ (insertAt xs p x).toList) : y = x ∨ y ∈ xs.toList := by
  have h' : y ∈ ((xs.extract 0 p).push x ++ xs.extract p xs.size).toList := h
  rw [Array.toList_append, Array.toList_push] at h'
  have ex : ∀ i j, y ∈ (xs.extract i j).toList → y ∈ xs.toList := fun i j z => by
    rw [Array.toList_extract] at z
    first | exact List.mem_of_mem_drop (List.mem_of_mem_take z) | exact List.mem_of_mem_take (List.mem_of_mem_drop z) | (simp [List.extract] at z; exact Array.mem_toList_iff.mpr (Array.mem_toList_iff.mp (List.mem_of_mem_drop (List.mem_of_mem_take z))))
  rcases List.mem_append.mp h' with z | z
  · rcases List.mem_append.mp z with z | z
    · exact .inr (ex _ _ z)
    · exact .inl (by simpa using z)
  · exact .inr (ex _ _ z)
/-- a set of tuples: how many, where they are -/
structure TupSet (o : Obj) (n : Nat) (ads : List Addr) (es : Array (Int × Value)) (ep : Nat) (t : SetTable) : Prop where
  cls : o.cls = .type "set"
  dic : o.dict = none
  slt : o.slots = #[]
  dat : o.data = .set es ep t
  sz : es.size = n
  pl : t.place.size = n
  dum : t.dummies = #[]
  msk : (t.mask = 7 ∧ n ≤ 4) ∨ (t.mask = 31 ∧ n ≤ 6)
  els : ∀ e ∈ es.toList, ∃ a ∈ ads, e.2 = .ref a
theorem TupSet.fit {o : Obj} {n : Nat} {ads : List Addr} {es : Array (Int × Value)} {ep : Nat} {t : SetTable} (x : TupSet o n ads es ep t) : t.fits es.size = true := by
  unfold SetTable.fits SetTable.fill
  rw [x.sz, x.pl, x.dum]
  have := x.msk
  simp
  omega
theorem start_in (t : SetTable) (h : Int) : PIn t.mask (t.probeStart h) := ⟨Nat.mod_lt _ (Nat.succ_pos _), runEnd_le _ _, bits_lt h, rfl⟩
section
variable {prog : Program} {w : World} {A : Around} {E : Value → Shared → Prop} {s : Shared}
theorem relay_tuple {a : Addr} {o : Obj} {ads : List Addr} {es : Array (Int × Value)} {ep : Nat} {t : SetTable} {Q : Unit → Shared → Prop}
    (ho : s.heap.get? a = some o) (hcl : o.cls = .type "set") (hdi : o.dict = none) (hsl : o.slots = #[]) (hd : o.data = .set es ep t) (hf : t.fits es.size = true) (h5 : es.size = 5) (hels : ∀ e ∈ es.toList, ∃ a ∈ ads, e.2 = .ref a)
    (h : ∀ (h' : Heap) (o' : Obj) es' ep' t', Heap.SameBut a s.heap h' → h'.get? a = some o' → TupSet o' 5 ads es' ep' t' → Q () { s with heap := h' }) : wpAny (model prog w) A (setRelay a 20) Q E s := by
  obtain ⟨t', order, er, r1, r2, r3, r4, r5, _, _⟩ := relaid_ok t (es.map (·.1)) (by rw [Array.size_map]; omega)
  rw [Array.size_map] at r3 r4 r5
  have hsz : (order.filterMap (es[·]?)).size = es.size := by
    have e : ∀ l : List Nat, (∀ k ∈ l, k < es.size) → (l.filterMap (fun k => es[k]?)).length = l.length := by
      intro l
      induction l with
      | nil => intro _; rfl
      | cons k r ih =>
        intro hk
        rw [List.filterMap_cons, Array.getElem?_eq_getElem (hk k List.mem_cons_self)]
        simp [ih fun k' hk' => hk k' (List.mem_cons_of_mem _ hk')]
    have := e order.toList r5
    rw [← Array.length_toList, Array.toList_filterMap, this, Array.length_toList, r4]
  unfold setRelay
  refine wpAny_bind (wpAny_setState_of ho hd hf ?_)
  dsimp only
  rw [if_neg (by rw [sizeLine_eq]; decide)]
  refine wpAny_bind ?_
  rw [er]
  show wpAny _ _ (if ((order.filterMap (es[·]?)).size != es.size) = true then _ else _) _ _ _
  rw [if_neg (by rw [hsz]; simp)]
  refine wpAny_pure ?_
  dsimp only
  refine wpAny_storeSet_of ho hd ?_ (by rw [hsz, h5, sizeLine_eq]; decide)
  have g1 := putSet_at (es' := order.filterMap (es[·]?)) (t' := t') ho hd
  refine h _ _ _ _ _ (Heap.SameBut.update s.heap a _) g1 ⟨hcl, hdi, hsl, rfl, by rw [hsz, h5], by rw [r3, h5], r2, .inr ⟨r1, by decide⟩, fun e he => ?_⟩
  rw [Array.toList_filterMap] at he
  obtain ⟨k, _, ek⟩ := List.mem_filterMap.mp he
  exact hels e (by rw [← Array.getElem?_toList] at ek; exact List.mem_of_getElem? ek)
theorem add_tuple {a b : Addr} {o : Obj} {n : Nat} {ads : List Addr} {ks : List Str} {hv : Int} {es : Array (Int × Value)} {ep : Nat} {t : SetTable} {Q : Bool → Shared → Prop}
    (ho : s.heap.get? a = some o) (x : TupSet o n ads es ep t) (hn : n ≤ 5) (hu : A.units < cLine) (hk : TKey prog w s.heap ks b) (hne : ∀ c ∈ ads, ∃ ks', TKey prog w s.heap ks' c ∧ ks' ≠ ks)
    (h : ∀ (bb : Bool) (h' : Heap) (o' : Obj) es' ep' t', Heap.SameBut a s.heap h' → h'.get? a = some o' → TupSet o' (n + 1) (b :: ads) es' ep' t' → Q bb { s with heap := h' }) :
    wpAny (model prog w) A (setAddHashed a (.ref b) hv) Q E s := by
  have hm : t.mask = 7 ∨ t.mask = 31 := x.msk.imp (·.1) (·.1)
  obtain ⟨e, he, hne'⟩ := free_at (mask := t.mask) (l := t.place.toList) (by rw [Array.length_toList, x.pl]; have := x.msk; omega)
  obtain ⟨n0, hn0, hj0⟩ := reach_slot hm (start_in t hv) he
  unfold setAddHashed setAddHashedIn
  refine wpAny_holding (wpAny_bind (wpAny_setState_of ho x.dat x.fit ?_))
  dsimp only
  rw [show byScan (.ref b) es = false from rfl]
  simp only [Bool.false_eq_true, if_false]
  unfold setSearch
  refine wpAny_bind (search_tuple (ks := ks) ho x.dat x.fit x.dum hm hu hk (fun el hel => ?_) (fun j hj => ?_) n0 100000 none (by unfold turns at hn0; rcases hm with z | z <;> rw [z] at hn0 <;> omega) hn0 (start_in t hv) (by show t.slot (L2.advs t n0 (t.probeStart hv)).j = _; rw [hj0]; exact slot_free x.dum hne'))
  · obtain ⟨c, hc, ec⟩ := x.els el hel
    obtain ⟨ks', h1, h2⟩ := hne c hc
    exact ⟨c, ks', ec, h1, h2⟩
  dsimp only
  refine wpAny_bind (wpAny_setState_of ho x.dat x.fit ?_)
  dsimp only
  have hput : (t.put j).1.dummies = #[] ∧ (t.put j).1.place.size = n + 1 ∧ (t.put j).1.mask = t.mask := by
    unfold SetTable.put
    refine ⟨?_, ?_, rfl⟩
    · show (if has t.dummies j = true then _ else t.dummies) = #[]
      rw [x.dum]
      have : has #[] j = false := by unfold has; simp
      rw [this]
      simp
    · show (insertAt t.place (below t.place j) j).size = n + 1
      rw [ins_size, x.pl]
  have eput : t.put j = ((t.put j).1, (t.put j).2) := rfl
  rw [eput]
  generalize (t.put j).1 = t1 at hput ⊢
  generalize (t.put j).2 = p1
  obtain ⟨hd1, hp1, hm1⟩ := hput
  try dsimp only
  -- what is laid down
  have fin : ∀ t2 : SetTable, t2.dummies = #[] → t2.place.size = n + 1 → t2.mask = t.mask → wpAny (model prog w) A (do
      storeSet a (insertAt es p1 (hv, .ref b)) t2
      if (!false && t2.tooFull) = true then do
        setRelay a (SetTable.grown (es.size + 1))
        pure true
      else pure true) Q E s := fun t2 q1 q2 q3 => by
    have z1 : (insertAt es p1 (hv, Value.ref b)).size = n + 1 := by rw [ins_size, x.sz]
    refine wpAny_bind (wpAny_storeSet_of ho x.dat ?_ (by rw [z1, sizeLine_eq]; omega))
    have g1 := putSet_at (es' := insertAt es p1 (hv, Value.ref b)) (t' := t2) ho x.dat
    have sb := Heap.SameBut.update s.heap a (Obj.putSet (insertAt es p1 (hv, Value.ref b)) t2)
    have hels : ∀ e ∈ (insertAt es p1 (hv, Value.ref b)).toList, ∃ c ∈ b :: ads, e.2 = .ref c := fun e he => by
      rcases ins_mem he with z | z
      · exact ⟨b, List.mem_cons_self, by rw [z]⟩
      · obtain ⟨c, hc, ec⟩ := x.els e z
        exact ⟨c, List.mem_cons_of_mem _ hc, ec⟩
    by_cases c : t2.tooFull = true
    · have hfull : n + 1 = 5 ∧ t.mask = 7 := by
        unfold SetTable.tooFull SetTable.fill at c
        rw [q2, q1, q3] at c
        simp only [decide_eq_true_eq] at c
        have := x.msk
        simp at c
        omega
      rw [if_pos (by rw [c]; rfl)]
      have eg : SetTable.grown (es.size + 1) = 20 := by rw [x.sz, hfull.1]; rfl
      rw [eg]
      have hf2 : t2.fits (insertAt es p1 (hv, Value.ref b)).size = true := by
        unfold SetTable.fits SetTable.fill
        rw [z1, q2, q1, q3]
        simp
        omega
      refine wpAny_bind (relay_tuple (s := { s with heap := s.heap.update a (Obj.putSet (insertAt es p1 (hv, Value.ref b)) t2) }) g1 x.cls x.dic x.slt rfl hf2 (by rw [z1]; exact hfull.1) hels fun h' o' es' ep' t' c1 c2 c3 => ?_)
      exact wpAny_pure (h true h' o' es' ep' t' (sb.trans c1) c2 (by rw [hfull.1]; exact c3))
    · rw [if_neg (by simp only [Bool.not_eq_true] at c; rw [c]; simp)]
      refine wpAny_pure (h true _ _ _ _ _ sb g1 ⟨x.cls, x.dic, x.slt, rfl, z1, q2, q1, ?_, hels⟩)
      have hnot : ¬ ((n + 1) * 5 ≥ t.mask * 3) := by
        unfold SetTable.tooFull SetTable.fill at c
        rw [q2, q1, q3] at c
        simpa using c
      rw [q3]
      have := x.msk
      omega
  split
  · refine wpAny_bind (hbv_tuple hk fun bv => ?_)
    cases bv with
    | true => exact fin t1 hd1 hp1 hm1
    | false => exact fin { t1 with plain := false } hd1 hp1 hm1
  · refine wpAny_bind (wpAny_pure ?_)
    exact fin t1 hd1 hp1 hm1
end
end L2

set_option Elab.async false
set_option linter.all false
set_option maxRecDepth 100000
set_option maxHeartbeats 8000000
namespace L2
open PySem PySem.Spec PyProof.Rows PySem.W PySem.Calls PySem.SetTable
section
variable {prog : Program} {w : World} {A : Around} {E : Value → Shared → Prop} {s : Shared}
theorem TKey.stay {h h' : Heap} {ks : List Str} {a : Addr} (x : TKey prog w h ks a) (k : ∀ o, h.get? a = some o → h'.get? a = some o) : TKey prog w h' ks a :=
  let ⟨o, items, n, ho, r⟩ := x; ⟨o, items, n, k o ho, r⟩
theorem loop_tuples {I S : Addr} {fp : List Addr} {its : List Value} {lts : List (Addr × List Str)} {St : Nat → Heap → Prop} {R : Result → Shared → Prop} {m : Nat} (hm : m = its.length)
    (W : Walks prog w A.in1 I fp [I] m (fun i v => its[i]? = some v) St) (hS : S ∉ fp) (hu : A.in1.units < cLine) (hits : its = lts.map (fun x => Value.ref x.1)) (few : lts.length ≤ 6) (nd : (lts.map (·.2)).Nodup)
    (hne : ∀ x ∈ lts, x.1 ≠ S ∧ x.1 ≠ I) :
    ∀ (k i : Nat) (s : Shared) (o : Obj) (es : Array (Int × Value)) (ep : Nat) (t : SetTable), its.length - i = k → i ≤ its.length → St i s.heap → s.heap.get? S = some o → TupSet o i ((lts.take i).map (·.1)).reverse es ep t → (∀ x ∈ lts, TKey prog w s.heap x.2 x.1) →
      (∀ (h' : Heap) (tk : Nat) (o' : Obj) ads' es' ep' t', (∀ b ob, b ≠ S → b ≠ I → s.heap.get? b = some ob → h'.get? b = some ob) → h'.get? S = some o' → TupSet o' lts.length ads' es' ep' t' → R (.ok (.ret .none)) { s with heap := h', toks := tk }) →
      codeAny (model prog w) A (.builtin "set.update.loop" ⟨[.ref S, .ref I], []⟩) R s := by
  have hlen : lts.length = its.length := by rw [hits, List.length_map]
  subst hm
  have hIS : S ≠ I := fun e => hS (by rw [e]; exact W.sub I (List.mem_singleton.mpr rfl))
  intro k
  induction k with
  | zero =>
    intro i s o es ep t hk hi st ho x ky q
    have e : i = its.length := by omega
    subst e
    refine codeAny_builtin F.entry_set_update_loop ?_
    rw [Around.under_plainId F.plain_set_update_loop _]
    show wpAny _ A.in1 (pyNext (.ref I) >>= _) _ _ s
    refine wpAny_bind (W.done s _ _ st fun h' tk kp => ?_)
    show wpAny _ A.in1 (ret Value.none) _ _ _
    exact wpAny_pure (q h' tk o _ es ep t (fun b ob _ hb e => kp b ob (by simpa using hb) e) (kp S o (by simpa using hIS) ho) (by rw [hlen]; exact x))
  | succ k ih =>
    intro i s o es ep t hk hi st ho x ky q
    have hlt : i < its.length := by omega
    have hls : i < lts.length := by omega
    refine codeAny_builtin F.entry_set_update_loop ?_
    rw [Around.under_plainId F.plain_set_update_loop _]
    show wpAny _ A.in1 (pyNext (.ref I) >>= _) _ _ s
    refine wpAny_bind (W.item i s _ _ hlt st fun v h1 tk1 hP st1 kp => ?_)
    have ev : v = .ref lts[i].1 := by
      rw [hits, List.getElem?_map, List.getElem?_eq_getElem hls] at hP
      cases hP
      rfl
    subst ev
    have ho1 : h1.get? S = some o := kp S o (by simpa using hIS) ho
    have ky1 : ∀ x ∈ lts, TKey prog w h1 x.2 x.1 := fun x hx => (ky x hx).stay fun ob e => kp x.1 ob (by simpa using (hne x hx).2) e
    have hmem : lts[i] ∈ lts := List.getElem_mem hls
    show wpAny _ A.in1 (holding [Value.ref lts[i].1] (setAdd S (.ref lts[i].1)) >>= _) _ _ _
    refine wpAny_bind (wpAny_holding ?_)
    unfold setAdd
    refine wpAny_holding ?_
    refine wpAny_bind (wpAny_pyHash_tuple (s := { s with heap := h1, toks := tk1 }) hu (ky1 _ hmem) ?_)
    refine add_tuple (s := { s with heap := h1, toks := tk1 + (lts[i].2.length + 1) }) (ks := lts[i].2) ho1 x (by omega) hu (ky1 _ hmem) (fun c hc => ?_) fun b h2 o2 es2 ep2 t2 sb ho2 x2 => ?_
    · rw [List.mem_reverse] at hc
      obtain ⟨y, hy, rfl⟩ := List.mem_map.mp hc
      refine ⟨y.2, ky1 y (List.mem_of_mem_take hy), fun e => ?_⟩
      obtain ⟨j, hj, ej⟩ := List.getElem_of_mem hy
      rw [List.length_take] at hj
      rw [List.getElem_take] at ej
      have hj' : j < lts.length := by omega
      have e2 : (lts.map (·.2))[j]'(by rw [List.length_map]; exact hj') = (lts.map (·.2))[i]'(by rw [List.length_map]; exact hls) := by
        rw [List.getElem_map, List.getElem_map, ej]; exact e
      exact List.pairwise_iff_getElem.mp nd j i (by rw [List.length_map]; exact hj') (by rw [List.length_map]; exact hls) (by omega) e2
    have e3 : lts[i].1 :: ((lts.take i).map (·.1)).reverse = ((lts.take (i + 1)).map (·.1)).reverse := by
      rw [List.take_add_one, List.getElem?_eq_getElem hls, List.map_append, List.reverse_append]; rfl
    rw [e3] at x2
    refine wpAny_pure ⟨plainId_quiet F.plain_set_update_loop _, ih (i + 1) _ o2 es2 ep2 t2 (by omega) hlt (W.frame _ h1 _ st1 fun b hb ob e => ?_) ho2 x2 (fun y hy => (ky1 y hy).stay fun ob e => ?_) fun h' tk o' ads' es' ep' t' kp' c1 c2 => ?_⟩
    · rw [sb.2 b (fun z => hS (by rw [← z]; exact hb))]; exact e
    · show h2.get? y.1 = some ob
      rw [sb.2 y.1 (hne y hy).1]; exact e
    · refine q h' tk o' ads' es' ep' t' (fun b ob b1 b2 e => kp' b ob b1 b2 ?_) c1 c2
      show h2.get? b = some ob
      rw [sb.2 b b1]
      exact kp b ob (by simpa using b2) e
theorem tupSet_new (bt : Bool) : TupSet { cls := .type "set", dict := none, data := .set #[] 0 (.fresh 0 0 bt) } 0 [] #[] 0 (.fresh 0 0 bt) :=
  ⟨rfl, rfl, rfl, rfl, rfl, rfl, rfl, .inl ⟨rfl, by decide⟩, fun e he => by cases he⟩
end
end L2

set_option Elab.async false
set_option linter.all false
set_option maxRecDepth 100000
set_option maxHeartbeats 8000000
namespace L2
open PySem PySem.Spec PyProof.Rows PySem.W PySem.Calls
section
variable {prog : Program} {w : World} {A : Around} {E : Value → Shared → Prop} {s : Shared}
theorem made_set_ltu {l : Addr} {its : List Value} {lts : List (Addr × List Str)} {Q : Value → Shared → Prop}
    (hh : A.handled = none) (hl : s.heap.IsList l its.toArray) (hits : its = lts.map (fun x => Value.ref x.1)) (few : lts.length ≤ 6) (nd : (lts.map (·.2)).Nodup) (hu : A.units + 64 < cLine) (ky : ∀ x ∈ lts, TKey prog w s.heap x.2 x.1)
    (h : ∀ (h' : Heap) (tk : Nat) (o' : Obj) ads' es' ep' t', (∀ b ob, s.heap.get? b = some ob → h'.get? b = some ob) → h'.get? s.heap.objs.size = some o' → TupSet o' lts.length ads' es' ep' t' → Q (.ref s.heap.objs.size) { s with heap := h', toks := tk }) :
    wpAny (model prog w) A (call (.type "set") [.ref l]) Q E s := by
  obtain ⟨mro0, mrot, hmro⟩ := PySem.F.called_set.mro
  have made := PySem.F.called_set.made
  have subs := PySem.F.called_set.sub
  have nt := PySem.F.called_set.notType
  have cc := PySem.F.called_set.canCreate
  have ct := PySem.F.typeCall_set_1 (.ref l)
  refine wpAny_call (codeAny_of_tree ?_)
  show wpAny _ _ (callAny (.type "set") _) _ _ _
  refine wpAny_pure ⟨Code.quiet_builtin _ (by decide +kernel), codeAny_builtin PySem.F.entry_type_call ?_⟩
  rw [Around.under_plain (weight_type_call_type "set" [.ref l] []) rfl]
  repeat (any_goals (first | assumption | wp_step))
  refine codeAny_mono (new_set1 (.ref l) (E := E) (Q₁ := fun obj s₁ => obj = .ref s.heap.objs.size ∧ s₁ = { s with heap := s.heap.push { cls := .type "set", dict := none, data := .set #[] 0 (.fresh 0 0 (!w.params.followText "set-order")) } }) ⟨rfl, rfl⟩) fun r s₁ hr => ?_
  generalize hbt : (!w.params.followText "set-order") = bt at hr
  cases r with
  | error e => exact hr
  | ok fl =>
    cases fl with
    | ret obj =>
      obtain ⟨rfl, rfl⟩ := hr
      have g0 : (s.heap.push { cls := .type "set", dict := none, data := .set #[] 0 (.fresh 0 0 bt) }).get? s.heap.objs.size = some { cls := .type "set", dict := none, data := .set #[] 0 (.fresh 0 0 bt) } := Heap.get?_push_size _ rfl
      have ty : Shared.TypeIs { s with heap := s.heap.push { cls := .type "set", dict := none, data := .set #[] 0 (.fresh 0 0 bt) } } (.ref s.heap.objs.size) "set" := ⟨_, g0, rfl⟩
      have ini := PySem.F.called_set.init.lookup
      have inb := PySem.F.called_set.init.bind (.ref s.heap.objs.size)
      repeat (any_goals (first | assumption | wp_step))
      refine codeAny_mono (codeAny_call_builtin (R := wants (fun r s₂ => r = .none ∧ ∃ h' tk o' ads' es' ep' t', s₂ = { s with heap := h', toks := tk } ∧ (∀ b ob, s.heap.get? b = some ob → h'.get? b = some ob) ∧ h'.get? s.heap.objs.size = some o' ∧ TupSet o' lts.length ads' es' ep' t') E)
        PySem.F.called_set.init.plain PySem.F.entry_set_init (check_set_init_1 ty ?_)) fun r₂ s₂ hr₂ => ?_
      · obtain ⟨ol, hol, cl, nl, dl⟩ := hl
        obtain ⟨c1, c2, c3, c4⟩ := ol
        simp only at cl dl
        subst cl; subst dl
        have hol1 : (s.heap.push { cls := .type "set", dict := none, data := .set #[] 0 (.fresh 0 0 bt) }).get? l = some { cls := .type "list", dict := c2, data := .seq its.toArray nl, slots := c4 } := Heap.get?_push_of_some _ hol
        have n1 := sub_list_set
        have n2 := sub_list_fro
        have n3 : (Value.type "list" == Value.type "dict") = false := by decide
        have hl1 : (s.heap.push { cls := .type "set", dict := none, data := .set #[] 0 (.fresh 0 0 bt) }).IsList l its.toArray := ⟨_, hol1, rfl, nl, rfl⟩
        unfold Builtin.«set.__init__» noKeywords Builtin.Frozenset.updateFrom
        generalize hpi : pyIter = pit
        wp_walk
        subst hpi
        refine wpAny_pyIter_list hl1 ?_
        refine wpAny_bind (wpAny_runValue ?_)
        have lt0 : l < s.heap.objs.size := Heap.lt_size hol
        have h3 : A.in1.in1.in1.handled = none := by simp [hh]
        have ne1 : l ≠ (s.heap.push { cls := .type "set", dict := none, data := .set #[] 0 (.fresh 0 0 bt) }).objs.size := by
          rw [Heap.size_push]; exact Nat.ne_of_lt (Nat.lt_succ_of_lt lt0)
        have out : s.heap.objs.size ∉ [(s.heap.push { cls := .type "set", dict := none, data := .set #[] 0 (.fresh 0 0 bt) }).objs.size, l] := by
          rw [Heap.size_push]
          intro z
          rcases List.mem_cons.mp z with z | z
          · exact absurd z (Nat.ne_of_lt (Nat.lt_succ_self _))
          · exact absurd (List.mem_singleton.mp z) (Nat.ne_of_gt lt0)
        have W := Walks.list (prog := prog) (w := w) h3 (s.heap.push { cls := .type "set", dict := none, data := .set #[] 0 (.fresh 0 0 bt) }).objs.size l ne1 its.toArray
        have hW : (fun (i : Nat) (v : Value) => its.toArray[i]? = some v) = fun i v => its[i]? = some v := by funext i v; rw [List.getElem?_toArray]
        rw [hW] at W
        have g1 : ((s.heap.push { cls := .type "set", dict := none, data := .set #[] 0 (.fresh 0 0 bt) }).push { cls := .type "list_iterator", data := .fields #[.ref l, .int 0 0] }).get? s.heap.objs.size = some { cls := .type "set", dict := none, data := .set #[] 0 (.fresh 0 0 bt) } := Heap.get?_push_of_some _ g0
        have ltk : ∀ x ∈ lts, x.1 < s.heap.objs.size := fun x hx => let ⟨_, _, _, ho, _⟩ := ky x hx; Heap.lt_size ho
        refine loop_tuples (List.size_toArray) W out (by simp [Around.in1]; omega) hits few nd (fun x hx => ⟨Nat.ne_of_lt (ltk x hx), by rw [Heap.size_push]; exact Nat.ne_of_lt (Nat.lt_succ_of_lt (ltk x hx))⟩) (its.length - 0) 0 _ _ #[] 0 (.fresh 0 0 bt) rfl (Nat.zero_le _)
          ⟨⟨_, Heap.get?_push_size _ rfl, rfl, rfl⟩, hl1.push _⟩ g1 (tupSet_new bt) (fun x hx => (ky x hx).stay fun ob e => Heap.get?_push_of_some _ (Heap.get?_push_of_some _ e)) fun h' tk o' ads' es' ep' t' kp c1 c2 => ?_
        show wpAny _ _ _ _ _ _
        refine wpAny_pure ?_
        show wpAny _ _ (ret Value.none) _ _ _
        refine wpAny_pure ⟨rfl, h', tk, o', ads', es', ep', t', rfl, fun b ob e => kp b ob (Nat.ne_of_lt (Heap.lt_size e)) ?_ (Heap.get?_push_of_some _ (Heap.get?_push_of_some _ e)), c1, c2⟩
        rw [Heap.size_push]; exact Nat.ne_of_lt (Nat.lt_succ_of_lt (Heap.lt_size e))
      · cases r₂ with
        | error e => exact hr₂
        | ok fl₂ =>
          cases fl₂ with
          | ret r =>
            obtain ⟨rfl, h', tk, o', ads', es', ep', t', rfl, kp, c1, c2⟩ := hr₂
            repeat (any_goals (first | assumption | wp_step))
            exact h h' tk o' ads' es' ep' t' kp c1 c2
          | _ => exact hr₂.elim
    | _ => exact hr.elim
end
end L2

set_option Elab.async false
set_option linter.all false
set_option maxRecDepth 100000
set_option maxHeartbeats 8000000
namespace L2
open PySem PySem.Spec PyProof.Rows PySem.W PySem.Calls
/-- a set of tuples of texts in the layer's heap: how many -/
noncomputable def SetU (a : Addr) (n : Nat) : HO := .ext fun h => ∃ o ads es ep t, h.get? a = some o ∧ TupSet o n ads es ep t
section
variable {X : Cx}
theorem setU_ok {P : Program} {w : World} {H : Hp} {h : Heap} {a : Addr} {n : Nat} {o : Obj} {ads : List Addr} {es : Array (Int × Value)} {ep : Nat} {t : SetTable} (ho : h.get? a = some o) (x : TupSet o n ads es ep t) : ObjOk P w H h a (SetU a n) :=
  ⟨⟨o, ads, es, ep, t, ho, x⟩, ⟨o, ho⟩, fun h1 h2 ⟨o, ads, es, ep, t, q, y⟩ k => ⟨o, ads, es, ep, t, k o q, y⟩⟩
theorem items_str {prog : Program} {w : World} : ∀ {ss : List Str} {its : List Value}, Vals (ss.map V.str) its → ItemsAre (PySem.strKind prog w) ss its
  | [], _, r => by cases r; exact .nil
  | s :: ss, _, r => by
    cases r with
    | cons h1 h2 =>
      obtain ⟨t, rfl⟩ := h1
      exact .cons (PySem.strKind_is prog w _ _) (items_str h2)
theorem refs_its : ∀ {lts : List (Addr × List Str)} {its : List Value}, Vals (lts.map fun x => V.ref x.1) its → its = lts.map (fun x => Value.ref x.1)
  | [], _, r => by cases r; rfl
  | x :: lts, _, r => by
    cases r with
    | cons h1 h2 =>
      cases h1
      rw [List.map_cons, ← refs_its h2]
theorem call_setLiT (hc : X.calm = true) (hu : X.A.units + 64 < cLine) : CallR X (.type "set") (fun xs H Q => ∃ (p : Addr) (lts : List (Addr × List Str)), xs = [.ref p] ∧ SqL X.K H p (lts.map fun x => V.ref x.1) ∧ (∀ x ∈ lts, H x.1 = some (.tup (x.2.map V.str))) ∧ (lts.map (·.2)).Nodup ∧ lts.length ≤ 6 ∧
    ∀ (a : Addr), H a = none → Q (.ref a) (upd H a (SetU a lts.length))) := by
  intro pins s σ H xs us Q I r h
  obtain ⟨p, lts, rfl, hq, hl, nd, h6, q⟩ := h
  obtain ⟨u, rfl, rx⟩ := vals1 r
  cases rx
  obtain ⟨its, r', hp, hz⟩ := I.list hq
  have ky : ∀ x ∈ lts, TKey X.prog X.w s.heap x.2 x.1 := fun x hx => by
    obtain ⟨its', r2, ⟨o, ho, c, n, d⟩, _⟩ := I.tuple (SqT.of (hl x hx))
    exact ⟨o, its'.toArray, n, ho, c, d, by simpa using items_str r2⟩
  refine made_set_ltu (I.ok.hd hc) hp.isList (refs_its r') h6 nd hu ky fun h' tk o' ads' es' ep' t' kp ho x => ?_
  exact ⟨.ref s.heap.objs.size, _, I.laid (h' := h') (t' := tk) (o := SetU s.heap.objs.size lts.length) kp (Nat.le_refl _) (setU_ok ho x), rfl, q _ (I.hok.fresh (Nat.le_refl _))⟩
theorem call_lenU : CallR X (.builtin "len") (fun xs H Q => ∃ (a : Addr) (n : Nat), xs = [.ref a] ∧ H a = some (SetU a n) ∧ Q (.int n) H) := by
  intro pins s σ H xs us Q I r h
  obtain ⟨a, n, rfl, ha, q⟩ := h
  obtain ⟨u, rfl, rx⟩ := vals1 r
  cases rx
  obtain ⟨⟨o, ads, es, ep, t, ho, x⟩, _, _⟩ := I.hok a _ ha
  have hz := x.sz
  have hn : n ≤ 6 := by have := x.msk; omega
  refine call_len_set ho ⟨x.cls, x.dic, x.slt⟩ x.dat x.fit (by omega) ?_
  rw [hz]
  exact ⟨.int n, H, I.tok _, ⟨_, rfl⟩, q⟩
end
end L2

set_option Elab.async false
set_option linter.all false
set_option maxRecDepth 100000
set_option maxHeartbeats 4000000
namespace L2
open PySem PySem.Spec PyProof.Rows PySem.W PySem.Calls
/-! ### the keys of a dict by texts or numbers, walked -/
section
variable {X : Cx} {tg : Expr}
end
end L2

set_option Elab.async false
set_option linter.all false
set_option maxRecDepth 100000
set_option maxHeartbeats 4000000
namespace L2
open PySem
section
variable {X : Cx} {scope : Scope} {N : List Str} {ix : List (Option Nat)}
variable {tg iter kx vx : Expr} {ifs : List Expr} {pos : Pos} {g : TG} {tt : TT} {tk tv : TE}
/-- {..} by tuples, as a value -/
noncomputable def tDc (wi : TI) (g : TG) (tt : TT) (tk tv : TE) (ix : List (Option Nat)) : TE := fun σ H Q => wi σ H fun J H1 => ∀ D, H1 D = none → DcW D J g tt tk tv (emb ix σ) (fun H' => Q (.ref D) H') (upd H1 D (.dT []))
theorem pe_dc {wi : TI} (hu : X.A.units < cLine) (L : LcOk X scope N ix) (hc : X.calm = true) (hi : PI X tg iter wi) (hg : ∀ C s0 H0 fp, PG (cxLc X scope N C s0 H0 fp) tg g)
    (ht : ∀ C s0 H0 fp, PTs (cxLc X scope N C s0 H0 fp) ifs tt) (hk : ∀ C s0 H0 fp, PE (cxLc X scope N C s0 H0 fp) kx tk) (hv : ∀ C s0 H0 fp, PE (cxLc X scope N C s0 H0 fp) vx tv) (hs : ∀ x, foldedSetIterable iter X.env x = pure x := by intro _; rfl) :
    PE X (.DictComp kx vx [⟨tg, iter, ifs, 0⟩] scope pos) (tDc wi g tt tk tv ix) := by
  intro pins s σ H Q I h
  show wpAny _ X.A (comprehension (.DictComp kx vx [⟨tg, iter, ifs, 0⟩] scope pos) scope X.env _ newDict false (eval iter X.env)) _ _ s
  refine wpAny_comprehension_free (use := none) rfl hs (L.clos I.ok) L.kind L.locals (thn (hi pins s σ H _ I h) fun v s1 h1 => thn h1 fun itv s2 h2 => ?_)
  obtain ⟨it, fp, tn, J, H2, rfl, I2, T, st2, f2, hW⟩ := h2
  refine dc_run (RR := fun acc C => compPost (model X.prog X.w) X.A X.xe none (EP X pins σ Q) acc C) L hc hu hg ht hk hv I2 T st2 f2 hW ?_
  intro D C s' m H' hn ho hC hI fin
  exact ⟨m, hn, fun h' hs' => ⟨.ref D, _, hI h' hs', rfl, fin⟩⟩
/-- a dict that was frozen of late may be written again -/
theorem Inv.thaw {pins : List (Addr × Obj)} {σ : St} {H : Hp} {s : Shared} {a : Addr} {o : Obj} {u : HO} (I : Inv X pins σ H s) (e : H a = some (.frz o u)) (h0 : ∀ o u, X.H₀ a ≠ some (.frz o u)) (hx : ∀ xs, u ≠ .tup xs) (hy : ∀ y, u ≠ .own y) : Inv X pins σ (upd H a u) s := by
  have ne : ∀ b v, H b = some v → (∀ o u, v ≠ .frz o u) → b ≠ a := fun b v q n z => by
    rw [z, e] at q
    cases q
    exact n _ _ rfl
  have st : ∀ {b : Addr} {v : HO}, ObjOk X.prog X.w H s.heap b v → ObjOk X.prog X.w (upd H a u) s.heap b v := fun x => x.stay (fun _ _ _ q => q) (fun b q => by rw [upd_ne (ne b _ q (by intro k l z; cases z))]; exact q) fun b xs q => by rw [upd_ne (ne b _ q (by intro k l z; cases z))]; exact q
  have hok : HOk X.prog X.w (upd H a u) s.heap := fun b v q => by
    by_cases hb : b = a
    · subst hb
      rw [upd_same] at q
      cases q
      exact st (I.hok b _ e).2
    · rw [upd_ne hb] at q
      exact st (I.hok b v q)
  have fr : ∀ b, H b = none → upd H a u b = none := fun b n => by rw [upd_ne (fun z => by rw [z, e] at n; cases n)]; exact n
  exact ⟨I.ok, I.os, I.bare, ⟨I.base.keep, I.base.slot, fun b o q n hx => fr b (I.base.free b o q n hx), I.base.there,
    fun b xs q => by rw [upd_ne (ne b _ (I.base.tups b xs q) (by intro k l z; cases z))]; exact I.base.tups b xs q,
    fun b o' v q => by rw [upd_ne (fun z => h0 o' v (by rw [← z]; exact q))]; exact I.base.frzs b o' v q,
    fun b ps q => by
      obtain ⟨m, e'⟩ := I.base.tbls b ps q
      exact ⟨m, by rw [upd_ne (ne b _ e' (by intro k l z; cases z))]; exact e'⟩⟩, I.loc, I.cell, fr _ I.free, fun x c q => fr c (I.freeC x c q), fun p hp => by
    obtain ⟨a1, a2, a3⟩ := I.pin p hp
    exact ⟨a1, fr _ a2, a3⟩, hok, I.len⟩
end
/-- a list or a tuple is walked -/
noncomputable def iOr (t u : TI) : TI := fun σ H R => t σ H R ∨ u σ H R
theorem pi_or {X : Cx} {tg l : Expr} {t u : TI} (h1 : PI X tg l t) (h2 : PI X tg l u) : PI X tg l (iOr t u) := fun pins s σ H R I h =>
  h.elim (h1 pins s σ H R I) (h2 pins s σ H R I)
theorem tfor_seq {K : PySem.W.Frag} {tl : TE} {g : TG} {tb : TS} {D : Ends} {σ : St} {H Hb : Hp} {a : Addr} {xs : List V} (htl : ∀ Q : VK, Q (.ref a) H → tl σ H Q) (hb : Hb a = some (.lst xs) ∨ Hb a = some (.tup xs)) (s0 : Same Hb H) (Pv : Nat → St → Hp → Prop) (h0 : Pv 0 σ H) (hl : ∀ i σ' H', i ≤ xs.length → Pv i σ' H' → Same Hb H')
    (hs : ∀ i x σ H, xs[i]? = some x → Pv i σ H → g x σ H fun σ2 H2 => tb { D with nx := Pv (i + 1), ct := Pv (i + 1), bk := D.nx } σ2 H2) (hd : ∀ σ H, Pv xs.length σ H → D.nx σ H) : tFor (iOr (iList K tl) (iTup K tl)) g tb D σ H := by
  rcases hb with hb | hb
  · exact .inl (htl _ ⟨a, rfl, ⟨xs, SqL.of (s0 _ _ hb)⟩, for_list Pv h0 (fun i σ H' hi p => SqL.of (hl i σ H' hi p _ _ hb)) hs hd⟩)
  · exact .inr (htl _ ⟨a, rfl, ⟨xs, SqT.of (s0 _ _ hb)⟩, for_tup Pv h0 (fun i σ H' hi p => SqT.of (hl i σ H' hi p _ _ hb)) hs hd⟩)
theorem lcw_dict {g : TG} {tt : TT} {te : TE} {σ' : St} {fin : List V → Hp → Prop} {H1 : Hp} {a : Addr} {o : Obj} {kvs : List (List Key × V)} (hn : kvs.length < sizeLine) (Pv : Nat → List V → St → Hp → Prop) (h0 : Pv 0 [] σ' H1) (hl : ∀ i ys σ H, i ≤ kvs.length → Pv i ys σ H → ys.length ≤ i ∧ H a = some (.frz o (.dT kvs)))
    (hs : ∀ i p b ys σ H, kvs[i]? = some p → H b = some (.tup (p.1.map kV)) → Pv i ys σ H → g (.ref b) σ H fun σ2 H2 => tt σ2 H2 fun b H3 => if b = true then te σ2 H3 (fun v H4 => Pv (i + 1) (ys ++ [v]) σ2 H4) else Pv (i + 1) ys σ2 H3) (hd : ∀ ys σ H, Pv kvs.length ys σ H → fin ys H) :
    LcW (Itd a o) g tt te σ' fin H1 := by
  refine ⟨fun i m ys σ H => m = kvs.length - i ∧ i ≤ kvs.length ∧ Pv i ys σ H, ⟨kvs.length, by simp, Nat.zero_le _, h0⟩, ?_⟩
  rintro i m ys σ H ⟨rfl, hi, p⟩
  obtain ⟨q0, q1⟩ := hl i ys σ H hi p
  by_cases h : i < kvs.length
  · refine .inr ⟨⟨kvs, q1, h⟩, by omega, fun ys' σ2 H2 => Pv (i + 1) ys' σ2 H2, fun ys' σ2 H2 q => ⟨kvs.length - (i + 1), by omega, rfl, h, q⟩, fun v H' y => ?_⟩
    obtain ⟨rfl, y⟩ := y
    obtain ⟨p', b, e1, rfl, e2⟩ := y kvs q1
    exact hs i p' b ys σ H' e1 e2 p
  · have e : i = kvs.length := by omega
    subst e
    exact .inl ⟨⟨kvs, q1, Nat.le_refl _⟩, by omega, hd ys σ H p⟩
theorem for_dict {a : Addr} {o : Obj} {kvs : List (List Key × V)} {g : TG} {tb : TS} {D : Ends} {σ : St} {H : Hp} (Pv : Nat → St → Hp → Prop) (h0 : Pv 0 σ H) (hl : ∀ i σ H, i ≤ kvs.length → Pv i σ H → H a = some (.frz o (.dT kvs)))
    (hs : ∀ i p b σ H, kvs[i]? = some p → H b = some (.tup (p.1.map kV)) → Pv i σ H → g (.ref b) σ H fun σ2 H2 => tb { D with nx := Pv (i + 1), ct := Pv (i + 1), bk := D.nx } σ2 H2) (hd : ∀ σ H, Pv kvs.length σ H → D.nx σ H) :
    ∃ W : Nat → Nat → St → Hp → Prop, (∃ m, W 0 m σ H) ∧ ∀ i m σ H, W i m σ H →
      ((Itd a o).stop i H ∧ D.nx σ H) ∨ ((Itd a o).go i H ∧ ∃ N : St → Hp → Prop, (∀ σ' H', N σ' H' → ∃ m', m' < m ∧ W (i + 1) m' σ' H') ∧ ∀ x H', (Itd a o).yld i H x H' → g x σ H' fun σ2 H2 => tb { D with nx := N, ct := N, bk := D.nx } σ2 H2) := by
  refine ⟨fun i m σ H => m = kvs.length - i ∧ i ≤ kvs.length ∧ Pv i σ H, ⟨kvs.length, by simp, Nat.zero_le _, h0⟩, ?_⟩
  rintro i m σ H ⟨rfl, hi, p⟩
  have q := hl i σ H hi p
  by_cases hlt : i < kvs.length
  · refine .inr ⟨⟨kvs, q, hlt⟩, Pv (i + 1), fun σ' H' p' => ⟨kvs.length - (i + 1), by omega, rfl, hlt, p'⟩, fun x H' y => ?_⟩
    obtain ⟨e, y⟩ := y
    subst e
    obtain ⟨p', b, e1, rfl, e2⟩ := y kvs q
    exact hs i p' b σ _ e1 e2 p
  · have e : i = kvs.length := by omega
    subst e
    exact .inl ⟨⟨kvs, q, Nat.le_refl _⟩, hd σ H p⟩
end L2

set_option Elab.async false
set_option linter.all false
set_option maxRecDepth 100000
set_option maxHeartbeats 4000000
namespace L2
open PySem PySem.Spec PyProof.Rows PySem.W PySem.Calls
open Builtin
theorem tup_mul (l : Addr) (items : Array Value) (n : Nat) (o : Obj) (x : Int) (u : Tok) (hc : o.cls = .type "tuple") (hd : o.data = .seq items n) (h1 : 0 ≤ x) (h2 : x ≤ 1000) (h0 : items.isEmpty = false) (hz : items.size ≤ 1000) :
    Meets (Builtin.«tuple.__mul__» ⟨[.ref l, .int x u], []⟩) (fun _ R s => s.heap.get? l = some o ∧ (x = 1 → R (.ok (.ret (Value.ref l))) s) ∧ (x ≠ 1 → R (.ok (.ret (Value.ref s.heap.objs.size))) { s with heap := s.heap.push { cls := Value.type "tuple", data := Data.seq (List.foldl (fun x1 x2 => x1 ++ x2) #[] (List.replicate x.toNat items)) }, toks := s.toks })) :=
  .of_wp fun prog w A R s h => by
    obtain ⟨hp, g, d, tk, os⟩ := s
    obtain ⟨hl, k1, k2⟩ := h
    have c1 : (decide (x < -(2 ^ 63)) || decide (x ≥ 2 ^ 63)) = false := by simp; omega
    have hT : (⟨hp, g, d, tk, os⟩ : Shared).TypeIs (.ref l) "tuple" := ⟨o, hl, hc⟩
    unfold Builtin.«tuple.__mul__»
    wp_walk
    rw [if_neg (by rw [c1]; exact Bool.false_ne_true)]
    have itm : ∀ {Q : Array Value → Shared → Prop} {E : Value → Shared → Prop}, Q items ⟨hp, g, d, tk, os⟩ → wpAny (model prog w) A.in1 (Tuple.tupleItemsOf (.ref l)) Q E ⟨hp, g, d, tk, os⟩ := fun q => by
      unfold Tuple.tupleItemsOf
      refine wpAny_bind ?_
      unfold seqItems?
      refine wpAny_bind (wpAny_load hl ?_)
      rw [hd]
      exact wpAny_pure (wpAny_pure q)
    refine wpAny_bind (itm ?_)
    rw [h0]
    by_cases c : x = 1
    · subst c
      rw [if_pos (by rfl)]
      wp_walk
      exact ⟨_, rfl, k1 rfl⟩
    · rw [if_neg (by simpa using c)]
      by_cases c0 : x = 0
      · subst c0
        rw [if_pos (by rfl)]
        wp_walk
        refine ⟨_, rfl, ?_⟩
        exact k2 c
      · have hp1 : ¬ ((decide (x ≤ 0) || false) = true) := by simp; omega
        have hb : (items.size : Int) * x ≤ 1000 * 1000 := Int.mul_le_mul (by omega) h2 h1 (by decide)
        rw [if_neg hp1, if_neg (by omega), if_neg (by unfold Tuple.tupleTooMany; simp; rw [sizeLine_eq]; omega)]
        unfold Tuple.tupleExact
        refine wpAny_bind (wpAny_newObj_type ?_ ?_)
        · exact wpAny_pure ⟨_, rfl, k2 c⟩
        · have e := foldl_rep items.toList x.toNat []
          rw [List.nil_append] at e
          have e' : List.foldl (fun x1 x2 : Array Value => x1 ++ x2) #[] (List.replicate x.toNat items) = (List.replicate x.toNat items.toList).flatten.toArray := by
            rw [← e]
          rw [e']
          show (List.replicate x.toNat items.toList).flatten.toArray.size ≤ sizeLine
          have hx : x.toNat ≤ 1000 := by omega
          rw [List.size_toArray, len_rep, sizeLine_eq]
          have := Nat.mul_le_mul hx (show items.toList.length ≤ 1000 by simpa using hz)
          omega
theorem noFill_tuple_mul : fillsNumberSlot (.type "tuple") "mul" = pure false :=
  PySem.fillsNumberSlot_seq (id := "tuple.__mul__") (r := some (.builtin "tuple.__rmul__")) F.slot_tuple_mul.lookup (by decide +kernel) F.slot_tuple_rmul.lookup (by decide +kernel)
theorem repeat_tuple : seqRepeat? (.type "tuple") = pure (some (.builtin "tuple.__mul__")) := by
  unfold seqRepeat?
  have e1 := PySem.seqSlot_of (T := "tuple") (name := "__mul__") (id := "tuple.__mul__") F.slot_tuple_mul.lookup (by decide +kernel)
  have e2 := PySem.seqSlot_of (T := "tuple") (name := "__rmul__") (id := "tuple.__rmul__") F.slot_tuple_rmul.lookup (by decide +kernel)
  rw [e1, e2]; rfl
theorem rmul_tuple (a : Int) (t : Tok) (l : Addr) (o : Obj) (its : Array Value) (n : Nat) (hc : o.cls = .type "tuple") (hd : o.data = .seq its n) :
    Meets (Builtin.«int.__rmul__» ⟨[.int a t, .ref l], []⟩) (fun _ R s => s.heap.get? l = some o ∧ R (.ok (.ret Value.notImplemented)) s) :=
  .of_wp fun prog w A R s h => by
    obtain ⟨hp, g, d, tk, os⟩ := s
    obtain ⟨hl, h⟩ := h
    have hT : (⟨hp, g, d, tk, os⟩ : Shared).TypeIs (.ref l) "tuple" := ⟨o, hl, hc⟩
    wp_walk
    rw [hd]
    wp_walk
    exact ⟨_, rfl, h⟩
/-- a tuple times a whole number -/
noncomputable def rRepT : R2 := fun x y H Q => ∃ l k xs, x = .ref l ∧ y = .int k ∧ H l = some (.tup xs) ∧ xs ≠ [] ∧ xs.length ≤ 1000 ∧ 0 ≤ k ∧ k ≤ 1000 ∧ (k = 1 → Q (.ref l) H) ∧ (k ≠ 1 → ∀ p, H p = none → Q (.ref p) (upd H p (.tup (List.replicate k.toNat xs).flatten)))
theorem op_repT {X : Cx} : OpR X (binaryOp .Mult) rRepT := by
  intro pins s σ H x y v u Q I rx ry h
  obtain ⟨l, k, xs, rfl, rfl, hH, hne, hz, h1, h2, q1, q2⟩ := h
  cases rx
  obtain ⟨t, rfl⟩ := ry
  obtain ⟨_, its, r, o, e, hc, n, hd⟩ := (show ObjOk X.prog X.w H s.heap l (.tup xs) from I.hok l _ hH)
  have hl := r.length
  have h0 : its.toArray.isEmpty = false := by
    cases its with
    | nil => cases xs with
      | nil => exact absurd rfl hne
      | cons _ _ => cases hl
    | cons _ _ => rfl
  have hnew : List.foldl (fun x1 x2 : Array Value => x1 ++ x2) #[] (List.replicate k.toNat its.toArray) = (List.replicate k.toNat its).flatten.toArray := by
    have := foldl_rep its k.toNat []
    rw [List.nil_append] at this
    exact this
  refine wpAny_binaryOp_repeat_ref (T := "tuple") (U := "int") (by decide) ⟨_, e, hc⟩ (fun s' => typeIs_int s' k t) noFill_tuple_mul F.fills_int_mul F.slot_int_rmul repeat_tuple F.slot_int_index.lookup
    (call_meets F.slot_int_rmul (typeIs_int s k t) F.entry_int_rmul (F.args_int_rmul_2 _ _) (rmul_tuple k t l o _ n hc hd)
      ⟨e, rfl, ⟨_, e, hc⟩, call_meets F.slot_tuple_mul ⟨_, e, hc⟩ F.entry_tuple_mul (F.args_tuple_mul_2 _ _) (tup_mul l its.toArray n o k t hc hd h1 h2 h0 (by rw [List.size_toArray]; omega)) ⟨e, fun c => ?_, fun c => ?_⟩⟩)
  · exact ⟨.ref l, H, I, rfl, q1 c⟩
  · rw [hnew]
    have hb : (List.replicate k.toNat xs).flatten.length ≤ sizeLine := by
      have hx : k.toNat ≤ 1000 := by omega
      rw [len_rep, sizeLine_eq]
      have := Nat.mul_le_mul hx hz
      omega
    refine ⟨.ref s.heap.objs.size, _, I.laid (a := s.heap.objs.size) (o := .tup (List.replicate k.toNat xs).flatten) (t' := s.toks) (fun b u q => Heap.get?_push_of_some _ q) (Nat.le_refl _) ⟨hb, _, r.rep k.toNat, ?_⟩, rfl, q2 c _ (I.hok.fresh (Nat.le_refl _))⟩
    exact ⟨_, Heap.get?_push_size _ rfl, rfl, 0, rfl⟩
/-- the same, whichever tuple it is -/
noncomputable def rRepU : R2 := fun x y H Q => ∃ l k xs, x = .ref l ∧ y = .int k ∧ H l = some (.tup xs) ∧ xs ≠ [] ∧ xs.length ≤ 1000 ∧ 0 ≤ k ∧ k ≤ 1000 ∧ ∀ p H', Same H H' → H' p = some (.tup (List.replicate k.toNat xs).flatten) → Q (.ref p) H'
theorem op_repU {X : Cx} : OpR X (binaryOp .Mult) rRepU := by
  intro pins s σ H x y v u Q I rx ry h
  obtain ⟨l, k, xs, h1, h2, hH, hne, hz, h3, h4, q⟩ := h
  refine op_repT pins s σ H x y v u Q I rx ry ⟨l, k, xs, h1, h2, hH, hne, hz, h3, h4, fun c => q l H (Same.refl H) ?_, fun c p hp => q p _ (fun b o e => by rw [upd_ne (ne_of_none e hp)]; exact e) upd_same⟩
  subst c
  rw [hH]
  simp
end L2

set_option Elab.async false
set_option linter.all false
set_option maxRecDepth 100000
set_option maxHeartbeats 4000000
namespace L2
open PySem PySem.Spec PyProof.Rows
open AutoSeq1 (wpAny_loadPart')
/-! ### enumerate of a tuple -/
section
variable {prog : Program} {w : World} {A : Around} {E : Value → Shared → Prop} {s : Shared}
theorem drawsT (hh : A.handled = none) (it t : Addr) (ne : t ≠ it) (its : Array Value) : Draws prog w A it [it, t] its.size (fun i v => its[i]? = some v) (fun i h => h.IsTupleIter it t i ∧ h.IsTuple t its) where
  live := fun _ _ st => let ⟨o, ho, _⟩ := st.1; ⟨o, ho⟩
  frame := fun _ _ _ st k => ⟨st.1.at fun o e => k it (by simp) o e, st.2.at fun o e => k t (by simp) o e⟩
  item := fun i s Q E hi st q => tn_item st.1 st.2 (v := its[i]) (by simp [hi]) fun G j b => q _ G s.toks (by simp [hi]) ⟨j, st.2.extBut b.extBut ne⟩ b
  done := fun s Q E st k => tn_end hh st.1 st.2 (by simp) k
theorem en_meets (t : Addr) (its : Array Value) : Meets (Builtin.«enumerate.__new__» ⟨[.type "enumerate", .ref t], []⟩) (fun _ R s => s.heap.IsTuple t its ∧
      R (.ok (.ret (.ref (s.heap.push { cls := .type "tuple_iterator", data := .fields #[.ref t, .int 0 0] }).objs.size)))
        { s with heap := (s.heap.push { cls := .type "tuple_iterator", data := .fields #[.ref t, .int 0 0] }).push { cls := .type "enumerate", data := .fields #[.none, .bool false, .ref s.heap.objs.size, rawInt 0, .none, .none] } }) :=
  .of_wp fun prog w A R s h => by
    obtain ⟨hp, g, d, tk, os⟩ := s; obtain ⟨hT, h⟩ := h
    have sb := sub_enumerate; obtain ⟨o, ho, _⟩ := id hT
    wp_walk using wpAny_loadPart' ho
    refine wpAny_stack_any fun st => wpAny_pure ?_
    split
    · rename_i c _ _ _ _ _
      cases (c == Value.type "enumerate") <;> (wp_walk using wpAny_loadPart' ho, wpAny_pyIter_tuple hT; exact ⟨_, rfl, h⟩)
    · wp_walk using wpAny_loadPart' ho, wpAny_pyIter_tuple hT; exact ⟨_, rfl, h⟩
theorem call_en {t : Addr} {its : Array Value} {Q : Value → Shared → Prop} (hT : s.heap.IsTuple t its)
    (q : ∀ G, IsEnum G (s.heap.objs.size + 1) s.heap.objs.size 0 .none → G.IsTupleIter s.heap.objs.size t 0 → (∀ c o, s.heap.get? c = some o → G.get? c = some o) → Q (.ref (s.heap.objs.size + 1)) { s with heap := G }) :
    wpAny (model prog w) A (call (.type "enumerate") [.ref t]) Q E s := by
  refine callType_new F.called_enumerate (by decide) (F.typeCall_enumerate_1 _) (F.newCall_enumerate_1 _) (fun obj => F.args_object_init_2 obj _) F.entry_enumerate_new (en_meets t its) ⟨hT, ?_⟩
  have z : (s.heap.push { cls := .type "tuple_iterator", data := .fields #[.ref t, .int 0 0] }).objs.size = s.heap.objs.size + 1 := Heap.size_push ..
  have g2 := Heap.get?_push_size (s.heap.push { cls := .type "tuple_iterator", data := .fields #[.ref t, .int 0 0] }) (o := { cls := .type "enumerate", data := .fields #[.none, .bool false, .ref s.heap.objs.size, rawInt 0, .none, .none] }) rfl
  show _ ∧ _
  rw [z] at g2 ⊢
  exact ⟨⟨_, g2, rfl⟩, q _ g2 ⟨_, Heap.get?_push_of_some _ (Heap.get?_push_size _ rfl), rfl, rfl⟩ fun c o e => Heap.get?_push_of_some _ (Heap.get?_push_of_some _ e)⟩
end
noncomputable def ItT (K : PySem.W.Frag) (a : Addr) : It :=
  ⟨fun i H => ∃ xs x, SqT K H a xs ∧ xs[i]? = some x,
   fun i H v H' => ∃ T x, v = .ref T ∧ H T = none ∧ H' = upd H T (.tup [.int i, x]) ∧ ∀ xs, SqT K H a xs → xs[i]? = some x,
   fun i H => ∃ xs, SqT K H a xs ∧ xs.length = i⟩
noncomputable def EnAt (e it l : Addr) (i : Nat) (h : Heap) : Prop := (∃ old, IsEnum h e it i old) ∧ h.IsTupleIter it l i
theorem turn_en {P : Program} {w : World} {K : PySem.W.Frag} {elts : List Expr} {x1} {pos : Pos} (e it l : Addr) (hei : e ≠ it) (hle : l ≠ e) (hli : l ≠ it) :
    Turn P w K (.Tuple elts x1 pos) (ItT K l) [e, it] e (EnAt e it l) where
  mem := by simp
  obj := fun i h st b hb => by
    obtain ⟨⟨old, he⟩, ⟨o1, e1, c1, d1⟩⟩ := st
    simp only [List.mem_cons, List.not_mem_nil, or_false] at hb
    rcases hb with rfl | rfl
    · exact ⟨_, he, fun v q => by cases q⟩
    · exact ⟨_, e1, fun v q => by rw [d1] at q; cases q⟩
  keep := fun i h h' st k => by
    obtain ⟨⟨old, he⟩, h1⟩ := st
    exact ⟨⟨old, k e (by simp) _ he⟩, h1.at fun o q => k it (by simp) o q⟩
  item := by
    intro X hP hw hK hc i pins s σ H E I hf st hg
    subst hP hw hK
    obtain ⟨xs, x, hq1, hx⟩ := hg
    obtain ⟨⟨old, he⟩, h1⟩ := id st
    obtain ⟨its1, rv1, p1, hz1⟩ := I.tuple hq1
    obtain ⟨u1, hu1, ru1⟩ := rv1.get hx
    have hlt : i < its1.toArray.size := by
      have := (List.getElem?_eq_some_iff.mp hu1).1
      simpa using this
    refine wpAny_pyNext_enum_itemD (drawsT (A := X.A.in1) (I.ok.hd hc) it l hli its1.toArray) he ⟨h1, p1⟩ hlt hei (by simp [hei, hle.symm]) fun x' h' tk hx' a1 a2 a3 a4 a5 => ?_
    have ex : x' = u1 := by
      have : its1.toArray[i]? = some u1 := by simpa using hu1
      exact Option.some.inj (hx'.symm.trans this)
    subst ex
    refine ⟨_, rfl, wpAny_letOwnedTupleGo_enum (s := { s with heap := h', toks := tk + 1 }) a1 fun h'' z2 sb => ?_⟩
    have sb' := sb.extBut
    generalize hT : s.heap.objs.size = T at *
    have lt : ∀ {b : Addr} {o : Obj}, s.heap.get? b = some o → b ≠ T := fun {b o} e => by rw [← hT]; exact Nat.ne_of_lt (Heap.lt_size e)
    have fresh : H T = none := by rw [← hT]; exact I.hok.fresh (Nat.le_refl _)
    have hne : ∀ b ∈ [e, it], b ≠ T := fun b hb => by
      obtain ⟨o1, e1, _⟩ := h1
      simp only [List.mem_cons, List.not_mem_nil, or_false] at hb
      rcases hb with rfl | rfl
      · exact lt he
      · exact lt e1
    have I0 : Inv X pins σ (upd H T (.tup [.int i, x])) { s with heap := s.heap.push { cls := .type "tuple", data := .seq #[.int i tk, x'] }, toks := s.toks } := by
      subst hT
      exact I.laid (t' := s.toks) (fun b o q => Heap.get?_push_of_some _ q) (Nat.le_refl _) ⟨by show 2 ≤ sizeLine; decide, [.int i tk, x'], .cons ⟨_, rfl⟩ (.cons ru1 .nil), _, Heap.get?_push_size _ rfl, rfl, 0, rfl⟩
    have up : ∀ b o, b ∉ [e, it] → (s.heap.push { cls := .type "tuple", data := .seq #[.int i tk, x'] }).get? b = some o → h''.get? b = some o := fun b o hb q => by
      simp only [List.mem_cons, List.not_mem_nil, or_false, not_or] at hb
      rcases Heap.get?_push_cases q with ⟨e1, e2⟩ | e1
      · subst e2
        rw [e1, hT]
        exact sb' _ _ (hne e (by simp)).symm a3
      · exact sb' _ _ hb.1 (a5 b o hb.1 hb.2 e1)
    have I2 : Inv X pins σ (upd H T (.tup [.int i, x])) { s with heap := h'', toks := tk + 1 } := Inv.turnedS (s := { s with heap := s.heap.push { cls := .type "tuple", data := .seq #[.int i tk, x'] }, toks := s.toks }) (t' := tk + 1) (ch := [e, it]) I0 up fun b hb => by
      obtain ⟨f0, f1⟩ := hf b hb
      exact ⟨by rw [upd_ne (hne b hb)]; exact f0, f1⟩
    exact ⟨.ref T, upd H T (.tup [.int i, x]), I2, rfl, ⟨T, x, rfl, fresh, rfl, fun ws hw => by rw [I.tuple_inj hw hq1]; exact hx⟩,
      ⟨⟨_, by simpa using z2⟩, a2.1.at fun o q => sb' _ _ hei.symm q⟩, fun b hb => by rw [upd_ne (hne b hb)]; exact (hf b hb).1⟩
  done := by
    intro X hP hw hK hc i pins s σ H E I hf st hg
    subst hP hw hK
    obtain ⟨xs, hq1, hx⟩ := hg
    obtain ⟨⟨old, he⟩, h1⟩ := id st
    obtain ⟨its1, rv1, p1, hz1⟩ := I.tuple hq1
    have hl1 := rv1.length
    have en : i = its1.toArray.size := by simp; omega
    subst en
    refine wpAny_pyNext_enum_endD (drawsT (A := X.A.in1) (I.ok.hd hc) it l hli its1.toArray) he ⟨h1, p1⟩ fun h' hk => ⟨rfl, I.turnedS (t' := s.toks) (ch := [e, it]) (fun b o hb q => ?_) hf⟩
    simp only [List.mem_cons, List.not_mem_nil, or_false, not_or] at hb
    exact hk b o hb.2 q
  self := fun _ _ _ _ _ st h => by obtain ⟨⟨old, he⟩, _⟩ := st; exact wpAny_pyIter_enum he h
section
variable {X : Cx}
noncomputable def iEnT (K : PySem.W.Frag) (ta : TA) : TI := fun σ H R => ta σ H fun vs H1 => ∃ a xs, vs = [.ref a] ∧ SqT K H1 a xs ∧ R (ItT K a) H1
theorem pi_enT {a : Expr} {elts : List Expr} {x1} {tpos : Pos} {ta : TA} {p pos : Pos} (hg : Gl X "enumerate") (hm : X.mg "enumerate" = none) (ha : PA X [a] ta) (hs : starEach [a] X.env = [(false, eval a X.env)] := by rfl) :
    PI X (.Tuple elts x1 tpos) (.Call (.Name "enumerate" p) [a] [] pos) (iEnT X.K ta) := by
  intro pins s σ H R I h
  refine Call_ (ld_blt I hg hm boot_enum (PyProof.Rows.callWith_type1 (thn (ha pos pins s σ H _ I h) fun us s1 ⟨vs, H1, I1, r1, q1⟩ => ?_) (by rw [hs]; rfl) rfl))
  obtain ⟨a', xs, rfl, hq1, q⟩ := q1
  obtain ⟨u1, rfl, ra⟩ := vals1 r1
  cases ra
  obtain ⟨its1, rv1, p1, hz1⟩ := I1.tuple hq1
  have hlt : a' < s1.heap.objs.size := by obtain ⟨o, ho, _⟩ := id p1; exact Heap.lt_size ho
  refine call_en p1 fun G he hit hk => wpAny_pyIter_enum he ?_
  refine ⟨s1.heap.objs.size + 1, [s1.heap.objs.size + 1, s1.heap.objs.size], _, _, H1, rfl, I1.kept (t' := s1.toks) hk, turn_en _ _ _ (Nat.succ_ne_self _) (Nat.ne_of_lt (Nat.lt_succ_of_lt hlt)) (Nat.ne_of_lt hlt), ⟨⟨_, he⟩, hit⟩, fun b hb => ?_, q⟩
  have hle : s1.heap.objs.size ≤ b := by
    simp only [List.mem_cons, List.not_mem_nil, or_false] at hb
    rcases hb with rfl | rfl
    · exact Nat.le_add_right _ _
    · exact Nat.le_refl _
  exact I1.fpOk hle (I1.hok.fresh hle)
end
end L2
namespace L2
open PySem
/-- what a statement has walked may be written again behind it -/
noncomputable def sThaw (H0 : Hp) (t : TS) : TS := fun D σ H => t { D with nx := fun σ' H' => ∃ a o kvs, H' a = some (.frz o (.dT kvs)) ∧ (∀ o u, H0 a ≠ some (.frz o u)) ∧ D.nx σ' (upd H' a (.dT kvs)) } σ H
theorem ps_thaw {X : Cx} {st : Stmt} {t : TS} (h : PS X st t) : PS X st (sThaw X.H₀ t) := fun pins s σ H D I q => thn (h pins s σ H _ I q) fun f s1 p => by
  cases f with
  | next =>
    obtain ⟨σ', H', I', a, o, kvs, e, h0, d⟩ := p
    exact ⟨σ', _, I'.thaw e h0 (fun _ z => by cases z) (fun _ z => by cases z), d⟩
  | _ => exact p
theorem for_enT {K : PySem.W.Frag} {a : Addr} {xs : List V} {g : TG} {tb : TS} {D : Ends} {σ : St} {H : Hp} (Pv : Nat → St → Hp → Prop) (h0 : Pv 0 σ H) (hl : ∀ i σ H, i ≤ xs.length → Pv i σ H → SqT K H a xs)
    (hs : ∀ i x σ H T, xs[i]? = some x → Pv i σ H → H T = none → g (.ref T) σ (upd H T (.tup [.int i, x])) fun σ2 H2 => tb { D with nx := Pv (i + 1), ct := Pv (i + 1), bk := D.nx } σ2 H2) (hd : ∀ σ H, Pv xs.length σ H → D.nx σ H) :
    ∃ W : Nat → Nat → St → Hp → Prop, (∃ m, W 0 m σ H) ∧ ∀ i m σ H, W i m σ H →
      ((ItT K a).stop i H ∧ D.nx σ H) ∨ ((ItT K a).go i H ∧ ∃ N : St → Hp → Prop, (∀ σ' H', N σ' H' → ∃ m', m' < m ∧ W (i + 1) m' σ' H') ∧ ∀ x H', (ItT K a).yld i H x H' → g x σ H' fun σ2 H2 => tb { D with nx := N, ct := N, bk := D.nx } σ2 H2) := by
  refine ⟨fun i m σ H => m = xs.length - i ∧ i ≤ xs.length ∧ Pv i σ H, ⟨xs.length, by simp, Nat.zero_le _, h0⟩, ?_⟩
  rintro i m σ H ⟨rfl, hi, p⟩
  have q := hl i σ H hi p
  by_cases hlt : i < xs.length
  · refine .inr ⟨⟨xs, xs[i], q, by simp [hlt]⟩, Pv (i + 1), fun σ' H' p' => ⟨xs.length - (i + 1), by omega, rfl, hlt, p'⟩, fun x H' y => ?_⟩
    obtain ⟨T, x', rfl, hT, rfl, e1⟩ := y
    exact hs i x' σ H T (e1 xs q) p hT
  · have e : i = xs.length := by omega
    subst e
    exact .inl ⟨⟨xs, q, rfl⟩, hd σ H p⟩
end L2

set_option Elab.async false
set_option linter.all false
set_option maxRecDepth 100000
set_option maxHeartbeats 4000000
namespace L2
open PySem PySem.Spec PyProof.Rows PySem.W PySem.Calls
/-! ### exceptions in flight -/
/-- an exception that has left a frame: its object, its own dict, the head of its traceback -/
noncomputable def TrcF (fl : Value) (h : Heap) (e T : Addr) (cls a0 : Value) (dx : Option Addr) : Prop := ∃ oe vs oT ts, h.get? e = some oe ∧ oe.cls = cls ∧ vs[0]? = some a0 ∧ oe.data = Data.fields vs ∧ vs[1]? = some (Value.ref T) ∧ T ≠ e ∧ h.get? T = some oT ∧ oT.data = Data.fields ts ∧ ts[3]? = some fl ∧ oe.dict = dx
noncomputable abbrev Trc : Heap → Addr → Addr → Value → Value → Option Addr → Prop := TrcF .none
/-- how an exception lies behind a call -/
noncomputable def CXE (P : Program) (w : World) : CXT := fun outer H s E e s' => ∃ (ea T : Addr) (cls a0 : Value) (dx : Option Addr) (H' : Hp), e = .ref ea ∧ s'.os = s.os ∧ AllBare s'.gens ∧ Un (frs outer) [] H H' s.heap s'.heap ∧ HOk P w H' s'.heap ∧ s.heap.get? ea = none ∧ s.heap.get? T = none ∧ H' ea = none ∧ H' T = none ∧ Trc s'.heap ea T cls a0 dx ∧ E cls dx H'
theorem ff_at {h base : Heap} : ∀ {l : List Env}, h.FunFrames base l → ∀ b ∈ frs l, ∃ o, h.get? b = some o ∧ ∀ vs : Array Value, o.data ≠ Data.fields vs
  | [], _, b, hb => by simp [frs] at hb
  | e :: l, k, b, hb => by
    simp only [Heap.FunFrames] at k
    obtain ⟨k1, ⟨L, o, k2, k3, k4, k5⟩, k6⟩ := k
    unfold frs at hb
    rw [List.filterMap_cons, k2] at hb
    rcases List.mem_cons.mp hb with z | z
    · rw [z]; exact ⟨o, k4, k5⟩
    · exact ff_at k6 b z
theorem dict_mapF (o : Obj) (f : Array Value → Array Value) : (o.mapFields f).dict = o.dict := by
  obtain ⟨c, d, dt, sl⟩ := o
  cases dt <;> rfl
/-- all but some frames and one object stays -/
structure Moved (fr : List Addr) (g : List Addr) (h h' : Heap) : Prop where
  keep : ∀ b o, h.get? b = some o → b ∉ fr → b ∉ g → h'.get? b = some o
  slot : ∀ b o, h.get? b = some o → b ∈ fr → ∃ sl, h'.get? b = some { o with slots := sl }
section
variable {M : Model} {A : Around} {E : Value → Shared → Prop} {s : Shared} {env : Env} {outer : List Env} {L e T : Addr} {base : Heap} {cls a0 : Value} {dx : Option Addr} {Q : Unit → Shared → Prop}
/-- a new row of an exception's traceback -/
theorem new_row {oe : Obj} {vs : Array Value} {head : Value} {had : Bool}
    (hf : A.frames = some (env :: outer)) (ff : s.heap.FunFrames base (env :: outer)) (hL : env.frame = some L) (he : s.heap.get? e = some oe) (hd : oe.data = Data.fields vs) (hz : 1 < vs.size) (h0 : vs[0]? = some a0)
    (k : ∀ (h' : Heap) (T' : Addr), Moved (frs (env :: outer)) [e] s.heap h' → s.heap.get? T' = none → TrcF (rawInt L) h' e T' oe.cls a0 oe.dict → Q () { s with heap := h' }) :
    wpAny M A (do let a ← frameOf env; let pl ← entryPlaceOf L had; let b ← EntryCells.newEntry head a .none (rawInt L) .none pl; setField (.ref e) 1 b) Q E s := by
  have efr : e ∉ frs (env :: outer) := fun hm => by
    obtain ⟨o, q, nf⟩ := ff_at ff e hm
    rw [he] at q; cases q
    exact nf _ hd
  refine wpAny_bind (wpAny_frameOf_fun hf ff hL fun g1 so => wpAny_bind (wpAny_entryPlaceOf fun pl hpl => ?_))
  unfold EntryCells.newEntry newFields
  refine wpAny_bind (wpAny_newObj_type ?_ (hpl.sizeOk5 _ _ _ _ _))
  generalize hob : ({ cls := .type "traceback", dict := none, data := .fields ([head, .ref L, .none, rawInt L, .none] ++ (if pl.isEmpty then List.replicate 6 Value.none else pl)).toArray } : Obj) = ob
  have obf : ob.isFreed = false := by rw [← hob]; rfl
  have e1 : g1.get? e = some oe := (so.2.1 e efr).trans he
  have nz : g1.objs.size ≠ e := Nat.ne_of_gt (Heap.lt_size e1)
  have e2 := Heap.get?_push_of_some (h := g1) ob e1
  refine wpAny_setField e2 hd hz ?_
  have hd3 := Obj.data_mapFields hd (fun z => z.setIfInBounds 1 (Value.ref g1.objs.size))
  have e3 := Heap.get?_update_self (Obj.mapFields fun z => z.setIfInBounds 1 (Value.ref g1.objs.size)) e2 (Obj.isFreed_of_fields hd3)
  have fresh : s.heap.get? g1.objs.size = none := by
    cases hc : s.heap.get? g1.objs.size with
    | none => rfl
    | some o =>
      obtain ⟨sl, q⟩ := so.2.2 _ o hc
      exact absurd (Heap.lt_size q) (Nat.lt_irrefl _)
  have up : ∀ b o, b ≠ e → g1.get? b = some o → ((g1.push ob).update e (Obj.mapFields fun z => z.setIfInBounds 1 (Value.ref g1.objs.size))).get? b = some o := fun b o n q => by
    rw [Heap.get?_update_other _ _ (Ne.symm n)]
    exact Heap.get?_push_of_some _ q
  refine k _ g1.objs.size ⟨fun b o q hb hg => up b o (fun z => hg (by simp [z])) ((so.2.1 b hb).trans q), fun b o q hb => ?_⟩ fresh ⟨_, _, ob, _, e3, Obj.cls_mapFields _ _, ?_, hd3, ?_, nz, ?_, by rw [← hob], ?_, dict_mapF _ _⟩
  · obtain ⟨sl, q1⟩ := so.2.2 b o q
    exact ⟨sl, up b _ (fun z => efr (z ▸ hb)) q1⟩
  · rw [Array.getElem?_setIfInBounds_ne (by decide)]; exact h0
  · simp [hz]
  · rw [Heap.get?_update_other _ _ (Ne.symm nz)]
    exact Heap.get?_push_size g1 obf
  · first | (simp; done) | (rcases hpl with rfl | ⟨_, _, _, _, _, _, _, rfl⟩ <;> simp)
/-- an exception is no longer in flight -/
theorem ground {fl : Value} (ht : TrcF fl s.heap e T cls a0 dx)
    (k : ∀ h' : Heap, (∀ b, b ≠ T → h'.get? b = s.heap.get? b) → Trc h' e T cls a0 dx → Q () { s with heap := h' }) :
    wpAny M A (setFlight (.ref e) none) Q E s := by
  obtain ⟨oe, vs, oT, ts, h1, h2, h3, h4, h5, h6, h7, h8, h9, h10⟩ := ht
  have z3 : 3 < ts.size := (Array.getElem?_eq_some_iff.mp h9).1
  unfold setFlight
  refine wpAny_bind (wpAny_field h1 h4 h5 ?_)
  rw [if_pos (show (Value.ref T != Value.none) = true from by simp)]
  refine wpAny_setField h7 h8 z3 (k _ (fun b n => Heap.get?_update_other _ _ (Ne.symm n)) ?_)
  have d8 := Obj.data_mapFields h8 (fun z => z.setIfInBounds 3 ((none : Option Addr).elim Value.none fun f => rawInt f))
  exact ⟨oe, vs, _, _, (Heap.get?_update_other _ _ h6).trans h1, h2, h3, h4, h5, h6, Heap.get?_update_self _ h7 (Obj.isFreed_of_fields d8), d8, by simp [z3], h10⟩
/-- a frame is noted: the first of a new exception, or one more -/
theorem note_new {oe : Obj} {vs : Array Value} (hf : A.frames = some (env :: outer)) (hL : env.frame = some L) (ff : s.heap.FunFrames base (env :: outer)) (h1 : s.heap.get? e = some oe) (h2 : oe.data = Data.fields vs) (h3 : vs[1]? = some Value.none) (h4 : vs[0]? = some a0)
    (k : ∀ (h' : Heap) (T' : Addr), Moved (frs (env :: outer)) [e] s.heap h' → s.heap.get? T' = none → TrcF (rawInt L) h' e T' oe.cls a0 oe.dict → Q () { s with heap := h' }) :
    wpAny M A (noteFrame (.ref e) env) Q E s := by
  unfold noteFrame
  simp only [hL]
  refine wpAny_bind (wpAny_field h1 h2 h3 ?_)
  rw [if_neg (by decide)]
  exact new_row hf ff hL h1 h2 (Array.getElem?_eq_some_iff.mp h3).1 h4 k
theorem note_more (hf : A.frames = some (env :: outer)) (hL : env.frame = some L) (ff : s.heap.FunFrames base (env :: outer)) (ht : Trc s.heap e T cls a0 dx)
    (k : ∀ (h' : Heap) (T' : Addr), Moved (frs (env :: outer)) [e, T] s.heap h' → s.heap.get? T' = none → TrcF (rawInt L) h' e T' cls a0 dx → Q () { s with heap := h' }) :
    wpAny M A (noteFrame (.ref e) env) Q E s := by
  obtain ⟨oe, vs, oT, ts, h1, rfl, h3, h4, h5, h6, h7, h8, h9, rfl⟩ := ht
  unfold noteFrame
  simp only [hL]
  refine wpAny_bind (wpAny_field h1 h4 h5 ?_)
  rw [if_pos (show (Value.ref T != Value.none) = true from by simp)]
  refine wpAny_bind (wpAny_field h7 h8 h9 ?_)
  rw [if_neg (show ¬ ((Value.none == rawInt L) = true) from by simp [rawInt])]
  refine wpAny_bind (wpAny_setField h7 h8 (Array.getElem?_eq_some_iff.mp h9).1 ?_)
  have oth : ∀ b, b ≠ T → (s.heap.update T (Obj.mapFields fun z => z.setIfInBounds 3 Value.none)).get? b = s.heap.get? b := fun b n => Heap.get?_update_other _ _ (Ne.symm n)
  have nT : ∀ b, b ∈ frs (env :: outer) → b ≠ T := fun b hb z => by
    obtain ⟨o, q, nf⟩ := ff_at ff b hb
    rw [z, h7] at q; cases q
    exact nf _ h8
  refine new_row (s := { s with heap := s.heap.update T (Obj.mapFields fun z => z.setIfInBounds 3 Value.none) }) hf (ff.of_keeps fun b o q nf => ⟨o, (oth b fun z => ?_).trans q, rfl⟩) hL ((oth e (Ne.symm h6)).trans h1) h4 (Array.getElem?_eq_some_iff.mp h5).1 h3 fun h' T' mv nw tr => k h' T' ⟨fun b o q hb hg => ?_, fun b o q hb => ?_⟩ ?_ tr
  · rw [z, h7] at q; cases q
    exact nf _ h8
  · exact mv.keep b o ((oth b fun z => hg (by simp [z])).trans q) hb fun z => hg (by simp at z; simp [z])
  · exact mv.slot b o ((oth b (nT b hb)).trans q) hb
  · have z : T' ≠ T := fun z => by
      have d8 := Obj.data_mapFields h8 (fun z => z.setIfInBounds 3 Value.none)
      have g7 := Heap.get?_update_self (Obj.mapFields fun z => z.setIfInBounds 3 Value.none) h7 (Obj.isFreed_of_fields d8)
      have nw' : (s.heap.update T (Obj.mapFields fun z => z.setIfInBounds 3 Value.none)).get? T' = none := nw
      rw [z, g7] at nw'
      cases nw'
    exact (oth T' z).symm.trans nw
theorem Moved.ground {fr g : List Addr} {h h' h'' : Heap} (m : Moved fr g h h') (nT : h.get? T = none) (nf : ∀ b ∈ fr, ∃ o, h.get? b = some o) (k : ∀ b, b ≠ T → h''.get? b = h'.get? b) : Moved fr g h h'' :=
  ⟨fun b o q hb hg => (k b fun z => by rw [z, nT] at q; cases q).trans (m.keep b o q hb hg), fun b o q hb => by
    obtain ⟨sl, e⟩ := m.slot b o q hb
    exact ⟨sl, (k b fun z => by rw [z, nT] at q; cases q).trans e⟩⟩
/-- an exception in flight leaves one frame more -/
theorem leave_flying (hf : A.frames = some (env :: outer)) (hL : env.frame = some L) (ff : s.heap.FunFrames base (env :: outer)) (ht : Trc s.heap e T cls a0 dx)
    (k : ∀ (h' : Heap) (T' : Addr), Moved (frs (env :: outer)) [e, T] s.heap h' → s.heap.get? T' = none → Trc h' e T' cls a0 dx → Q () { s with heap := h' }) :
    wpAny M A (leaving env (.ref e)) Q E s := by
  unfold leaving
  refine wpAny_bind (note_more hf hL ff ht fun h1 T1 mv nw tr => ground tr fun h2 same tr2 => k h2 T1 (mv.ground nw (fun b hb => let ⟨o, q, _⟩ := ff_at ff b hb; ⟨o, q⟩) same) nw tr2)
/-- and a new one leaves its first -/
theorem leave_new {oe : Obj} {vs : Array Value} (hf : A.frames = some (env :: outer)) (hL : env.frame = some L) (ff : s.heap.FunFrames base (env :: outer)) (h1 : s.heap.get? e = some oe) (h2 : oe.data = Data.fields vs) (h3 : vs[1]? = some Value.none) (h4 : vs[0]? = some a0)
    (k : ∀ (h' : Heap) (T' : Addr), Moved (frs (env :: outer)) [e] s.heap h' → s.heap.get? T' = none → Trc h' e T' oe.cls a0 oe.dict → Q () { s with heap := h' }) :
    wpAny M A (leaving env (.ref e)) Q E s := by
  unfold leaving
  refine wpAny_bind (note_new hf hL ff h1 h2 h3 h4 fun g1 T1 mv nw tr => ground tr fun g2 same tr2 => k g2 T1 (mv.ground nw (fun b hb => let ⟨o, q, _⟩ := ff_at ff b hb; ⟨o, q⟩) same) nw tr2)
/-- an exception in flight comes to a try: noted, then grounded -/
theorem look_flying (hf : A.frames = some (env :: outer)) (hL : env.frame = some L) (ff : s.heap.FunFrames base (env :: outer)) (ht : Trc s.heap e T cls a0 dx)
    (k : ∀ (h' : Heap) (T' : Addr), Moved (frs (env :: outer)) [e, T] s.heap h' → s.heap.get? T' = none → Trc h' e T' cls a0 dx → Q () { s with heap := h' }) :
    wpAny M A (noteFrame (.ref e) env) (fun _ s2 => wpAny M A (setFlight (.ref e) none) (fun _ s3 => Q () s3) E s2) E s :=
  note_more hf hL ff ht fun h1 T1 mv nw tr => ground tr fun h2 same tr2 => k h2 T1 (mv.ground nw (fun b hb => let ⟨o, q, _⟩ := ff_at ff b hb; ⟨o, q⟩) same) nw tr2
end
end L2

set_option Elab.async false
set_option linter.all false
set_option maxRecDepth 100000
set_option maxHeartbeats 4000000
namespace L2
open PySem PySem.Spec PyProof.Rows PySem.W PySem.Calls
theorem ObjOk.got {P : Program} {w : World} {H : Hp} {h : Heap} {a : Addr} {o : HO} (x : ObjOk P w H h a o) : ∃ ob, h.get? a = some ob := by
  cases o with
  | lst xs => obtain ⟨_, _, _, _, e⟩ := x; exact ⟨_, e⟩
  | tup xs => obtain ⟨_, _, _, o, e, _⟩ := x; exact ⟨_, e⟩
  | dK kvs => obtain ⟨_, _, _, _, o, _, _, e, _⟩ := x; exact ⟨_, e⟩
  | dT kvs => obtain ⟨_, _, _, _, o, _, _, e, _⟩ := x; exact ⟨_, e⟩
  | set S n => obtain ⟨o, _, _, _, e, _⟩ := x; exact ⟨_, e⟩
  | ins C dx fs => obtain ⟨_, _, _, e, _⟩ := x; exact ⟨_, e⟩
  | own y => exact x
  | xd fs => obtain ⟨_, ⟨_, _, _, e, _⟩, _⟩ := x; exact ⟨_, e⟩
  | rng lo hi => obtain ⟨_, _, _, e⟩ := x; exact ⟨_, e⟩
  | frz ob u => obtain ⟨e, _⟩ := x; exact ⟨_, e⟩
  | tbl ps => exact ⟨_, (show h.get? a = some _ from x)⟩
  | met f y => exact ⟨_, (show h.get? a = some _ from x)⟩
  | ext φ => obtain ⟨_, e, _⟩ := x; exact e
/-- what a frame's end leaves of an exception, from the body's own state -/
theorem cxe_of {CX : CXT} {P : Program} {w : World} {K : PySem.W.Frag} {mg : Str → Option Value} {base : Heap} {N : List Str} {qual : Str} {scope : Scope} {f : Addr} {cd : Value} {A : Around} {outer : List Env} {s0 : Shared} {H0 : Hp} {E0' : XK}
    {pins : List (Addr × Obj)} {σ : St} {H' : Hp} {s' : Shared} {E : XK} {ea T' : Addr} {cls a0 : Value} {dx : Option Addr} {h' : Heap} {G : List Addr}
    (I : Inv (cxOf CX P w K mg base N qual scope f cd A outer s0 H0 E0') pins σ H' s')
    (mv : Moved (frs (envOfC qual scope s0.heap.objs.size f cd :: outer)) G s'.heap h')
    (hG : ∀ b ∈ G, s0.heap.get? b = none ∧ H' b = none) (tr : Trc h' ea T' cls a0 dx) (e1 : s0.heap.get? ea = none) (e2 : H' ea = none) (e3 : T' ∈ G ∨ s'.heap.get? T' = none) (hE : E cls dx H') :
    CXE P w outer H0 s0 E (.ref ea) { s' with heap := h' } := by
  have kp := mv.keep
  have sl := mv.slot
  have base' := I.base
  have hok := I.hok
  have nL : ∀ b o, s0.heap.get? b = some o → b ∉ frs outer → b ∉ frs (envOfC qual scope s0.heap.objs.size f cd :: outer) := fun b o q hb hm => by
    have hm' : b ∈ s0.heap.objs.size :: frs outer := hm
    rcases List.mem_cons.mp hm' with z | z
    · exact absurd (Heap.lt_size q) (by rw [z]; exact Nat.lt_irrefl _)
    · exact hb z
  have nG : ∀ b o, s0.heap.get? b = some o → b ∉ G := fun b o q hb => by rw [(hG b hb).1] at q; cases q
  have mO : ∀ b, b ∈ frs outer → b ∈ frs (envOfC qual scope s0.heap.objs.size f cd :: outer) := fun b hb => List.mem_cons_of_mem _ hb
  have T0 : s0.heap.get? T' = none := by
    rcases e3 with z | z
    · exact (hG _ z).1
    · cases hc : s0.heap.get? T' with
      | none => rfl
      | some o =>
        obtain ⟨o', q⟩ := base'.there T' o hc (by show T' ∉ []; simp)
        rw [z] at q; cases q
  have TH : H' T' = none := by
    rcases e3 with z | z
    · exact (hG _ z).2
    · cases hc : H' T' with
      | none => rfl
      | some o =>
        obtain ⟨ob, q⟩ := ObjOk.got (hok T' o hc)
        rw [z] at q; cases q
  refine ⟨ea, T', cls, a0, dx, H', rfl, I.os, I.bare, ?_, ?_, e1, T0, e2, TH, tr, hE⟩
  · refine ⟨fun b o q n hb hx => ?_, fun b o q n hb hx => ?_, fun b o q n hx => base'.free b o q n hx, fun b o q hx => ?_, base'.tups, base'.frzs, base'.tbls⟩
    · exact kp b o (base'.keep b o q n hb hx) (nL b o q hb) (nG b o q)
    · obtain ⟨s1, q1⟩ := base'.slot b o q n hb hx
      obtain ⟨s2, q2⟩ := sl b _ q1 (mO b hb)
      exact ⟨s2, q2⟩
    · obtain ⟨o', q'⟩ := base'.there b o q hx
      by_cases hb : b ∈ frs (envOfC qual scope s0.heap.objs.size f cd :: outer)
      · obtain ⟨s2, q2⟩ := sl b _ q' hb
        exact ⟨_, q2⟩
      · exact ⟨o', kp b o' q' hb (nG b o q)⟩
  · intro a o hH
    have nf : ∀ b u, H' b = some u → b ∉ frs (envOfC qual scope s0.heap.objs.size f cd :: outer) ∧ b ∉ G := fun b u q => ⟨fun hm => (by
      have := I.stkFree b hm
      rw [q] at this; cases this), fun hm => (by rw [(hG b hm).2] at q; cases q)⟩
    refine (hok a o hH).stay (fun b u hb q => ?_) (fun _ q => q) fun _ _ q => q
    rcases hb with z | z
    · rw [z] at q ⊢; exact kp a u q (nf a o hH).1 (nf a o hH).2
    · exact kp b u q (nf b _ z).1 (nf b _ z).2
/-- an exception of a callee passes through a body -/
theorem passE {P : Program} {w : World} {K : PySem.W.Frag} {mg : Str → Option Value} {base : Heap} {N : List Str} {qual : Str} {scope : Scope} {f : Addr} {cd : Value} {A : Around} {outer : List Env} {s0 : Shared} {H0 : Hp} {E : XK} :
    Passes (CXE P w) (cxOf (CXE P w) P w K mg base N qual scope f cd A outer s0 H0 E) E := by
  intro pins σ H s e s' I h
  obtain ⟨ea, T, cls, a0, dx, H', rfl, os, bare, un, hok, n1, n2, m1, m2, trc, hE⟩ := h
  have I' : Inv (cxOf (CXE P w) P w K mg base N qual scope f cd A outer s0 H0 E) pins σ H' s' := I.call' (ch := []) os un hok bare (by simp)
  have back : ∀ b, s.heap.get? b = none → s0.heap.get? b = none := fun b q => by
    cases hc : s0.heap.get? b with
    | none => rfl
    | some o =>
      obtain ⟨o', q'⟩ := I.base.there b o hc (by show b ∉ []; simp)
      rw [q] at q'; cases q'
  show wpAny (model P w) (A.deeper (envOfC qual scope s0.heap.objs.size f cd)) (leaving (envOfC qual scope s0.heap.objs.size f cd) (.ref ea)) _ _ s'
  refine leave_flying (outer := outer) (L := s0.heap.objs.size) I'.ok.frames rfl I'.stack trc fun h' T' mv nw tr' => ?_
  exact cxe_of (G := [ea, T]) I' mv (fun b hb => by
    simp at hb
    rcases hb with z | z
    · rw [z]; exact ⟨back _ n1, m1⟩
    · rw [z]; exact ⟨back _ n2, m2⟩) tr' (back _ n1) m1 (.inr nw) hE
end L2

set_option Elab.async false
set_option linter.all false
set_option maxRecDepth 100000
set_option maxHeartbeats 4000000
namespace L2
open PySem PySem.Spec PyProof.Rows PySem.W PySem.Calls
/-- a new exception leaves the body that raised it -/
theorem raiseD {P : Program} {w : World} {K : PySem.W.Frag} {mg : Str → Option Value} {base : Heap} {N : List Str} {qual : Str} {scope : Scope} {f : Addr} {cd : Value} {A : Around} {outer : List Env} {s0 : Shared} {H0 : Hp} {E : XK}
    {pins : List (Addr × Obj)} {σ : St} {H : Hp} {s : Shared} {ea : Addr} {oe : Obj} {vs : Array Value} {a0 : Value}
    (I : Inv (cxOf (CXE P w) P w K mg base N qual scope f cd A outer s0 H0 E) pins σ H s) (h1 : s.heap.get? ea = some oe) (h2 : oe.data = Data.fields vs) (h3 : vs[1]? = some Value.none) (h4 : vs[0]? = some a0) (back : s0.heap.get? ea = none) (he : H ea = none) (hE : E oe.cls oe.dict H) :
    (cxOf (CXE P w) P w K mg base N qual scope f cd A outer s0 H0 E).xe (.ref ea) s := by
  show wpAny (model P w) (A.deeper (envOfC qual scope s0.heap.objs.size f cd)) (leaving (envOfC qual scope s0.heap.objs.size f cd) (.ref ea)) _ _ s
  refine leave_new (outer := outer) (L := s0.heap.objs.size) I.ok.frames rfl I.stack h1 h2 h3 h4 fun h'' T' mv nT tr => ?_
  exact cxe_of (G := [ea]) I mv (fun b hb => by
    have z : b = ea := by simpa using hb
    rw [z]; exact ⟨back, he⟩) tr back he (.inr nT) hE
/-- an own class of exceptions with no __init__ of its own, as it lies in a heap -/
noncomputable def ExcC (h : Heap) (C : Addr) : Prop := ∃ (nm q : Str) (N : Addr) (bs bm bmB : List Value) (hdct : Bool) (sn : List Str) (sub : List Value) (ab : Bool) (col : Option Bool) (dd : Option Addr) (k0 k1 k2 k3 k5 : Option Value) (mN : Str → Option Value) (B Bn newId nid initId inN : String) (bmN : List Value),
  h.get? C = some (excClassObj nm q C N bs bm hdct sn sub ab col dd k0 k1 k2 k3 k5 newId) ∧ h.Ns N mN ∧ mN (Str.ofString "__init__") = none ∧ OwnTail h bmB bm ∧ bm.contains (Value.type "BaseException") = true ∧ ExcBaseFacts Bn newId inN bmN ∧ bmB.contains (Value.type Bn) = true ∧ ExcBaseFacts B nid initId bmB
section
variable {X : Cx} {x : Str} {C : Addr} {e : Expr} {es : List Expr} {t : TA} {np cpos pos : Pos} {W : Hp → Prop}
end
end L2

set_option Elab.async false
set_option linter.all false
set_option maxRecDepth 100000
set_option maxHeartbeats 4000000
namespace L2
open PySem PySem.Spec PyProof.Rows PySem.W PySem.Calls
section
variable {P : Program} {w : World} {K : PySem.W.Frag} {mg : Str → Option Value} {base : Heap}
/-- THE RULE for a def that may raise -/
theorem Fun.okX {x qual : Str} {st : Stmt} {f : Addr} {fd : FuncData} {N ps : List Str} {k : Nat} {sp : Sp} (F : Fun K x qual st f fd) (S : FnScope N ps (defScope st)) (len : ∀ vs H Q E, sp vs H Q E → vs.length = ps.length)
    (hbody : ∀ (cdv : Value) (A : Around) (outer : List Env) (s : Shared) (H : Hp) (vs : List V) (Q : VK) (E : XK), Room k (A.deeper (envOfC qual (defScope st) s.heap.objs.size f cdv)) → sp vs H Q E →
      ∃ t, PSs (cxOf (CXE P w) P w K mg base N qual (defScope st) f cdv A outer s H E) (defBody st) t ∧ t { nx := fun _ H' => Q .non H', rt := Q } (start N vs) H) : FnOk P w K mg base (CXE P w) (k + 1) f fd ps sp := by
  obtain ⟨oc, od, kV, doc, pm, an, cdv, ct, osl, rfl, lk, hcd⟩ := F.ex
  exact fn_of lk hcd S len fun A outer s H vs Q E hr hsp => hbody cdv A outer s H vs Q E hr hsp
/-- a def of the text that keeps its promise, and may raise -/
noncomputable def FnX (P : Program) (w : World) (K : PySem.W.Frag) (mg : Str → Option Value) (base : Heap) (k : Nat) (x : Str) (ps : List Str) (sp : Sp) : Prop :=
  ∃ f fd, mg x = some (.ref f) ∧ PySem.W.keepIn K (.ref f) = true ∧ Binds K fd ps [] ∧ FnOk P w K mg base (CXE P w) k f fd ps sp
end
theorem pe_fnX {X : Cx} {k : Nat} {x : Str} {ps : List Str} {sp : Sp} {E : XK} {e : Expr} {es : List Expr} {t : TA} {p pos : Pos} (F : FnX X.prog X.w X.K X.mg X.base k x ps sp) (hr : Room k X.A) (hx : Passes (CXE X.prog X.w) X E) (ha : PA X (e :: es) t) (hg : Gl X x := by rfl)
    (hdb : (x == ("__debug__" : Str)) = false := by decide) (he : starEach (e :: es) X.env = (false, eval e X.env) :: starEach es X.env := by rfl) (hpl : (backTo pos (starEach es X.env)).any (·.1) = false := by rfl) :
    PE X (.Call (.Name x p) (e :: es) [] pos) (tCall sp [] E t) := by
  obtain ⟨f, fd, h1, h2, h3, h4⟩ := F
  exact pe_call h4 hr hg h1 h2 h3 .nil hx ha hdb he hpl
end L2

set_option Elab.async false
set_option linter.all false
set_option maxRecDepth 100000
set_option maxHeartbeats 4000000
namespace L2
open PySem PySem.Spec PyProof.Rows PySem.W PySem.Calls
/-! ### what may raise, with the names as they stood -/
/-- an exception's end: the heap and state at the call that raised, and how it lies -/
noncomputable def XP (X : Cx) (pins : List (Addr × Obj)) (Ex : St → Value → Option Addr → Hp → Prop) (e : Value) (s1 : Shared) : Prop :=
  ∃ (σ : St) (H : Hp) (s : Shared), Inv X pins σ H s ∧ CXE X.prog X.w X.stack H s (fun cls dx H' => Ex σ cls dx H') e s1
noncomputable abbrev TEX := (St → Value → Option Addr → Hp → Prop) → St → Hp → VK → Prop
noncomputable abbrev TSX := (St → Value → Option Addr → Hp → Prop) → Ends → St → Hp → Prop
/-- an expression that may raise -/
noncomputable def PEX (X : Cx) (e : Expr) (t : TEX) : Prop := ∀ (pins : List (Addr × Obj)) (s : Shared) (σ : St) (H : Hp) (Q : VK) (Ex : St → Value → Option Addr → Hp → Prop), Inv X pins σ H s → t Ex σ H Q → wpAny (model X.prog X.w) X.A (eval e X.env) (EP X pins σ Q) (XP X pins Ex) s
/-- a statement that may raise -/
noncomputable def PSX (X : Cx) (st : Stmt) (t : TSX) : Prop := ∀ (pins : List (Addr × Obj)) (s : Shared) (σ : St) (H : Hp) (D : Ends) (Ex : St → Value → Option Addr → Hp → Prop), Inv X pins σ H s → t Ex D σ H → wpAny (model X.prog X.w) X.A (exec st X.env) (SP X pins D) (XP X pins Ex) s
section
variable {X : Cx} {k : Nat} {x : Str} {ps : List Str} {sp : Sp} {e : Expr} {es : List Expr} {t : TA} {p pos : Pos}
noncomputable def tCallX (sp : Sp) (t : TA) : TEX := fun Ex σ H Q => t σ H fun vs H1 => sp vs H1 Q (fun cls dx H' => Ex σ cls dx H')
theorem px_call (F : FnX X.prog X.w X.K X.mg X.base k x ps sp) (hr : Room k X.A) (ha : PA X.nox (e :: es) t) (hg : Gl X x := by rfl)
    (hdb : (x == ("__debug__" : Str)) = false := by decide) (he : starEach (e :: es) X.env = (false, eval e X.env) :: starEach es X.env := by rfl) (hpl : (backTo pos (starEach es X.env)).any (·.1) = false := by rfl) :
    PEX X (.Call (.Name x p) (e :: es) [] pos) (tCallX sp t) := by
  obtain ⟨f, fd, hm, hk, hb, F⟩ := F
  intro pins s σ H Q Ex I h
  refine wpAny_Call_Name_kw (ld_glob I hg hm ?_ hdb)
  have I0 : Inv X.nox pins σ H s := ⟨⟨I.ok.mod, I.ok.kind, I.ok.glob, I.ok.blt, I.ok.above, I.ok.inj, I.ok.has, I.ok.cab, I.ok.hd, I.ok.frames, I.ok.stk, I.ok.exf, I.ok.bs, I.ok.bsz, I.ok.noex, I.ok.exfs, I.ok.funs, I.ok.frf⟩, I.os, I.bare, I.base, I.loc, I.cell, I.free, I.freeC, I.pin, I.hok, I.len⟩
  refine PySem.W.callWith_K (h₀ := X.base) I.ok.mod.kin hk (wpAny_mono (ha pos pins s σ H _ I0 h) (fun us s1 hq => ?_) fun _ _ z => False.elim z) he hpl
  obtain ⟨vs, H1, I1, r, q⟩ := hq
  have I2 : Inv X pins σ H1 s1 := ⟨⟨I1.ok.mod, I1.ok.kind, I1.ok.glob, I1.ok.blt, I1.ok.above, I1.ok.inj, I1.ok.has, I1.ok.cab, I1.ok.hd, I1.ok.frames, I1.ok.stk, I1.ok.exf, I1.ok.bs, I1.ok.bsz, I1.ok.noex, I1.ok.exfs, I1.ok.funs, I1.ok.frf⟩, I1.os, I1.bare, I1.base, I1.loc, I1.cell, I1.free, I1.freeC, I1.pin, I1.hok, I1.len⟩
  refine ⟨I2.kIn, ?_⟩
  have hl : us.length = ps.length := by rw [← r.length]; exact F.len _ _ _ _ q
  have hbb := hb s1 us I2.kIn (by simpa using hl)
  simp only [List.append_nil] at hbb
  refine wpAny_call (codeAny_mono (F.run X.A X.stack s1 H1 ⟨us, []⟩ us vs Q (fun cls dx H' => Ex σ cls dx H') hr I2.env0 hbb r q) fun r s' hq => ?_)
  cases r with
  | error e => exact ⟨σ, H1, s1, I2, hq⟩
  | ok fl =>
    cases fl with
    | ret u => exact I2.after hq
    | next => exact False.elim hq
    | brk => exact False.elim hq
    | cont => exact False.elim hq
noncomputable def tDropX (te : TEX) : TSX := fun Ex D σ H => te Ex σ H fun _ H1 => D.nx σ H1
theorem px_expr {te : TEX} (he : PEX X e te) (hs : swapsWith e none pos.line X.env = pure false := by rfl) : PSX X (.Expr e pos) (tDropX te) := by
  intro pins s σ H D Ex I h
  exact wpAny_Expr_any (thn (he pins s σ H _ Ex I h) fun v s1 ⟨x, H1, I1, r1, q1⟩ => ⟨σ, H1, I1, q1⟩) I.quiet hs
end
end L2

set_option Elab.async false
set_option linter.all false
set_option maxRecDepth 100000
set_option maxHeartbeats 4000000
namespace L2
open PySem PySem.Spec PyProof.Rows PySem.W PySem.Calls
end L2

set_option Elab.async false
set_option linter.all false
set_option maxRecDepth 100000
set_option maxHeartbeats 4000000
namespace L2
open PySem PySem.Spec PyProof.Rows PySem.W PySem.Calls
theorem sub_type_tuple : isSubtype (.type "type") (.type "tuple") = pure false := by rw [isSubtype_type]; kernel_rfl
theorem wp_matches {M : Model} {A : Around} {E : Value → Shared → Prop} {nm q nm' q' : Str} {C N R N' : Addr} {bs bm bs' bm' : List Value} {hdct hdct' : Bool} {sn sn' : List Str} {sub sub' : List Value} {ab ab' : Bool} {col col' : Option Bool} {dd dd' : Option Addr} {k0 k1 k2 k3 k5 l0 l1 l2 l3 l5 : Option Value} {newId newId' : String}
    {s : Shared} {e : Addr} {oe : Obj} {Q : Bool → Shared → Prop} (hC : s.heap.get? C = some (excClassObj nm q C N bs bm hdct sn sub ab col dd k0 k1 k2 k3 k5 newId)) (hR : s.heap.get? R = some (excClassObj nm' q' R N' bs' bm' hdct' sn' sub' ab' col' dd' l0 l1 l2 l3 l5 newId'))
    (he : s.heap.get? e = some oe) (hc : oe.cls = .ref C) (hb : bm'.contains (.type "BaseException") = true) (k : Q ((Value.ref C :: bm).contains (.ref R)) s) : wpAny M A (excMatches (.ref e) (.ref R)) Q E s := by
  unfold excMatches
  refine wpAny_bind (wpAny_isInstance (T := "type") ⟨_, hR, rfl⟩ sub_type_tuple ?_)
  simp only [Bool.false_eq_true, if_false, pure_bind, List.forIn_cons, List.forIn_nil]
  obtain ⟨h, g, d, tk, os⟩ := s
  have hex : ∀ {Q' : Bool → Shared → Prop}, Q' true ⟨h, g, d, tk, os⟩ → wpAny M A (isExcClass (.ref R)) Q' E ⟨h, g, d, tk, os⟩ := fun {Q'} qq => by
    unfold isExcClass isType
    simp only [bind_assoc, pure_bind]
    refine wpAny_bind (wpAny_loadPart hR ?_)
    simp only [if_true]
    refine wpAny_isSubtype_exc hR ?_
    rw [List.contains_cons, hb, Bool.or_true]
    exact qq
  refine wpAny_bind (wpAny_bind (wpAny_bind (hex ?_)))
  simp only [Bool.not_true, Bool.false_eq_true, if_false]
  refine wpAny_pure (wpAny_pure (wpAny_bind (wpAny_typeOf_ref he ?_)))
  rw [hc]
  refine wpAny_bind (wpAny_bind (wpAny_bind (wpAny_isSubtype_exc hC ?_)))
  cases c : (Value.ref C :: bm).contains (Value.ref R) with
  | true =>
    rw [c] at k
    exact wpAny_pure (wpAny_pure (wpAny_pure k))
  | false =>
    rw [c] at k
    exact wpAny_pure (wpAny_pure (wpAny_pure k))
end L2

set_option Elab.async false
set_option linter.all false
set_option maxRecDepth 100000
set_option maxHeartbeats 4000000
namespace L2
open PySem PySem.Spec PyProof.Rows PySem.W PySem.Calls
end L2

set_option Elab.async false
set_option linter.all false
set_option maxRecDepth 100000
set_option maxHeartbeats 4000000
namespace L2
open PySem PySem.Spec PyProof.Rows PySem.W PySem.Calls
section
variable {X : Cx} {pins : List (Addr × Obj)} {σ : List (Option V)} {H H' : Hp} {s : Shared} {h' : Heap}
theorem Inv.stepN {g' : Array GenState} {t' : Nat} {d' : Drawn} {ch : List Addr} (I : Inv X pins σ H s)
    (hch : ∀ b ∈ ch, X.s₀.heap.get? b = none ∧ b ≠ X.env.locals ∧ (∀ x c, X.env.cells.lookup x = some c → c ≠ b) ∧ ∀ p ∈ X.pn ++ pins, p.1 ≠ b)
    (keep : ∀ b o, b ≠ X.env.locals → b ∉ X.fs → b ∉ ch → s.heap.get? b = some o → H b = none → h'.get? b = some o)
    (slot : ∀ b o, b ≠ X.env.locals → b ∈ X.fs → b ∉ ch → s.heap.get? b = some o → H b = none → ∃ sl, h'.get? b = some { o with slots := sl }) (free : ∀ b o, b ∉ ch → s.heap.get? b = some o → H b = none → H' b = none)
    (there : ∀ b o, b ∉ ch → s.heap.get? b = some o → ∃ o', h'.get? b = some o')
    (tups : ∀ b xs, H b = some (.tup xs) → H' b = some (.tup xs)) (frzs : ∀ b o u, H b = some (.frz o u) → H' b = some (.frz o u)) (tbls : ∀ b ps, H b = some (.tbl ps) → ∃ more, H' b = some (.tbl (ps ++ more)))
    (ns : ∀ m, s.heap.Ns X.env.locals m → h'.Ns X.env.locals m) (hok : HOk X.prog X.w H' h') (hg : AllBare g') :
    Inv X pins σ H' { s with heap := h', gens := g', drawn := d', toks := t' } := by
  have neL : ∀ b o, X.s₀.heap.get? b = some o → b ≠ X.env.locals := fun b o e => Nat.ne_of_lt (Nat.lt_of_lt_of_le (Heap.lt_size e) I.ok.above)
  have neC : ∀ b o, X.s₀.heap.get? b = some o → b ∉ X.ex → b ∉ ch := fun b o e hx hb => by
    rw [(hch b hb).1] at e; cases e
  have cellK : ∀ x c, X.env.cells.lookup x = some c → ∀ v, s.heap.IsCell c v → h'.IsCell c v := fun x c e v ⟨o, ho, hd⟩ => by
    have nch : c ∉ ch := fun z => (hch c z).2.2.1 x c e rfl
    by_cases hc : c ∈ X.fs
    · obtain ⟨sl, q⟩ := slot c o (I.cne x c e) hc nch ho (I.freeC x c e)
      exact ⟨_, q, hd⟩
    · exact ⟨o, keep c o (I.cne x c e) hc nch ho (I.freeC x c e), hd⟩
  refine ⟨I.ok, I.os, hg, ⟨fun b o e n hb hx => ?_, fun b o e n hb hx => ?_, fun b o e n hx => ?_, fun b o e hx => ?_, fun b xs e => tups b xs (I.base.tups b xs e), fun b o xs e => frzs b o xs (I.base.frzs b o xs e), fun b ps e => ?_⟩, ?_, fun x c e => ?_, ?_, fun x c e => ?_, fun p hp => ?_, hok, I.len⟩
  · exact keep b o (neL b o e) hb (neC b o e hx) (I.base.keep b o e n hb hx) (I.base.free b o e n hx)
  · obtain ⟨sl, e1⟩ := I.base.slot b o e n hb hx
    obtain ⟨sl', e2⟩ := slot b _ (neL b o e) hb (neC b o e hx) e1 (I.base.free b o e n hx)
    exact ⟨sl', e2⟩
  · obtain ⟨o', e1⟩ := I.base.there b o e hx
    exact free b o' (neC b o e hx) e1 (I.base.free b o e n hx)
  · obtain ⟨o', e1⟩ := I.base.there b o e hx
    exact there b o' (neC b o e hx) e1
  · obtain ⟨m1, e1⟩ := I.base.tbls b ps e
    obtain ⟨m2, e2⟩ := tbls b _ e1
    exact ⟨m1 ++ m2, by rw [e2, Array.append_assoc]⟩
  · obtain ⟨m, hn, hl⟩ := I.loc
    refine ⟨m, ns m hn, fun i x v e1 e2 e3 => ?_⟩
    obtain ⟨u, r, l⟩ := hl i x v e1 e2 e3
    refine ⟨u, r, ?_⟩
    rcases l with l | ⟨k, c, e, z⟩
    · exact .inl l
    · exact .inr ⟨k, c, e, cellK x c e _ z⟩
  · obtain ⟨v, z⟩ := I.cell x c e
    exact ⟨v, cellK x c e v z⟩
  · obtain ⟨m, ⟨o, _, _, ho, _⟩, _⟩ := I.loc
    exact free _ o (fun z => (hch _ z).2.1 rfl) ho I.free
  · obtain ⟨v, o, ho, hd⟩ := I.cell x c e
    exact free c o (fun z => (hch c z).2.2.1 x c e rfl) ho (I.freeC x c e)
  · obtain ⟨e, n, ne, nf, d⟩ := I.pin p hp
    have nch : p.1 ∉ ch := fun z => (hch p.1 z).2.2.2 p hp rfl
    exact ⟨keep p.1 p.2 ne nf nch e n, free p.1 p.2 nch e n, ne, nf, d⟩
/-- behind a change of frames' slots and of what was made of late -/
theorem Inv.moved {G : List Addr} (I : Inv X pins σ H s) (hG : ∀ b ∈ G, X.s₀.heap.get? b = none ∧ H b = none ∧ b ≠ X.env.locals ∧ (∀ x c, X.env.cells.lookup x = some c → c ≠ b) ∧ ∀ p ∈ X.pn ++ pins, p.1 ≠ b)
    (kp : ∀ b o, s.heap.get? b = some o → b ∉ frs X.stack → b ∉ G → h'.get? b = some o) (sl : ∀ b o, s.heap.get? b = some o → b ∈ frs X.stack → ∃ sl, h'.get? b = some { o with slots := sl }) :
    Inv X pins σ H { s with heap := h' } := by
  refine I.stepN (g' := s.gens) (d' := s.drawn) (t' := s.toks) (ch := G) (fun b hb => ⟨(hG b hb).1, (hG b hb).2.2⟩) (fun b o hL hb hc e _ => kp b o e (fun z => (List.mem_cons.mp (I.stkSub b z)).elim hL hb) hc) (fun b o hL hb hc e _ => ?_) (fun _ _ _ _ n => n) (fun b o hc e => ?_) (fun _ _ e => e) (fun _ _ _ e => e) (fun b ps e => ⟨#[], by rw [e]; simp⟩) (fun m hm => ?_) (fun b u e => ?_) I.bare
  · by_cases z : b ∈ frs X.stack
    · exact sl b o e z
    · exact ⟨o.slots, kp b o e z hc⟩
  · by_cases z : b ∈ frs X.stack
    · obtain ⟨q, q'⟩ := sl b o e z
      exact ⟨_, q'⟩
    · exact ⟨o, kp b o e z hc⟩
  · obtain ⟨o, es, ep, ho, r⟩ := hm
    by_cases z : X.env.locals ∈ frs X.stack
    · obtain ⟨q, q'⟩ := sl _ o ho z
      exact ⟨_, es, ep, q', r⟩
    · exact ⟨o, es, ep, kp _ o ho z (fun y => (hG _ y).2.2.1 rfl), r⟩
  · have nf : ∀ c v, H c = some v → c ∉ frs X.stack ∧ c ∉ G := fun c v q => ⟨fun hm => (by
      have := I.stkFree c hm
      rw [q] at this; cases this), fun hm => (by rw [(hG c hm).2.1] at q; cases q)⟩
    refine (I.hok b u e).stay (fun c v hc q => ?_) (fun _ q => q) fun _ _ q => q
    rcases hc with z | z
    · rw [z] at q ⊢; exact kp b v q (nf b u e).1 (nf b u e).2
    · exact kp c v q (nf c _ z).1 (nf c _ z).2
end
end L2

set_option Elab.async false
set_option linter.all false
set_option maxRecDepth 100000
set_option maxHeartbeats 4000000
namespace L2
open PySem PySem.Spec PyProof.Rows PySem.W PySem.Calls
section
variable {X : Cx} {pins : List (Addr × Obj)} {σ : List (Option V)} {H : Hp} {s : Shared}
/-- a local name is unbound -/
theorem unbind_ok {M : Model} {A : Around} {E : Value → Shared → Prop} {i : Nat} {x : Str} {v : V} {Q : Unit → Shared → Prop} (I : Inv X pins σ H s) (hN : X.N.Nodup) (hi : X.N[i]? = some x) (hk : X.env.scope.names.lookup x = some .local) (hv : σ[i]? = some (some v))
    (h : ∀ s', Inv X pins (σ.set i none) H s' → Q () s') : wpAny M A (unbindName X.env x) Q E s := by
  obtain ⟨m, hn, hl⟩ := id I.loc
  have hcls : (X.env.scope.kind == .class || (X.env.scope.kind == .module && X.env.locals != X.env.globals)) = false := by rw [I.ok.kind]; rfl
  have hlen : i < σ.length := by rw [I.len]; exact (List.getElem?_eq_some_iff.mp hi).1
  obtain ⟨u, r, lk⟩ := hl i x v hi hv (.inl hk)
  have hm : m x = some u := by
    rcases lk with ⟨_, e⟩ | ⟨z, _⟩
    · exact e
    · have hk' : X.env.kindOf x = some .local := hk
      rcases z with z | z <;> (rw [hk'] at z; cases z)
  refine wpAny_unbindName_local hk hn hm hcls fun h' u' hn' hs => ?_
  have nb : ∀ b o, X.s₀.heap.get? b = some o → b ≠ X.env.locals := fun b o e => Nat.ne_of_lt (Nat.lt_of_lt_of_le (Heap.lt_size e) I.ok.above)
  have cne := I.cne
  refine h _ ⟨I.ok, I.os, I.bare, ⟨fun b o e n hb hx => (hs.2 b (nb b o e)).trans (I.base.keep b o e n hb hx), fun b o e n hb hx => ?_, I.base.free, fun b o e hx => ?_, I.base.tups, I.base.frzs, I.base.tbls⟩, ⟨_, hn', fun j y w e1 e2 e3 => ?_⟩, fun y c e => ?_, I.free, I.freeC, fun p hp => ?_, fun b ob e => ?_, ?_⟩
  · obtain ⟨sl, e1⟩ := I.base.slot b o e n hb hx
    exact ⟨sl, (hs.2 b (nb b o e)).trans e1⟩
  · obtain ⟨o', e1⟩ := I.base.there b o e hx
    exact ⟨o', (hs.2 b (nb b o e)).trans e1⟩
  · by_cases hj : j = i
    · subst hj
      rw [List.getElem?_set_self hlen] at e2
      cases e2
    · rw [List.getElem?_set_ne (Ne.symm hj)] at e2
      obtain ⟨u2, r2, q⟩ := hl j y w e1 e2 e3
      refine ⟨u2, r2, ?_⟩
      rcases q with ⟨k, e⟩ | ⟨k, c, e, z⟩
      · refine .inl ⟨k, ?_⟩
        have : y ≠ x := fun e => hj (nodup_ix hN e1 (e ▸ hi))
        simp [this, e]
      · exact .inr ⟨k, c, e, z.sameBut hs (cne y c e)⟩
  · obtain ⟨w', z⟩ := I.cell y c e
    exact ⟨w', z.sameBut hs (cne y c e)⟩
  · obtain ⟨e, n, ne, nf, d⟩ := I.pin p hp
    exact ⟨(hs.2 p.1 ne).trans e, n, ne, nf, d⟩
  · refine (I.hok b ob e).stay (fun c w' hc q => (hs.2 c ?_).trans q) (fun _ q => q) fun _ _ q => q
    rintro rfl
    rcases hc with z | z
    · have := I.free
      rw [z] at this; rw [this] at e; cases e
    · rw [I.free] at z; cases z
  · rw [List.length_set]; exact I.len
end
end L2

set_option Elab.async false
set_option linter.all false
set_option maxRecDepth 100000
set_option maxHeartbeats 4000000
namespace L2
open PySem PySem.Spec PyProof.Rows PySem.W PySem.Calls
section
variable {X : Cx} {pins : List (Addr × Obj)} {σ : St} {H : Hp} {s : Shared} {ea C : Addr} {o : HO}
/-- an untracked object of late is tracked from here on -/
theorem Inv.track (I : Inv X pins σ H s) (hn : H ea = none) (h0 : X.s₀.heap.get? ea = none) (hl : ea ≠ X.env.locals) (hc : ∀ x c, X.env.cells.lookup x = some c → c ≠ ea) (hp : ∀ p ∈ X.pn ++ pins, p.1 ≠ ea)
    (new : ObjOk X.prog X.w (upd H ea o) s.heap ea o) : Inv X pins σ (upd H ea o) s := by
  have J := I.stepN (h' := s.heap) (H' := upd H ea o) (g' := s.gens) (d' := s.drawn) (t' := s.toks) (ch := [ea]) (fun b hb => by
      have z : b = ea := by simpa using hb
      rw [z]; exact ⟨h0, hl, hc, hp⟩) (fun b o _ _ _ e _ => e) (fun b o _ _ _ e _ => ⟨o.slots, e⟩) (fun b o hb e n => by rw [upd_ne (fun z => hb (by simp [z]))]; exact n) (fun b o _ e => ⟨o, e⟩)
    (fun b xs e => by rw [upd_ne (ne_of_none e hn)]; exact e) (fun b o u e => by rw [upd_ne (ne_of_none e hn)]; exact e) (fun b ps e => ⟨#[], by rw [upd_ne (ne_of_none e hn), e]; simp⟩) (fun m hm => hm) (fun b u e => ?_) I.bare
  · exact J
  · by_cases z : b = ea
    · rw [z, upd_same] at e
      cases e
      rw [z]; exact new
    · rw [upd_ne z] at e
      exact (I.hok b u e).stay (fun _ _ _ q => q) (fun b q => by rw [upd_ne (ne_of_none q hn)]; exact q) (fun b xs q => by rw [upd_ne (ne_of_none q hn)]; exact q)
/-- an exception of class C, with its own dict -/
noncomputable def ExcO (ea C : Addr) (dx : Option Addr) : HO := .ext fun h => ∃ oe vs, h.get? ea = some oe ∧ oe.cls = .ref C ∧ oe.dict = dx ∧ oe.data = Data.fields vs
theorem exc_new {P : Program} {w : World} {H : Hp} {h : Heap} {oe : Obj} {dx : Option Addr} {vs : Array Value} (h1 : h.get? ea = some oe) (h2 : oe.cls = .ref C) (h3 : oe.dict = dx) (h4 : oe.data = Data.fields vs) : ObjOk P w H h ea (ExcO ea C dx) :=
  ⟨⟨oe, vs, h1, h2, h3, h4⟩, ⟨oe, h1⟩, fun h1' h2' ⟨o, vs', q1, q2⟩ k => ⟨o, vs', k o q1, q2⟩⟩
end
end L2

set_option Elab.async false
set_option linter.all false
set_option maxRecDepth 100000
set_option maxHeartbeats 4000000
namespace L2
open PySem PySem.Spec PyProof.Rows PySem.W PySem.Calls
/-- the context of a handler's suite -/
noncomputable def Cx.held (X : Cx) (ea : Addr) : Cx := { X with A := X.A.mark (some (.ref ea)), calm := false, xe := fun _ _ => False }
section
variable {X : Cx} {pins : List (Addr × Obj)} {σ : St} {H : Hp} {s : Shared} {ea : Addr}
theorem Inv.held (I : Inv X pins σ H s) (ea : Addr) : Inv (X.held ea) pins σ H s :=
  ⟨⟨I.ok.mod, I.ok.kind, I.ok.glob, I.ok.blt, I.ok.above, I.ok.inj, I.ok.has, I.ok.cab, (fun z => by cases z), I.ok.frames, I.ok.stk, I.ok.exf, I.ok.bs, I.ok.bsz, I.ok.noex, I.ok.exfs, I.ok.funs, I.ok.frf⟩, I.os, I.bare, I.base, I.loc, I.cell, I.free, I.freeC, I.pin, I.hok, I.len⟩
theorem Inv.unheld (ok : X.Ok) (I : Inv (X.held ea) pins σ H s) : Inv X pins σ H s :=
  ⟨ok, I.os, I.bare, I.base, I.loc, I.cell, I.free, I.freeC, I.pin, I.hok, I.len⟩
/-- behind a handler's suite its name goes -/
theorem goes_ok {M : Model} {A : Around} {E : Value → Shared → Prop} {i : Nat} {n : Str} {pos : Pos} {Q : Unit → Shared → Prop} (I : Inv X pins σ H s) (hN : X.N.Nodup) (hi : X.N[i]? = some n) (hk : X.env.scope.names.lookup n = some .local)
    (h : ∀ s', Inv X pins (σ.set i none) H s' → Q () s') : wpAny M A (do bindName X.env n Value.none; unbindBehindTheSuite X.env n pos) Q E s := by
  refine wpAny_bind (wpAny_bindName (store_ok I hN hi (.inl hk) (v := .non) rfl (fun s' I' => ?_) (.inr hk)))
  have hl : i < σ.length := by rw [I.len]; exact (List.getElem?_eq_some_iff.mp hi).1
  unfold unbindBehindTheSuite
  refine wpAny_onRaise (unbind_ok I' hN hi hk (v := .non) (List.getElem?_set_self hl) fun s2 I2 => h s2 ?_)
  rw [List.set_set] at I2
  exact I2
/-- an own class of exceptions, and that R stands above it -/
noncomputable def Under (h : Heap) (C R : Addr) : Prop := ∃ (nm q : Str) (N : Addr) (bs bm : List Value) (hdct : Bool) (sn : List Str) (sub : List Value) (ab : Bool) (col : Option Bool) (dd : Option Addr) (k0 k1 k2 k3 k5 : Option Value) (newId : String),
  h.get? C = some (excClassObj nm q C N bs bm hdct sn sub ab col dd k0 k1 k2 k3 k5 newId) ∧ (Value.ref C :: bm).contains (.ref R) = true
noncomputable def hEnds (D : Ends) (j : Nat) : Ends := { nx := fun σ H => D.nx (σ.set j none) H, rt := D.rt, bk := fun σ H => D.bk (σ.set j none) H, ct := fun σ H => D.ct (σ.set j none) H }
noncomputable def tTry (tx : TSX) (th : TS) (j : Nat) (U : Addr → Prop) : TS := fun D σ H => tx (fun σ1 cls dx H' => ∃ C, cls = .ref C ∧ U C ∧ ∀ ea, H' ea = none → th (hEnds D j) (σ1.set j (some (.ref ea))) (upd H' ea (ExcO ea C dx))) D σ H
end
section
variable {X : Cx} {st b0 : Stmt} {suite : List Stmt} {tx : TSX} {th : TS} {x n : Str} {R : Addr} {j : Nat} {np hpos pos : Pos}
end
end L2

set_option Elab.async false
set_option linter.all false
set_option maxRecDepth 100000
set_option maxHeartbeats 4000000
namespace L2
open PySem PySem.Spec PyProof.Rows PySem.W PySem.Calls
section
variable {X : Cx} {pins : List (Addr × Obj)} {σ : St} {H : Hp} {s : Shared}
end
section
variable {X : Cx} {st : Stmt} {rest : List Stmt} {t u : TSX} {pos : Pos}
end
end L2

set_option Elab.async false
set_option linter.all false
set_option maxRecDepth 100000
set_option maxHeartbeats 4000000
namespace L2
open PySem PySem.Spec PyProof.Rows PySem.W PySem.Calls
open Builtin Builtin.ObjectAttr
/-! ### own classes of exceptions, the names that none above has -/
inductive TailS (h : Heap) (S : List Str) (bmB : List Value) : List Value → Prop
  | base : TailS h S bmB bmB
  | own {B : Addr} {c0 : Value} {dd : Option Addr} {cd : ClassData} {sl : Array (Option Value)} {m : Str → Option Value} {tl : List Value} (e : h.get? B = some ⟨c0, dd, .cls cd, sl⟩) (n : h.Ns cd.ns m) (i : ∀ x ∈ S, m x = none) (r : TailS h S bmB tl) : TailS h S bmB (.ref B :: tl)
section
variable {h h' : Heap} {S : List Str} {bmB tl : List Value}
theorem TailS.stays (k : ∀ b o, h.get? b = some o → h'.get? b = some o) (x : TailS h S bmB tl) : TailS h' S bmB tl := by
  induction x with
  | base => exact .base
  | own e n i _ ih => exact .own (k _ _ e) (n.keeps k) i ih
theorem TailS.plain (hS : Str.ofString "__init__" ∈ S) (x : TailS h S bmB tl) : OwnTail h bmB tl := by
  induction x with
  | base => exact .base
  | own e n i _ ih => exact .own e n (i _ hS) ih
theorem TailS.has (x : TailS h S bmB tl) {T : String} {b : Bool} (hb : bmB.contains (.type T) = b) : tl.contains (.type T) = b := by
  induction x with
  | base => exact hb
  | own _ _ _ _ ih => rw [List.contains_cons, ih]; rfl
theorem TailS.passes {self : Value} {what : Str} (x : TailS h S bmB tl) (hb : refuseLoop self what bmB = pure ()) : refuseLoop self what tl = pure () := by
  induction x with
  | base => exact hb
  | own _ _ _ _ ih => rw [refuseLoop_ref]; exact ih
end
section
variable {M : Model} {A : Around} {E : Value → Shared → Prop} {h : Heap} {g : Array GenState} {d : Drawn} {t : Nat} {os : OsState} {S : List Str} {bmB tl : List Value} {x : Str} {y : Option Value} {Q : Option Value → Shared → Prop}
theorem along_S (hx : x ∈ S) (T : TailS h S bmB tl) (hr : lookupAlong bmB x = pure y) (hq : Q y ⟨h, g, d, t, os⟩) : wpAny M A (lookupAlong tl x) Q E ⟨h, g, d, t, os⟩ := by
  induction T with
  | base => rw [hr]; exact wpAny_pure hq
  | own e n i _ ih =>
    rw [lookupAlong_cons]
    refine wpAny_bind (wpAny_classOwn_cls e n ?_)
    rw [i x hx]
    exact ih
variable {nm q : Str} {C N : Addr} {bs bm : List Value} {hdct : Bool} {sn : List Str} {sub : List Value} {ab : Bool} {col : Option Bool} {dd : Option Addr} {k0 k1 k2 k3 k5 : Option Value} {B newId : String} {mN : Str → Option Value}
theorem lookup_S (c1 : h.get? C = some (excClassObj nm q C N bs bm hdct sn sub ab col dd k0 k1 k2 k3 k5 newId)) (c2 : h.Ns N mN) (c3 : mN x = none) (hx : x ∈ S) (T : TailS h S bmB bm) (mr : mroOf (.type B) = pure bmB) (hB : typeLookup (.type B) x = pure y) (hq : Q y ⟨h, g, d, t, os⟩) :
    wpAny M A (typeLookup (.ref C) x) Q E ⟨h, g, d, t, os⟩ := by
  have hr : lookupAlong bmB x = pure y := by rw [typeLookup_eq, mr] at hB; exact hB
  rw [typeLookup_eq]
  refine wpAny_bind (wpAny_mroOf_exc c1 ?_)
  rw [lookupAlong_cons]
  refine wpAny_bind (wpAny_classOwn_exc c1 c2 ?_)
  rw [c3]
  exact along_S hx T hr hq
end
/-- an own class of exceptions with an __init__ of its own, no other name of S in it or above -/
structure ExcI (S : List Str) (h : Heap) (C f : Addr) (nm q : Str) (N : Addr) (bs bm bmB : List Value) (sn : List Str) (sub : List Value) (ab : Bool) (col : Option Bool) (dd : Option Addr) (k0 k1 k2 k3 k5 : Option Value) (mN : Str → Option Value) (B newId initId sa ow : String) : Prop where
  at_ : h.get? C = some (excClassObj nm q C N bs bm true sn sub ab col dd k0 k1 k2 k3 k5 newId)
  ns : h.Ns N mN
  init : mN (Str.ofString "__init__") = some (.ref f)
  no : ∀ x ∈ S, mN x = none
  tail : TailS h (Str.ofString "__init__" :: S) bmB bm
  bf : ExcBaseFacts B newId initId bmB
  sf : StoreFacts B bmB sa ow
  af : ExcAttrBase B bmB
theorem ExcI.stays {S : List Str} {h h' : Heap} {C f : Addr} {nm q : Str} {N : Addr} {bs bm bmB : List Value} {sn : List Str} {sub : List Value} {ab : Bool} {col : Option Bool} {dd : Option Addr} {k0 k1 k2 k3 k5 : Option Value} {mN : Str → Option Value} {B newId initId sa ow : String}
    (x : ExcI S h C f nm q N bs bm bmB sn sub ab col dd k0 k1 k2 k3 k5 mN B newId initId sa ow) (k : ∀ b o, h.get? b = some o → h'.get? b = some o) : ExcI S h' C f nm q N bs bm bmB sn sub ab col dd k0 k1 k2 k3 k5 mN B newId initId sa ow :=
  ⟨k _ _ x.at_, x.ns.keeps k, x.init, x.no, x.tail.stays k, x.bf, x.sf, x.af⟩
section
variable {prog : Program} {w : World} {A : Around} {E : Value → Shared → Prop} {h : Heap} {g : Array GenState} {d : Drawn} {t : Nat} {os : OsState}
  {S : List Str} {C f : Addr} {nm q : Str} {N : Addr} {bs bm bmB : List Value} {sn : List Str} {sub : List Value} {ab : Bool} {col : Option Bool} {dd : Option Addr} {k0 k1 k2 k3 k5 : Option Value} {mN : Str → Option Value} {B newId initId sa ow : String}
/-- the class is called: the new exception, then its __init__ -/
theorem typecall_I (x : ExcI S h C f nm q N bs bm bmB sn sub ab col dd k0 k1 k2 k3 k5 mN B newId initId sa ow) {us : List Value} {oI : Obj} {Q : Fin → Shared → Prop} (f1 : h.get? f = some oI) (f2 : oI.cls = .type "function")
    (k : ∀ h' e, h.MadeExcOf h' e (.ref C) us → wpAny (model prog w) A (call (.ref f) (.ref e :: us)) (fun r s' => r = .none ∧ Q (.done (.ret (.ref e))) s') E ⟨h', g, d, t, os⟩) (hl : us.length ≤ sizeLine) :
    wpAny (model prog w) A (Builtin.«type.__call__» ⟨.ref C :: us, []⟩) Q E ⟨h, g, d, t, os⟩ := by
  have c1 := x.at_
  have T := x.tail.plain (List.mem_cons_self ..)
  repeat (first | with_reducible refine wpAny_loadPart_at c1 ?_ | with_reducible refine wpAny_madeBy_exc c1 ?_ | wp_step)
  refine codeAny_call_builtin_code (Code.quiet_builtin _ x.bf.quiet) (wpAny_check_new_subT x.bf T c1 (codeAny_exc_new_subT x.bf T c1 ?_ hl))
  show wpAny _ _ _ _ _ _
  generalize hob : ({ cls := .ref C, data := .fields #[.ref h.objs.size, .none, .none, .none, .bool false, .none] } : Obj) = ob
  generalize hot : ({ cls := .type "tuple", data := .seq us.toArray } : Obj) = ot
  have kp : ∀ b o, h.get? b = some o → ((h.push ot).push ob).get? b = some o := fun b o z => Heap.get?_push_of_some _ (Heap.get?_push_of_some _ z)
  have g1 : ((h.push ot).push ob).get? (h.objs.size + 1) = some ob := by
    have := Heap.get?_push_size (h.push ot) (o := ob) (by rw [← hob]; rfl)
    rwa [Heap.size_push] at this
  have oc : ob.cls = .ref C := by rw [← hob]
  have c2 := kp _ _ c1
  have cC : (Value.ref C :: bm).contains (.ref C) = true := by simp
  unfold isInstance
  repeat (first | (with_reducible refine wpAny_loadPart_at g1 ?_; rw [oc]) | (with_reducible refine wpAny_isSubtype_exc c2 ?_; rw [cC]) | wp_step)
  show wpAny _ _ (typeLookup (.ref C) _) _ _ _
  refine wpAny_typeLookup_tail c2 (x.ns.keeps kp) (T.keeps kp) x.bf.mroIs x.bf.init.lookup ?_
  rw [show mN "__init__" = some (.ref f) from x.init]
  refine wpAny_holding (wpAny_bind ?_)
  unfold bindSpecial
  refine wpAny_bind (wpAny_typeOf (T := "function") ⟨_, kp _ _ f1, f2⟩ ?_)
  rw [if_pos (by decide)]
  refine wpAny_pure (wpAny_bind (wpAny_mono (k _ (h.objs.size + 1) ⟨kp, Heap.get?_none_of_le (Nat.le_succ _), h.objs.size, by rw [hob]; exact g1, Heap.get?_none_of_le (Nat.le_refl _), ?_⟩) (fun r s' hr => ?_) fun _ _ z => z))
  · rw [hot]
    exact Heap.get?_push_of_some _ (Heap.get?_push_size h (by rw [← hot]; rfl))
  · obtain ⟨rfl, hQ⟩ := hr
    wp_walk
    exact hQ
theorem call_I (x : ExcI S h C f nm q N bs bm bmB sn sub ab col dd k0 k1 k2 k3 k5 mN B newId initId sa ow) {us : List Value} {oI : Obj} {Q : Value → Shared → Prop} (f1 : h.get? f = some oI) (f2 : oI.cls = .type "function")
    (k : ∀ h' e, h.MadeExcOf h' e (.ref C) us → wpAny (model prog w) (A.under (.builtin "type.__call__" ⟨.ref C :: us, []⟩)) (call (.ref f) (.ref e :: us)) (fun r s' => r = .none ∧ Q (.ref e) s') E ⟨h', g, d, t, os⟩) (hl : us.length ≤ sizeLine) :
    wpAny (model prog w) A (call (.ref C) us) Q E ⟨h, g, d, t, os⟩ := by
  have l1 := tc_lookup
  have l2 := tc_bind (.ref C)
  have c1 := x.at_
  have hT : (⟨h, g, d, t, os⟩ : Shared).TypeIs (.ref C) "type" := ⟨_, c1, rfl⟩
  refine wpAny_call (codeAny_of_tree ?_)
  show wpAny _ _ (callAny (.ref C) _) _ _ _
  repeat (any_goals (first | assumption | with_reducible refine wpAny_loadPart_at c1 ?_ | wp_step))
  refine ⟨rfl, codeAny_call_builtin_at (Code.quiet_builtin _ (by decide +kernel)) entry_typeCall (wpAny_check_type_call_sub c1 (typecall_I x f1 f2 (fun h' e m => ?_) hl))⟩
  exact k h' e m
end
end L2

set_option Elab.async false
set_option linter.all false
set_option maxRecDepth 100000
set_option maxHeartbeats 4000000
namespace L2
open PySem PySem.Spec PyProof.Rows PySem.W PySem.Calls
/-- an exception's object: its class, its own dict, its arguments -/
noncomputable def excObj (C : Addr) (dx : Option Addr) (t : Addr) : Obj := { cls := .ref C, dict := dx, data := .fields #[.ref t, .none, .none, .none, .bool false, .none] }
/-- an exception just made -/
noncomputable def ExcN (e C : Addr) (dx : Option Addr) : HO := .ext fun h => ∃ t, h.get? e = some (excObj C dx t)
theorem excN_ok {P : Program} {w : World} {H : Hp} {h : Heap} {e C t : Addr} {dx : Option Addr} (q : h.get? e = some (excObj C dx t)) : ObjOk P w H h e (ExcN e C dx) :=
  ⟨⟨t, q⟩, ⟨_, q⟩, fun h1 h2 ⟨t', z⟩ k => ⟨t', k _ z⟩⟩
theorem excN_at {P : Program} {w : World} {H : Hp} {h : Heap} {e C : Addr} {dx : Option Addr} (x : ObjOk P w H h e (ExcN e C dx)) : ∃ t, h.get? e = some (excObj C dx t) := x.1
/-- the heap's account without one -/
noncomputable def del (H : Hp) (a : Addr) : Hp := fun b => if b = a then none else H b
theorem del_same {H : Hp} {a : Addr} : del H a a = none := by unfold del; rw [if_pos rfl]
theorem del_ne {H : Hp} {a b : Addr} (h : b ≠ a) : del H a b = H b := by unfold del; rw [if_neg h]
section
variable {X : Cx} {pins : List (Addr × Obj)} {σ : St} {H : Hp} {s : Shared} {ea : Addr} {φ : Heap → Prop}
theorem Inv.untrack (I : Inv X pins σ H s) (he : H ea = some (.ext φ)) : Inv X pins σ (del H ea) s := by
  have ne : ∀ b u, H b = some u → (∀ ψ, u ≠ .ext ψ) → b ≠ ea := fun b u q n z => by
    rw [z, he] at q; cases q
    exact n _ rfl
  have J := I.step (h' := s.heap) (H' := del H ea) (g' := s.gens) (d' := s.drawn) (t' := s.toks) (ch := []) (fun b hb => absurd hb (by simp)) (fun b o _ _ _ e _ => e) (fun b o _ _ _ e _ => ⟨o.slots, e⟩) (fun b o _ _ n => by
      by_cases z : b = ea
      · rw [z]; exact del_same
      · rw [del_ne z]; exact n) (fun b o _ e => ⟨o, e⟩)
    (fun b xs e => by rw [del_ne (ne b _ e fun _ z => by cases z)]; exact e) (fun b o u e => by rw [del_ne (ne b _ e fun _ z => by cases z)]; exact e) (fun b ps e => ⟨#[], by rw [del_ne (ne b _ e fun _ z => by cases z), e]; simp⟩) (fun m hm => hm) (fun b u e => ?_) I.bare
  · exact J
  · by_cases z : b = ea
    · rw [z, del_same] at e; cases e
    · rw [del_ne z] at e
      exact (I.hok b u e).stay (fun _ _ _ q => q) (fun b q => by rw [del_ne (ne b _ q fun _ z => by cases z)]; exact q) (fun b xs q => by rw [del_ne (ne b _ q fun _ z => by cases z)]; exact q)
end
section
variable {M : Model} {A : Around} {E : Value → Shared → Prop} {s : Shared} {env : Env} {x : Sem Value} {Q : Flow → Shared → Prop}
  {nm q : Str} {C N : Addr} {bs bm : List Value} {hdct : Bool} {sn : List Str} {sub : List Value} {ab : Bool} {col : Option Bool} {dd : Option Addr} {k0 k1 k2 k3 k5 : Option Value} {newId : String}
theorem raise_made (hb : bm.contains (.type "BaseException") = true) (hh : A.handled = none)
    (h : wpAny M A x (fun v s1 => ∃ e t dx, v = .ref e ∧ s1.heap.get? C = some (excClassObj nm q C N bs bm hdct sn sub ab col dd k0 k1 k2 k3 k5 newId) ∧ s1.heap.get? e = some (excObj C dx t) ∧ E (.ref e) s1) E s) :
    wpAny M A (raiseStmt env (some x) none) Q E s := by
  have cB : (Value.ref C :: bm).contains (.type "BaseException") = true := by rw [List.contains_cons, hb, Bool.or_true]
  unfold raiseStmt
  refine wpAny_bind (wpAny_mono h (fun v s1 h1 => ?_) fun _ _ z => z)
  obtain ⟨e, t, dx, rfl, c1, e1, hE⟩ := h1
  unfold excObj at e1
  obtain ⟨hp, g, d, tk, os⟩ := s1
  repeat (first | with_reducible refine wpAny_loadPart_at e1 ?_ | with_reducible refine wpAny_loadPart_at c1 ?_ | (with_reducible refine wpAny_isSubtype_exc c1 ?_; rw [cB]) | wp_step)
  exact wpAny_raiseNew_none hh hE
end
/-- what a class of exceptions with its own __init__ is, and that __init__ -/
noncomputable def ExcK (S : List Str) (h : Heap) (C f : Addr) : Prop := ∃ nm q N bs bm bmB sn sub ab col dd k0 k1 k2 k3 k5 mN B newId initId sa ow, ExcI S h C f nm q N bs bm bmB sn sub ab col dd k0 k1 k2 k3 k5 mN B newId initId sa ow ∧ (∀ x ∈ S, x ≠ Str.ofString "__setattr__" → x ≠ Str.ofString "__getattribute__" → x ≠ Str.ofString "__getattr__" → typeLookup (.type B) x = pure none) ∧ ∃ oI, h.get? f = some oI ∧ oI.cls = .type "function"
noncomputable def tRaiseI (C : Addr) (t : TA) (sp : Sp) (W : Value → Option Addr → Hp → Prop) : TS := fun _ σ H => t σ H fun vs H1 => vs.length ≤ sizeLine ∧ ∀ e, H1 e = none →
  sp (.ref e :: vs) (upd H1 e (ExcN e C none)) (fun v H2 => v = .non ∧ ∃ dx, H2 e = some (ExcN e C dx) ∧ W (.ref C) dx (del H2 e)) E0
section
variable {X : Cx} {x : Str} {C f : Addr} {fd : FuncData} {ps : List Str} {sp : Sp} {k : Nat} {e : Expr} {es : List Expr} {t : TA} {np cpos pos : Pos} {W : Value → Option Addr → Hp → Prop} {S : List Str}
/-- raise X(..), X an own class of exceptions with an __init__ of its own -/
theorem ps_raiseI (hx : X.mg x = some (.ref C)) (hC : ExcK S X.base C f) (F : FnOk X.prog X.w X.K X.mg X.base CX0 k f fd ps sp) (hr : Room (k + 1) X.A) (hbi : Binds X.K fd ps []) (hd : X.A.handled = none) (ha : PA X (e :: es) t)
    (xe : ∀ (pins : List (Addr × Obj)) (σ : St) (H : Hp) (s : Shared) (ea : Addr) (oe : Obj) (vs : Array Value) (a0 : Value), Inv X pins σ H s → s.heap.get? ea = some oe → oe.data = Data.fields vs → vs[1]? = some Value.none → vs[0]? = some a0 → X.s₀.heap.get? ea = none → H ea = none → W oe.cls oe.dict H → X.xe (.ref ea) s)
    (hex : X.ex = []) (hg : Gl X x := by rfl) (hdb : (x == ("__debug__" : Str)) = false := by decide) (he : starEach (e :: es) X.env = (false, eval e X.env) :: starEach es X.env := by rfl) (hpl : (backTo cpos (starEach (e :: es) X.env)).any (·.1) = false := by rfl) :
    PS X (.Raise (some (.Call (.Name x np) (e :: es) [] cpos)) none pos) (tRaiseI C t sp W) := by
  intro pins s σ H D I h
  obtain ⟨nm, q, N, bs, bm, bmB, sn, sub, ab, col, dd, k0, k1, k2, k3, k5, mN, B, newId, initId, sa, ow, EI, _, oI, f1, f2⟩ := hC
  rw [arm_exec_Raise]
  have hb : bm.contains (.type "BaseException") = true := EI.tail.has EI.bf.hasBase
  refine wpAny_bind (wpAny_standAt (raise_made (C := C) (nm := nm) (q := q) (N := N) (bs := bs) (bm := bm) (hdct := true) (sn := sn) (sub := sub) (ab := ab) (col := col) (dd := dd) (k0 := k0) (k1 := k1) (k2 := k2) (k3 := k3) (k5 := k5) (newId := newId) hb hd (wpAny_bind (wpAny_mono (wpAny_Call_ofName (ld_glob I hg hx ?_ hdb)) (fun v s3 h3 => wpAny_bind (wpAny_standAt (wpAny_pure h3))) fun _ _ z => z))))
  unfold callWith
  have hpa := ha cpos pins s σ H _ I h
  have eb : backTo cpos (starEach (e :: es) X.env) = (false, eval e X.env) :: backTo cpos (starEach es X.env) := by rw [he]; rfl
  rw [eb] at hpa hpl ⊢
  refine wpAny_bind (wpAny_holding (Calls.evalArgs_plain (thn hpa fun us s2 hq => wpAny_bind (wpAny_standAt ?_))))
  obtain ⟨vs, H1, I1, r1, hl, hw⟩ := hq
  simp only [hpl]
  have kb := I1.bk
  have EI2 := EI.stays kb
  obtain ⟨hp, g, d, tk, os⟩ := s2
  refine wpAny_bind (wpAny_keeperOf_exc EI2.at_ (wpAny_bind (call_I EI2 (kb _ _ f1) f2 (fun h' ea m => ?_) (by show us.length ≤ sizeLine; rw [← r1.length]; exact hl))))
  obtain ⟨keeps, new, t0, there, tn, tt⟩ := m
  have I2 : Inv X pins σ H1 ⟨h', g, d, tk, os⟩ := I1.kept (s := ⟨hp, g, d, tk, os⟩) (t' := tk) keeps
  have he1 : H1 ea = none := by
    cases hc : H1 ea with
    | none => rfl
    | some o =>
      obtain ⟨ob, q⟩ := ObjOk.got (I1.hok ea o hc)
      rw [new] at q; cases q
  have back : X.s₀.heap.get? ea = none := by
    cases hc : X.s₀.heap.get? ea with
    | none => rfl
    | some o =>
      obtain ⟨o', q'⟩ := I1.base.there ea o hc (by rw [hex]; simp)
      rw [new] at q'; cases q'
  have nl : ea ≠ X.env.locals := fun z => by
    obtain ⟨m, ⟨o, _, _, ho, _⟩, _⟩ := I1.loc
    rw [← z, new] at ho; cases ho
  have nc : ∀ x c, X.env.cells.lookup x = some c → c ≠ ea := fun y c e z => by
    obtain ⟨v, o, ho, _⟩ := I1.cell y c e
    rw [z, new] at ho; cases ho
  have np' : ∀ p ∈ X.pn ++ pins, p.1 ≠ ea := fun p hp z => by
    have := (I1.pin p hp).1
    rw [z, new] at this; cases this
  have I3 : Inv X pins σ (upd H1 ea (ExcN ea C none)) ⟨h', g, d, tk, os⟩ := I2.track he1 back nl nc np' (excN_ok (t := t0) there)
  have hs := hw ea he1
  have r2 : Vals (V.ref ea :: vs) (Value.ref ea :: us) := .cons rfl r1
  have hln : (Value.ref ea :: us).length = ps.length := by
    rw [← r2.length]; exact F.len _ _ _ _ hs
  have hbb := hbi ⟨h', g, d, tk, os⟩ (.ref ea :: us) I3.kIn (by simpa using hln)
  simp only [List.append_nil] at hbb
  refine wpAny_call (codeAny_mono (F.run _ X.stack _ _ ⟨Value.ref ea :: us, []⟩ (Value.ref ea :: us) _ _ E0 (hr.make C us []) (I3.env0.make C us []) hbb r2 hs) fun r s' hq' => ?_)
  cases r with
  | error e => exact False.elim hq'
  | ok fl =>
    cases fl with
    | ret u =>
      obtain ⟨v, H', J, rv, ev, dx, hd2, hW⟩ := I3.after hq'
      subst ev
      cases (show u = Value.none from rv)
      obtain ⟨t1, q1⟩ := excN_at (J.hok ea _ hd2)
      refine ⟨rfl, wpAny_bind (wpAny_holding (wpAny_point (wpAny_pure ⟨ea, t1, dx, rfl, (J.bk _ _ EI.at_), q1, ?_⟩)))⟩
      exact xe pins σ (del H' ea) s' ea _ _ _ (J.untrack hd2) q1 rfl rfl rfl back del_same hW
    | next => exact False.elim hq'
    | brk => exact False.elim hq'
    | cont => exact False.elim hq'
end
end L2

set_option Elab.async false
set_option linter.all false
set_option maxRecDepth 100000
set_option maxHeartbeats 4000000
namespace L2
open PySem PySem.Spec PyProof.Rows PySem.W PySem.Calls
open Builtin Builtin.ObjectAttr
section
variable {prog : Program} {w : World} {A : Around} {E : Value → Shared → Prop} {h : Heap} {g : Array GenState} {d : Drawn} {t : Nat} {os : OsState}
  {S : List Str} {C f x : Addr} {nm q : Str} {N : Addr} {bs bm bmB : List Value} {sn : List Str} {sub : List Value} {ab : Bool} {col : Option Bool} {dd : Option Addr} {k0 k1 k2 k3 k5 : Option Value} {mN : Str → Option Value} {B newId initId sa ow : String}
  {o : Obj} {vs : Array Value} {name : Str} {v : Value}
theorem check_saE {M : Model} {nv : Value} {Q : Unit → Shared → Prop} (K : ExcI S h C f nm q N bs bm bmB sn sub ab col dd k0 k1 k2 k3 k5 mN B newId initId sa ow) (x1 : h.get? x = some o) (x2 : o.cls = .ref C) (hq : Q () ⟨h, g, d, t, os⟩) :
    wpAny M A (checkBuiltinCall sa ⟨[.ref x, nv, v], []⟩) Q E ⟨h, g, d, t, os⟩ := by
  have c1 := K.at_
  have cB : (Value.ref C :: bm).contains (.type ow) = true := by rw [List.contains_cons, K.tail.has K.sf.hasOwner, Bool.or_true]
  have ha := K.sf.args (.ref x) nv v
  simp only [checkBuiltinCall, K.sf.kind, K.sf.split]
  refine wpAny_bind ?_
  unfold isInstance
  repeat (first | (with_reducible refine wpAny_loadPart_at x1 ?_; rw [x2]) | (with_reducible refine wpAny_isSubtype_exc c1 ?_; rw [cB]) | wp_step)
  cases hs : Manifest.signature? sa with
  | none => exact wpAny_pure hq
  | some sig =>
    simp only [argsOk, hs] at ha
    show wpAny M A (Bind.checkArgs sa sig ⟨[.ref x, nv, v], []⟩) Q E _
    rw [show Bind.checkArgs sa sig ⟨[.ref x, nv, v], []⟩ = pure () from ha]
    exact wpAny_pure hq
/-- the first attribute of an exception: its dict is made -/
theorem entry_saE {tk : Tok} {Q : Fin → Shared → Prop} (K : ExcI S h C f nm q N bs bm bmB sn sub ab col dd k0 k1 k2 k3 k5 mN B newId initId sa ow) (hS : name ∈ S) (hB : typeLookup (.type B) name = pure none)
    (x1 : h.get? x = some o) (x2 : o.cls = .ref C) (x3 : o.dict = none) (x4 : o.data = .fields vs)
    (hq : ∀ h' tk', h'.get? x = some { o with dict := some h.objs.size } → h'.Ns1 h.objs.size (fun y => if y = name then some v else none) → (∀ b u, b ≠ x → h.get? b = some u → h'.get? b = some u) → Q (.done (.ret .none)) ⟨h', g, d, tk', os⟩) :
    wpAny (model prog w) A (Builtin.«object.__setattr__» ⟨[.ref x, .str name tk, v], []⟩) Q E ⟨h, g, d, t, os⟩ := by
  have c1 := K.at_
  have hp : refuseLoop (.ref x) "__setattr__" bm = pure () := K.tail.passes (K.sf.passes (.ref x))
  have hn := K.no name hS
  unfold Builtin.«object.__setattr__»
  repeat (first | rw [refuse_eq] | (rw [refuseLoop_ref, hp]) | (with_reducible refine wpAny_loadPart_at x1 ?_; rw [x2]) | with_reducible refine wpAny_mroOf_exc c1 ?_ | with_reducible refine lookup_S c1 K.ns hn (List.mem_cons_of_mem _ hS) K.tail K.sf.mro hB ?_ | wp_step)
  rw [x3, if_neg (by simp [typeHasDict])]
  split
  · rename_i z
    cases z
  split
  · rename_i c z
    rw [x4] at z; cases z
  · generalize hod : ({ cls := .type "dict", data := .dict #[] } : Obj) = od
    have e1 : (h.push od).get? x = some o := Heap.get?_push_of_some _ x1
    have nx : x ≠ h.objs.size := Nat.ne_of_lt (Heap.lt_size x1)
    refine wpAny_bind (wpAny_alloc' (wpAny_bind (wpAny_update' e1 (wpAny_pure ?_))))
    generalize hU : (fun o : Obj => ({ cls := o.cls, dict := some h.objs.size, data := o.data, slots := o.slots } : Obj)) = U
    have nf : (U o).isFreed = false := by
      rw [← hU]
      have z := (Heap.get?_some_iff.mp x1).2
      obtain ⟨_, _, dt, _⟩ := o
      cases dt <;> first | rfl | exact z
    have gd : ((h.push od).update x U).get? h.objs.size = some od := (Heap.get?_update_ne _ _ _ _ nx.symm).trans (Heap.get?_push_at rfl (by rw [← hod]; rfl))
    have nd : ((h.push od).update x U).Ns h.objs.size (fun _ => none) := ⟨_, #[], _, gd, by rw [← hod], fun e he => absurd he (by simp), fun _ => rfl⟩
    show wpAny _ _ (storeInDict h.objs.size (.str name tk) name v) _ _ _
    unfold storeInDict newKeyGuard
    refine wpAny_bind (wpAny_pure (wpAny_bind (wpAny_nsSet1 (Heap.Ns1.of_empty nd) fun h' n' hs => ?_)))
    obtain ⟨oD, esD, epD, hoD, hdD, hcD⟩ := n'.count (Within.cons name v Within.nil)
    refine wpAny_bind (wpAny_lookBehind hoD (by rw [hdD]; exact pastItsLine_dict (Nat.le_trans hcD (by rw [List.length_cons, List.length_nil, sizeLine_eq]; omega))) ?_)
    wp_walk
    refine hq h' _ ?_ n' fun b u n q => (hs.2 b (Nat.ne_of_lt (Heap.lt_size q))).trans ((Heap.get?_update_ne _ _ _ _ n).trans (Heap.get?_push_of_some _ q))
    have e2 := (hs.2 x nx).trans (Heap.get?_update_self U e1 nf)
    rw [e2, ← hU]
theorem setattrE {Q : Unit → Shared → Prop} (K : ExcI S h C f nm q N bs bm bmB sn sub ab col dd k0 k1 k2 k3 k5 mN B newId initId sa ow) (hsa : Str.ofString "__setattr__" ∈ S) (hS : name ∈ S) (hB : typeLookup (.type B) name = pure none)
    (x1 : h.get? x = some o) (x2 : o.cls = .ref C) (x3 : o.dict = none) (x4 : o.data = .fields vs)
    (hq : ∀ h' tk', h'.get? x = some { o with dict := some h.objs.size } → h'.Ns1 h.objs.size (fun y => if y = name then some v else none) → (∀ b u, b ≠ x → h.get? b = some u → h'.get? b = some u) → Q () ⟨h', g, d, tk', os⟩) :
    wpAny (model prog w) A (setAttr (.ref x) name v) Q E ⟨h, g, d, t, os⟩ := by
  have c1 := K.at_
  have b3 := K.sf.slot.bind (.ref x)
  have hn := K.no _ hsa
  unfold setAttr callSpecial? specialOf
  repeat (any_goals (first | assumption | (with_reducible refine wpAny_loadPart_at x1 ?_; rw [x2]) | with_reducible refine lookup_S c1 K.ns hn (List.mem_cons_of_mem _ hsa) K.tail K.sf.mro K.sf.slot.lookup ?_ | wp_step))
  refine codeAny_call_builtin K.sf.slot.plain K.sf.entry (check_saE K x1 x2 (entry_saE K hS hB x1 x2 x3 x4 fun h' tk' a b c => ?_))
  repeat (any_goals (first | assumption | wp_step))
  exact hq h' tk' a b c
end
end L2

set_option Elab.async false
set_option linter.all false
set_option maxRecDepth 100000
set_option maxHeartbeats 4000000
namespace L2
open PySem PySem.Spec PyProof.Rows PySem.W PySem.Calls
open Builtin Builtin.ObjectAttr
section
variable {prog : Program} {w : World} {A : Around} {E : Value → Shared → Prop} {h : Heap} {g : Array GenState} {d : Drawn} {t : Nat} {os : OsState}
  {S : List Str} {C f x dx : Addr} {nm q : Str} {N : Addr} {bs bm bmB : List Value} {sn : List Str} {sub : List Value} {ab : Bool} {col : Option Bool} {dd : Option Addr} {k0 k1 k2 k3 k5 : Option Value} {mN mA : Str → Option Value} {B newId initId sa ow : String}
  {o : Obj} {vs : Array Value} {name : Str} {v : Value}
theorem check_gaE {M : Model} {nv : Value} {Q : Unit → Shared → Prop} (K : ExcI S h C f nm q N bs bm bmB sn sub ab col dd k0 k1 k2 k3 k5 mN B newId initId sa ow) (x1 : h.get? x = some o) (x2 : o.cls = .ref C) (hq : Q () ⟨h, g, d, t, os⟩) :
    wpAny M A (checkBuiltinCall "BaseException.__getattribute__" ⟨[.ref x, nv], []⟩) Q E ⟨h, g, d, t, os⟩ := by
  have c1 := K.at_
  have b1 : builtinKind "BaseException.__getattribute__" = some .slot := by decide +kernel
  have b2 : splitId "BaseException.__getattribute__" = some ("BaseException", "__getattribute__") := by decide +kernel
  have cB : (Value.ref C :: bm).contains (.type "BaseException") = true := by rw [List.contains_cons, K.tail.has K.af.hasBase]; rfl
  have ha := F.args_bexc_ga (.ref x) nv
  simp only [checkBuiltinCall, b1, b2]
  refine wpAny_bind ?_
  unfold isInstance
  repeat (first | (with_reducible refine wpAny_loadPart_at x1 ?_; rw [x2]) | (with_reducible refine wpAny_isSubtype_exc c1 ?_; rw [cB]) | wp_step)
  exact hq
theorem entry_gaE {tk : Tok} {Q : Fin → Shared → Prop} (K : ExcI S h C f nm q N bs bm bmB sn sub ab col dd k0 k1 k2 k3 k5 mN B newId initId sa ow) (hS : name ∈ S) (hB : typeLookup (.type B) name = pure none)
    (x1 : h.get? x = some o) (x2 : o.cls = .ref C) (x3 : o.dict = some dx) (x4 : o.data = .fields vs) (x5 : h.Ns1 dx mA) (hv : mA name = some v) (hq : Q (.done (.ret v)) ⟨h, g, d, t, os⟩) :
    wpAny (model prog w) A (Builtin.«object.__getattribute__» ⟨[.ref x, .str name tk], []⟩) Q E ⟨h, g, d, t, os⟩ := by
  have c1 := K.at_
  have hn := K.no name hS
  unfold Builtin.«object.__getattribute__»
  repeat (first | (with_reducible refine wpAny_loadPart_at x1 ?_; rw [x2]) | with_reducible refine lookup_S c1 K.ns hn (List.mem_cons_of_mem _ hS) K.tail K.sf.mro hB ?_ | wp_step)
  split
  · rename_i c z
    rw [x4] at z; cases z
  unfold instanceDict
  repeat (first | (with_reducible refine wpAny_loadPart_at x1 ?_; rw [x2]) | with_reducible refine wpAny_loadPart_at c1 ?_ | wp_step)
  rw [x3]
  repeat (first | (with_reducible refine wpAny_nsGet x5.ns ?_; rw [hv]) | wp_step)
  exact hq
theorem getattrE {expr : Bool} {Q : Value → Shared → Prop} (K : ExcI S h C f nm q N bs bm bmB sn sub ab col dd k0 k1 k2 k3 k5 mN B newId initId sa ow) (hga : Str.ofString "__getattribute__" ∈ S) (hgb : Str.ofString "__getattr__" ∈ S) (hS : name ∈ S) (hB : typeLookup (.type B) name = pure none)
    (x1 : h.get? x = some o) (x2 : o.cls = .ref C) (x3 : o.dict = some dx) (x4 : o.data = .fields vs) (x5 : h.Ns1 dx mA) (hv : mA name = some v) (hh : handedOut v = pure v) (hq : Q v ⟨h, g, d, t + 1, os⟩) :
    wpAny (model prog w) A (getAttr (.ref x) name expr) Q E ⟨h, g, d, t, os⟩ := by
  have c1 := K.at_
  have b3 := K.af.ga.bind (.ref x)
  have n1 := K.no _ hga
  have n2 := K.no _ hgb
  have z2 : (Value.builtin "BaseException.__getattribute__" == Value.builtin "object.__getattribute__") = false := by decide +kernel
  have z0 : (expr && onTheHeap (Value.builtin "BaseException.__getattribute__")) = false := by cases expr <;> rfl
  have z1 : (onTheHeap (Value.ref C) && Value.builtin "BaseException.__getattribute__" == Value.builtin "object.__getattribute__") = false := by rw [z2]; rfl
  unfold getAttr getAttrBy
  repeat (any_goals (first | assumption | (with_reducible refine wpAny_loadPart_at x1 ?_; rw [x2]) | with_reducible refine lookup_S c1 K.ns n1 (List.mem_cons_of_mem _ hga) K.tail K.sf.mro K.af.ga.lookup ?_ | with_reducible refine lookup_S c1 K.ns n2 (List.mem_cons_of_mem _ hgb) K.tail K.sf.mro K.af.noGetattr ?_ | wp_step))
  refine codeAny_call_builtin K.af.ga.plain F.entry_bexc_ga (check_gaE K x1 x2 (entry_gaE K hS hB x1 x2 x3 x4 x5 hv ?_))
  repeat (any_goals (first | assumption | wp_step))
end
/-! ### readings and rules -/
section
variable {X : Cx} {S : List Str} {o e value : Expr} {n : Str} {pos pos' : Pos} {ta tv : TE} {C f : Addr}
/-- e.n, an attribute of an exception that is held -/
noncomputable def tFldE (C : Addr) (ta : TE) (n : Str) : TE := fun σ H Q => ta σ H fun x H1 => ∃ a dx fs v, x = .ref a ∧ H1 a = some (ExcO a C (some dx)) ∧ H1 dx = some (.xd fs) ∧ fs.lookup n = some v ∧ Q v H1
theorem pe_fldE (hC : ExcK S X.base C f) (h1 : Str.ofString "__getattribute__" ∈ S) (h2 : Str.ofString "__getattr__" ∈ S) (h3 : n ∈ S) (h4 : n ≠ Str.ofString "__setattr__" ∧ n ≠ Str.ofString "__getattribute__" ∧ n ≠ Str.ofString "__getattr__") (he : PE X e ta) (hb : attributeBase e n X.env (eval e X.env) = eval e X.env := by rfl) :
    PE X (.Attribute e n pos) (tFldE C ta n) := by
  intro pins s σ H Q I h
  obtain ⟨nm, q, N, bs, bm, bmB, sn, sub, ab, col, dd, k0, k1, k2, k3, k5, mN, B, newId, initId, sa, ow, EI, noB, _⟩ := hC
  refine attr_of hb (thn (he pins s σ H _ I h) fun u s1 ⟨x, H1, I1, rx, a, dx, fs, v, ex, ea, ed, l, q⟩ => ?_)
  subst ex
  obtain rfl : u = Value.ref a := rx
  obtain ⟨⟨oe, vs, o1, o2, o3, o4⟩, _⟩ := (show ObjOk X.prog X.w H1 s1.heap a (ExcO a C (some dx)) from I1.hok a _ ea)
  obtain ⟨mA, nA, rA⟩ := (show ObjOk X.prog X.w H1 s1.heap dx (.xd fs) from I1.hok dx _ ed)
  obtain ⟨u', hu, ru⟩ := RelO.some_of (v := v) (o := mA n) (by rw [← l]; exact rA n)
  obtain ⟨hp, g, d, tk, os⟩ := s1
  refine getattrE (EI.stays I1.bk) h1 h2 h3 (noB n h3 h4.1 h4.2.1 h4.2.2) o1 o2 o3 o4 nA hu (PySem.W.handedOut_of (handed_of ru)) ⟨v, H1, ?_, ru, q⟩
  exact I1.tok (tk + 1)
/-- e.n = value, the first attribute of an exception just made -/
noncomputable def sFldE (C : Addr) (ta tv : TE) (n : Str) : TS := fun D σ H => tv σ H fun y H1 => ta σ H1 fun x H2 => ∃ a, x = .ref a ∧ H2 a = some (ExcN a C none) ∧ ∀ dx, H2 dx = none → dx ≠ a → D.nx σ (upd (upd H2 a (ExcN a C (some dx))) dx (.xd [(n, y)]))
theorem ps_fldE (hC : ExcK S X.base C f) (h1 : Str.ofString "__setattr__" ∈ S) (h3 : n ∈ S) (h4 : n ≠ Str.ofString "__setattr__" ∧ n ≠ Str.ofString "__getattribute__" ∧ n ≠ Str.ofString "__getattr__") (ha : PE X o ta) (hv : PE X value tv) (hs : swapsWith value (some (.Attribute o n pos')) pos.line X.env = pure false := by rfl) :
    PS X (.Assign [.Attribute o n pos'] value pos) (sFldE C ta tv n) := by
  intro pins s σ H D I h
  obtain ⟨nm, q, N, bs, bm, bmB, sn, sub, ab, col, dd, k0, k1, k2, k3, k5, mN, B, newId, initId, sa, ow, EI, noB, _⟩ := hC
  refine plainObj_wpAny_Assign_Attribute (thn (hv pins s σ H _ I h) fun u s1 ⟨y, H1, I1, ry, q⟩ => thn (ha pins s1 σ H1 _ I1 q) fun ov s2 ⟨x, H2, I2, rx, a, ex, ea, q2⟩ => ?_) hs
  subst ex
  obtain rfl : ov = Value.ref a := rx
  obtain ⟨t0, o1⟩ := excN_at (I2.hok a _ ea)
  obtain ⟨hp, g, d, tk, os⟩ := s2
  refine setattrE (EI.stays I2.bk) h1 h3 (noB n h3 h4.1 h4.2.1 h4.2.2) o1 rfl rfl rfl fun h' tk' a1 a2 a3 => ?_
  have hn : H2 hp.objs.size = none := I2.hok.fresh (Nat.le_refl _)
  have ne : hp.objs.size ≠ a := Nat.ne_of_gt (Heap.lt_size o1)
  refine ⟨σ, _, ?_, q2 hp.objs.size hn ne⟩
  obtain ⟨oD, es, ep, b1, b2⟩ := id a2
  have J := I2.write (x := a) (e := a) (o := ExcN a C (some hp.objs.size)) (h' := h') (t' := tk') (by rw [ea]; exact True.intro) (.inl rfl) (fun b u n q => a3 b u n q) ⟨_, a1⟩ (excN_ok (t := t0) a1)
  refine Inv.track (s := ⟨h', g, d, tk', os⟩) J (by rw [upd_ne ne]; exact hn) ?_ ?_ ?_ ?_ ⟨_, a2, fun z => ?_⟩
  · exact Heap.get?_none_of_le I2.sz
  · exact Nat.ne_of_gt I2.lt
  · intro y c e z
    obtain ⟨v, o, ho, _⟩ := I2.cell y c e
    exact absurd (Heap.lt_size ho) (by rw [z]; exact Nat.lt_irrefl _)
  · intro p hp' z
    have := (I2.pin p hp').1
    exact absurd (Heap.lt_size this) (by rw [z]; exact Nat.lt_irrefl _)
  · show RelO (List.lookup z [(n, y)]) (if z = n then some u else none)
    by_cases c : z = n
    · rw [c, if_pos rfl]
      have : List.lookup n [(n, y)] = some y := by simp [List.lookup]
      rw [this]; exact ry
    · rw [if_neg c]
      have : List.lookup z [(n, y)] = none := by
        unfold List.lookup
        rw [show (z == n) = false from beq_eq_false_iff_ne.mpr c]
        rfl
      rw [this]; exact True.intro
end
end L2

set_option Elab.async false
set_option linter.all false
set_option maxRecDepth 100000
set_option maxHeartbeats 4000000
namespace L2
open PySem PySem.Spec PyProof.Rows PySem.W PySem.Calls
/-! ### the class as it stands in the fragment -/
theorem ns_some_of {K : Frag} {h : Heap} {N : Addr} {m : Str → Option Value} {x : Str} {v : Value} (X : K.In h) (G : h.Ns N m) (e : nsIn K N x = some (some v)) : m x = some v := by
  obtain ⟨o, es, ep, ho, hd, _, hf⟩ := G
  unfold nsIn at e
  split at e
  · rename_i c d es' n' sl q
    have q2 := X _ _ q
    rw [ho] at q2
    cases q2
    cases hd
    split at e
    · rename_i z hz
      rw [← hf]
      unfold nsFind findBy
      rw [← Array.find?_toList, hz]
      simpa using e
    · split at e <;> simp at e
  · cases e
/-- own classes above, none with a name of S -/
noncomputable def tailS (K : Frag) (S : List Str) (bmB : List Value) : List Value → Bool
  | [] => bmB == []
  | v :: r => (v :: r) == bmB || (match v with
    | .ref A => (match K.lookup A with
      | some ⟨_, _, .cls cd, _⟩ => nsOkIn K cd.ns && S.all (fun x => nsIn K cd.ns x == some none) && tailS K S bmB r
      | _ => false)
    | _ => false)
theorem tailS_of {K : Frag} {h : Heap} {S : List Str} {bmB : List Value} (X : K.In h) : ∀ {l : List Value}, tailS K S bmB l = true → TailS h S bmB l
  | [], e => by
    have z : bmB = [] := beq_iff_eq.mp e
    rw [z]; exact .base
  | v :: r, e => by
    unfold tailS at e
    rcases Bool.or_eq_true_iff.mp e with q | q
    · rw [beq_iff_eq.mp q]; exact .base
    · split at q
      · split at q
        · rename_i ho
          simp only [Bool.and_eq_true, List.all_eq_true, beq_iff_eq] at q
          exact .own (X _ _ ho) (.of_isNs (isNs_of_in X q.1.1)) (fun x hx => nsMap_none_of_in X q.1.1 (q.1.2 x hx)) (tailS_of X q.2)
        · cases q
      · cases q
/-- a class of exceptions with its own __init__ at f -/
noncomputable def excKIn (K : Frag) (S : List Str) (C f : Addr) (bmB : List Value) (newId : String) : Bool := match K.lookup C with
  | some ⟨.type "type", _, .cls cd, sl⟩ => (match cd.mro, sl.toList with
    | .ref C' :: bm, [_, _, _, _, some (.builtin n), _] => C' == C && n == newId && !cd.hasDel && cd.hasDict && tailS K (Str.ofString "__init__" :: S) bmB bm && nsOkIn K cd.ns && nsIn K cd.ns (Str.ofString "__init__") == some (some (.ref f)) && S.all (fun x => nsIn K cd.ns x == some none) && (match K.lookup f with | some o => o.cls == .type "function" | none => false)
    | _, _ => false)
  | _ => false
theorem excK_in {K : Frag} {h : Heap} {S : List Str} {C f : Addr} {bmB : List Value} {newId initId B sa ow : String} (X : K.In h) (hx : excKIn K S C f bmB newId = true) (b : ExcBaseFacts B newId initId bmB) (sf : StoreFacts B bmB sa ow) (af : ExcAttrBase B bmB)
    (no : ∀ x ∈ S, x ≠ Str.ofString "__setattr__" → x ≠ Str.ofString "__getattribute__" → x ≠ Str.ofString "__getattr__" → typeLookup (.type B) x = pure none) : ExcK S h C f := by
  unfold excKIn at hx
  split at hx
  · rename_i dct cd sl heq
    split at hx
    · rename_i C' bm k0 k1 k2 k3 n k5 hm hs
      simp only [Bool.and_eq_true, Bool.not_eq_true', beq_iff_eq, List.all_eq_true] at hx
      obtain ⟨⟨⟨⟨⟨⟨⟨⟨h1, h2⟩, h3⟩, h3'⟩, h4⟩, h5⟩, h6⟩, h7⟩, h8⟩ := hx
      subst h1
      subst h2
      have ho := X _ _ heq
      have hsl : sl = #[k0, k1, k2, k3, some (.builtin n), k5] := by
        rw [← Array.toList_inj]; exact hs
      obtain ⟨nm, bs, mro, ns, qn, hdct, sn, sub, ab, col, hdel⟩ := cd
      simp only at hm h3 h3' h4 h5 h6 h7
      subst hm
      subst h3
      subst h3'
      subst hsl
      have G : h.Ns ns (h.nsMap ns) := Heap.Ns.of_isNs (isNs_of_in X h5)
      refine ⟨nm, qn, ns, bs, bm, bmB, sn, sub, ab, col, dct, k0, k1, k2, k3, k5, h.nsMap ns, B, n, initId, sa, ow, ⟨ho, G, ns_some_of X G h6, fun x hx => nsMap_none_of_in X h5 (h7 x hx), tailS_of X h4, b, sf, af⟩, no, ?_⟩
      split at h8
      · rename_i o hf
        exact ⟨o, X _ _ hf, beq_iff_eq.mp h8⟩
      · cases h8
    · cases hx
  · cases hx
/-- the names that must not be there, of a class whose __init__ sets lot -/
noncomputable def lotS : List Str := [Str.ofString "lot", Str.ofString "__setattr__", Str.ofString "__getattribute__", Str.ofString "__getattr__"]
theorem no_lot : ∀ x ∈ lotS, x ≠ Str.ofString "__setattr__" → x ≠ Str.ofString "__getattribute__" → x ≠ Str.ofString "__getattr__" → typeLookup (.type "ValueError") x = pure none := by
  intro x hx a b c
  have z : x = Str.ofString "lot" := by
    unfold lotS at hx
    simp only [List.mem_cons, List.not_mem_nil, or_false] at hx
    rcases hx with z | z | z | z
    · exact z
    · exact absurd z a
    · exact absurd z b
    · exact absurd z c
  rw [z, typeLookup_type, builtinLookup_eq_fast]; kernel_rfl
noncomputable abbrev veM : List Value := [.type "ValueError", .type "Exception", .type "BaseException", .type "object"]
theorem excK_lot {K : Frag} {h : Heap} {C f : Addr} (X : K.In h) (hx : excKIn K lotS C f veM "ValueError.__new__" = true) : ExcK lotS h C f :=
  excK_in X hx F.excBase_ValueError F.store_ValueError F.attrBase_ValueError no_lot
end L2

set_option Elab.async false
set_option linter.all false
set_option maxRecDepth 100000
set_option maxHeartbeats 4000000
namespace L2
open PySem PySem.Spec PyProof.Rows PySem.W PySem.Calls
/-- a class that an except clause may name -/
noncomputable def CatC (h : Heap) (C : Addr) : Prop := ∃ (nm q : Str) (N : Addr) (bs bm : List Value) (hdct : Bool) (sn : List Str) (sub : List Value) (ab : Bool) (col : Option Bool) (dd : Option Addr) (k0 k1 k2 k3 k5 : Option Value) (newId : String),
  h.get? C = some (excClassObj nm q C N bs bm hdct sn sub ab col dd k0 k1 k2 k3 k5 newId) ∧ bm.contains (Value.type "BaseException") = true
theorem TailS.hasV {h : Heap} {S : List Str} {bmB tl : List Value} {v : Value} (x : TailS h S bmB tl) (e : bmB.contains v = true) : tl.contains v = true := by
  induction x with
  | base => exact e
  | own _ _ _ _ ih => rw [List.contains_cons, ih, Bool.or_true]
theorem ExcK.cat {S : List Str} {h : Heap} {C f : Addr} (x : ExcK S h C f) : CatC h C := by
  obtain ⟨nm, q, N, bs, bm, bmB, sn, sub, ab, col, dd, k0, k1, k2, k3, k5, mN, B, newId, initId, sa, ow, I, _⟩ := x
  exact ⟨nm, q, N, bs, bm, true, sn, sub, ab, col, dd, k0, k1, k2, k3, k5, newId, I.at_, I.tail.hasV I.bf.hasBase⟩
theorem ExcK.under {S : List Str} {h : Heap} {C f : Addr} (x : ExcK S h C f) : Under h C C := by
  obtain ⟨nm, q, N, bs, bm, bmB, sn, sub, ab, col, dd, k0, k1, k2, k3, k5, mN, B, newId, initId, sa, ow, I, _⟩ := x
  exact ⟨nm, q, N, bs, bm, true, sn, sub, ab, col, dd, k0, k1, k2, k3, k5, newId, I.at_, by simp⟩
section
variable {X : Cx} {st b0 : Stmt} {suite : List Stmt} {tx : TSX} {th : TS} {x n : Str} {R : Addr} {j : Nat} {np hpos pos : Pos}
/-- try: st; except R as n: suite. The exceptions that come are R's -/
theorem ps_tryC (hst : PSX X st tx) (hx : X.mg x = some (.ref R)) (hR : CatC X.base R) (hth : ∀ ea, PSs (X.held ea) (b0 :: suite) th) (hN : X.N.Nodup) (hj : X.N[j]? = some n) (hn : X.env.scope.names.lookup n = some .local) (hstk : X.stack = X.env :: X.outer) (hfr : X.env.frame = some X.env.locals) (hex : X.ex = [])
    (hg : Gl X x := by rfl) (hdb : (x == ("__debug__" : Str)) = false := by decide) :
    PS X (.Try [st] [.ExceptHandler (some (.Name x np)) (some n) (b0 :: suite) hpos] [] [] pos) (tTry tx th j fun C => Under X.base C R) := by
  intro pins s σ H D I h
  refine wpAny_Try_except (wpAny_execs_cons (wpAny_mono (hst pins s σ H D _ I h) (fun f s1 q => ?_) (fun e s1 q => ?_)))
  · cases f with
    | next => exact wpAny_execs_nil (wpAny_execs_nil q)
    | ret v => exact q
    | brk => exact q
    | cont => exact q
  · obtain ⟨σ1, H1, s2, I1, ea, T, cls, a0, dx, H', rfl, os, bare, un, hok, n1, n2, m1, m2, trc, C, rfl, hu, hth'⟩ := q
    have I' : Inv X pins σ1 H' s1 := I1.call' (ch := []) os un hok bare (by simp)
    have ffs := I'.stack
    rw [hstk] at ffs
    have afr : X.A.frames = some (X.env :: X.outer) := by rw [← hstk]; exact I'.ok.frames
    have there : ∀ b o, s2.heap.get? b = some o → ∃ o', s1.heap.get? b = some o' := fun b o q => un.there b o q (by simp)
    have newAt : ∀ b, s2.heap.get? b = none → X.s₀.heap.get? b = none ∧ b ≠ X.env.locals ∧ (∀ x c, X.env.cells.lookup x = some c → c ≠ b) ∧ ∀ p ∈ X.pn ++ pins, p.1 ≠ b := fun b q => by
      refine ⟨?_, fun z => ?_, fun y c e z => ?_, fun p hp z => ?_⟩
      · cases hc : X.s₀.heap.get? b with
        | none => rfl
        | some o =>
          obtain ⟨o', q'⟩ := I1.base.there b o hc (by rw [hex]; simp)
          rw [q] at q'; cases q'
      · obtain ⟨m, ⟨o, _, _, ho, _⟩, _⟩ := I1.loc
        rw [← z, q] at ho; cases ho
      · obtain ⟨v, o, ho, _⟩ := I1.cell y c e
        rw [z, q] at ho; cases ho
      · have := (I1.pin p hp).1
        rw [z, q] at this; cases this
    have noH : ∀ b, s1.heap.get? b = none → H' b = none := fun b q => by
      cases hc : H' b with
      | none => rfl
      | some o =>
        obtain ⟨ob, q'⟩ := ObjOk.got (hok b o hc)
        rw [q] at q'; cases q'
    have mk : ∀ b, s2.heap.get? b = none → H' b = none → X.s₀.heap.get? b = none ∧ H' b = none ∧ b ≠ X.env.locals ∧ (∀ x c, X.env.cells.lookup x = some c → c ≠ b) ∧ ∀ p ∈ X.pn ++ pins, p.1 ≠ b := fun b q1 q2 => ⟨(newAt b q1).1, q2, (newAt b q1).2⟩
    refine look_flying (Q := fun _ s3 => wpAny (model X.prog X.w) X.A (handleBy (Value.ref ea) X.env [ExceptHandler.ExceptHandler (some (Expr.Name x np)) (some n) (b0 :: suite) hpos]) (SP X pins D) X.xe s3) (base := X.base) afr hfr ffs trc fun h3 T3 mv3 nw3 tr3 => ?_
    have nT3 : s2.heap.get? T3 = none ∧ H' T3 = none := by
      refine ⟨?_, noH T3 nw3⟩
      cases hc : s2.heap.get? T3 with
      | none => rfl
      | some o =>
        obtain ⟨o', q'⟩ := there T3 o hc
        rw [nw3] at q'; cases q'
    have I3 : Inv X pins σ1 H' { s1 with heap := h3 } := I'.moved (G := [ea, T]) (fun b hb => by
      simp at hb
      rcases hb with z | z
      · rw [z]; exact mk ea n1 m1
      · rw [z]; exact mk T n2 m2) (fun b o q hb hg => mv3.keep b o q (by rw [← hstk]; exact hb) hg) (fun b o q hb => mv3.slot b o q (by rw [← hstk]; exact hb))
    refine wpAny_handleBy_cons (codeAny_handlers_test ?_) (by intro z; cases z)
    refine ld_glob (X := X.held ea) (I3.held ea) hg hx ?_ hdb
    obtain ⟨nm, q, N, bs, bm, hdct, sn, sub, ab, col, dd, k0, k1, k2, k3, k5, newId, a1, a5⟩ := hR
    obtain ⟨nm', q', N', bs', bm', hdct', sn', sub', ab', col', dd', l0, l1, l2, l3, l5, newId', c1, c2⟩ := hu
    obtain ⟨oe, vs, oT, ts, g1, g2, g3, g4, g5, g6, g7, g8, g9, g10⟩ := id tr3
    refine wp_matches (I3.bk _ _ c1) (I3.bk _ _ a1) g1 g2 a5 ?_
    rw [c2]
    show codeAny _ _ (Code.handlers (.ref ea) [ExceptHandler.ExceptHandler none (some n) (b0 :: suite) hpos] X.env) _ _
    refine codeAny_handlers_suite_as (ground tr3 fun h4 same4 tr4 => ?_)
    have I4 : Inv X pins σ1 H' { s1 with heap := h4 } := Inv.moved (s := { s1 with heap := h3 }) (h' := h4) (G := [T3]) I3 (fun b hb => by
      have z : b = T3 := by simpa using hb
      rw [z]; exact mk T3 nT3.1 nT3.2) (fun b o q hb hg => (same4 b fun z => hg (by simp [z])).trans q) (fun b o q hb => ⟨o.slots, (same4 b fun z => by
        obtain ⟨o2, q2, nf⟩ := ff_at I3.stack b hb
        rw [z, g7] at q2; cases q2; exact nf _ g8).trans q⟩)
    obtain ⟨oe4, vs4, oT4, ts4, f1, f2, _, f4, _, _, _, _, _, f10⟩ := id tr4
    have I4t : Inv X pins σ1 (upd H' ea (ExcO ea C dx)) { s1 with heap := h4 } := I4.track m1 (newAt ea n1).1 (newAt ea n1).2.1 (newAt ea n1).2.2.1 (newAt ea n1).2.2.2 (exc_new f1 f2 f10 f4)
    refine store_ok (X := X.held ea) (I4t.held ea) hN hj (.inl hn) (v := .ref ea) rfl (fun s5 I5 => ?_) (.inr hn)
    refine wpAny_mono (hth ea pins s5 (σ1.set j (some (.ref ea))) (upd H' ea (ExcO ea C dx)) (hEnds D j) I5 (hth' ea m1)) (fun f s6 q6 => ?_) (fun _ _ z => False.elim z)
    cases f with
    | next =>
      obtain ⟨σ2, H2, J, q⟩ := q6
      exact goes_ok (J.unheld I.ok) hN hj hn fun s7 I7 => ⟨σ2.set j none, H2, I7, q⟩
    | brk =>
      obtain ⟨σ2, H2, J, q⟩ := q6
      exact goes_ok (J.unheld I.ok) hN hj hn fun s7 I7 => ⟨σ2.set j none, H2, I7, q⟩
    | cont =>
      obtain ⟨σ2, H2, J, q⟩ := q6
      exact goes_ok (J.unheld I.ok) hN hj hn fun s7 I7 => ⟨σ2.set j none, H2, I7, q⟩
    | ret u =>
      obtain ⟨v, σ2, H2, J, rv, q⟩ := q6
      exact goes_ok (J.unheld I.ok) hN hj hn fun s7 I7 => ⟨v, σ2.set j none, H2, I7, rv, q⟩
end
/-! ### what may raise, within other expressions -/
section
variable {X : Cx} {e : Expr} {es : List Expr} {pos : Pos}
end
end L2

set_option Elab.async false
set_option linter.all false
set_option maxRecDepth 100000
set_option maxHeartbeats 4000000
namespace K33
open PySem L2

noncomputable def top (i : Nat) : Stmt := PySem.Challenge.pw_rootshares_k33_one_place_or_two.main.body.getD i (.Pass ⟨0, 0, 0, 0⟩)

/-! ### what the text finds at its top -/
theorem b_isinstance : bootBuiltins "isinstance" = some (.builtin "isinstance") := by decide +kernel
theorem b_all : bootBuiltins "all" = some (.builtin "all") := by decide +kernel
theorem b_sorted : bootBuiltins "sorted" = some (.builtin "sorted") := by decide +kernel
theorem b_max : bootBuiltins "max" = some (.builtin "max") := by decide +kernel
theorem b_min : bootBuiltins "min" = some (.builtin "min") := by decide +kernel
theorem b_str : bootBuiltins "str" = some (.type "str") := by decide +kernel
theorem b_tuple : bootBuiltins "tuple" = some (.type "tuple") := by decide +kernel
theorem b_list : bootBuiltins "list" = some (.type "list") := by decide +kernel
theorem b_int : bootBuiltins "int" = some (.type "int") := by decide +kernel
theorem b_bool : bootBuiltins "bool" = some (.type "bool") := by decide +kernel
theorem b_divmod : bootBuiltins "divmod" = some (.builtin "divmod") := by decide +kernel
theorem b_set : bootBuiltins "set" = some (.type "set") := by decide +kernel
structure Bl (mg : Str → Option Value) : Prop where
  len : mg "len" = none
  isinstance : mg "isinstance" = none
  all : mg "all" = none
  range : mg "range" = none
  sorted : mg "sorted" = none
  repr : mg "repr" = none
  max : mg "max" = none
  min : mg "min" = none
  str : mg "str" = none
  tuple : mg "tuple" = none
  list : mg "list" = none
  int : mg "int" = none
  bool : mg "bool" = none
  zip : mg "zip" = none
  divmod : mg "divmod" = none
  abs : mg "abs" = none
  set : mg "set" = none
  enumerate : mg "enumerate" = none
  most : ∃ t, mg "MOST_TREES" = some (.int 6 t)
  lng : ∃ t, mg "LONGEST_NAME" = some (.int 8 t)

/-- a def of the text that keeps its promise -/
noncomputable def Fn (P : Program) (w : World) (K : PySem.W.Frag) (mg : Str → Option Value) (base : Heap) (k : Nat) (x : Str) (ps : List Str) (sp : Sp) : Prop :=
  ∃ f fd, mg x = some (.ref f) ∧ PySem.W.keepIn K (.ref f) = true ∧ Binds K fd ps [] ∧ FnOk P w K mg base CX0 k f fd ps sp
theorem pe_fn {X : Cx} {k : Nat} {x : Str} {ps : List Str} {sp : Sp} {e : Expr} {es : List Expr} {t : TA} {p pos : Pos} (F : Fn X.prog X.w X.K X.mg X.base k x ps sp) (hr : Room k X.A) (ha : PA X (e :: es) t) (hg : Gl X x := by rfl)
    (hdb : (x == ("__debug__" : Str)) = false := by decide) (he : starEach (e :: es) X.env = (false, eval e X.env) :: starEach es X.env := by rfl) (hpl : (backTo pos (starEach es X.env)).any (·.1) = false := by rfl) :
    PE X (.Call (.Name x p) (e :: es) [] pos) (tCall sp [] E0 t) := by
  obtain ⟨f, fd, h1, h2, h3, h4⟩ := F
  exact pe_call h4 hr hg h1 h2 h3 .nil pass0 ha hdb he hpl
theorem pg_lc {X : Cx} {scope : Scope} {N : List Str} {C : Addr} {s0 : Shared} {H0 : Hp} {fp : List Addr} {x : Str} {pos : Pos} (i : Nat) (hN : N.Nodup) (hi : N[i]? = some x) (hx : scope.names.lookup x = some .local) :
    PG (cxLc X scope N C s0 H0 fp) (.Name x pos) (gName i) :=
  pg_name (X := cxLc X scope N C s0 H0 fp) hN hi (.inl (lookup_relabel_local hx)) (.inr (lookup_relabel_local hx))
theorem iteD {c A B : Prop} [Decidable c] (hc : c) (h : A) : if decide c = true then A else B := by
  rw [decide_eq_true hc]; exact iteT h
theorem iteDN {c A B : Prop} [Decidable c] (hc : ¬ c) (h : B) : if decide c = true then A else B := by
  rw [decide_eq_false hc]; exact iteF h
theorem iteND {c A B : Prop} [Decidable c] (hc : ¬ c) (h : A) : if (!decide c) = true then A else B := by
  rw [decide_eq_false hc]; exact iteT h
theorem lt1 (a b : Nat) : ([a] < [b]) ↔ a < b := by rw [List.cons_lt_cons_iff]; simp
/-! ### names -/
structure NameP (x : Str) : Prop where
  lo : 1 ≤ x.length
  hi : x.length ≤ 8
  az : ∀ c ∈ x.cps.toList, 97 ≤ c ∧ c ≤ 122
theorem NameP.fits {x : Str} (h : NameP x) : x.length < sizeLine := by have := h.hi; rw [sizeLine_eq]; omega
theorem NameP.ascii {x : Str} (h : NameP x) : x.cps.all (· < 128) = true := by
  rw [Array.all_eq_true']
  intro c hc
  have := h.az c (by simpa using hc)
  simp; omega

section
variable {P : Program} {w : World} {K : PySem.W.Frag} {mg : Str → Option Value} {base : Heap}

noncomputable def spName : Sp := fun vs H Q _ => ∃ x, vs = [.str x] ∧ NameP x ∧ ∀ H', Same H H' → Q (.bl true) H'
theorem sc8 : FnScope ["thing"] ["thing"] (defScope (top 8)) := ⟨rfl, rfl, rfl, by decide +kernel, rfl, by decide +kernel, by decide +kernel⟩
theorem same_upd {H H' : Hp} {p : Addr} {o : HO} (h : Same H H') (hp : H' p = none) : Same H (upd H' p o) := fun b ob e => by
  rw [upd_ne (ne_of_none (h b ob e) hp)]; exact h b ob e
theorem ok_is_name {f : Addr} {fd : FuncData} (F : Fun K "is_name" "is_name" (top 8) f fd) (B : Bl mg) : FnOk P w K mg base CX0 1 f fd ["thing"] spName := by
  refine F.ok sc8 (fun vs H Q E h => ?_) (fun cdv A outer s H vs Q E hr h => ?_)
  · obtain ⟨x, rfl, _⟩ := h
    rfl
  · obtain ⟨x, rfl, hx, k⟩ := h
    obtain ⟨tl, hl⟩ := B.lng
    refine ⟨_, pss_cons (ps_if (PW.pt (pw_or (pt_not (pt_val (pe_callB (call_isinst (T := "str")) rfl B.isinstance b_isinstance (pa_cons (pv 0) (pa_cons (pe_bltn (v := .ty "str") rfl B.str b_str rfl) pa_nil)))))
        (pw_or1 (pt_not (pt_chain op_le op_le pe_int (pe_callB call_len_str rfl B.len PySem.boot_len (pa_cons (pv 0) pa_nil)) (pe_glob (v := .int 8) rfl hl ⟨_, rfl⟩)))))) (pss_one (ps_ret pe_bl)) pss_nil)
      (pss_one (ps_ret (pe_callB (call_allB rfl) rfl B.all b_all (pa_cons (pe_lc (N := ["letter"]) (ix := [none]) ⟨rfl, rfl, rfl, by decide⟩ rfl (pi_str (pv 0)) (fun _ _ _ _ => pg_lc 0 (by decide) rfl rfl) (fun _ _ _ _ => pts_nil)
        (fun _ _ _ _ => pe_chain op_le_str op_le_str pe_str (pv 0) pe_str)) pa_nil)))), ?_⟩
    refine ⟨_, rfl, _, _, true, rfl, .str x, ?kit, true, rfl, iteF ?_⟩
    case kit => rfl
    refine ⟨_, rfl, x, rfl, Nat.le_of_lt hx.fits, _, _, rfl, rfl, _, rfl, iteD (by have := hx.lo; omega) ⟨_, _, rfl, rfl, _, rfl, ?_⟩⟩
    refine iteNS (by have := hx.hi; omega) ?_
    refine ⟨_, rfl, x, rfl, hx.ascii, lcw_str0 hx.fits (fun i ys σ H1 => ys = List.replicate i (.bl true) ∧ Same H H1 ∧ ∃ v, σ = [v]) ⟨rfl, Same.refl _, _, rfl⟩ (fun i ys σ H1 _ q => by rw [q.1]; simp) ?_ ?_⟩
    · rintro i c ys σ H1 hc ⟨rfl, hs, v, rfl⟩
      have hcm := hx.az c (Array.mem_toList_iff.mpr (Array.mem_of_getElem? hc))
      refine ⟨_, rfl, _, _, rfl, rfl, _, rfl, iteND ?_ ⟨_, _, rfl, rfl, ?_, hs, _, rfl⟩⟩
      · show ¬ ([c] < [97])
        rw [lt1]; omega
      · have e : (!decide ([122] < [c])) = true := by rw [decide_eq_false (by rw [lt1]; omega)]; rfl
        show _ ++ [V.bl (!decide ([122] < [c]))] = _
        rw [e, List.replicate_succ']
    · rintro ys σ H1 ⟨rfl, hs, v, rfl⟩ p hp
      refine ⟨p, List.replicate x.length true, rfl, SqL.of (by rw [upd_same, List.map_replicate]), ?_⟩
      have e : (List.replicate x.length true).all id = true := by simp
      rw [e]
      exact k _ (same_upd hs hp)
end
end K33

set_option Elab.async false
set_option linter.all false
set_option maxRecDepth 100000
set_option maxHeartbeats 4000000
namespace K33
open PySem L2

/-! ### rules with the written part named -/
theorem ix_seqK (K : PySem.W.Frag) {X : Cx} (h : X.K = K := by rfl) : IxR X (rIx K) := by subst h; exact ix_seq
theorem notIn_seqK (K : PySem.W.Frag) {X : Cx} (h : X.K = K := by rfl) : OpR X (compareOp .NotIn) (rIn K true) := by subst h; exact op_notIn_seq
/-! ### small readings -/
theorem atI_at {α : Type} {xs : List α} {z : Int} {j : Nat} {v : α} (hz : z = (j : Int)) (h : xs[j]? = some v) : atI xs z = some v := by subst hz; exact atI_nat h
noncomputable def Sq (K : PySem.W.Frag) (H : Hp) (p : Addr) (xs : List V) : Prop := SqL K H p xs ∨ SqT K H p xs
theorem same_tup {K : PySem.W.Frag} {H H' : Hp} {a : Addr} {xs : List V} (e : Same H H') (h : SqT K H a xs) : SqT K H' a xs := by
  rcases h with (h | ⟨o, h⟩) | h
  · exact .inl (.inl (e _ _ h))
  · exact .inl (.inr ⟨o, e _ _ h⟩)
  · exact .inr h
theorem Sq.same {K : PySem.W.Frag} {H H' : Hp} {a : Addr} {xs : List V} (h : Sq K H a xs) (e : Same H H') : Sq K H' a xs := h.imp (fun z => e.seq z) fun z => same_tup e z
theorem rix_of {K : PySem.W.Frag} {H : Hp} {p : Addr} {xs : List V} {z : Int} {j : Nat} {v : V} {Q : VK} (h : Sq K H p xs) (hz : z = (j : Int)) (hx : xs[j]? = some v) (q : Q v H) : rIx K (.ref p) (.int z) H Q :=
  h.elim (fun h => .inl ⟨p, xs, z, v, rfl, rfl, h, atI_at hz hx, q⟩) fun h => .inr (.inl ⟨p, xs, z, v, rfl, rfl, h, atI_at hz hx, q⟩)
theorem fits {n : Nat} (h : n ≤ 1000) : n < sizeLine := small1000 h
theorem strAt {ss : List Str} {i : Nat} (h : i < ss.length) : (ss.map V.str)[i]? = some (.str ss[i]) := by rw [List.getElem?_map, List.getElem?_eq_getElem h]; rfl
theorem in_strs (x : Str) (ss : List Str) : inV (.str x) (ss.map V.str) = decide (x ∈ ss) := by
  unfold inV
  rw [List.any_map]
  rw [Bool.eq_iff_iff, List.any_eq_true, decide_eq_true_iff]
  constructor
  · rintro ⟨y, hy, e⟩
    have e' : y = x := by simpa [eqV] using e
    exact e' ▸ hy
  · intro h
    exact ⟨x, h, by simp [eqV]⟩
theorem flat_strs (ss : List Str) : (ss.map V.str).all flatV = true := by
  rw [List.all_map, List.all_eq_true]
  intro y _
  rfl

/-! ### webs -/
noncomputable abbrev Row := Str × Str × Str
noncomputable def RowAt (H : Hp) (p : Addr) (r : Row) : Prop := H p = some (.tup [.str r.1, .str r.2.1, .str r.2.2])
noncomputable abbrev rrefs (rs : List (Addr × Row)) : List V := rs.map fun r => V.ref r.1
structure WebAt (H : Hp) (v pa ra : Addr) (ps : List Str) (rs : List (Addr × Row)) : Prop where
  tp : H v = some (.tup [.ref pa, .ref ra])
  pl : H pa = some (.tup (ps.map V.str))
  rl : H ra = some (.tup (rrefs rs))
  rows : ∀ r ∈ rs, RowAt H r.1 r.2
structure Good (ps : List Str) (rs : List Row) : Prop where
  ne : ps ≠ []
  nm : ∀ x ∈ ps, NameP x
  so : ps.Pairwise nlt
  rn : ∀ r ∈ rs, NameP r.1 ∧ r.2.1 ∈ ps ∧ r.2.2 ∈ ps ∧ r.2.1 ≠ r.2.2
  rso : (rs.map (·.1)).Pairwise nlt
  pz : ps.length ≤ 100
  rz : rs.length ≤ 60
theorem WebAt.same {H H' : Hp} {v pa ra : Addr} {ps : List Str} {rs : List (Addr × Row)} (h : WebAt H v pa ra ps rs) (e : Same H H') : WebAt H' v pa ra ps rs :=
  ⟨e _ _ h.tp, e _ _ h.pl, e _ _ h.rl, fun r hr => e _ _ (h.rows r hr)⟩

section
variable {P : Program} {w : World} {K : PySem.W.Frag} {mg : Str → Option Value} {base : Heap}

noncomputable def spRising (K : PySem.W.Frag) : Sp := fun vs H Q _ => ∃ (p : Addr) (ss : List Str), vs = [.ref p] ∧ Sq K H p (ss.map V.str) ∧ ss.Pairwise nlt ∧ ss.length ≤ 1000 ∧ ∀ H', Same H H' → Q (.bl true) H'
theorem sc10 : FnScope ["names"] ["names"] (defScope (top 10)) := ⟨rfl, rfl, rfl, by decide +kernel, rfl, by decide +kernel, by decide +kernel⟩
theorem ok_is_rising {f : Addr} {fd : FuncData} (F : Fun K "is_rising" "is_rising" (top 10) f fd) (B : Bl mg) : FnOk P w K mg base CX0 1 f fd ["names"] (spRising K) := by
  refine F.ok sc10 (fun vs H Q E h => ?_) (fun cdv A outer s H vs Q E hr h => ?_)
  · obtain ⟨p, ss, rfl, _⟩ := h
    rfl
  · obtain ⟨p, ss, rfl, hq, hp, hz, k⟩ := h
    refine ⟨_, pss_one (ps_ret (pe_callB (call_allB rfl) rfl B.all b_all (pa_cons (pe_lc (N := ["at", "names"]) (ix := [none, some 0]) ⟨rfl, rfl, rfl, by decide⟩ rfl
      (pi_range2 rfl B.range (pa_cons pe_int (pa_cons (pe_callB call_len_seq rfl B.len PySem.boot_len (pa_cons (pv 0) pa_nil)) pa_nil))) (fun _ _ _ _ => pg_lc 0 (by decide) rfl rfl) (fun _ _ _ _ => pts_nil)
      (fun _ _ _ _ => pe_cmpR op_lt_str (pe_ix (ix_seqK K) (pv 1) (pe_op op_sub (pv 0) pe_int) (fun _ _ => rfl)) (pe_ix (ix_seqK K) (pv 1) (pv 0) (fun _ _ => rfl)) (nomark _))) pa_nil))), ?_⟩
    have hz' : (ss.map V.str).length ≤ 1000 := by simpa using hz
    refine ⟨_, rfl, p, ss.map V.str, rfl, hq, 1, _, rfl, ⟨by decide, by decide, by omega, by omega⟩, lcw_range0 (fits (by omega)) (fun i ys σ H1 => ys = List.replicate i (.bl true) ∧ Same H H1 ∧ ∃ v, σ = [v, some (.ref p)])
      ⟨rfl, Same.refl _, _, rfl⟩ (fun i ys σ H1 _ q => by rw [q.1]; simp) ?_ ?_⟩
    · rintro i ys σ H1 hi ⟨rfl, hs, v, rfl⟩
      have hl : i + 1 < ss.length := by rw [List.length_map] at hi; omega
      refine ⟨_, rfl, _, rfl, _, _, rfl, rfl, rix_of (j := i) (hq.same hs) (by omega) (strAt (by omega)) ⟨_, rfl, _, rfl, rix_of (j := i + 1) (hq.same hs) (by push_cast; omega) (strAt hl) ⟨_, _, rfl, rfl, ?_, hs, _, rfl⟩⟩⟩
      have e : ss[i].cps.toList < ss[i + 1].cps.toList := List.pairwise_iff_getElem.mp hp i (i + 1) (by omega) hl (by omega)
      show _ ++ [V.bl (decide (ss[i].cps.toList < ss[i + 1].cps.toList))] = _
      rw [decide_eq_true e, List.replicate_succ']
    · rintro ys σ H1 ⟨rfl, hs, v, rfl⟩ q hqn
      refine ⟨q, List.replicate _ true, rfl, SqL.of (by rw [upd_same, List.map_replicate]), ?_⟩
      have e : ∀ n : Nat, (List.replicate n true).all id = true := by simp
      rw [e]
      exact k _ (same_upd hs hqn)

noncomputable def spSorted : Sp := fun vs H Q _ => ∃ (p : Addr) (ss : List Str), vs = [.ref p] ∧ H p = some (.tup (ss.map V.str)) ∧ (∀ x ∈ ss, NameP x) ∧ ss.Pairwise nlt ∧ ss.length ≤ 1000 ∧ ∀ H', Same H H' → Q (.bl true) H'
theorem sc11 : FnScope ["thing"] ["thing"] (defScope (top 11)) := ⟨rfl, rfl, rfl, by decide +kernel, rfl, by decide +kernel, by decide +kernel⟩
theorem ok_is_sorted {f : Addr} {fd : FuncData} (F : Fun K "is_sorted_names" "is_sorted_names" (top 11) f fd) (B : Bl mg) (F1 : Fn P w K mg base 1 "is_name" ["thing"] spName) (F2 : Fn P w K mg base 1 "is_rising" ["names"] (spRising K)) :
    FnOk P w K mg base CX0 2 f fd ["thing"] spSorted := by
  refine F.ok sc11 (fun vs H Q E h => ?_) (fun cdv A outer s H vs Q E hr h => ?_)
  · obtain ⟨p, ss, rfl, _⟩ := h
    rfl
  · obtain ⟨p, ss, rfl, hp, hn, hs, hz, k⟩ := h
    refine ⟨_, pss_cons (ps_if (pt_not (pt_val (pe_callB (call_isinst (T := "tuple")) rfl B.isinstance b_isinstance (pa_cons (pv 0) (pa_cons (pe_bltn (v := .ty "tuple") rfl B.tuple b_tuple rfl) pa_nil))))) (pss_one (ps_ret pe_bl)) pss_nil)
      (pss_one (ps_ret (pe_and (pe_callB (call_allB rfl) rfl B.all b_all (pa_cons (pe_lc (N := ["name"]) (ix := [none]) ⟨rfl, rfl, rfl, by decide⟩ rfl (pi_tup (pv 0)) (fun _ _ _ _ => pg_lc 0 (by decide) rfl rfl) (fun _ _ _ _ => pts_nil)
        (fun _ _ _ _ => pe_fn F1 hr (pa_cons (pv 0) pa_nil))) pa_nil)) (pe_one (pe_fn F2 hr (pa_cons (pv 0) pa_nil)))))), ?_⟩
    refine ⟨_, rfl, _, _, true, rfl, .tup hp, rfl, true, rfl, iteF ?_⟩
    refine ⟨_, rfl, p, rfl, ⟨_, SqT.of hp⟩, lcw_tup0 (xs := ss.map V.str) (fits (by simpa using hz)) (fun i ys σ H1 => ys = List.replicate i (.bl true) ∧ Same H H1 ∧ ∃ v, σ = [v]) ⟨rfl, Same.refl _, _, rfl⟩
      (fun i ys σ H1 _ q => ⟨by rw [q.1]; simp, same_tup q.2.1 (SqT.of hp)⟩) ?_ ?_⟩
    · rintro i x ys σ H1 hx ⟨rfl, hs1, v, rfl⟩
      obtain ⟨y, hy, rfl⟩ : ∃ y ∈ ss, x = V.str y := by
        obtain ⟨y, e1, e2⟩ := List.mem_map.mp (List.mem_of_getElem? hx)
        exact ⟨y, e1, e2.symm⟩
      exact ⟨_, rfl, y, rfl, hn y hy, fun H2 hs2 => ⟨by rw [List.replicate_succ'], hs1.trans hs2, _, rfl⟩⟩
    · rintro ys σ H1 ⟨rfl, hs1, v, rfl⟩ q hqn
      refine ⟨q, List.replicate _ true, rfl, SqL.of (by rw [upd_same, List.map_replicate]), _, rfl, ?_⟩
      have e : ∀ n : Nat, (List.replicate n true).all id = true := by simp
      rw [e]
      have hs2 := same_upd (o := .lst (List.replicate (ss.map V.str).length (.bl true))) hs1 hqn
      exact iteT ⟨_, rfl, p, ss, rfl, .inr (same_tup hs2 (SqT.of hp)), hs, hz, fun H3 hs3 => k _ (hs2.trans hs3)⟩

noncomputable def spAmong (K : PySem.W.Frag) : Sp := fun vs H Q _ => ∃ (x : Str) (p : Addr) (ss : List Str), vs = [.str x, .ref p] ∧ Sq K H p (ss.map V.str) ∧ Q (.bl (decide (x ∈ ss))) H
theorem sc12 : FnScope ["thing", "names"] ["thing", "names"] (defScope (top 12)) := ⟨rfl, rfl, rfl, by decide +kernel, rfl, by decide +kernel, by decide +kernel⟩
theorem ok_is_among {f : Addr} {fd : FuncData} (F : Fun K "is_among" "is_among" (top 12) f fd) (B : Bl mg) : FnOk P w K mg base CX0 1 f fd ["thing", "names"] (spAmong K) := by
  refine F.ok sc12 (fun vs H Q E h => ?_) (fun cdv A outer s H vs Q E hr h => ?_)
  · obtain ⟨x, p, ss, rfl, _⟩ := h
    rfl
  · obtain ⟨x, p, ss, rfl, hp, k⟩ := h
    refine ⟨_, pss_one (ps_ret (pe_and (pe_callB (call_isinst (T := "str")) rfl B.isinstance b_isinstance (pa_cons (pv 0) (pa_cons (pe_bltn (v := .ty "str") rfl B.str b_str rfl) pa_nil)))
      (pe_one (pe_cmpR op_in_seq (pv 0) (pv 1) (by with_unfolding_all rfl))))), ?_⟩
    refine ⟨_, rfl, _, _, true, rfl, .str x, rfl, true, rfl, iteT ⟨_, rfl, _, rfl, p, ss.map V.str, rfl, hp, rfl, flat_strs ss, ?_⟩⟩
    show Q (.bl (inV (.str x) (ss.map V.str))) H
    rw [in_strs]
    exact k

noncomputable def spTieRow : Sp := fun vs H Q _ => ∃ (p q : Addr) (r : Row) (ps : List Str), vs = [.ref p, .ref q] ∧ RowAt H p r ∧ H q = some (.tup (ps.map V.str)) ∧ NameP r.1 ∧ r.2.1 ∈ ps ∧ r.2.2 ∈ ps ∧ r.2.1 ≠ r.2.2 ∧ ∀ H', Same H H' → Q (.bl true) H'
theorem sc13 : FnScope ["thing", "places", "name", "start", "end"] ["thing", "places"] (defScope (top 13)) := ⟨rfl, rfl, rfl, by decide +kernel, rfl, by decide +kernel, by decide +kernel⟩
theorem ok_is_tie_row {f : Addr} {fd : FuncData} (F : Fun K "is_tie_row" "is_tie_row" (top 13) f fd) (B : Bl mg) (F1 : Fn P w K mg base 1 "is_name" ["thing"] spName) (F2 : Fn P w K mg base 1 "is_among" ["thing", "names"] (spAmong K)) :
    FnOk P w K mg base CX0 2 f fd ["thing", "places"] spTieRow := by
  refine F.ok sc13 (fun vs H Q E h => ?_) (fun cdv A outer s H vs Q E hr h => ?_)
  · obtain ⟨p, q, r, ps, rfl, _⟩ := h
    rfl
  · obtain ⟨p, q, r, ps, rfl, hp, hq, h1, h2, h3, h4, k⟩ := h
    have hp' : H p = some (.tup [.str r.1, .str r.2.1, .str r.2.2]) := hp
    refine ⟨_, pss_cons (ps_if (PW.pt (pw_or (pt_not (pt_val (pe_callB (call_isinst (T := "tuple")) rfl B.isinstance b_isinstance (pa_cons (pv 0) (pa_cons (pe_bltn (v := .ty "tuple") rfl B.tuple b_tuple rfl) pa_nil)))))
        (pw_or1 (pt_cmpR op_ne (pe_callB call_len_seq rfl B.len PySem.boot_len (pa_cons (pv 0) pa_nil)) pe_int (nomark _))))) (pss_one (ps_ret pe_bl)) pss_nil)
      (pss_cons (ps_asg (pv 0) (pg_tup rfl (n := 3) (pgs_cons (pg_name (i := 2) sc13.nd rfl (Or.inl rfl)) (pgs_cons (pg_name (i := 3) sc13.nd rfl (Or.inl rfl)) (pgs_cons (pg_name (i := 4) sc13.nd rfl (Or.inl rfl)) pgs_nil)))))
      (pss_one (ps_ret (pe_and (pe_fn F1 hr (pa_cons (pv 2) pa_nil)) (pe_and (pe_fn F2 hr (pa_cons (pv 3) (pa_cons (pv 1) pa_nil))) (pe_and (pe_fn F2 hr (pa_cons (pv 4) (pa_cons (pv 1) pa_nil))) (pe_one (pe_cmpR op_ne (pv 3) (pv 4) (nomark _))))))))), ?_⟩
    refine ⟨_, rfl, _, _, true, rfl, .tup hp', rfl, true, rfl, iteF ⟨_, rfl, p, _, rfl, .inr (SqT.of hp'), rfl, _, rfl, iteNS rfl ?_⟩⟩
    refine ⟨_, rfl, p, _, rfl, SqT.of hp', rfl, _, _, rfl, _, _, rfl, _, _, rfl, rfl, ?_⟩
    refine ⟨_, rfl, r.1, rfl, h1, fun H1 s1 => ⟨true, rfl, iteT ⟨_, rfl, _, rfl, r.2.1, q, ps, rfl, .inr (same_tup s1 (SqT.of hq)), _, rfl, iteD h2 ⟨_, rfl, _, rfl, r.2.2, q, ps, rfl, .inr (same_tup s1 (SqT.of hq)), _, rfl, iteD h3 ⟨_, rfl, _, rfl, rfl, ?_⟩⟩⟩⟩⟩
    have e : (!decide (V.str r.2.1 = V.str r.2.2)) = true := by
      rw [decide_eq_false (fun z => h4 (V.str.inj z))]; rfl
    rw [e]
    exact k H1 s1
end
end K33

set_option Elab.async false
set_option linter.all false
set_option maxRecDepth 100000
set_option maxHeartbeats 4000000
namespace K33
open PySem L2

theorem take_map_succ {α β : Type} (f : α → β) (l : List α) (i : Nat) (x : α) (h : l[i]? = some x) : (l.take (i + 1)).map f = (l.take i).map f ++ [f x] := by
  rw [List.take_add_one, h]; simp
theorem rowAt_get {rs : List (Addr × Row)} {i : Nat} {x : V} (h : (rrefs rs)[i]? = some x) : ∃ r, rs[i]? = some r ∧ x = .ref r.1 := by
  unfold rrefs at h
  rw [List.getElem?_map] at h
  cases e : rs[i]? with
  | none => rw [e] at h; cases h
  | some r => rw [e] at h; exact ⟨r, rfl, (Option.some.inj h).symm⟩
section
variable {P : Program} {w : World} {K : PySem.W.Frag} {mg : Str → Option Value} {base : Heap}

noncomputable def spWeb (r : V) : Sp := fun vs H Q _ => ∃ (v pa ra : Addr) (ps : List Str) (rs : List (Addr × Row)), vs = [.ref v] ∧ WebAt H v pa ra ps rs ∧ Good ps (rs.map (·.2)) ∧ ∀ H', Same H H' → Q r H'
theorem sc14 : FnScope ["thing", "places", "rows"] ["thing"] (defScope (top 14)) := ⟨rfl, rfl, rfl, by decide +kernel, rfl, by decide +kernel, by decide +kernel⟩
theorem ok_is_web {f : Addr} {fd : FuncData} (F : Fun K "is_web" "is_web" (top 14) f fd) (B : Bl mg) (F1 : Fn P w K mg base 2 "is_sorted_names" ["thing"] spSorted) (F2 : Fn P w K mg base 2 "is_tie_row" ["thing", "places"] spTieRow)
    (F3 : Fn P w K mg base 1 "is_rising" ["names"] (spRising K)) : FnOk P w K mg base CX0 3 f fd ["thing"] (spWeb (.bl true)) := by
  refine F.ok sc14 (fun vs H Q E h => ?_) (fun cdv A outer s H vs Q E hr h => ?_)
  · obtain ⟨v, pa, ra, ps, rs, rfl, _⟩ := h
    rfl
  · obtain ⟨v, pa, ra, ps, rs, rfl, W, G, k⟩ := h
    have hr1 : Room 1 _ := hr.mono (by decide)
    refine ⟨_, pss_cons (ps_if (PW.pt (pw_or (pt_not (pt_val (pe_callB (call_isinst (T := "tuple")) rfl B.isinstance b_isinstance (pa_cons (pv 0) (pa_cons (pe_bltn (v := .ty "tuple") rfl B.tuple b_tuple rfl) pa_nil)))))
        (pw_or1 (pt_cmpR op_ne (pe_callB call_len_seq rfl B.len PySem.boot_len (pa_cons (pv 0) pa_nil)) pe_int (nomark _))))) (pss_one (ps_ret pe_bl)) pss_nil)
      (pss_cons (ps_asg (pv 0) (pg_tup rfl (n := 2) (pgs_cons (pg_name (i := 1) sc14.nd rfl (Or.inr rfl)) (pgs_cons (pg_name (i := 2) sc14.nd rfl (Or.inl rfl)) pgs_nil))))
      (pss_cons (ps_if (PW.pt (pw_or (pt_not (pt_val (pe_fn F1 hr (pa_cons (pv 1) pa_nil)))) (pw_or (pt_cmpR op_eq (pe_callB call_len_seq rfl B.len PySem.boot_len (pa_cons (pv 1) pa_nil)) pe_int (nomark _))
        (pw_or1 (pt_not (pt_val (pe_callB (call_isinst (T := "tuple")) rfl B.isinstance b_isinstance (pa_cons (pv 2) (pa_cons (pe_bltn (v := .ty "tuple") rfl B.tuple b_tuple rfl) pa_nil))))))))) (pss_one (ps_ret pe_bl)) pss_nil)
      (pss_one (ps_ret (pe_and (pe_callB (call_allB rfl) rfl B.all b_all (pa_cons (pe_lc (N := ["row", "places"]) (ix := [none, some 1]) ⟨rfl, rfl, rfl, by decide⟩ rfl (pi_tup (pv 2)) (fun _ _ _ _ => pg_lc 0 (by decide) rfl rfl) (fun _ _ _ _ => pts_nil)
        (fun _ _ _ _ => pe_fn F2 hr (pa_cons (pv 0) (pa_cons (pv 1) pa_nil)))) pa_nil))
        (pe_one (pe_fn F3 hr1 (pa_cons (pe_lc (N := ["row"]) (ix := [none]) ⟨rfl, rfl, rfl, by decide⟩ rfl (pi_tup (pv 2)) (fun _ _ _ _ => pg_lc 0 (by decide) rfl rfl) (fun _ _ _ _ => pts_nil)
          (fun _ _ _ _ => pe_ix (ix_seqK K) (pv 0) pe_int (fun _ _ => rfl))) pa_nil)))))))), ?_⟩
    have hlen : (rrefs rs).length ≤ 1000 := by have := G.rz; simp at this ⊢; omega
    refine ⟨_, rfl, _, _, true, rfl, .tup W.tp, rfl, true, rfl, iteF ⟨_, rfl, v, _, rfl, .inr (SqT.of W.tp), rfl, _, rfl, iteNS rfl ?_⟩⟩
    refine ⟨_, rfl, v, _, rfl, SqT.of W.tp, rfl, _, _, rfl, _, _, rfl, rfl, ?_⟩
    refine ⟨_, rfl, pa, ps, rfl, W.pl, G.nm, G.so, by have := G.pz; omega, fun H1 s1 => ⟨true, rfl, iteF ?_⟩⟩
    refine ⟨_, rfl, pa, _, rfl, .inr (SqT.of (s1 _ _ W.pl)), rfl, _, rfl, iteDN ?_ ?_⟩
    · intro z
      have z' : ((ps.map V.str).length : Int) = 0 := V.int.inj z
      have : ps.length ≠ 0 := fun q => G.ne (List.length_eq_zero_iff.mp q)
      rw [List.length_map] at z'
      omega
    refine ⟨_, rfl, _, _, true, rfl, .tup (s1 _ _ W.rl), rfl, true, rfl, iteF ?_⟩
    refine ⟨_, rfl, ra, rfl, ⟨_, SqT.of (s1 _ _ W.rl)⟩, lcw_tup0 (xs := rrefs rs) (fits hlen) (fun i ys σ H2 => ys = List.replicate i (.bl true) ∧ Same H H2 ∧ ∃ x, σ = [x, some (.ref pa)]) ⟨rfl, s1, _, rfl⟩
      (fun i ys σ H2 _ q => ⟨by rw [q.1]; simp, SqT.of (q.2.1 _ _ W.rl)⟩) ?_ ?_⟩
    · rintro i x ys σ H2 hx ⟨rfl, s2, y, rfl⟩
      obtain ⟨r, hr', rfl⟩ := rowAt_get hx
      have hm := List.mem_of_getElem? hr'
      obtain ⟨g1, g2, g3, g4⟩ := G.rn r.2 (List.mem_map_of_mem hm)
      exact ⟨_, rfl, _, rfl, r.1, pa, r.2, ps, rfl, s2 _ _ (W.rows r hm), s2 _ _ W.pl, g1, g2, g3, g4, fun H3 s3 => ⟨by rw [List.replicate_succ'], s2.trans s3, _, rfl⟩⟩
    · rintro ys σ H2 ⟨rfl, s2, y, rfl⟩ q hqn
      have s3 := same_upd (o := .lst (List.replicate (rrefs rs).length (.bl true))) s2 hqn
      refine ⟨q, List.replicate _ true, rfl, SqL.of (by rw [upd_same, List.map_replicate]), _, rfl, ?_⟩
      have e : ∀ n : Nat, (List.replicate n true).all id = true := by simp
      rw [e]
      refine iteT ⟨_, rfl, ra, rfl, ⟨_, SqT.of (s3 _ _ W.rl)⟩, lcw_tup0 (xs := rrefs rs) (fits hlen) (fun i ys σ H4 => ys = ((rs.take i).map fun r => V.str r.2.1) ∧ Same H H4 ∧ ∃ x, σ = [x]) ⟨rfl, s3, _, rfl⟩
        (fun i ys σ H4 _ q => ⟨by rw [q.1]; simp; omega, SqT.of (q.2.1 _ _ W.rl)⟩) ?_ ?_⟩
      · rintro i x ys σ H4 hx ⟨rfl, s4, z, rfl⟩
        obtain ⟨r, hr', rfl⟩ := rowAt_get hx
        have hm := List.mem_of_getElem? hr'
        exact ⟨_, rfl, rix_of (j := 0) (.inr (SqT.of (s4 _ _ (W.rows r hm)))) rfl rfl ⟨(take_map_succ _ _ _ _ hr').symm, s4, _, rfl⟩⟩
      · rintro ys σ H4 ⟨rfl, s4, z, rfl⟩ q2 hq2
        refine ⟨q2, rs.map (·.2.1), rfl, .inl (SqL.of (by rw [upd_same]; simp)), ?_, by simpa using hlen, fun H5 s5 => k _ ((same_upd s4 hq2).trans s5)⟩
        have := G.rso
        rw [List.map_map] at this
        exact this
end
end K33

set_option Elab.async false
set_option linter.all false
set_option maxRecDepth 100000
set_option maxHeartbeats 4000000
namespace K33
open PySem L2

theorem take_filter_succ {α : Type} (p : α → Bool) (l : List α) (i : Nat) (x : α) (h : l[i]? = some x) : (l.take (i + 1)).filter p = (l.take i).filter p ++ (if p x then [x] else []) := by
  rw [List.take_add_one, h, List.filter_append]
  simp only [Option.toList_some, List.filter_cons, List.filter_nil]
theorem take_all {α : Type} (l : List α) {n : Nat} (h : n = l.length) : l.take n = l := by subst h; exact List.take_length
noncomputable abbrev nms (rs : List (Addr × Row)) : List Str := rs.map (·.2.1)
theorem perm_lift {α β : Type} (f : α → β) : ∀ (l' : List β) (l : List α), l'.Perm (l.map f) → ∃ l'' : List α, l''.Perm l ∧ l''.map f = l'
  | [], l, h => by
    have : l = [] := by simpa using h.length_eq.symm
    subst this
    exact ⟨[], .refl _, rfl⟩
  | b :: t, l, h => by
    obtain ⟨a, ha, rfl⟩ := List.mem_map.mp (h.mem_iff.mp List.mem_cons_self)
    obtain ⟨u, v, rfl⟩ := List.append_of_mem ha
    have h2 : (f a :: t).Perm (f a :: (u ++ v).map f) := by
      refine h.trans ?_
      rw [List.map_append, List.map_cons, List.map_append]
      exact List.perm_middle
    obtain ⟨w, hw, e⟩ := perm_lift f t (u ++ v) h2.cons_inv
    exact ⟨a :: w, (hw.cons a).trans List.perm_middle.symm, by rw [List.map_cons, e]⟩
structure LotP (ps ls : List Str) : Prop where
  ne : ls ≠ []
  nm : ∀ x ∈ ls, NameP x
  so : ls.Pairwise nlt
  sub : ∀ x ∈ ls, x ∈ ps
  z : ls.length ≤ 100
theorem pw_nodup {ss : List Str} (h : ss.Pairwise nlt) : ss.Nodup := h.imp fun {a b} hab e => by
  subst e; exact absurd hab (List.lt_irrefl _)
theorem key_refs (rs : List (Addr × Row)) : refs (rs.map fun r => (r.1, r.2.1)) = rrefs rs := by
  unfold refs rrefs
  rw [List.map_map]
  rfl
section
variable {P : Program} {w : World} {K : PySem.W.Frag} {mg : Str → Option Value} {base : Heap}

theorem sc15 : FnScope ["thing"] ["thing"] (defScope (top 15)) := ⟨rfl, rfl, rfl, by decide +kernel, rfl, by decide +kernel, by decide +kernel⟩
theorem ok_need_web {f : Addr} {fd : FuncData} (F : Fun K "need_web" "need_web" (top 15) f fd) (F1 : Fn P w K mg base 3 "is_web" ["thing"] (spWeb (.bl true))) : FnOk P w K mg base CX0 4 f fd ["thing"] (spWeb .non) := by
  refine F.ok sc15 (fun vs H Q E h => ?_) (fun cdv A outer s H vs Q E hr h => ?_)
  · obtain ⟨v, pa, ra, ps, rs, rfl, _⟩ := h
    rfl
  · obtain ⟨v, pa, ra, ps, rs, rfl, W, G, k⟩ := h
    refine ⟨_, pss_one (ps_if (pt_not (pt_val (pe_fn F1 hr (pa_cons (pv 0) pa_nil)))) pss_never pss_nil), ?_⟩
    exact ⟨_, rfl, v, pa, ra, ps, rs, rfl, W, G, fun H1 s1 => ⟨true, rfl, iteF (k H1 s1)⟩⟩

noncomputable def lead (ls : List Str) (r : Addr × Row) : Bool := decide (r.2.2.2 ∈ ls) && !decide (r.2.2.1 ∈ ls)
noncomputable def spInto : Sp := fun vs H Q _ => ∃ (l : Addr) (r : Addr × Row) (ls : List Str), vs = [.ref r.1, .ref l] ∧ RowAt H r.1 r.2 ∧ H l = some (.tup (ls.map V.str)) ∧ Q (.bl (lead ls r)) H
theorem sc18 : FnScope ["row", "lot"] ["row", "lot"] (defScope (top 18)) := ⟨rfl, rfl, rfl, by decide +kernel, rfl, by decide +kernel, by decide +kernel⟩
theorem ok_leads_into {f : Addr} {fd : FuncData} (F : Fun K "leads_into" "leads_into" (top 18) f fd) : FnOk P w K mg base CX0 1 f fd ["row", "lot"] spInto := by
  refine F.ok sc18 (fun vs H Q E h => ?_) (fun cdv A outer s H vs Q E hr h => ?_)
  · obtain ⟨l, r, ls, rfl, _⟩ := h
    rfl
  · obtain ⟨l, r, ls, rfl, hrow, hl, k⟩ := h
    refine ⟨_, pss_one (ps_ret (pe_and (pe_cmpR op_in_seq (pe_ix ix_seq (pv 0) pe_int (fun _ _ => rfl)) (pv 1) (by with_unfolding_all rfl)) (pe_one (pe_cmpR op_notIn_seq (pe_ix ix_seq (pv 0) pe_int (fun _ _ => rfl)) (pv 1) (by with_unfolding_all rfl))))), ?_⟩
    have hS : Sq K H l (ls.map V.str) := .inr (SqT.of hl)
    refine ⟨_, rfl, rix_of (j := 2) (.inr (SqT.of hrow)) rfl rfl ⟨_, rfl, l, ls.map V.str, rfl, hS, rfl, flat_strs ls, ?_⟩⟩
    have e1 : (inV (.str r.2.2.2) (ls.map V.str)) = decide (r.2.2.2 ∈ ls) := in_strs _ _
    have e2 : (inV (.str r.2.2.1) (ls.map V.str)) = decide (r.2.2.1 ∈ ls) := in_strs _ _
    refine ⟨inV (.str r.2.2.2) (ls.map V.str), rfl, ?_⟩
    rw [e1]
    refine ite2 (fun c => ⟨_, rfl, rix_of (j := 1) (.inr (SqT.of hrow)) rfl rfl ⟨_, rfl, l, ls.map V.str, rfl, hS, rfl, flat_strs ls, ?_⟩⟩) (fun c => ?_)
    · show Q (.bl (!inV (.str r.2.2.1) (ls.map V.str))) H
      rw [e2]
      have : lead ls r = !decide (r.2.2.1 ∈ ls) := by unfold lead; rw [c]; rfl
      rw [← this]; exact k
    · simp only [Bool.not_eq_true] at c
      have : lead ls r = false := by unfold lead; rw [c]; rfl
      rw [this] at k
      first | exact k | (rw [c]; exact k) | skip
noncomputable def spNeedPlace : Sp := fun vs H Q _ => ∃ (v pa ra : Addr) (ps : List Str) (rs : List (Addr × Row)) (x : Str), vs = [.ref v, .str x] ∧ WebAt H v pa ra ps rs ∧ x ∈ ps ∧ Q .non H
theorem sc17 : FnScope ["web", "thing"] ["web", "thing"] (defScope (top 17)) := ⟨rfl, rfl, rfl, by decide +kernel, rfl, by decide +kernel, by decide +kernel⟩
theorem ok_need_place {f : Addr} {fd : FuncData} (F : Fun K "need_place" "need_place" (top 17) f fd) (F1 : Fn P w K mg base 1 "is_among" ["thing", "names"] (spAmong K)) : FnOk P w K mg base CX0 2 f fd ["web", "thing"] spNeedPlace := by
  refine F.ok sc17 (fun vs H Q E h => ?_) (fun cdv A outer s H vs Q E hr h => ?_)
  · obtain ⟨v, pa, ra, ps, rs, x, rfl, _⟩ := h
    rfl
  · obtain ⟨v, pa, ra, ps, rs, x, rfl, W, hx, k⟩ := h
    refine ⟨_, pss_one (ps_if (pt_not (pt_val (pe_fn F1 hr (pa_cons (pv 1) (pa_cons (pe_ix ix_seq (pv 0) pe_int (fun _ _ => rfl)) pa_nil))))) pss_never pss_nil), ?_⟩
    exact ⟨_, rfl, _, rfl, rix_of (j := 0) (.inr (SqT.of W.tp)) rfl rfl ⟨x, pa, ps, rfl, .inr (SqT.of W.pl), _, rfl, iteNS hx k⟩⟩


end
end K33

set_option Elab.async false
set_option linter.all false
set_option maxRecDepth 100000
set_option maxHeartbeats 4000000
namespace K33
open PySem L2
theorem Same.upd0 {H H' : Hp} {q : Addr} {o : HO} (h : Same H H') (hq : H q = none) : Same H (upd H' q o) := fun b ob e => by
  rw [upd_ne (ne_of_none e hq)]; exact h b ob e
theorem lt0 {k : Nat} {A : Around} (r : Room k A) : A.units < cLine := by have := r.un; omega
theorem lt1' {k : Nat} {A : Around} (r : Room k A) : A.units + 1 < cLine := by have := r.un; omega
noncomputable def Pot (H : Hp) (p : Addr) : Prop := ∃ a b, H p = some (.lst [.int a, .int b]) ∧ 0 ≤ b ∧ b < 2147483629
/-- all that was tracked but these is as it was -/
noncomputable def Kp (P : List Addr) (H H' : Hp) : Prop := ∀ b o, H b = some o → b ∉ P → H' b = some o
theorem Kp.refl (P : List Addr) (H : Hp) : Kp P H H := fun _ _ h _ => h
theorem Kp.trans {P : List Addr} {H H1 H2 : Hp} (a : Kp P H H1) (b : Kp P H1 H2) : Kp P H H2 := fun c o h n => b c o (a c o h n) n
theorem Kp.of_same {P : List Addr} {H H1 H2 : Hp} (a : Kp P H H1) (b : Same H1 H2) : Kp P H H2 := fun c o h n => b c o (a c o h n)
theorem Kp.inn {P : List Addr} {H H1 : Hp} {p : Addr} {o : HO} (a : Kp P H H1) (hp : p ∈ P) : Kp P H (upd H1 p o) := fun c ob h n => by rw [upd_ne (show c ≠ p from fun z => n (by rw [z]; exact hp))]; exact a c ob h n
theorem Kp.new {P : List Addr} {H H1 : Hp} {p : Addr} {o : HO} (a : Kp P H H1) (hp : H1 p = none) : Kp P H (upd H1 p o) := fun c ob h n => by rw [upd_ne (ne_of_none (a c ob h n) hp)]; exact a c ob h n
noncomputable def letters : Str := Str.ofString "abcdefghijklmnopqrstuvwxyz"
theorem letters_fin : ∀ r : _root_.Fin 26, letters.cps.toList[r.val]? = some (97 + r.val) := by decide +kernel
theorem letters_at {r : Nat} (h : r < 26) : letters.cps.toList[r]? = some (97 + r) := letters_fin ⟨r, h⟩
theorem letters_fits : letters.length ≤ sizeLine := by decide
theorem join_one (cs : List Nat) : (Txt.join (Str.ofString "") (cs.map fun c => (⟨#[c]⟩ : Str))).cps.toList = cs := by
  have e0 : (Str.ofString "").cps = #[] := by decide
  show (Builtin.Str.glued (Str.ofString "") _).cps.toList = cs
  rw [StrLaws.glued_eq_join]
  induction cs with
  | nil => rfl
  | cons c t ih =>
    cases t with
    | nil => rfl
    | cons d r =>
      show (((⟨#[c]⟩ : Str) ++ Str.ofString "" ++ Str.join (Str.ofString "") ((d :: r).map fun c => (⟨#[c]⟩ : Str))).cps).toList = _
      rw [Str.cps_append, Str.cps_append, e0, Array.toList_append, Array.toList_append, ih]
      rfl
theorem NameP.of_codes {x : Str} {l : List Nat} (e : x.cps.toList = l) (h1 : 1 ≤ l.length) (h8 : l.length ≤ 8) (h : ∀ c ∈ l, 97 ≤ c ∧ c ≤ 122) : NameP x := by
  have hl : x.length = l.length := by rw [← e]; simp [Str.length]
  exact ⟨by omega, by omega, by rw [e]; exact h⟩
theorem pot_ne {H : Hp} {p t : Addr} {ss : List Str} (h1 : Pot H p) (h2 : H t = some (.lst (ss.map V.str))) : t ≠ p := by
  rintro rfl
  obtain ⟨a, b, e, _⟩ := h1
  rw [e] at h2
  have h3 := HO.lst.inj (Option.some.inj h2)
  cases ss with
  | nil => cases h3
  | cons x r => rw [List.map_cons] at h3; cases List.cons.inj h3 |>.1
theorem rising_pw : ∀ (r : List Str) (x : Str), PyProof.Rows.risingS x r = true → (x :: r).Nodup → (x :: r).Pairwise nlt
  | [], x, _, _ => by simp
  | y :: r, x, h, hn => by
    have h' : (!PySem.Spec.ltCps y.cps.toList x.cps.toList && PyProof.Rows.risingS y r) = true := h
    rw [Bool.and_eq_true, PyProof.Rows.ltCps_eq] at h'
    have hn' := List.nodup_cons.mp hn
    have ih := rising_pw r y h'.2 hn'.2
    have hxy : nlt x y := by
      rcases str_tri (fun e => hn'.1 (e ▸ List.mem_cons_self) : x ≠ y) with z | z
      · exact z
      · rw [decide_eq_true z] at h'
        exact absurd h'.1 (by simp)
    refine List.pairwise_cons.mpr ⟨fun z hz => ?_, ih⟩
    rcases List.mem_cons.mp hz with rfl | hz
    · exact hxy
    · exact List.lt_trans hxy ((List.pairwise_cons.mp ih).1 z hz)
theorem sorted_pw {ss : List Str} (h : PyProof.Rows.sortedS ss = true) (hn : ss.Nodup) : ss.Pairwise nlt := by
  cases ss with
  | nil => exact .nil
  | cons x r => exact rising_pw r x h hn
theorem Kp.free {P : List Addr} {H H' : Hp} (k : Kp P H H') (hP : ∀ b ∈ P, ∃ o, H' b = some o) {q : Addr} (hq : H' q = none) : H q = none := by
  cases e : H q with
  | none => rfl
  | some o =>
    by_cases hm : q ∈ P
    · obtain ⟨o', e'⟩ := hP q hm
      rw [hq] at e'; cases e'
    · rw [k q o e hm] at hq; cases hq
theorem Pot.some {H : Hp} {p : Addr} (h : Pot H p) : ∃ o, H p = some o := let ⟨a, b, e, _⟩ := h; ⟨_, e⟩
theorem Pot.keep {H H' : Hp} {p : Addr} (h : Pot H p) (e : ∀ o, H p = Option.some o → H' p = Option.some o) : Pot H' p := let ⟨a, b, q, r⟩ := h; ⟨a, b, e _ q, r⟩
theorem strOk_of {x : Str} (h : NameP x) : PyData.strOk x = true := by
  unfold PyData.strOk
  rw [Array.all_eq_true']
  intro c hc
  have := h.az c (by simpa using hc)
  simp; omega
theorem lay_strs {ss : List Str} (h : ∀ x ∈ ss, NameP x) : PyData.canLayAll0 (ss.map PyData.str) = true ∧ PyData.depthAll (ss.map PyData.str) = 0 := by
  induction ss with
  | nil => exact ⟨rfl, rfl⟩
  | cons x t ih =>
    have := ih fun y hy => h y (List.mem_cons_of_mem _ hy)
    rw [List.map_cons]
    simp only [PyData.canLayAll0, PyData.canLay0, PyData.depthAll, PyData.depth, strOk_of (h x List.mem_cons_self), this.1, this.2]
    exact ⟨rfl, rfl⟩
theorem shaped_strs {ss : List Str} (h : ∀ x ∈ ss, NameP x) : SeqAt.shaped (.list (ss.map PyData.str)) = true ∧ SeqAt.shaped (.tuple (ss.map PyData.str)) = true := by
  have q := lay_strs h
  unfold SeqAt.shaped
  simp only [PyData.canLay0, PyData.depth, q.1, q.2]
  exact ⟨by decide, by decide⟩
theorem eqvAll_strs : ∀ (a b : List Str), PyData.eqvAll (a.map PyData.str) (b.map PyData.str) = decide (a = b)
  | [], [] => by simp [PyData.eqvAll]
  | [], y :: t => by simp [PyData.eqvAll]
  | x :: s, [] => by simp [PyData.eqvAll]
  | x :: s, y :: t => by
    simp only [List.map_cons, PyData.eqvAll, PyData.eqv, eqvAll_strs s t]
    rw [Bool.eq_iff_iff]
    simp

theorem Pot.ne_new {H : Hp} {p q : Addr} (h : Pot H p) (hq : H q = none) : q ≠ p := fun z => by obtain ⟨o, e⟩ := h.some; rw [← z, hq] at e; cases e
theorem Pot.upd {H : Hp} {p q : Addr} {o : HO} (h : Pot H p) (hq : q ≠ p) : Pot (upd H q o) p := h.keep fun ob e => by rw [upd_ne hq.symm]; exact e
theorem Pot.new {H : Hp} {p q : Addr} {o : HO} (h : Pot H p) (hq : H q = none) : Pot (L2.upd H q o) p := h.upd (h.ne_new hq)
theorem Kp.free1 {p q : Addr} {H H1 : Hp} (k : Kp [p] H H1) (hp : Pot H1 p) (hq : H1 q = none) : H q = none := k.free (fun b hb => by
  have e : b = p := by simpa using hb
  subst e; exact hp.some) hq
theorem Kp.at {p b : Addr} {H H1 : Hp} {o : HO} (k : Kp [p] H H1) (hb : b ≠ p) (e : H b = some o) : H1 b = some o := k _ _ e (by simpa using hb)
section
variable {P : Program} {w : World} {K : PySem.W.Frag} {mg : Str → Option Value} {base : Heap}

noncomputable def spPot (K : PySem.W.Frag) : Sp := fun vs H Q _ => ∃ (a : Addr) (ns : List Int) (k : Int), vs = [.ref a, .int k] ∧ SqL K H a (ns.map V.int) ∧ 0 ≤ k ∧ k ≤ 100 ∧ ∀ q H', Same H H' → H q = none → Pot H' q → Q (.ref q) H'
theorem sc33 : FnScope ["_law_script", "_law_k", "_law_cell"] ["_law_script", "_law_k"] (defScope (top 33)) := ⟨rfl, rfl, rfl, by decide +kernel, rfl, by decide +kernel, by decide +kernel⟩
theorem ok_pot {f : Addr} {fd : FuncData} (F : Fun K "_law_pot" "_law_pot" (top 33) f fd) (B : Bl mg) : FnOk P w K mg base CX0 1 f fd ["_law_script", "_law_k"] (spPot K) := by
  refine F.ok sc33 (fun vs H Q E h => ?_) (fun cdv A outer s H vs Q E hr h => ?_)
  · obtain ⟨a, ns, k, rfl, _⟩ := h
    rfl
  · obtain ⟨a, ns, k, rfl, ha, hk, hk2, q⟩ := h
    refine ⟨_, pss_cons (ps_set (i := 2) sc33.nd rfl (Or.inl rfl) (pe_ifExp (pt_cmpR op_lt (pv 1) (pe_callB call_len_seq rfl B.len PySem.boot_len (pa_cons (pv 0) pa_nil)) (nomark _)) (pe_ix ix_seq (pv 0) (pv 1) (fun _ _ => rfl)) pe_int))
      (pss_one (ps_ret (pe_lst (pa_cons (pe_callB (call_max2 rfl) rfl B.max b_max (pa_cons pe_int (pa_cons (pe_op op_sub (pv 2) (pe_op op_pow pe_int pe_int)) pa_nil)))
        (pa_cons (pe_op op_mod (pe_op op_add (pe_op op_add (pe_op op_mul (pv 2) pe_int) (pe_op op_mul pe_int (pv 1))) pe_int) pe_int) pa_nil))))), ?_⟩
    refine ⟨_, rfl, _, rfl, a, _, rfl, .inl ha, _, _, rfl, rfl, _, rfl, ?_⟩
    have tail : ∀ c : Int, ∀ (σ : St), σ = [some (.ref a), some (.int k), some (.int c)] → True := fun _ _ _ => trivial
    refine ite2 (fun c => ?_) (fun c => ?_)
    · have c' : k < ((ns.map V.int).length : Int) := of_decide_eq_true c
      rw [List.length_map] at c'
      have hl : k.toNat < ns.length := by omega
      refine ⟨_, rfl, _, rfl, rix_of (j := k.toNat) (v := .int ns[k.toNat]) (.inl ha) (by omega) (by rw [List.getElem?_map, List.getElem?_eq_getElem hl]; rfl) ?_⟩
      refine ⟨_, rfl, _, _, rfl, rfl, ⟨by decide, by decide, by decide⟩, _, _, rfl, rfl, _, _, rfl, ?_⟩
      refine ⟨_, rfl, _, _, rfl, rfl, .inr ⟨by decide, by decide⟩, _, rfl, _, _, rfl, rfl, .inl ⟨by decide, by decide⟩, _, _, rfl, rfl, _, _, rfl, rfl, _, _, rfl, rfl, by show (0 : Int) < 2147483629; decide, by show 2 ≤ sizeLine; decide, fun l hl => ?_⟩
      exact q l _ (same_upd (Same.refl _) hl) hl ⟨_, _, upd_same, Int.emod_nonneg _ (by decide), Int.emod_lt_of_pos _ (by decide)⟩
    · refine ⟨_, rfl, _, _, rfl, rfl, ⟨by decide, by decide, by decide⟩, _, _, rfl, rfl, _, _, rfl, ?_⟩
      refine ⟨_, rfl, _, _, rfl, rfl, .inr ⟨by decide, by decide⟩, _, rfl, _, _, rfl, rfl, .inl ⟨by decide, by decide⟩, _, _, rfl, rfl, _, _, rfl, rfl, _, _, rfl, rfl, by show (0 : Int) < 2147483629; decide, by show 2 ≤ sizeLine; decide, fun l hl => ?_⟩
      exact q l _ (same_upd (Same.refl _) hl) hl ⟨_, _, upd_same, Int.emod_nonneg _ (by decide), Int.emod_lt_of_pos _ (by decide)⟩

noncomputable def spTake : Sp := fun vs H Q _ => ∃ (p : Addr) (n : Int), vs = [.ref p, .int n] ∧ Pot H p ∧ 0 < n ∧ n < 1000 ∧ ∀ r H', 0 ≤ r → r < n → Pot H' p → Kp [p] H H' → Q (.int r) H'
theorem sc34 : FnScope ["_law_pot_here", "_law_many", "_law_digit"] ["_law_pot_here", "_law_many"] (defScope (top 34)) := ⟨rfl, rfl, rfl, by decide +kernel, rfl, by decide +kernel, by decide +kernel⟩
theorem ok_take {f : Addr} {fd : FuncData} (F : Fun K "_law_take" "_law_take" (top 34) f fd) (B : Bl mg) : FnOk P w K mg base CX0 1 f fd ["_law_pot_here", "_law_many"] spTake := by
  refine F.ok sc34 (fun vs H Q E h => ?_) (fun cdv A outer s H vs Q E hr h => ?_)
  · obtain ⟨p, n, rfl, _⟩ := h
    rfl
  · obtain ⟨p, n, rfl, ⟨a, b, hp, hb0, hb1⟩, hn, hn2, k⟩ := h
    refine ⟨_, pss_cons (ps_if (pt_cmpR op_gt (pe_ix ix_seq (pv 0) pe_int (fun _ _ => rfl)) pe_int (nomark _))
        (pss_cons (ps_asg (pe_callB call_divmod rfl B.divmod b_divmod (pa_cons (pe_ix ix_seq (pv 0) pe_int (fun _ _ => rfl)) (pa_cons (pv 1) pa_nil))) (pg_tup rfl (n := 2) (pgs_cons (pg_sub (pv 0) pe_int set_list) (pgs_cons (pg_name (i := 2) sc34.nd rfl (Or.inl rfl)) pgs_nil))))
          (pss_one (ps_ret (pv 2)))) pss_nil)
      (pss_cons (ps_asg (pe_op op_mod (pe_op op_add (pe_op op_mul (pe_ix ix_seq (pv 0) pe_int (fun _ _ => rfl)) pe_int) pe_int) pe_int) (pg_sub (pv 0) pe_int set_list))
      (pss_one (ps_ret (pe_op op_mod (pe_op op_fdiv (pe_op op_mod (pe_op op_mul (pe_ix ix_seq (pv 0) pe_int (fun _ _ => rfl)) (pe_ix ix_seq (pv 0) pe_int (fun _ _ => rfl))) pe_int) pe_int) (pv 1))))), ?_⟩
    have hS : Sq K H p [.int a, .int b] := .inl (SqL.of hp)
    refine ⟨_, rfl, rix_of (j := 0) hS rfl rfl ⟨_, _, rfl, rfl, _, rfl, ?_⟩⟩
    refine ite2 (fun c => ?_) (fun c => ?_)
    · refine ⟨_, rfl, rix_of (j := 0) hS rfl rfl ⟨_, rfl, _, _, rfl, ⟨hn, by omega⟩, fun t ht => ?_⟩⟩
      have ntp : p ≠ t := ne_of_none hp ht
      refine ⟨t, _, rfl, SqT.of upd_same, rfl, _, _, rfl, _, rfl, p, [.int a, .int b], _, 0, rfl, rfl, by rw [upd_ne ntp]; exact hp, rfl, ?_⟩
      refine ⟨_, _, rfl, rfl, _, rfl, k _ _ (Int.emod_nonneg _ (by omega)) (Int.emod_lt_of_pos _ hn) ⟨_, _, upd_same, hb0, hb1⟩ (((Kp.refl _ _).new ht).inn (by simp))⟩
    · refine ⟨_, rfl, rix_of (j := 1) hS rfl rfl ⟨_, _, rfl, rfl, .inl ⟨by omega, by omega⟩, _, _, rfl, rfl, _, _, rfl, rfl, by show (0 : Int) < 2147483587; decide, _, rfl, p, [.int a, .int b], _, 1, rfl, rfl, hp, rfl, ?_⟩⟩
      have m0 : 0 ≤ (b * 39373 + 6007) % 2147483587 := Int.emod_nonneg _ (by decide)
      have m1 : (b * 39373 + 6007) % 2147483587 < 2147483587 := Int.emod_lt_of_pos _ (by decide)
      have hS2 : Sq K (upd H p (.lst ([V.int a, V.int b].set 1 (.int ((b * 39373 + 6007) % 2147483587))))) p [.int a, .int ((b * 39373 + 6007) % 2147483587)] := .inl (SqL.of upd_same)
      refine ⟨_, rfl, rix_of (j := 1) hS2 rfl rfl ⟨_, rfl, rix_of (j := 1) hS2 rfl rfl ⟨_, _, rfl, rfl, .inl ⟨by omega, by omega⟩, _, _, rfl, rfl, by show (0 : Int) < 2147483563; decide, _, _, rfl, rfl, ⟨by decide, by decide⟩, _, rfl, _, _, rfl, rfl, hn, ?_⟩⟩⟩
      exact k _ _ (Int.emod_nonneg _ (by omega)) (Int.emod_lt_of_pos _ hn) ⟨_, _, upd_same, m0, by omega⟩ ((Kp.refl _ _).inn (by simp))
end
end K33

set_option Elab.async false
set_option linter.all false
set_option maxRecDepth 100000
set_option maxHeartbeats 4000000
namespace K33
open PySem L2
theorem slice_mem (x : Str) (j : Int) : ∀ c ∈ (Txt.slice x none (some j)).cps.toList, c ∈ x.cps.toList := by
  intro c hc
  unfold Txt.slice at hc
  split at hc
  · exact hc
  · simp only [List.mem_filterMap] at hc
    obtain ⟨i, _, e⟩ := hc
    simpa using Array.mem_of_getElem? e
noncomputable def tlc (f w : Nat) (big : Bool) (j : Nat) : List Nat := if big = true then [97 + (f + w * j) % 26, 97 + (f + j / 26) % 26] else [97 + (f + w * j) % 26]
theorem tlc_len (f w : Nat) (big : Bool) (j : Nat) : (tlc f w big j).length = if big = true then 2 else 1 := by unfold tlc; split <;> rfl
theorem tlc_mem (f w : Nat) (big : Bool) (j : Nat) : ∀ c ∈ tlc f w big j, 97 ≤ c ∧ c ≤ 122 := by
  intro c hc
  unfold tlc at hc
  split at hc
  · simp at hc; omega
  · simp at hc; omega
theorem step_inj {f w i j : Nat} (hw : w ∈ [1, 3, 5, 7, 9, 11]) (h : (f + w * i) % 26 = (f + w * j) % 26) : i % 26 = j % 26 := by
  simp only [List.mem_cons, List.not_mem_nil, or_false] at hw
  rcases hw with rfl | rfl | rfl | rfl | rfl | rfl <;> omega
theorem tlc_inj {f w : Nat} {big : Bool} {i j : Nat} (hw : w ∈ [1, 3, 5, 7, 9, 11]) (hi : i < 60) (hj : j < 60) (hb : big = false → i < 26 ∧ j < 26) (h : tlc f w big i = tlc f w big j) : i = j := by
  unfold tlc at h
  cases big with
  | true =>
    simp at h
    have := step_inj hw h.1
    omega
  | false =>
    simp at h
    have := step_inj hw h
    obtain ⟨a, b⟩ := hb rfl
    omega
/-- the names that were drawn -/
structure Drawn (f w : Nat) (big : Bool) (ns : List Str) : Prop where
  at' : ∀ (j : Nat) (x : Str), ns[j]? = some x → ∃ u : List Nat, x.cps.toList = u ++ tlc f w big j ∧ u.length ≤ 6 ∧ ∀ c ∈ u, 97 ≤ c ∧ c ≤ 122
theorem Drawn.name {f w : Nat} {big : Bool} {ns : List Str} (D : Drawn f w big ns) : ∀ x ∈ ns, NameP x := fun x hx => by
  obtain ⟨j, hj⟩ := List.getElem?_of_mem hx
  obtain ⟨u, e, hu, hc⟩ := D.at' j x hj
  have hl := tlc_len f w big j
  refine NameP.of_codes e ?_ ?_ fun c hm => ?_
  · rw [List.length_append, hl]; split <;> omega
  · rw [List.length_append, hl]; split <;> omega
  · rcases List.mem_append.mp hm with z | z
    · exact hc c z
    · exact tlc_mem f w big j c z
theorem Drawn.nodup {f w : Nat} {big : Bool} {ns : List Str} (D : Drawn f w big ns) (hw : w ∈ [1, 3, 5, 7, 9, 11]) (hz : ns.length < 60) (hb : big = false → ns.length ≤ 26) : ns.Nodup := by
  refine List.pairwise_iff_getElem.mpr fun i j hi hj hij e => ?_
  obtain ⟨u, e1, _, _⟩ := D.at' i ns[i] (List.getElem?_eq_getElem hi)
  obtain ⟨u', e2, _, _⟩ := D.at' j ns[j] (List.getElem?_eq_getElem hj)
  rw [e, e2] at e1
  have hl : (tlc f w big j).length = (tlc f w big i).length := by rw [tlc_len, tlc_len]
  have q := (List.append_inj' e1 hl).2
  have := tlc_inj hw (by omega) (by omega) (fun c => by have := hb c; omega) q
  omega
theorem Drawn.add {f w : Nat} {big : Bool} {ns : List Str} {x : Str} {u : List Nat} (D : Drawn f w big ns) (e : x.cps.toList = u ++ tlc f w big ns.length) (hu : u.length ≤ 6) (hc : ∀ c ∈ u, 97 ≤ c ∧ c ≤ 122) : Drawn f w big (ns ++ [x]) := by
  refine ⟨fun j y hj => ?_⟩
  by_cases h : j < ns.length
  · rw [List.getElem?_append_left h] at hj
    exact D.at' j y hj
  · rw [List.getElem?_append_right (by omega)] at hj
    have hj0 : j - ns.length = 0 := by
      have := (List.getElem?_eq_some_iff.mp hj).1
      simp at this
      omega
    rw [hj0] at hj
    have ey : x = y := by simpa using hj
    subst ey
    have ej : j = ns.length := by omega
    subst ej
    exact ⟨u, e, hu, hc⟩
theorem push_codes (x : Str) (c : Nat) : (x ++ (⟨#[c]⟩ : Str)).cps.toList = x.cps.toList ++ [c] := by
  rw [Str.cps_append, Array.toList_append]
section
variable {P : Program} {w : World} {K : PySem.W.Frag} {mg : Str → Option Value} {base : Heap}
noncomputable def spNames : Sp := fun vs H Q _ => ∃ (p : Addr) (m : Nat), vs = [.ref p, .int m] ∧ Pot H p ∧ m ≤ 40 ∧
  ∀ (q : Addr) (ns : List Str) (H' : Hp), Pot H' p → H' q = some (.lst (ns.map V.str)) → H q = none → (∀ x ∈ ns, NameP x) → ns.Nodup → ns.length = m → Kp [p] H H' → Q (.ref q) H'
noncomputable abbrev N35 : List Str := ["_law_pot_here", "_law_many", "_law_letters", "_law_ahead", "_law_first", "_law_wide", "_law_found", "_law_k", "_law_name"]
theorem sc35 : FnScope N35 ["_law_pot_here", "_law_many"] (defScope (top 35)) := ⟨rfl, rfl, rfl, by decide +kernel, rfl, by decide +kernel, by decide +kernel⟩
theorem ok_names {f : Addr} {fd : FuncData} (F : Fun K "_law_names" "_law_names" (top 35) f fd) (B : Bl mg) (Ft : Fn P w K mg base 1 "_law_take" ["_law_pot_here", "_law_many"] spTake) : FnOk P w K mg base CX0 2 f fd ["_law_pot_here", "_law_many"] spNames := by
  refine F.ok sc35 (fun vs H Q E h => ?_) (fun cdv A outer s H vs Q E hr h => ?_)
  · obtain ⟨p, m, rfl, _⟩ := h
    rfl
  · obtain ⟨p, m, rfl, hp, hm, k⟩ := h
    refine ⟨_, pss_cons (ps_set (i := 2) sc35.nd rfl (Or.inr rfl) pe_str)
      (pss_cons (ps_set (i := 3) sc35.nd rfl (Or.inl rfl) (pe_bm PySem.F.plainAttrs_str PySem.F.slot_str_join PySem.F.type_str_join mt_join pe_str (pa_cons (pe_lc (N := ["_law_k", "_law_letters", "_law_pot_here"]) (ix := [none, some 2, some 0]) ⟨rfl, rfl, rfl, by decide⟩ rfl
        (pi_range1 rfl B.range (pa_cons (pe_ix ix_seq (pe_lst (pa_cons pe_int (pa_cons pe_int (pa_cons pe_int (pa_cons pe_int pa_nil))))) (pe_fn Ft hr (pa_cons (pv 0) (pa_cons pe_int pa_nil))) (fun _ _ => rfl)) pa_nil)) (fun _ _ _ _ => pg_lc 0 (by decide) rfl rfl) (fun _ _ _ _ => pts_nil)
        (fun _ _ _ _ => pe_ix (ix_seqK K) (pv 1) (pe_fn Ft hr (pa_cons (pv 2) (pa_cons pe_int pa_nil))) (fun _ _ => rfl))) pa_nil)))
      (pss_cons (ps_par (i := 4) (j := 5) rfl sc35.nd rfl rfl (by decide) rfl rfl (pa_cons (pe_fn Ft hr (pa_cons (pv 0) (pa_cons pe_int pa_nil))) (pa_cons (pe_ix ix_seq (pe_lst (pa_cons pe_int (pa_cons pe_int (pa_cons pe_int (pa_cons pe_int (pa_cons pe_int (pa_cons pe_int pa_nil))))))) (pe_fn Ft hr (pa_cons (pv 0) (pa_cons pe_int pa_nil))) (fun _ _ => rfl)) pa_nil)) rfl)
      (pss_cons (ps_set (i := 6) sc35.nd rfl (Or.inl rfl) (pe_lst pa_nil))
      (pss_cons (ps_for PassesOwn.never rfl (pi_range1 rfl B.range (pa_cons (pv 1) pa_nil)) (pg_name (i := 7) sc35.nd rfl (Or.inl rfl))
        (pss_cons (ps_set (i := 8) sc35.nd rfl (Or.inl rfl) (pe_op op_add_str (pe_slice sl_str (pv 3) po_none (po_some (pe_fn Ft hr (pa_cons (pv 0) (pa_cons (pe_op op_add (pe_callB call_len_str rfl B.len PySem.boot_len (pa_cons (pv 3) pa_nil)) pe_int) pa_nil)))))
          (pe_ix ix_seq (pv 2) (pe_op op_mod (pe_op op_add (pv 4) (pe_op op_mul (pv 5) (pv 7))) pe_int) (fun _ _ => rfl))))
        (pss_cons (ps_if (pt_cmpR op_gt (pv 1) pe_int (nomark _)) (pss_one (ps_set (i := 8) sc35.nd rfl (Or.inl rfl) (pe_op op_add_str (pv 8) (pe_ix ix_seq (pv 2) (pe_op op_mod (pe_op op_add (pv 4) (pe_op op_fdiv (pv 7) pe_int)) pe_int) (fun _ _ => rfl))))) pss_nil)
        (pss_one (ps_expr (pe_bm PySem.F.plainAttrs_list PySem.F.slot_list_append PySem.F.type_list_append mt_append (pv 6) (pa_cons (pv 8) pa_nil)))))))
      (pss_one (ps_ret (pv 6))))))), ?_⟩
    -- the letters ahead
    refine ⟨rfl, by show 4 ≤ sizeLine; decide, fun l4 hl4 => ?_⟩
    have P0 := hp.new (o := .lst [.int 0, .int 0, .int 1, .int 6]) hl4
    have K0 := (Kp.refl [p] H).new (o := .lst [.int 0, .int 0, .int 1, .int 6]) hl4
    have L0 : upd H l4 (.lst [.int 0, .int 0, .int 1, .int 6]) l4 = some (.lst [.int 0, .int 0, .int 1, .int 6]) := upd_same
    have nl4 := hp.ne_new hl4
    generalize upd H l4 (.lst [.int 0, .int 0, .int 1, .int 6]) = H0 at P0 K0 L0 ⊢
    refine ⟨_, rfl, p, 4, rfl, P0, by decide, by decide, fun r1 H1 a0 a1 P1 K1 => ?_⟩
    have L1 := K1.at nl4 L0
    have hm1 : ∃ c : Int, ([V.int 0, V.int 0, V.int 1, V.int 6] : List V)[r1.toNat]? = some (.int c) ∧ 0 ≤ c ∧ c ≤ 6 := by
      have : r1 = 0 ∨ r1 = 1 ∨ r1 = 2 ∨ r1 = 3 := by omega
      rcases this with rfl | rfl | rfl | rfl
      · exact ⟨0, rfl, by decide, by decide⟩
      · exact ⟨0, rfl, by decide, by decide⟩
      · exact ⟨1, rfl, by decide, by decide⟩
      · exact ⟨6, rfl, by decide, by decide⟩
    obtain ⟨c, hc, c0, c6⟩ := hm1
    refine rix_of (j := r1.toNat) (.inl (SqL.of L1)) (by omega) hc ⟨_, rfl, by omega, by omega, ?_⟩
    have K01 := K0.trans K1
    refine lcw_range0 (fits (by omega)) (fun i ys σ H3 => (∃ cs : List Nat, cs.length = i ∧ (∀ c ∈ cs, 97 ≤ c ∧ c ≤ 122) ∧ ys = cs.map fun c => V.str ⟨#[c]⟩) ∧ Pot H3 p ∧ Kp [p] H H3 ∧ ∃ x, σ = [x, some (.str letters), some (.ref p)])
      ⟨⟨[], rfl, by simp, rfl⟩, P1, K01, _, rfl⟩ (fun i ys σ H3 _ q => by obtain ⟨⟨cs, rfl, _, rfl⟩, _⟩ := q; simp) ?_ ?_
    · rintro i ys σ H3 hi ⟨⟨cs, rfl, hcs, rfl⟩, P3, K3, v, rfl⟩
      refine ⟨_, rfl, _, rfl, p, 26, rfl, P3, by decide, by decide, fun r H4 r0 r1 P4 K4 => .inr (.inr ⟨letters, r, 97 + r.toNat, rfl, rfl, letters_fits, atI_at (j := r.toNat) (by omega) (letters_at (by omega)), ⟨cs ++ [97 + r.toNat], by simp, fun c hc => ?_, by simp⟩, P4, K3.trans K4, _, rfl⟩)⟩
      rcases List.mem_append.mp hc with z | z
      · exact hcs c z
      · simp at z
        omega
    rintro ys σ H3 ⟨⟨cs, hlen, hcs, rfl⟩, P3, K3, v, rfl⟩ q hq
    have hx : (Txt.join (Str.ofString "") (cs.map fun c => (⟨#[c]⟩ : Str))).cps.toList = cs := join_one cs
    have hmap : (cs.map fun c => V.str ⟨#[c]⟩) = (cs.map fun c => (⟨#[c]⟩ : Str)).map V.str := by rw [List.map_map]; rfl
    refine ⟨Str.ofString "", q, cs.map fun c => (⟨#[c]⟩ : Str), rfl, rfl, SqL.of (by rw [upd_same, hmap]), ?_, ?_⟩
    · have hs : ∀ l : List Nat, ((l.map fun c => (⟨#[c]⟩ : Str)).map (·.length)).sum = l.length := fun l => by
        induction l with
        | nil => rfl
        | cons c r ih => simp only [List.map_cons, List.sum_cons, ih, List.length_cons]; show 1 + r.length = _; omega
      have e0 : (Str.ofString "").length = 0 := by decide
      rw [hs, e0]
      omega
    have hah : (Txt.join (Str.ofString "") (cs.map fun c => (⟨#[c]⟩ : Str))).length ≤ 6 := by
      have : (Txt.join (Str.ofString "") (cs.map fun c => (⟨#[c]⟩ : Str))).length = cs.length := by rw [← congrArg List.length hx]; simp [Str.length]
      omega
    have hac : ∀ d ∈ (Txt.join (Str.ofString "") (cs.map fun c => (⟨#[c]⟩ : Str))).cps.toList, 97 ≤ d ∧ d ≤ 122 := by rw [hx]; exact hcs
    generalize Txt.join (Str.ofString "") (cs.map fun c => (⟨#[c]⟩ : Str)) = ah at hah hac ⊢
    have P4 := P3.new (o := .lst (cs.map fun c => V.str ⟨#[c]⟩)) hq
    have K4 := K3.new (o := .lst (cs.map fun c => V.str ⟨#[c]⟩)) hq
    generalize upd H3 q (.lst (cs.map fun c => V.str ⟨#[c]⟩)) = H4 at P4 K4 ⊢
    -- first, wide
    refine ⟨_, rfl, p, 26, rfl, P4, by decide, by decide, fun ft H5 f0 f1 P5 K5 => ?_⟩
    refine ⟨by show 6 ≤ sizeLine; decide, fun l6 hl6 => ?_⟩
    have P6 := P5.new (o := .lst [.int 1, .int 3, .int 5, .int 7, .int 9, .int 11]) hl6
    have K6 := (K4.trans K5).new (o := .lst [.int 1, .int 3, .int 5, .int 7, .int 9, .int 11]) hl6
    have L6 : upd H5 l6 (.lst [.int 1, .int 3, .int 5, .int 7, .int 9, .int 11]) l6 = some (.lst [.int 1, .int 3, .int 5, .int 7, .int 9, .int 11]) := upd_same
    have nl6 := P5.ne_new hl6
    generalize upd H5 l6 (.lst [.int 1, .int 3, .int 5, .int 7, .int 9, .int 11]) = H6 at P6 K6 L6 ⊢
    refine ⟨_, rfl, p, 6, rfl, P6, by decide, by decide, fun r6 H7 g0 g1 P7 K7 => ?_⟩
    have L7 := K7.at nl6 L6
    have hw : ∃ c : Nat, ([V.int 1, V.int 3, V.int 5, V.int 7, V.int 9, V.int 11] : List V)[r6.toNat]? = some (.int c) ∧ c ∈ [1, 3, 5, 7, 9, 11] := by
      have : r6 = 0 ∨ r6 = 1 ∨ r6 = 2 ∨ r6 = 3 ∨ r6 = 4 ∨ r6 = 5 := by omega
      rcases this with rfl | rfl | rfl | rfl | rfl | rfl
      · exact ⟨1, rfl, by decide⟩
      · exact ⟨3, rfl, by decide⟩
      · exact ⟨5, rfl, by decide⟩
      · exact ⟨7, rfl, by decide⟩
      · exact ⟨9, rfl, by decide⟩
      · exact ⟨11, rfl, by decide⟩
    obtain ⟨wd, hwd, hwm⟩ := hw
    have hw11 : wd ≤ 11 := by
      simp only [List.mem_cons, List.not_mem_nil, or_false] at hwm
      omega
    refine rix_of (j := r6.toNat) (.inl (SqL.of L7)) (by omega) hwd ⟨_, _, rfl, ?_⟩
    have P8 := P7
    have K8 := K6.trans K7
    clear P7 K7 L7 P6 K6 L6
    revert H7
    intro H8 P8 K8
    obtain ⟨fn, rfl⟩ := Int.eq_ofNat_of_zero_le f0
    have hfn : fn < 26 := by omega
    refine ⟨Nat.zero_le _, fun fo hfo => ?_⟩
    have fo0 : H fo = none := K8.free1 P8 hfo
    have nfp := P8.ne_new hfo
    have P9 := P8.new (o := .lst []) hfo
    have K9 := K8.new (o := .lst []) hfo
    have F9 : upd H8 fo (.lst []) fo = some (.lst ((([] : List Str)).map V.str)) := upd_same
    generalize upd H8 fo (.lst []) = H9 at P9 K9 F9 ⊢
    refine ⟨_, rfl, _, rfl, by omega, by omega, for_range (fun i σ H1 => ∃ (ns : List Str) (g1 g2 : Option V), σ = [some (.ref p), some (.int m), some (.str letters), some (.str ah), some (.int fn), some (.int wd), some (.ref fo), g1, g2] ∧ Pot H1 p ∧ H1 fo = some (.lst (ns.map V.str)) ∧ ns.length = i ∧ Drawn fn wd (decide (26 < m)) ns ∧ Kp [p] H H1)
      ⟨[], none, none, rfl, P9, F9, rfl, ⟨fun j x hj => by simp at hj⟩, K9⟩ ?_ ?_⟩
    · rintro i σ H1 hi ⟨ns, g1, g2, rfl, P1, F1, hl, D, K1⟩
      have him : i < m := by omega
      refine ⟨_, rfl, _, rfl, _, rfl, ah, rfl, by rw [sizeLine_eq]; omega, _, _, rfl, rfl, p, _, rfl, P1, by omega, by omega, fun r H2 r0 r1 P2 K2 => ?_⟩
      have F2 := K2.at nfp F1
      have K12 := K1.trans K2
      have hsl : (Txt.slice ah none (some r)).length ≤ 6 := Nat.le_trans (Txt.slice_le ah _ _) hah
      have hsc : ∀ d ∈ (Txt.slice ah none (some r)).cps.toList, 97 ≤ d ∧ d ≤ 122 := fun d hd => hac d (slice_mem ah r d hd)
      have hsn : (Txt.slice ah none (some r)).cps.toList.length ≤ 6 := by simpa [Str.length] using hsl
      refine ⟨_, rfl, ah, rfl, by rw [sizeLine_eq]; omega, ?_⟩
      generalize Txt.slice ah none (some r) = sl at hsl hsc hsn ⊢
      have hidx : (((fn : Nat) : Int) + ((wd : Nat) : Int) * (0 + (i : Int))) % 26 = (((fn + wd * i) % 26 : Nat) : Int) := by push_cast; rw [Int.zero_add]
      have hidx2 : (((fn : Nat) : Int) + (0 + (i : Int)) / 26) % 26 = (((fn + i / 26) % 26 : Nat) : Int) := by push_cast; rw [Int.zero_add]
      refine ⟨_, rfl, _, rfl, _, rfl, _, rfl, _, _, rfl, rfl, .inl ⟨by omega, by omega⟩, _, _, rfl, rfl, _, _, rfl, rfl, by show (0 : Int) < 26; decide, ?_⟩
      refine .inr (.inr ⟨letters, _, 97 + (fn + wd * i) % 26, rfl, rfl, letters_fits, atI_at (j := (fn + wd * i) % 26) hidx (letters_at (Nat.mod_lt _ (by decide))), _, _, rfl, rfl, by rw [sizeLine_eq]; show sl.length + 1 ≤ _; omega, ?_⟩)
      have hlen1 : (sl ++ (⟨#[97 + (fn + wd * i) % 26]⟩ : Str)).length = sl.length + 1 := by rw [Str.length_append]; rfl
      refine ⟨_, rfl, _, _, rfl, rfl, _, rfl, ?_⟩
      refine ite2 (fun c => ?_) (fun c => ?_)
      · have c' : 26 < m := by have := of_decide_eq_true c; omega
        refine ⟨_, rfl, _, rfl, _, rfl, _, rfl, _, _, rfl, rfl, ⟨by decide, by decide⟩, _, _, rfl, rfl, _, _, rfl, rfl, by show (0 : Int) < 26; decide, ?_⟩
        refine .inr (.inr ⟨letters, _, 97 + (fn + i / 26) % 26, rfl, rfl, letters_fits, atI_at (j := (fn + i / 26) % 26) hidx2 (letters_at (Nat.mod_lt _ (by decide))), _, _, rfl, rfl, by rw [hlen1, sizeLine_eq]; show sl.length + 1 + 1 ≤ _; omega, ?_⟩)
        refine ⟨_, rfl, .inl ⟨rfl, _, SqL.of F2⟩, _, rfl, fo, ns.map V.str, _, rfl, rfl, F2, by rw [List.length_map]; exact fits (by omega), ?_⟩
        refine ⟨ns ++ [sl ++ (⟨#[97 + (fn + wd * i) % 26]⟩ : Str) ++ (⟨#[97 + (fn + i / 26) % 26]⟩ : Str)], _, _, rfl, P2.upd nfp, by rw [upd_same, List.map_append]; rfl, by simp [hl], ?_, fun b o e nb => by rw [upd_ne (ne_of_none e fo0)]; exact K12 b o e nb⟩
        refine D.add (u := sl.cps.toList) ?_ hsn hsc
        rw [push_codes, push_codes, hl]
        unfold tlc
        rw [if_pos (decide_eq_true c')]
        simp
      · have c' : ¬ 26 < m := by simp only [decide_eq_true_eq] at c; omega
        refine ⟨_, rfl, .inl ⟨rfl, _, SqL.of F2⟩, _, rfl, fo, ns.map V.str, _, rfl, rfl, F2, by rw [List.length_map]; exact fits (by omega), ?_⟩
        refine ⟨ns ++ [sl ++ (⟨#[97 + (fn + wd * i) % 26]⟩ : Str)], _, _, rfl, P2.upd nfp, by rw [upd_same, List.map_append]; rfl, by simp [hl], ?_, fun b o e nb => by rw [upd_ne (ne_of_none e fo0)]; exact K12 b o e nb⟩
        refine D.add (u := sl.cps.toList) ?_ hsn hsc
        rw [push_codes, hl]
        unfold tlc
        rw [if_neg (by simpa using c')]
    · rintro σ H1 ⟨ns, g1, g2, rfl, P1, F1, hl, D, K1⟩
      have hl' : ns.length = m := by omega
      exact ⟨_, rfl, k fo ns H1 P1 F1 fo0 D.name (D.nodup hwm (by omega) (fun c => by have := of_decide_eq_false c; omega)) hl' K1⟩
end
end K33

set_option Elab.async false
set_option linter.all false
set_option maxRecDepth 100000
set_option maxHeartbeats 4000000
namespace K33
open PySem L2 PySem.Spec PyProof.Rows
/-! ### all parts of a row of names, in order -/
theorem snoc_ind {P : List Str → Prop} (h0 : P []) (hs : ∀ l x, P l → P (l ++ [x])) : ∀ l, P l := by
  have q : ∀ (l pre : List Str), P pre → P (pre ++ l) := by
    intro l
    induction l with
    | nil => intro pre hp; simpa using hp
    | cons x r ih =>
      intro pre hp
      have := ih (pre ++ [x]) (hs pre x hp)
      simpa using this
  intro l
  simpa using q l [] h0
noncomputable def subs (ps : List Str) : List (List Str) := ps.foldl (fun f p => f ++ f.map fun l => l ++ [p]) [[]]
theorem subs_snoc (ps : List Str) (p : Str) : subs (ps ++ [p]) = subs ps ++ (subs ps).map fun l => l ++ [p] := by
  unfold subs
  rw [List.foldl_append]
  rfl
theorem subs_cons : ∀ ps : List Str, ∃ r, subs ps = [] :: r := snoc_ind ⟨[], rfl⟩ fun l x h => by
  obtain ⟨r, e⟩ := h
  rw [subs_snoc, e]
  exact ⟨_, rfl⟩
theorem subs_len : ∀ ps : List Str, (subs ps).length = 2 ^ ps.length := snoc_ind rfl fun l x h => by
  rw [subs_snoc, List.length_append, List.length_map, h, List.length_append, List.length_singleton, Nat.pow_succ]
  omega
theorem subs_sub : ∀ ps : List Str, ∀ l ∈ subs ps, l.Sublist ps := snoc_ind (fun l h => by
    have e : l = [] := by simpa [subs] using h
    subst e; exact List.Sublist.refl _) fun ps x h l hl => by
  rw [subs_snoc] at hl
  rcases List.mem_append.mp hl with z | z
  · exact (h l z).trans (List.sublist_append_left _ _)
  · obtain ⟨m, hm, rfl⟩ := List.mem_map.mp z
    exact (h m hm).append (List.Sublist.refl _)
theorem subs_nodup : ∀ ps : List Str, ps.Nodup → (subs ps).Nodup := snoc_ind (fun _ => by simp [subs]) fun ps x h hn => by
  have hn' := List.nodup_append.mp hn
  have hx : x ∉ ps := fun z => hn'.2.2 x z x (by simp) rfl
  have ih := h hn'.1
  rw [subs_snoc]
  refine List.nodup_append.mpr ⟨ih, ?_, fun a ha b hb => ?_⟩
  · exact List.pairwise_map.mpr (ih.imp fun {a b} hab z => hab (List.append_cancel_right z))
  · obtain ⟨m, hm, rfl⟩ := List.mem_map.mp hb
    intro z
    exact hx ((subs_sub ps a ha).subset (by rw [z]; simp))
noncomputable def lotsOf (ps : List Str) : List (List Str) := (subs ps).tail
theorem subs_eq (ps : List Str) : subs ps = [] :: lotsOf ps := by
  obtain ⟨r, e⟩ := subs_cons ps
  unfold lotsOf
  rw [e]; rfl
theorem lots_nodup {ps : List Str} (h : ps.Nodup) : (lotsOf ps).Nodup := by
  have q := subs_nodup ps h
  rw [subs_eq] at q
  exact (List.nodup_cons.mp q).2
theorem lots_len (ps : List Str) : (lotsOf ps).length + 1 = 2 ^ ps.length := by
  have q := subs_len ps
  rw [subs_eq] at q
  simpa using q
theorem lots_sub {ps l : List Str} (h : l ∈ lotsOf ps) : l.Sublist ps := subs_sub ps l (by rw [subs_eq]; exact List.mem_cons_of_mem _ h)
theorem pow_le {n : Nat} (h : n ≤ 8) : 2 ^ n ≤ 256 := by
  have := Nat.pow_le_pow_right (show 0 < 2 by decide) h
  simpa using this
/-! ### the best -/
theorem best_lt (bt : Nat → Nat → Bool) : ∀ k, argBest bt k ≤ k
  | 0 => Nat.le_refl _
  | k + 1 => by
    unfold argBest
    split
    · exact Nat.le_refl _
    · exact Nat.le_succ_of_le (best_lt bt k)
theorem best_min (bt : Nat → Nat → Bool) (c : Nat → Int) (h1 : ∀ i j, bt i j = true → c i ≤ c j) (h2 : ∀ i j, bt i j = false → c j ≤ c i) : ∀ k j, j ≤ k → c (argBest bt k) ≤ c j
  | 0, j, hj => by
    have e : j = 0 := by omega
    subst e; exact Int.le_refl _
  | k + 1, j, hj => by
    have ih := best_min bt c h1 h2 k
    unfold argBest
    cases e : bt (k + 1) (argBest bt k) with
    | true =>
      rw [if_pos rfl]
      have q := h1 _ _ e
      by_cases hk : j = k + 1
      · subst hk; exact Int.le_refl _
      · exact Int.le_trans q (ih j (by omega))
    | false =>
      rw [if_neg Bool.false_ne_true]
      have q := h2 _ _ e
      by_cases hk : j = k + 1
      · subst hk; exact q
      · exact ih j (by omega)
/-! ### comparing lots, pairs of a number and a lot -/
noncomputable def cmpS (ss ts : List Str) : List (Bool × Bool) := (ss.zip ts).map fun p => (p.1 == p.2, decide (p.1.cps.toList < p.2.cps.toList))
theorem cmp_strs {A : Around} {s : Shared} : ∀ {vs ws : List Value} {ss ts : List Str}, StrsAre vs ss → StrsAre ws ts → CmpAll A s (vs.zip ws) (cmpS ss ts)
  | _, _, _, _, .nil, _ => by
    rw [List.zip_nil_left]
    unfold cmpS
    rw [List.zip_nil_left]
    exact .nil
  | _, _, _, _, .cons x t h, .nil => by
    rw [List.zip_nil_right]
    unfold cmpS
    rw [List.zip_nil_right]
    exact .nil
  | _, _, _, _, .cons x t h, .cons y u g => by
    rw [List.zip_cons_cons]
    exact .cons (SeqAt.EqAt.str_str x t y u) (fun _ prog w E Q q => (PySem.P.lt_str (by simpa using q) : wpAny (model prog w) A (compareOp .Lt (.str x t) (.str y u)) Q E s)) (cmp_strs h g)
noncomputable abbrev Pl := Addr × Int × Addr × List Str
noncomputable abbrev plrefs (prs : List Pl) : List V := prs.map fun x => V.ref x.1
noncomputable def ltP (x y : Int × List Str) : Bool := lexC false [(x.1 == y.1, decide (x.1 < y.1)), (decide (x.2 = y.2), lexC (decide (x.2.length < y.2.length)) (cmpS x.2 y.2))]
theorem ltP_le {x y : Int × List Str} : (ltP x y = true → x.1 ≤ y.1) ∧ (ltP x y = false → y.1 ≤ x.1) := by
  unfold ltP
  by_cases e : x.1 = y.1
  · rw [e]
    exact ⟨fun _ => Int.le_refl _, fun _ => Int.le_refl _⟩
  · have eb : (x.1 == y.1) = false := by simpa using e
    rw [eb]
    simp only [lexC, decide_eq_true_eq, decide_eq_false_iff_not]
    exact ⟨fun h => by omega, fun h => by omega⟩
noncomputable def datP (prs : List Pl) (i : Nat) : Int × List Str := ((prs[i]?).map fun x => (x.2.1, x.2.2.2)).getD (0, [])
noncomputable def btP (prs : List Pl) (i j : Nat) : Bool := ltP (datP prs i) (datP prs j)
theorem vals_two {a b : V} {us : List Value} (h : Vals [a, b] us) : ∃ u w, us = [u, w] ∧ RelV a u ∧ RelV b w := by
  obtain ⟨u, w, e, r1, r2⟩ := vals2 h
  exact ⟨u, w, e, r1, r2⟩
theorem call_minP {X : Cx} {k : Nat} (hr : Room k X.A) (hc : X.calm = true) : CallR X (.builtin "min") (fun xs H Q => ∃ (p : Addr) (prs : List Pl), xs = [.ref p] ∧ SqL X.K H p (plrefs prs) ∧ prs ≠ [] ∧
    (∀ x ∈ prs, H x.1 = some (.tup [.int x.2.1, .ref x.2.2.1]) ∧ H x.2.2.1 = some (.tup (x.2.2.2.map V.str)) ∧ ∀ y ∈ x.2.2.2, NameP y) ∧ ∀ x, prs[argBest (btP prs) (prs.length - 1)]? = some x → Q (.ref x.1) H) := by
  intro pins s σ H xs us Q I r h
  obtain ⟨p, prs, rfl, hq, hne, hd, q⟩ := h
  obtain ⟨u, rfl, rx⟩ := vals1 r
  cases rx
  obtain ⟨its, r', pl, hz⟩ := I.list hq
  have hlen := r'.length
  rw [List.length_map] at hlen
  have hpos : 0 < prs.length := by cases prs with | nil => exact absurd rfl hne | cons _ _ => simp
  have hitem : ∀ (i : Nat) (v : Value), its.toArray[i]? = some v → ∃ x : Pl, prs[i]? = some x ∧ v = Value.ref x.1 := fun i v hv => by
    have hv' : its[i]? = some v := by simpa using hv
    have hi : i < prs.length := by rw [hlen]; exact (List.getElem?_eq_some_iff.mp hv').1
    have e1 : (plrefs prs)[i]? = some (V.ref prs[i].1) := by rw [List.getElem?_map, List.getElem?_eq_getElem hi]; rfl
    obtain ⟨w', e2, rw'⟩ := r'.get e1
    rw [hv'] at e2
    cases e2
    exact ⟨prs[i], List.getElem?_eq_getElem hi, rw'⟩
  have hun := hr.un
  refine min_of_list (btP prs) (I.ok.hd hc) pl.isList (by rw [List.size_toArray]; omega) (fun i j x y G tk Q' E' hk hx hy hQ => ?_) fun v G tk hv hk => ?_
  · obtain ⟨a, ha, rfl⟩ := hitem i x hx
    obtain ⟨b, hb, rfl⟩ := hitem j y hy
    have I' : Inv X pins σ H { s with heap := G, toks := tk } := I.kept hk
    obtain ⟨a1, a2, a3⟩ := hd a (List.mem_of_getElem? ha)
    obtain ⟨b1, b2, b3⟩ := hd b (List.mem_of_getElem? hb)
    obtain ⟨ia, ra, ta, _⟩ := I'.tuple (SqT.of a1)
    obtain ⟨ib, rb, tb, _⟩ := I'.tuple (SqT.of b1)
    obtain ⟨ua, va, rfl, rua, rva⟩ := vals_two ra
    obtain ⟨ub, vb, rfl, rub, rvb⟩ := vals_two rb
    obtain ⟨t1, rfl⟩ := rua
    obtain ⟨t2, rfl⟩ := rub
    cases rva
    cases rvb
    obtain ⟨la, rla, tla, _⟩ := I'.tuple (SqT.of a2)
    obtain ⟨lb, rlb, tlb, _⟩ := I'.tuple (SqT.of b2)
    have sa := strsAre_of rla
    have sb := strsAre_of rlb
    have hla := rla.length
    have hlb := rlb.length
    rw [List.length_map] at hla hlb
    have eqL : SeqAt.EqAt X.A.in1.in1 { s with heap := G, toks := tk } (.ref a.2.2.1) (.ref b.2.2.1) (decide (a.2.2.2 = b.2.2.2)) := by
      by_cases hab : a.2.2.1 = b.2.2.1
      · have e : a.2.2.2 = b.2.2.2 := by
          rw [hab, b2] at a2
          have := HO.tup.inj (Option.some.inj a2)
          exact ((List.map_inj_right (fun x y h => V.str.inj h)).mp this).symm
        rw [hab, decide_eq_true e]
        exact SeqAt.EqAt.same _
      · refine SeqAt.EqAt.of_refs hab fun prog w E Q hq => ?_
        obtain ⟨as, r1⟩ := (DV.tup a2 (DVs.strs _)).reads I'.hok (show RelV (.ref a.2.2.1) (Value.ref a.2.2.1) from rfl)
        obtain ⟨bs, r2⟩ := (DV.tup b2 (DVs.strs _)).reads I'.hok (show RelV (.ref b.2.2.1) (Value.ref b.2.2.1) from rfl)
        have ev : PyData.eqv (.tuple (a.2.2.2.map PyData.str)) (.tuple (b.2.2.2.map PyData.str)) = decide (a.2.2.2 = b.2.2.2) := eqvAll_strs _ _
        refine (eq_dataH (A := X.A.in1.in1) r1 r2 (shaped_strs a3).2 (shaped_strs b3).2 (by show X.A.units + 1 + 1 + 64 < cLine; omega) ?_ : wpAny (model prog w) X.A.in1.in1 (compareOp .Eq (.ref a.2.2.1) (.ref b.2.2.1)) Q E _)
        rw [ev]; exact hq
    refine rc_lt_tup ta tb (by show X.A.units + 1 < cLine; omega) (cs := [(a.2.1 == b.2.1, decide (a.2.1 < b.2.1)), (decide (a.2.2.2 = b.2.2.2), lexC (decide (a.2.2.2.length < b.2.2.2.length)) (cmpS a.2.2.2 b.2.2.2))]) ?_ ?_
    · refine .cons (SeqAt.EqAt.int_int _ _ _ _) (fun _ prog w E Q hq => HT.rcLt_int _ _ _ _ _ _ prog w E Q hq) (.cons eqL (fun _ prog w E Q hq => ?_) .nil)
      refine rc_lt_tup tla tlb (by show X.A.units + 1 + 1 < cLine; omega) (cs := cmpS a.2.2.2 b.2.2.2) (by simpa using cmp_strs sa sb) ?_
      rw [List.size_toArray, List.size_toArray, ← hla, ← hlb]
      exact hq
    · have e : btP prs i j = lexC false [(a.2.1 == b.2.1, decide (a.2.1 < b.2.1)), (decide (a.2.2.2 = b.2.2.2), lexC (decide (a.2.2.2.length < b.2.2.2.length)) (cmpS a.2.2.2 b.2.2.2))] := by
        unfold btP ltP datP
        rw [ha, hb]
        rfl
      have e2 : decide (([Value.int a.2.1 t1, Value.ref a.2.2.1].toArray).size < ([Value.int b.2.1 t2, Value.ref b.2.2.1].toArray).size) = false := rfl
      rw [e2, ← e]
      exact hQ
  · obtain ⟨x, hx, rfl⟩ := hitem _ v hv
    rw [List.size_toArray, ← hlen] at hx
    exact ⟨.ref x.1, H, I.kept hk, rfl, q x hx⟩
end K33

set_option Elab.async false
set_option linter.all false
set_option maxRecDepth 100000
set_option maxHeartbeats 4000000
namespace K33
open PySem L2 PySem.Spec PyProof.Rows
/-- min of a list of ints -/
noncomputable def minI (ns : List Int) : Int := ns.getD (argBest (fun i j => decide (ns.getD i 0 < ns.getD j 0)) (ns.length - 1)) 0
theorem minI_mem {ns : List Int} (h : ns ≠ []) : minI ns ∈ ns := by
  have hp : 0 < ns.length := by cases ns with | nil => exact absurd rfl h | cons _ _ => simp
  have hb := best_lt (fun i j => decide (ns.getD i 0 < ns.getD j 0)) (ns.length - 1)
  unfold minI
  rw [List.getD_eq_getElem?_getD, List.getElem?_eq_getElem (by omega)]
  exact List.getElem_mem _
theorem minI_le {ns : List Int} {x : Int} (h : x ∈ ns) : minI ns ≤ x := by
  obtain ⟨j, hj, rfl⟩ := List.mem_iff_getElem.mp h
  have q := best_min (fun i j => decide (ns.getD i 0 < ns.getD j 0)) (fun i => ns.getD i 0) (fun i j h => by have := of_decide_eq_true h; omega) (fun i j h => by have := of_decide_eq_false h; omega) (ns.length - 1) j (by omega)
  unfold minI
  have e : ns.getD j 0 = ns[j] := by rw [List.getD_eq_getElem?_getD, List.getElem?_eq_getElem hj]; rfl
  rw [e] at q
  exact q
/-! ### a tuple among a list of tuples -/
noncomputable abbrev trefs (tss : List (Addr × List Str)) : List V := tss.map fun x => V.ref x.1
theorem tref_get {lr : List (Addr × List Str)} {i : Nat} {x : V} (h : (trefs lr)[i]? = some x) : ∃ r, lr[i]? = some r ∧ x = .ref r.1 := by
  unfold trefs at h
  rw [List.getElem?_map] at h
  cases e : lr[i]? with
  | none => rw [e] at h; cases h
  | some r => rw [e] at h; exact ⟨r, rfl, (Option.some.inj h).symm⟩
noncomputable def LtAt (H : Hp) (lts : List (Addr × List Str)) : Prop := ∀ x ∈ lts, H x.1 = some (.tup (x.2.map V.str))
theorem LtAt.same {H H' : Hp} {lts : List (Addr × List Str)} (h : LtAt H lts) (s : Same H H') : LtAt H' lts := fun x hx => s _ _ (h x hx)
theorem LtAt.app {H : Hp} {a b : List (Addr × List Str)} (h : LtAt H a) (g : LtAt H b) : LtAt H (a ++ b) := fun x hx => (List.mem_append.mp hx).elim (h x) (g x)
theorem LtAt.one {H : Hp} {t : Addr} {ls : List Str} (h : H t = some (.tup (ls.map V.str))) : LtAt H [(t, ls)] := fun x hx => by
  have e : x = (t, ls) := by simpa using hx
  subst e; exact h
theorem lt_data {H : Hp} {a b : Addr} {ss ts : List Str} (ha : H a = some (.tup (ss.map V.str))) (hb : H b = some (.tup (ts.map V.str))) (e : a = b) : ss = ts := by
  rw [e, hb] at ha
  have := HO.tup.inj (Option.some.inj ha)
  exact ((List.map_inj_right (fun x y h => V.str.inj h)).mp this).symm
noncomputable def rNotInT (K : PySem.W.Frag) : R2 := fun x y H Q => ∃ (a p : Addr) (ss : List Str) (lts : List (Addr × List Str)), x = .ref a ∧ y = .ref p ∧ H a = some (.tup (ss.map V.str)) ∧ (∀ z ∈ ss, NameP z) ∧ SqL K H p (trefs lts) ∧ LtAt H lts ∧ (∀ l ∈ lts, ∀ z ∈ l.2, NameP z) ∧ Q (.bl (!decide (ss ∈ lts.map (·.2)))) H
theorem op_notInT {X : Cx} {k : Nat} (hr : Room k X.A) : OpR X (compareOp .NotIn) (rNotInT X.K) := by
  intro pins s σ H x y v u Q I rx ry h
  obtain ⟨a, p, ss, lts, rfl, rfl, ha, hs, hq, hL, hn, q⟩ := h
  cases rx
  cases ry
  obtain ⟨its, r', pl, hz⟩ := I.list hq
  have hun := hr.un
  obtain ⟨as, r1⟩ := (DV.tup ha (DVs.strs _)).reads I.hok (show RelV (.ref a) (Value.ref a) from rfl)
  -- what an item is
  have item : ∀ (i : Nat) (v : Value), its[i]? = some v → ∃ l, lts[i]? = some l ∧ v = Value.ref l.1 := fun i v hv => by
    have hlen := r'.length
    rw [List.length_map] at hlen
    have hi : i < lts.length := by rw [hlen]; exact (List.getElem?_eq_some_iff.mp hv).1
    have e1 : (trefs lts)[i]? = some (V.ref lts[i].1) := by rw [List.getElem?_map, List.getElem?_eq_getElem hi]; rfl
    obtain ⟨w', e2, rw'⟩ := r'.get e1
    rw [hv] at e2
    cases e2
    exact ⟨lts[i], List.getElem?_eq_getElem hi, rw'⟩
  have data : ∀ y ∈ its, ∃ l ∈ lts, y = Value.ref l.1 := fun y hy => by
    obtain ⟨i, hi⟩ := List.getElem?_of_mem hy
    obtain ⟨l, h1, h2⟩ := item i y hi
    exact ⟨l, List.mem_of_getElem? h1, h2⟩
  let e : Value → Bool := fun y => match y with | .ref c => lts.any fun l => decide (l.1 = c) && decide (l.2 = ss) | _ => false
  have ee : ∀ c, e (.ref c) = true ↔ ∃ l ∈ lts, l.1 = c ∧ l.2 = ss := fun c => by
    show (lts.any fun l => decide (l.1 = c) && decide (l.2 = ss)) = true ↔ _
    rw [List.any_eq_true]
    simp only [Bool.and_eq_true, decide_eq_true_eq]
  refine SeqAt.notIn_listAt e pl.isList (fun y hy => ?_) ?_
  · obtain ⟨l, hl, rfl⟩ := data y (by simpa using hy)
    have el : e (.ref l.1) = decide (l.2 = ss) := by
      rw [Bool.eq_iff_iff, ee, decide_eq_true_iff]
      constructor
      · rintro ⟨m, hm, em, es⟩
        rw [lt_data (hL l hl) (hL m hm) em.symm]; exact es
      · exact fun q => ⟨l, hl, rfl, q⟩
    rw [el]
    by_cases hab : l.1 = a
    · rw [decide_eq_true (lt_data (hL l hl) ha hab), hab]
      exact SeqAt.EqAt.same _
    · refine SeqAt.EqAt.of_refs hab fun prog w E Q hq => ?_
      obtain ⟨bs, r2⟩ := (DV.tup (hL l hl) (DVs.strs _)).reads I.hok (show RelV (.ref l.1) (Value.ref l.1) from rfl)
      have ev : PyData.eqv (.tuple (l.2.map PyData.str)) (.tuple (ss.map PyData.str)) = decide (l.2 = ss) := eqvAll_strs _ _
      refine (eq_dataH (A := X.A.in1) r2 r1 (shaped_strs (hn l hl)).2 (shaped_strs hs).2 (by show X.A.units + 1 + 64 < cLine; omega) ?_ : wpAny (model prog w) X.A.in1 (compareOp .Eq (.ref l.1) (.ref a)) Q E _)
      rw [ev]; exact hq
  · have ea : its.toArray.any e = decide (ss ∈ lts.map (·.2)) := by
      rw [Bool.eq_iff_iff, List.any_toArray, List.any_eq_true, decide_eq_true_iff]
      constructor
      · rintro ⟨y, hy, ey⟩
        obtain ⟨m, hm, rfl⟩ := data y hy
        obtain ⟨l, hl, _, es⟩ := (ee _).mp ey
        exact es ▸ List.mem_map_of_mem hl
      · intro hm
        obtain ⟨l, hl, es⟩ := List.mem_map.mp hm
        obtain ⟨i, hi⟩ := List.getElem?_of_mem hl
        obtain ⟨w', e2, rw'⟩ := r'.get (show (trefs lts)[i]? = some (V.ref l.1) by rw [List.getElem?_map, hi]; rfl)
        cases rw'
        exact ⟨_, List.mem_of_getElem? e2, (ee _).mpr ⟨l, hl, rfl, es⟩⟩
    rw [ea]
    exact ⟨V.bl (!decide (ss ∈ lts.map (fun z : Addr × List Str => z.2))), H, I, rfl, q⟩
end K33

set_option Elab.async false
set_option linter.all false
set_option maxRecDepth 100000
set_option maxHeartbeats 4000000
namespace K33
open PySem L2 PySem.Spec PyProof.Rows
theorem op_catAK (K : PySem.W.Frag) {X : Cx} (h : X.K = K := by rfl) : OpR X (binaryOp .Add) (rCatA K) := by subst h; exact op_catA
theorem cut_behind (x : V) (r : List V) : cutV (x :: r) (some 1) none = r := by
  unfold cutV
  simp [HT.sIx]
section
variable {P : Program} {w : World} {K : PySem.W.Frag} {mg : Str → Option Value} {base : Heap}

noncomputable def spAmongL : Sp := fun vs H Q _ => ∃ (pa : Addr) (ps : List Str), vs = [.ref pa] ∧ (H pa = some (.lst (ps.map V.str)) ∨ H pa = some (.tup (ps.map V.str))) ∧ ps.length ≤ 8 ∧
  ∀ (q : Addr) (lts : List (Addr × List Str)) (H' : Hp), Same H H' → H' q = some (.lst (trefs lts)) → LtAt H' lts → lts.map (·.2) = lotsOf ps → Q (.ref q) H'
theorem sc21 : FnScope ["places", "lots", "place"] ["places"] (defScope (top 21)) := ⟨rfl, rfl, rfl, by decide +kernel, rfl, by decide +kernel, by decide +kernel⟩
theorem ok_lots_among {f : Addr} {fd : FuncData} (F : Fun K "lots_among" "lots_among" (top 21) f fd) (B : Bl mg) : FnOk P w K mg base CX0 1 f fd ["places"] spAmongL := by
  refine F.ok sc21 (fun vs H Q E h => ?_) (fun cdv A outer s H vs Q E hr h => ?_)
  · obtain ⟨pa, ps, rfl, _⟩ := h
    rfl
  · obtain ⟨pa, ps, rfl, hp, p8, k⟩ := h
    refine ⟨_, pss_cons (ps_set (i := 1) sc21.nd rfl (Or.inl rfl) (pe_lst (pa_cons (pe_tup pa_nil) pa_nil)))
      (pss_cons (ps_for PassesOwn.never rfl (pi_or (pi_list (pv 0)) (pi_tup (pv 0))) (pg_name (i := 2) sc21.nd rfl (Or.inr rfl))
        (pss_one (ps_set (i := 1) sc21.nd rfl (Or.inl rfl) (pe_op op_cat (pv 1) (pe_lc (N := ["lot", "place"]) (ix := [none, some 2]) ⟨rfl, rfl, rfl, by decide⟩ rfl (pi_list (pv 1)) (fun _ _ _ _ => pg_lc 0 (by decide) rfl rfl) (fun _ _ _ _ => pts_nil)
          (fun _ _ _ _ => pe_op (op_catAK K) (pv 0) (pe_tup (pa_cons (pv 1) pa_nil))))))))
      (pss_one (ps_ret (pe_slice sl_list (pv 1) (po_some pe_int) po_none)))), ?_⟩
    refine ⟨Nat.zero_le _, fun e0 he0 => ⟨by show 1 ≤ sizeLine; decide, fun f0 hf0 => ?_⟩⟩
    have s0 := same_upd (o := .lst [.ref e0]) (same_upd (o := .tup []) (Same.refl H) he0) hf0
    have E0 : upd (upd H e0 (.tup [])) f0 (.lst [.ref e0]) e0 = some (.tup ((([] : List Str)).map V.str)) := by
      rw [upd_ne (fun z => by rw [← z, upd_same] at hf0; cases hf0), upd_same]; rfl
    have F0 : upd (upd H e0 (.tup [])) f0 (.lst [.ref e0]) f0 = some (.lst (trefs [(e0, [])])) := upd_same
    generalize upd (upd H e0 (.tup [])) f0 (.lst [.ref e0]) = H0 at s0 E0 F0 ⊢
    refine tfor_seq (K := K) (Hb := H) (a := pa) (xs := ps.map V.str) (fun Q q => ⟨_, rfl, q⟩) hp s0 (fun i σ H1 => Same H H1 ∧ ∃ (fo : Addr) (lts : List (Addr × List Str)) (g : Option V), σ = [some (.ref pa), some (.ref fo), g] ∧ H1 fo = some (.lst (trefs lts)) ∧ LtAt H1 lts ∧ lts.map (·.2) = subs (ps.take i))
      ⟨s0, f0, [(e0, [])], none, rfl, F0, LtAt.one E0, rfl⟩ (fun i σ H1 _ q => q.1) ?_ ?_
    · rintro i x σ H1 hx ⟨s1, fo, lts, g, rfl, F1, A1, e1⟩
      rw [List.getElem?_map] at hx
      cases hc : ps[i]? with
      | none => rw [hc] at hx; cases hx
      | some pl =>
        rw [hc] at hx
        cases hx
        have hi : i < ps.length := (List.getElem?_eq_some_iff.mp hc).1
        have hlen : lts.length ≤ 256 := by
          have q := congrArg List.length e1
          rw [List.length_map, subs_len] at q
          rw [q]
          exact pow_le (by rw [List.length_take]; omega)
        have hz8 : ∀ x ∈ lts, x.2.length ≤ 8 := fun x hx => by
          have q := (subs_sub (ps.take i) x.2 (by rw [← e1]; exact List.mem_map_of_mem hx)).length_le
          rw [List.length_take] at q
          omega
        refine ⟨_, rfl, _, rfl, fo, rfl, ⟨_, SqL.of F1⟩, lcw_list0 (xs := trefs lts) (fits (by rw [List.length_map]; omega)) (fun j ys σ H2 => (∃ qs : List (Addr × List Str), ys = trefs qs ∧ LtAt H2 qs ∧ qs.map (·.2) = ((lts.take j).map (·.2)).map fun l => l ++ [pl]) ∧ Same H1 H2 ∧ ∃ v, σ = [v, some (.str pl)])
          ⟨⟨[], rfl, by simp [LtAt], rfl⟩, Same.refl _, _, rfl⟩ (fun j ys σ H2 _ q => ?_) ?_ ?_⟩
        · obtain ⟨⟨qs, rfl, _, e⟩, s2, _⟩ := q
          have q := congrArg List.length e
          simp only [List.length_map, List.length_take] at q
          exact ⟨by rw [List.length_map]; omega, SqL.of (s2 _ _ F1)⟩
        · rintro j y ys σ H2 hy ⟨⟨qs, rfl, A2, e2⟩, s2, v, rfl⟩
          obtain ⟨lt, hlt, rfl⟩ := tref_get hy
          have hm := List.mem_of_getElem? hlt
          refine ⟨_, rfl, _, rfl, by show 1 ≤ sizeLine; decide, fun t ht => ?_⟩
          have s3 := same_upd (o := .tup [.str pl]) s2 ht
          have s3' := same_upd (o := .tup [.str pl]) (Same.refl H2) ht
          have t3 : upd H2 t (.tup [.str pl]) t = some (.tup ([pl].map V.str)) := upd_same
          generalize upd H2 t (.tup [.str pl]) = H3 at s3 s3' t3 ⊢
          have hz := hz8 lt hm
          have est : ∀ z, qs.map (·.2) ++ [z] = ((lts.take j).map (·.2)).map (fun l => l ++ [pl]) ++ [z] := fun z => by rw [e2]
          have etk : ((lts.take (j + 1)).map (·.2)).map (fun l => l ++ [pl]) = ((lts.take j).map (·.2)).map (fun l => l ++ [pl]) ++ [lt.2 ++ [pl]] := by
            rw [List.take_add_one, hlt, List.map_append, List.map_append]; rfl
          refine ⟨lt.1, t, lt.2.map V.str, [.str pl], rfl, rfl, SqT.of (s3 _ _ (A1 lt hm)), SqT.of t3, by rw [sizeLine_eq]; simp; omega, fun e => ?_, fun e => (by cases e), fun p hp => ?_⟩
          · have e' : lt.2 = [] := by simpa using e
            exact ⟨⟨qs ++ [(t, lt.2 ++ [pl])], by simp [trefs], (A2.same s3').app (LtAt.one (by rw [e']; exact t3)), by rw [List.map_append, etk]; exact est _⟩, s3, _, rfl⟩
          · have s4' := same_upd (o := .tup (lt.2.map V.str ++ [.str pl])) s3' hp
            exact ⟨⟨qs ++ [(p, lt.2 ++ [pl])], by simp [trefs], (A2.same s4').app (LtAt.one (by rw [upd_same, List.map_append]; rfl)), by rw [List.map_append, etk]; exact est _⟩, same_upd s3 hp, _, rfl⟩
        · rintro ys σ H2 ⟨⟨qs, rfl, A2, e2⟩, s2, v, rfl⟩ q hq
          rw [take_all lts (by simp)] at e2
          have hql : qs.length = lts.length := by
            have q := congrArg List.length e2
            simpa using q
          have s3' := same_upd (o := .lst (trefs qs)) (Same.refl H2) hq
          refine ⟨fo, q, _, _, rfl, rfl, s3' _ _ (s2 _ _ F1), upd_same, by rw [sizeLine_eq, List.length_map, List.length_map]; omega, fun q2 hq2' => ?_⟩
          have s4' := same_upd (o := .lst (trefs lts ++ trefs qs)) s3' hq2'
          refine ⟨s1.trans (s2.trans s4'), q2, lts ++ qs, _, rfl, by rw [upd_same]; simp [trefs], (A1.same (s2.trans s4')).app (A2.same s4'), ?_⟩
          have ets : ps.take (i + 1) = ps.take i ++ [pl] := by rw [List.take_add_one, hc]; rfl
          rw [List.map_append, e2, e1, ets, subs_snoc]
    · rintro σ H1 ⟨s1, fo, lts, g, rfl, F1, A1, e1⟩
      rw [take_all ps (by simp), subs_eq] at e1
      cases lts with
      | nil => cases e1
      | cons h0 rest =>
        obtain ⟨eh, er⟩ := List.cons.inj (show h0.2 :: rest.map (·.2) = [] :: lotsOf ps from e1)
        refine ⟨_, rfl, _, rfl, fo, _, rfl, SqL.of F1, fun q hq => ?_⟩
        rw [show trefs (h0 :: rest) = V.ref h0.1 :: trefs rest from rfl, cut_behind]
        have s2 := same_upd (o := .lst (trefs rest)) (Same.refl H1) hq
        exact k q rest _ (s1.trans s2) upd_same (fun x hx => s2 _ _ (A1 x (List.mem_cons_of_mem _ hx))) er
end
end K33

set_option Elab.async false
set_option linter.all false
set_option maxRecDepth 100000
set_option maxHeartbeats 4000000
namespace K33
open PySem L2
noncomputable def others (ps : List Str) (root : Str) : List Str := ps.filter fun y => !decide (y = root)
theorem others_len (ps : List Str) (root : Str) : (others ps root).length ≤ ps.length := List.length_filter_le _ _
noncomputable def cnt (rs : List (Addr × Row)) (l : List Str) : Nat := (rs.filter (lead l)).length
theorem cnt_succ {rs : List (Addr × Row)} {i : Nat} {r : Addr × Row} (h : rs[i]? = some r) (l : List Str) : cnt (rs.take (i + 1)) l = cnt (rs.take i) l + if lead l r = true then 1 else 0 := by
  unfold cnt
  rw [take_filter_succ _ _ _ _ h, List.length_append]
  congr 1
  split <;> rfl
noncomputable def keyL (l : List Str) : List Key := l.map Sum.inr
theorem keyL_kV (l : List Str) : (keyL l).map kV = l.map V.str := by unfold keyL; rw [List.map_map]; rfl
theorem keyL_inj {a b : List Str} (h : keyL a = keyL b) : a = b := (List.map_inj_right (fun x y h => Sum.inr.inj h)).mp h
theorem putK_len {κ : Type} [DecidableEq κ] {kvs : List (κ × V)} {k : κ} {v w : V} (h : valV kvs k = some w) : (putK kvs k v).length = kvs.length := by
  unfold putK
  rw [valV_any, h]
  rw [if_pos (show (some w).isSome = true from rfl), List.length_map]
theorem same_over {H H' : Hp} {p : Addr} {o : HO} (h : Same H H') (hp : H p = none) : Same H (upd H' p o) := fun b ob e => by
  rw [upd_ne (ne_of_none e hp)]; exact h b ob e
theorem dcw_list0 {K : PySem.W.Frag} {a D : Addr} {xs : List V} {tk tv : TE} {j : Nat} {σ' : St} {fin : Hp → Prop} {H1 : Hp} (Pv : Nat → St → Hp → Prop) (h0 : Pv 0 σ' H1) (hl : ∀ i σ H, i ≤ xs.length → Pv i σ H → SqL K H a xs)
    (hs : ∀ i x σ H, xs[i]? = some x → Pv i σ H → tk (σ.set j (some x)) H (fun y H4 => tv (σ.set j (some x)) H4 fun v H5 => ∃ H6, DPutT H5 D y v H6 ∧ Pv (i + 1) (σ.set j (some x)) H6)) (hd : ∀ σ H, Pv xs.length σ H → fin H) : DcW D (Itl K a) (gName j) tYes tk tv σ' fin H1 := by
  refine ⟨fun i m σ H => m = xs.length - i ∧ i ≤ xs.length ∧ Pv i σ H, ⟨xs.length, by simp, Nat.zero_le _, h0⟩, ?_⟩
  rintro i m σ H ⟨rfl, hi, p⟩
  have q := hl i σ H hi p
  by_cases hlt : i < xs.length
  · refine .inr ⟨⟨xs, xs[i], q, by simp [hlt]⟩, Pv (i + 1), fun σ' H' p' => ⟨xs.length - (i + 1), by omega, rfl, hlt, p'⟩, fun x H' y => ?_⟩
    obtain ⟨e, y⟩ := y
    subst e
    unfold gName tYes
    exact iteT (hs i x σ _ (y xs q) p)
  · have e : i = xs.length := by omega
    subst e
    exact .inl ⟨⟨xs, q, Nat.le_refl _⟩, hd σ H p⟩
noncomputable abbrev datL (rs : List (Addr × Row)) (ls : List (List Str)) : List (Int × List Str) := ls.map fun l => ((cnt rs l : Int), l)
noncomputable def btD (d : List (Int × List Str)) (i j : Nat) : Bool := ltP ((d[i]?).getD (0, [])) ((d[j]?).getD (0, []))
noncomputable def bestD (d : List (Int × List Str)) : Int × List Str := (d[argBest (btD d) (d.length - 1)]?).getD (0, [])
theorem bt_dat {prs : List Pl} {d : List (Int × List Str)} (h : (prs.map fun x => (x.2.1, x.2.2.2)) = d) : btP prs = btD d := by
  subst h
  funext i j
  unfold btP btD datP
  rw [List.getElem?_map, List.getElem?_map]
theorem bestD_mem {d : List (Int × List Str)} (h : d ≠ []) : bestD d ∈ d := by
  have hp : 0 < d.length := by cases d with | nil => exact absurd rfl h | cons _ _ => simp
  have hb := best_lt (btD d) (d.length - 1)
  unfold bestD
  rw [List.getElem?_eq_getElem (by omega)]
  exact List.getElem_mem _
theorem bestD_le {d : List (Int × List Str)} {x : Int × List Str} (h : x ∈ d) : (bestD d).1 ≤ x.1 := by
  obtain ⟨j, hj, rfl⟩ := List.mem_iff_getElem.mp h
  have q := best_min (btD d) (fun i => ((d[i]?).getD (0, [])).1) (fun i j h => ltP_le.1 h) (fun i j h => ltP_le.2 h) (d.length - 1) j (by omega)
  unfold bestD
  rw [show ((d[j]?).getD (0, [])).1 = d[j].1 from by rw [List.getElem?_eq_getElem hj]; rfl] at q
  exact q
section
variable {P : Program} {w : World} {K : PySem.W.Frag} {mg : Str → Option Value} {base : Heap}
noncomputable def spLotsW : Sp := fun vs H Q _ => ∃ (v pa ra : Addr) (ps : List Str) (rs : List (Addr × Row)) (root : Str), vs = [.ref v, .str root] ∧ WebAt H v pa ra ps rs ∧ ps.length ≤ 8 ∧
  ∀ (q : Addr) (lts : List (Addr × List Str)) (H' : Hp), Same H H' → H' q = some (.lst (trefs lts)) → LtAt H' lts → lts.map (·.2) = lotsOf (others ps root) → Q (.ref q) H'
theorem sc22 : FnScope ["web", "root"] ["web", "root"] (defScope (top 22)) := ⟨rfl, rfl, rfl, by decide +kernel, rfl, by decide +kernel, by decide +kernel⟩
theorem ok_lots_without {f : Addr} {fd : FuncData} (F : Fun K "lots_without" "lots_without" (top 22) f fd) (F1 : Fn P w K mg base 1 "lots_among" ["places"] spAmongL) : FnOk P w K mg base CX0 2 f fd ["web", "root"] spLotsW := by
  refine F.ok sc22 (fun vs H Q E h => ?_) (fun cdv A outer s H vs Q E hr h => ?_)
  · obtain ⟨v, pa, ra, ps, rs, root, rfl, _⟩ := h
    rfl
  · obtain ⟨v, pa, ra, ps, rs, root, rfl, W, p8, k⟩ := h
    refine ⟨_, pss_one (ps_ret (pe_fn F1 hr (pa_cons (pe_lc (N := ["place", "root"]) (ix := [none, some 1]) ⟨rfl, rfl, rfl, by decide⟩ rfl (pi_tup (pe_ix ix_seq (pv 0) pe_int (fun _ _ => rfl))) (fun _ _ _ _ => pg_lc 0 (by decide) rfl rfl) (fun _ _ _ _ => pts_one (pt_cmpR op_ne (pv 0) (pv 1) (nomark _))) (fun _ _ _ _ => pv 0)) pa_nil))), ?_⟩
    refine ⟨_, rfl, rix_of (j := 0) (.inr (SqT.of W.tp)) rfl rfl ⟨pa, rfl, ⟨_, SqT.of W.pl⟩, lcw_tup1 (xs := ps.map V.str) (fits (by simp; omega)) (fun i ys σ H2 => ys = ((ps.take i).filter fun y => !decide (y = root)).map V.str ∧ H2 = H ∧ ∃ v, σ = [v, some (.str root)]) ⟨rfl, rfl, _, rfl⟩
      (fun i ys σ H2 _ q => ⟨by rw [q.1, List.length_map]; exact Nat.le_trans (List.length_filter_le _ _) (by simp; omega), by rw [q.2.1]; exact SqT.of W.pl⟩) ?_ ?_⟩⟩
    · rintro i y ys σ H2 hy ⟨rfl, rfl, v, rfl⟩
      rw [List.getElem?_map] at hy
      cases hc : ps[i]? with
      | none => rw [hc] at hy; cases hy
      | some z =>
        rw [hc] at hy
        cases hy
        have tf := take_filter_succ (fun z : Str => !decide (z = root)) ps i z hc
        refine ⟨_, rfl, _, rfl, rfl, _, rfl, ?_⟩
        have e : (!decide (V.str z = V.str root)) = !decide (z = root) := by simp
        rw [e]
        refine ite2 (fun c => ⟨_, rfl, ?_, rfl, _, rfl⟩) (fun c => ⟨?_, rfl, _, rfl⟩)
        · rw [tf, c]; simp
        · rw [tf]; simp only [Bool.not_eq_true] at c; rw [c]; simp
    · rintro ys σ H2 ⟨rfl, rfl, v, rfl⟩ t ht
      rw [take_all ps (by simp)]
      have s1 := same_upd (o := .lst ((others ps root).map V.str)) (Same.refl H2) ht
      exact ⟨t, others ps root, rfl, .inl upd_same, by have := others_len ps root; omega, fun q lts H' s' q' A' e' => k q lts H' (s1.trans s') q' A' e'⟩

noncomputable def spCounts : Sp := fun vs H Q _ => ∃ (ra lo : Addr) (rs : List (Addr × Row)) (lts : List (Addr × List Str)), vs = [.ref ra, .ref lo] ∧ (H ra = some (.lst (rrefs rs)) ∨ H ra = some (.tup (rrefs rs))) ∧ (∀ r ∈ rs, RowAt H r.1 r.2) ∧ rs.length ≤ 60 ∧ H lo = some (.lst (trefs lts)) ∧ LtAt H lts ∧ (lts.map (·.2)).Nodup ∧ lts.length ≤ 255 ∧
  ∀ (q : Addr) (kvs : List (List Key × V)) (H' : Hp), Same H H' → H' q = some (.dT kvs) → (∀ x ∈ lts, valV kvs (keyL x.2) = some (.int (cnt rs x.2))) → Q (.ref q) H'
noncomputable abbrev N23 : List Str := ["rows", "lots", "counts", "row", "lot"]
theorem sc23 : FnScope N23 ["rows", "lots"] (defScope (top 23)) := ⟨rfl, rfl, rfl, by decide +kernel, rfl, by decide +kernel, by decide +kernel⟩
theorem ok_counts {f : Addr} {fd : FuncData} (F : Fun K "counts_into" "counts_into" (top 23) f fd) (F1 : Fn P w K mg base 1 "leads_into" ["row", "lot"] spInto) : FnOk P w K mg base CX0 2 f fd ["rows", "lots"] spCounts := by
  refine F.ok sc23 (fun vs H Q E h => ?_) (fun cdv A outer s H vs Q E hr h => ?_)
  · obtain ⟨ra, lo, rs, lts, rfl, _⟩ := h
    rfl
  · obtain ⟨ra, lo, rs, lts, rfl, hra, hrow, hz, hlo, hL, hnd, hl255, k⟩ := h
    have hun := hr.un
    refine ⟨_, pss_cons (ps_setDc (i := 2) (N := ["lot"]) (ix := [none]) (lt0 hr) sc23.nd rfl (Or.inl rfl) ⟨rfl, rfl, rfl, by decide⟩ rfl (pi_list (pv 1)) (fun _ _ _ _ => pg_lc 0 (by decide) rfl rfl) (fun _ _ _ _ => pts_nil) (fun _ _ _ _ => pv 0) (fun _ _ _ _ => pe_int))
      (pss_cons (ps_for PassesOwn.never rfl (pi_or (pi_list (pv 0)) (pi_tup (pv 0))) (pg_name (i := 3) sc23.nd rfl (Or.inl rfl)) (pss_one (ps_for PassesOwn.never rfl (pi_list (pv 1)) (pg_name (i := 4) sc23.nd rfl (Or.inl rfl))
        (pss_one (ps_if (pt_val (pe_fn F1 hr (pa_cons (pv 3) (pa_cons (pv 4) pa_nil)))) (pss_one (ps_daug (lt1' hr) (pv 2) (pv 4) pe_int in_add (fun _ _ _ => rfl))) pss_nil)))))
      (pss_one (ps_ret (pv 2)))), ?_⟩
    have htl : (trefs lts).length = lts.length := by simp
    refine ⟨_, rfl, lo, rfl, ⟨_, SqL.of hlo⟩, fun D hD => ?_⟩
    have s0 := same_upd (o := .dT []) (Same.refl H) hD
    refine dcw_list0 (K := K) (a := lo) (xs := trefs lts) (fun i σ H2 => Same H H2 ∧ (∃ x, σ = [x]) ∧ ∃ kvs, H2 D = some (.dT kvs) ∧ kvs.length ≤ i ∧ ∀ m x, m < i → lts[m]? = some x → valV kvs (keyL x.2) = some (.int 0)) ⟨s0, ⟨_, rfl⟩, [], upd_same, Nat.le_refl _, fun m x hm => absurd hm (Nat.not_lt_zero _)⟩
      (fun i σ H2 _ q => SqL.of (q.1 _ _ hlo)) ?_ ?_
    · rintro i x σ H2 hx ⟨s2, ⟨g, rfl⟩, kvs, d2, z2, v2⟩
      obtain ⟨lt, hlt, rfl⟩ := tref_get hx
      have hm := List.mem_of_getElem? hlt
      have hi : i < lts.length := (List.getElem?_eq_some_iff.mp hlt).1
      refine ⟨_, rfl, upd H2 D (.dT (putK kvs (keyL lt.2) (.int 0))), ⟨kvs, keyL lt.2, lt.1, d2, rfl, by rw [keyL_kV]; exact s2 _ _ (hL lt hm), by rw [sizeLine_eq]; omega, rfl⟩, same_over s2 hD, ⟨_, rfl⟩, _, upd_same, by have := length_putK kvs (keyL lt.2) (.int 0); omega, fun m y hmi hy => ?_⟩
      rw [valV_put]
      by_cases e : keyL y.2 = keyL lt.2
      · rw [if_pos e]
      · rw [if_neg e]
        refine v2 m y ?_ hy
        have : m ≠ i := fun q => by rw [q, hlt] at hy; cases hy; exact e rfl
        omega
    rintro σ0 H2 ⟨s2, _, kvs0, d2, z2, v2⟩
    rw [htl] at z2 v2
    refine tfor_seq (K := K) (Hb := H) (a := ra) (xs := rrefs rs) (fun Q q => ⟨_, rfl, q⟩) hra s2 (fun i σ H3 => Same H H3 ∧ (∃ g1 g2, σ = [some (.ref ra), some (.ref lo), some (.ref D), g1, g2]) ∧ ∃ kvs, H3 D = some (.dT kvs) ∧ kvs.length ≤ 255 ∧ ∀ x ∈ lts, valV kvs (keyL x.2) = some (.int (cnt (rs.take i) x.2)))
      ⟨s2, ⟨_, _, rfl⟩, kvs0, d2, by omega, fun x hx => ?_⟩ (fun i σ H3 _ q => q.1) ?_ ?_
    · obtain ⟨m, hm⟩ := List.getElem?_of_mem hx
      exact v2 m x (List.getElem?_eq_some_iff.mp hm).1 hm
    · rintro i x σ H3 hx ⟨s3, ⟨g1, g2, rfl⟩, kvs, d3, z3, v3⟩
      obtain ⟨r, hr', rfl⟩ := rowAt_get hx
      have hrm := List.mem_of_getElem? hr'
      refine ⟨_, rfl, lo, rfl, ⟨_, SqL.of (s3 _ _ hlo)⟩, for_list (K := K) (a := lo) (xs := trefs lts) (fun j σ H4 => Same H H4 ∧ (∃ g2, σ = [some (.ref ra), some (.ref lo), some (.ref D), some (.ref r.1), g2]) ∧ ∃ kvs, H4 D = some (.dT kvs) ∧ kvs.length ≤ 255 ∧ ∀ m x, lts[m]? = some x → valV kvs (keyL x.2) = some (.int (if m < j then cnt (rs.take (i + 1)) x.2 else cnt (rs.take i) x.2 : Nat)))
        ⟨s3, ⟨_, rfl⟩, kvs, d3, z3, fun m x hm => ?_⟩ (fun j σ H4 _ q => SqL.of (q.1 _ _ hlo)) ?_ ?_⟩
      · rw [if_neg (Nat.not_lt_zero _)]
        exact v3 x (List.mem_of_getElem? hm)
      · rintro j y σ H4 hy ⟨s4, ⟨g2, rfl⟩, kvs, d4, z4, v4⟩
        obtain ⟨lt, hlt, rfl⟩ := tref_get hy
        have hm := List.mem_of_getElem? hlt
        have cs := cnt_succ hr' lt.2
        refine ⟨_, rfl, _, rfl, lt.1, r, lt.2, rfl, s4 _ _ (hrow r hrm), s4 _ _ (hL lt hm), _, rfl, ?_⟩
        have vj := v4 j lt hlt
        rw [if_neg (Nat.lt_irrefl _)] at vj
        have stay : ∀ m x, m ≠ j → lts[m]? = some x → (if m < j then cnt (rs.take (i + 1)) x.2 else cnt (rs.take i) x.2) = (if m < j + 1 then cnt (rs.take (i + 1)) x.2 else cnt (rs.take i) x.2) := fun m x hmj _ => by
          by_cases h1 : m < j
          · rw [if_pos h1, if_pos (by omega)]
          · rw [if_neg h1, if_neg (by omega)]
        refine ite2 (fun c => ?_) (fun c => ⟨s4, ⟨_, rfl⟩, kvs, d4, z4, fun m x hx => ?_⟩)
        · rw [if_pos c] at cs
          refine ⟨_, rfl, _, rfl, D, .int (cnt (rs.take i) lt.2), rfl, ?_, _, _, rfl, rfl, upd H4 D (.dT (putK kvs (keyL lt.2) (.int ((cnt (rs.take i) lt.2 : Int) + 1)))), DPut.t d4 (by rw [keyL_kV]; exact s4 _ _ (hL lt hm)) (by rw [sizeLine_eq]; omega), same_over s4 hD, ⟨_, rfl⟩, _, upd_same, by rw [putK_len vj]; exact z4, fun m x hx => ?_⟩
          · have g := DGet.t (k := keyL lt.2) (b := lt.1) d4 (by rw [keyL_kV]; exact s4 _ _ (hL lt hm))
            rw [vj] at g
            exact g
          · rw [valV_put]
            by_cases hmj : m = j
            · subst hmj
              rw [hlt] at hx
              cases hx
              rw [if_pos rfl, if_pos (Nat.lt_succ_self _), cs]
              rfl
            · have hne : keyL x.2 ≠ keyL lt.2 := fun e => by
                have e' := keyL_inj e
                obtain ⟨hmi, em⟩ := List.getElem?_eq_some_iff.mp hx
                obtain ⟨hji, ej⟩ := List.getElem?_eq_some_iff.mp hlt
                have hp := List.pairwise_iff_getElem.mp hnd
                have h1 : (lts.map (·.2))[m]'(by simpa using hmi) = x.2 := by rw [List.getElem_map, em]
                have h2 : (lts.map (·.2))[j]'(by simpa using hji) = lt.2 := by rw [List.getElem_map, ej]
                rcases Nat.lt_or_gt_of_ne hmj with q | q
                · exact hp m j _ _ q (by rw [h1, h2]; exact e')
                · exact hp j m _ _ q (by rw [h1, h2]; exact e'.symm)
              rw [if_neg hne, v4 m x hx, stay m x hmj hx]
        · rw [if_neg c] at cs
          rw [v4 m x hx]
          by_cases hmj : m = j
          · subst hmj
            rw [hlt] at hx
            cases hx
            rw [if_neg (Nat.lt_irrefl _), if_pos (Nat.lt_succ_self _), cs]
            rfl
          · rw [stay m x hmj hx]
      · rintro σ H4 ⟨s4, ⟨g2, rfl⟩, kvs, d4, z4, v4⟩
        refine ⟨s4, ⟨_, _, rfl⟩, kvs, d4, z4, fun x hx => ?_⟩
        obtain ⟨m, hm⟩ := List.getElem?_of_mem hx
        have q := v4 m x hm
        rw [if_pos (by rw [htl]; exact (List.getElem?_eq_some_iff.mp hm).1)] at q
        exact q
    · rintro σ H3 ⟨s3, ⟨g1, g2, rfl⟩, kvs, d3, z3, v3⟩
      rw [take_all rs (by simp)] at v3
      exact ⟨_, rfl, k D kvs H3 s3 d3 v3⟩
end
end K33

set_option Elab.async false
set_option linter.all false
set_option maxRecDepth 100000
set_option maxHeartbeats 4000000
namespace K33
open PySem L2
noncomputable def need (rts ls : List Str) : Nat := (rts.filter fun r => !decide (r ∈ ls)).length
section
variable {P : Program} {w : World} {K : PySem.W.Frag} {mg : Str → Option Value} {base : Heap}

noncomputable def spNeedOf : Sp := fun vs H Q _ => ∃ (a l : Addr) (rts ls : List Str), vs = [.ref a, .ref l] ∧ H a = some (.tup (rts.map V.str)) ∧ H l = some (.tup (ls.map V.str)) ∧ rts.length ≤ 100 ∧ ∀ H', Same H H' → Q (.int (need rts ls)) H'
theorem sc24 : FnScope ["roots", "lot"] ["roots", "lot"] (defScope (top 24)) := ⟨rfl, rfl, rfl, by decide +kernel, rfl, by decide +kernel, by decide +kernel⟩
theorem ok_need_of {f : Addr} {fd : FuncData} (F : Fun K "need_of" "need_of" (top 24) f fd) (B : Bl mg) : FnOk P w K mg base CX0 1 f fd ["roots", "lot"] spNeedOf := by
  refine F.ok sc24 (fun vs H Q E h => ?_) (fun cdv A outer s H vs Q E hr h => ?_)
  · obtain ⟨a, l, rts, ls, rfl, _⟩ := h
    rfl
  · obtain ⟨a, l, rts, ls, rfl, ha, hl, hz, k⟩ := h
    refine ⟨_, pss_one (ps_ret (pe_callB call_len_seq rfl B.len PySem.boot_len (pa_cons (pe_lc (N := ["root", "lot"]) (ix := [none, some 1]) ⟨rfl, rfl, rfl, by decide⟩ rfl (pi_tup (pv 0)) (fun _ _ _ _ => pg_lc 0 (by decide) rfl rfl)
      (fun _ _ _ _ => pts_one (pt_cmpR (notIn_seqK K) (pv 0) (pv 1) (by with_unfolding_all rfl))) (fun _ _ _ _ => pv 0)) pa_nil))), ?_⟩
    refine ⟨_, rfl, a, rfl, ⟨_, SqT.of ha⟩, lcw_tup1 (xs := rts.map V.str) (fits (by simp; omega)) (fun i ys σ H1 => ys = ((rts.take i).filter fun r => !decide (r ∈ ls)).map V.str ∧ H1 = H ∧ ∃ x, σ = [x, some (.ref l)]) ⟨rfl, rfl, _, rfl⟩
      (fun i ys σ H1 _ q => ⟨by rw [q.1, List.length_map]; exact Nat.le_trans (List.length_filter_le _ _) (by simp; omega), by rw [q.2.1]; exact SqT.of ha⟩) ?_ ?_⟩
    · rintro i x ys σ H1 hx ⟨rfl, rfl, v, rfl⟩
      rw [List.getElem?_map] at hx
      cases hc : rts[i]? with
      | none => rw [hc] at hx; cases hx
      | some z =>
        rw [hc] at hx
        cases hx
        have tf := take_filter_succ (fun r : Str => !decide (r ∈ ls)) rts i z hc
        refine ⟨_, rfl, _, rfl, l, ls.map V.str, rfl, .inr (SqT.of hl), rfl, flat_strs ls, _, rfl, ?_⟩
        show if (!inV (.str z) (ls.map V.str)) = true then _ else _
        rw [in_strs]
        refine ite2 (fun c => ⟨_, rfl, ?_, rfl, _, rfl⟩) (fun c => ⟨?_, rfl, _, rfl⟩)
        · rw [tf, c]; simp
        · rw [tf]; simp only [Bool.not_eq_true] at c; rw [c]; simp
    · rintro ys σ H1 ⟨rfl, rfl, v, rfl⟩ q hq
      rw [take_all rts (by simp)]
      refine ⟨q, _, rfl, .inl (SqL.of upd_same), ?_⟩
      have e : (((rts.filter fun r => !decide (r ∈ ls)).map V.str).length : Int) = (need rts ls : Int) := by rw [List.length_map]; rfl
      rw [e]
      exact k _ (same_upd (Same.refl _) hq)

end
end K33

set_option Elab.async false
set_option linter.all false
set_option maxRecDepth 100000
set_option maxHeartbeats 4000000
namespace L2
open PySem
/-- a method of a class of the text -/
noncomputable def mth (s : Stmt) (j : Nat) : Stmt := match s with
  | .ClassDef _ _ _ body _ _ _ _ _ _ _ => body.getD j (.Pass ⟨0, 0, 0, 0⟩)
  | _ => .Pass ⟨0, 0, 0, 0⟩
/-- TooFew's __init__ -/
noncomputable def spInit (C : Addr) : Sp := fun vs H Q _ => ∃ (e : Addr) (v : V), vs = [.ref e, v] ∧ H e = some (ExcN e C none) ∧ ∀ dx, H dx = none → dx ≠ e → Q .non (upd (upd H e (ExcN e C (some dx))) dx (.xd [(Str.ofString "lot", v)]))
end L2
namespace K33
open PySem L2
/-- what a lot has to spare -/
noncomputable def spr (rs : List (Addr × Row)) (rts l : List Str) : Int := (cnt rs l : Int) - (need rts l : Int)
noncomputable abbrev kvSp (rs : List (Addr × Row)) (rts : List Str) (ls : List (List Str)) : List (List Key × V) := ls.map fun l => (keyL l, V.int (spr rs rts l))
theorem kvSp_none {rs : List (Addr × Row)} {rts : List Str} : ∀ {ls : List (List Str)} {l : List Str}, l ∉ ls → valV (kvSp rs rts ls) (keyL l) = none
  | [], l, _ => rfl
  | m :: r, l, h => by
    have h' : l ≠ m ∧ l ∉ r := by simpa using h
    show valV ((keyL m, V.int (spr rs rts m)) :: kvSp rs rts r) (keyL l) = none
    rw [valV_neg (fun e => h'.1 (keyL_inj e).symm)]
    exact kvSp_none h'.2
theorem kvSp_some {rs : List (Addr × Row)} {rts : List Str} : ∀ {ls : List (List Str)} {l : List Str}, l ∈ ls → valV (kvSp rs rts ls) (keyL l) = some (.int (spr rs rts l))
  | m :: r, l, h => by
    show valV ((keyL m, V.int (spr rs rts m)) :: kvSp rs rts r) (keyL l) = _
    by_cases e : m = l
    · subst e; exact valV_pos rfl
    · rw [valV_neg (fun z => e (keyL_inj z))]
      exact kvSp_some ((List.mem_cons.mp h).resolve_left fun z => e z.symm)
section
variable {P : Program} {w : World} {K : PySem.W.Frag} {mg : Str → Option Value} {base : Heap}
noncomputable def spWhole : Sp := fun vs H Q _ => ∃ z : Int, vs = [.int z] ∧ Q (.bl true) H
theorem sc9 : FnScope ["thing"] ["thing"] (defScope (top 9)) := ⟨rfl, rfl, rfl, by decide +kernel, rfl, by decide +kernel, by decide +kernel⟩
theorem ok_is_whole {f : Addr} {fd : FuncData} (F : Fun K "is_whole" "is_whole" (top 9) f fd) (B : Bl mg) : FnOk P w K mg base CX0 1 f fd ["thing"] spWhole := by
  refine F.ok sc9 (fun vs H Q E h => ?_) (fun cdv A outer s H vs Q E hr h => ?_)
  · obtain ⟨z, rfl, _⟩ := h
    rfl
  · obtain ⟨z, rfl, k⟩ := h
    refine ⟨_, pss_one (ps_ret (pe_and (pe_callB (call_isinst (T := "int")) rfl B.isinstance b_isinstance (pa_cons (pv 0) (pa_cons (pe_bltn (v := .ty "int") rfl B.int b_int rfl) pa_nil)))
      (pe_one (pe_not (pe_callB (call_isinst (T := "bool")) rfl B.isinstance b_isinstance (pa_cons (pv 0) (pa_cons (pe_bltn (v := .ty "bool") rfl B.bool b_bool rfl) pa_nil))))))), ?_⟩
    exact ⟨_, rfl, _, _, true, rfl, .int z, rfl, true, rfl, iteT ⟨_, rfl, _, _, false, rfl, .int z, rfl, false, rfl, k⟩⟩
noncomputable def spNumber : Sp := fun vs H Q _ => ∃ z lo hi : Int, vs = [.int z, .int lo, .int hi] ∧ lo ≤ z ∧ z ≤ hi ∧ Q .non H
theorem sc16 : FnScope ["thing", "low", "high"] ["thing", "low", "high"] (defScope (top 16)) := ⟨rfl, rfl, rfl, by decide +kernel, rfl, by decide +kernel, by decide +kernel⟩
theorem ok_need_number {f : Addr} {fd : FuncData} (F : Fun K "need_number" "need_number" (top 16) f fd) (F1 : Fn P w K mg base 1 "is_whole" ["thing"] spWhole) : FnOk P w K mg base CX0 2 f fd ["thing", "low", "high"] spNumber := by
  refine F.ok sc16 (fun vs H Q E h => ?_) (fun cdv A outer s H vs Q E hr h => ?_)
  · obtain ⟨z, lo, hi, rfl, _⟩ := h
    rfl
  · obtain ⟨z, lo, hi, rfl, h1, h2, k⟩ := h
    refine ⟨_, pss_one (ps_if (PW.pt (pw_or (pt_not (pt_val (pe_fn F1 hr (pa_cons (pv 0) pa_nil)))) (pw_or1 (pt_not (pt_chain op_le op_le (pv 1) (pv 0) (pv 2)))))) pss_never pss_nil), ?_⟩
    exact ⟨_, rfl, z, rfl, true, rfl, iteF ⟨_, rfl, _, rfl, _, _, rfl, rfl, _, rfl, iteD h1 ⟨_, rfl, _, _, rfl, rfl, _, rfl, iteNS h2 k⟩⟩⟩
theorem scI : FnScope ["self", "lot"] ["self", "lot"] (defScope (mth (top 5) 0)) := ⟨rfl, rfl, rfl, by decide +kernel, rfl, by decide +kernel, by decide +kernel⟩
theorem ok_init {f C : Addr} {fd : FuncData} (F : Fun K "__init__" "TooFew.__init__" (mth (top 5) 0) f fd) (hC : ExcK lotS base C f) : FnOk P w K mg base CX0 1 f fd ["self", "lot"] (spInit C) := by
  refine F.ok scI (fun vs H Q E h => ?_) (fun cdv A outer s H vs Q E hr h => ?_)
  · obtain ⟨e, v, rfl, _⟩ := h
    rfl
  · obtain ⟨e, v, rfl, he, k⟩ := h
    refine ⟨_, pss_one (ps_fldE (n := Str.ofString "lot") hC (by decide) (by decide) (by decide) (pv 0) (pv 1)), ?_⟩
    exact ⟨_, rfl, _, rfl, e, rfl, he, fun dx h1 h2 => k dx h1 h2⟩
noncomputable def spSpare : Sp := fun vs H Q _ => ∃ (ra lo a : Addr) (rs : List (Addr × Row)) (lts : List (Addr × List Str)) (rts : List Str), vs = [.ref ra, .ref lo, .ref a] ∧ (H ra = some (.lst (rrefs rs)) ∨ H ra = some (.tup (rrefs rs))) ∧ (∀ r ∈ rs, RowAt H r.1 r.2) ∧ rs.length ≤ 60 ∧ H lo = some (.lst (trefs lts)) ∧ LtAt H lts ∧ (lts.map (·.2)).Nodup ∧ lts.length ≤ 255 ∧
  H a = some (.tup (rts.map V.str)) ∧ rts.length ≤ 100 ∧ ∀ (q : Addr) (H' : Hp), Same H H' → H q = none → H' q = some (.dT (kvSp rs rts (lts.map (·.2)))) → Q (.ref q) H'
noncomputable abbrev N25 : List Str := ["rows", "lots", "roots", "counts"]
theorem sc25 : FnScope N25 ["rows", "lots", "roots"] (defScope (top 25)) := ⟨rfl, rfl, rfl, by decide +kernel, rfl, by decide +kernel, by decide +kernel⟩
theorem ok_spare {f : Addr} {fd : FuncData} (F : Fun K "spare_into" "spare_into" (top 25) f fd) (F1 : Fn P w K mg base 2 "counts_into" ["rows", "lots"] spCounts) (F2 : Fn P w K mg base 1 "need_of" ["roots", "lot"] spNeedOf) : FnOk P w K mg base CX0 3 f fd ["rows", "lots", "roots"] spSpare := by
  refine F.ok sc25 (fun vs H Q E h => ?_) (fun cdv A outer s H vs Q E hr h => ?_)
  · obtain ⟨ra, lo, a, rs, lts, rts, rfl, _⟩ := h
    rfl
  · obtain ⟨ra, lo, a, rs, lts, rts, rfl, hra, hrow, hz, hlo, hL, hnd, hl255, ha, hr100, k⟩ := h
    have hr1 : Room 1 _ := hr.mono (by decide)
    refine ⟨_, pss_cons (ps_set (i := 3) sc25.nd rfl (Or.inr rfl) (pe_fn F1 hr (pa_cons (pv 0) (pa_cons (pv 1) pa_nil))))
      (pss_one (ps_ret (pe_dc (N := ["lot", "counts", "roots"]) (ix := [none, some 3, some 2]) (lt0 hr) ⟨rfl, rfl, rfl, by decide⟩ rfl (pi_list (pv 1)) (fun _ _ _ _ => pg_lc 0 (by decide) rfl rfl) (fun _ _ _ _ => pts_nil) (fun _ _ _ _ => pv 0)
        (fun _ _ _ _ => pe_op op_sub (pe_dget (lt1' hr) (pv 1) (pv 0) (fun _ _ => rfl)) (pe_fn F2 hr1 (pa_cons (pv 2) (pa_cons (pv 0) pa_nil))))))), ?_⟩
    refine ⟨_, rfl, _, rfl, ra, lo, rs, lts, rfl, hra, hrow, hz, hlo, hL, hnd, hl255, fun c kvs H1 s1 c1 v1 => ?_⟩
    refine ⟨_, rfl, lo, rfl, ⟨_, SqL.of (s1 _ _ hlo)⟩, fun D hD => ?_⟩
    have s2 := same_upd (o := .dT []) (Same.refl H1) hD
    have htl : (trefs lts).length = lts.length := by simp
    have hD0 : H1 D = none := hD
    refine dcw_list0 (K := K) (a := lo) (xs := trefs lts) (fun i σ H2 => Same H1 H2 ∧ (∃ x, σ = [x, some (.ref c), some (.ref a)]) ∧ H2 D = some (.dT (kvSp rs rts ((lts.take i).map (·.2))))) ⟨s2, ⟨_, rfl⟩, upd_same⟩
      (fun i σ H2 _ q => SqL.of (q.1 _ _ (s1 _ _ hlo))) ?_ ?_
    · rintro i x σ H2 hx ⟨s2, ⟨g, rfl⟩, d2⟩
      obtain ⟨lt, hlt, rfl⟩ := tref_get hx
      have hm := List.mem_of_getElem? hlt
      have hi : i < lts.length := (List.getElem?_eq_some_iff.mp hlt).1
      have hlt2 := s2 _ _ (s1 _ _ (hL lt hm))
      have gc : DGet H2 c (.ref lt.1) (some (.int (cnt rs lt.2))) := by
        rw [← v1 lt hm]; exact DGet.t (s2 _ _ c1) (by rw [keyL_kV]; exact hlt2)
      refine ⟨_, rfl, _, rfl, _, rfl, c, _, rfl, gc, ?_⟩
      refine ⟨_, rfl, _, rfl, a, lt.1, rts, lt.2, rfl, s2 _ _ (s1 _ _ ha), hlt2, hr100, fun H3 s3 => ?_⟩
      have d3 := s3 _ _ d2
      have hfresh : lt.2 ∉ (lts.take i).map (·.2) := fun hmm => by
        have nd := hnd.sublist ((List.take_sublist (i + 1) lts).map (fun x : Addr × List Str => x.2))
        rw [List.take_add_one, hlt, List.map_append] at nd
        exact (List.nodup_append.mp nd).2.2 _ hmm lt.2 (by simp) rfl
      refine ⟨_, _, rfl, rfl, _, ⟨_, keyL lt.2, lt.1, d3, rfl, by rw [keyL_kV]; exact s3 _ _ hlt2, by rw [List.length_map, List.length_map, List.length_take, sizeLine_eq]; omega, rfl⟩, same_over (s2.trans s3) hD0, ⟨_, rfl⟩, ?_⟩
      rw [upd_same, putK_new _ (kvSp_none hfresh), List.take_add_one, hlt]
      simp [kvSp, spr]
    · rintro σ H2 ⟨s2, ⟨g, rfl⟩, d2⟩
      rw [htl, take_all lts rfl] at d2
      exact k D H2 (s1.trans s2) (s1.free hD0) d2
end
end K33

set_option Elab.async false
set_option linter.all false
set_option maxRecDepth 100000
set_option maxHeartbeats 4000000
namespace K33
open PySem L2
section
variable {P : Program} {w : World} {K : PySem.W.Frag} {mg : Str → Option Value} {base : Heap}
/-- none lacks, or the lot that does is told -/
noncomputable def spEnough (C : Addr) : Sp := fun vs H Q E => ∃ (v pa ra a : Addr) (ps rts : List Str) (rs : List (Addr × Row)), vs = [.ref v, .ref a] ∧ WebAt H v pa ra ps rs ∧ ps.Nodup ∧ ps.length ≤ 8 ∧ rs.length ≤ 60 ∧ H a = some (.tup (rts.map V.str)) ∧ rts.length ≤ 100 ∧
  ∀ H', Same H H' → ((∀ l ∈ lotsOf ps, 0 ≤ spr rs rts l) → Q .non H') ∧ (∀ l ∈ lotsOf ps, spr rs rts l < 0 → ∀ dx u, H' dx = some (.xd [(Str.ofString "lot", .ref u)]) → H' u = some (.tup (l.map V.str)) → E (.ref C) (some dx) H')
noncomputable abbrev N28 : List Str := ["web", "roots", "spare", "lot"]
theorem sc28 : FnScope N28 ["web", "roots"] (defScope (top 28)) := ⟨rfl, rfl, rfl, by decide +kernel, rfl, by decide +kernel, by decide +kernel⟩
theorem ok_enough {f C fI : Addr} {fd fdI : FuncData} (F : Fun K "need_enough" "need_enough" (top 28) f fd) (hx : mg "TooFew" = some (.ref C)) (hC : ExcK lotS base C fI) (FI : FnOk P w K mg base CX0 1 fI fdI ["self", "lot"] (spInit C)) (bI : Binds K fdI ["self", "lot"] [])
    (F1 : Fn P w K mg base 3 "spare_into" ["rows", "lots", "roots"] spSpare) (F2 : Fn P w K mg base 1 "lots_among" ["places"] spAmongL) : FnOk P w K mg base (CXE P w) 4 f fd ["web", "roots"] (spEnough C) := by
  refine F.okX sc28 (fun vs H Q E h => ?_) (fun cdv A outer s H vs Q E hr h => ?_)
  · obtain ⟨v, pa, ra, a, ps, rts, rs, rfl, _⟩ := h
    rfl
  · obtain ⟨v, pa, ra, a, ps, rts, rs, rfl, W, hnd, h7, hrz, ha, hr100, k⟩ := h
    have hr1 : Room 1 _ := hr.mono (by decide)
    have hr2 : Room 2 _ := hr.mono (by decide)
    refine ⟨_, pss_cons (ps_set (i := 2) sc28.nd rfl (Or.inl rfl) (pe_fn F1 hr (pa_cons (pe_ix ix_seq (pv 0) pe_int (fun _ _ => rfl)) (pa_cons (pe_fn F2 hr1 (pa_cons (pe_ix ix_seq (pv 0) pe_int (fun _ _ => rfl)) pa_nil)) (pa_cons (pv 1) pa_nil)))))
      (pss_one (ps_for PassesOwn.leaving rfl (pi_dict (pv 2)) (pg_name (i := 3) sc28.nd rfl (Or.inl rfl))
        (pss_one (ps_if (pt_cmpR op_lt (pe_dget (lt1' hr) (pv 2) (pv 3) (fun _ _ => rfl)) pe_int (nomark _)) (pss_one (ps_raiseI (W := E) hx hC FI hr2 bI hr.hd (pa_cons (pv 3) pa_nil) (fun pins σ H s ea oe vs a0 I h1 h2 h3 h4 h5 h6 hW => raiseD I h1 h2 h3 h4 h5 h6 hW) rfl)) pss_nil)))), ?_⟩
    refine ⟨_, rfl, rix_of (j := 1) (.inr (SqT.of W.tp)) rfl rfl ⟨_, rfl, rix_of (j := 0) (.inr (SqT.of W.tp)) rfl rfl ⟨pa, ps, rfl, .inr W.pl, by omega, fun q lts H1 s1 q1 A1 e1 => ?_⟩⟩⟩
    have W1 := W.same s1
    have hll : lts.length ≤ 255 := by
      have e2 := congrArg List.length e1
      rw [List.length_map] at e2
      have e3 := lots_len ps
      have e4 := pow_le (show ps.length ≤ 8 by omega)
      omega
    refine ⟨_, rfl, ra, q, a, rs, lts, rts, rfl, .inr W1.rl, W1.rows, hrz, q1, A1, by rw [e1]; exact lots_nodup hnd, hll, s1 _ _ ha, hr100, fun sd H2 s2 hsd0 d2 => ?_⟩
    rw [e1] at d2
    have s02 := s1.trans s2
    have hsd : H sd = none := s1.free hsd0
    refine ⟨_, rfl, sd, _, rfl, d2, fun o => ?_⟩
    have s3 : Same H (upd H2 sd (.frz o (.dT (kvSp rs rts (lotsOf ps))))) := Same.upd0 s02 hsd
    have d3 : upd H2 sd (.frz o (.dT (kvSp rs rts (lotsOf ps)))) sd = some (.frz o (.dT (kvSp rs rts (lotsOf ps)))) := upd_same
    generalize upd H2 sd (.frz o (.dT (kvSp rs rts (lotsOf ps)))) = H3 at s3 d3 ⊢
    refine for_dict (a := sd) (o := o) (kvs := kvSp rs rts (lotsOf ps)) (fun i σ H4 => (∃ g, σ = [some (.ref v), some (.ref a), some (.ref sd), g]) ∧ Same H3 H4 ∧ ∀ l ∈ (lotsOf ps).take i, 0 ≤ spr rs rts l)
      ⟨⟨_, rfl⟩, Same.refl _, by simp⟩ (fun i σ H4 _ p => p.2.1 _ _ d3) ?_ ?_
    · rintro i p b σ H4 hp hb ⟨⟨g, rfl⟩, s4, hge⟩
      rw [List.getElem?_map] at hp
      cases hc : (lotsOf ps)[i]? with
      | none => rw [hc] at hp; cases hp
      | some l =>
        rw [hc] at hp
        cases hp
        have hl : l ∈ lotsOf ps := List.mem_of_getElem? hc
        have hb' : H4 b = some (.tup (l.map V.str)) := by rw [← keyL_kV]; exact hb
        have gd : DGet H4 sd (.ref b) (some (.int (spr rs rts l))) := .inr ⟨_, keyL l, b, .inr ⟨o, s4 _ _ d3⟩, rfl, hb, (kvSp_some hl).symm⟩
        refine ⟨_, rfl, _, rfl, sd, _, rfl, gd, _, _, rfl, rfl, _, rfl, ite2 (fun c => ?_) (fun c => ?_)⟩
        · have hneg : spr rs rts l < 0 := of_decide_eq_true c
          refine ⟨_, rfl, by show 1 ≤ sizeLine; decide, fun e he => ⟨e, .ref b, rfl, upd_same, fun dx h1 h2 => ⟨rfl, some dx, ?_, ?_⟩⟩⟩
          · rw [upd_ne h2.symm, upd_same]
          · have hdx3 : H4 dx = none := by rw [upd_ne h2] at h1; exact h1
            have nu : b ≠ e := ne_of_none hb' he
            have ndu : b ≠ dx := ne_of_none hb' hdx3
            refine (k _ (fun c' o' ec => ?_)).2 l hl hneg dx b ?_ ?_
            · have b3 := s4 _ _ (s3 c' o' ec)
              have n1 : c' ≠ e := ne_of_none b3 he
              have n2 : c' ≠ dx := ne_of_none b3 hdx3
              rw [del_ne n1, upd_ne n2, upd_ne n1, upd_ne n1]
              exact b3
            · rw [del_ne h2, upd_same]
            · rw [del_ne nu, upd_ne ndu, upd_ne nu, upd_ne nu]
              exact hb'
        · have hge' : 0 ≤ spr rs rts l := by
            have : ¬ (spr rs rts l < 0) := fun z => c (decide_eq_true z)
            omega
          refine ⟨⟨_, rfl⟩, s4, fun m hm => ?_⟩
          rw [List.take_add_one, hc] at hm
          rcases List.mem_append.mp hm with z | z
          · exact hge m z
          · have e : m = l := by simpa using z
            subst e; exact hge'
    · rintro σ H4 ⟨⟨g, rfl⟩, s4, hge⟩
      rw [take_all (lotsOf ps) (by simp)] at hge
      exact (k H4 (s3.trans s4)).1 hge
end
end K33

set_option Elab.async false
set_option linter.all false
set_option maxRecDepth 100000
set_option maxHeartbeats 4000000
namespace K33
open PySem L2
theorem sub_one {l : List Str} {x : Str} (h : l.Sublist [x]) : l = [] ∨ l = [x] := by
  cases h with
  | cons _ h => cases h; exact .inl rfl
  | cons_cons _ h => cases h; exact .inr rfl
theorem subs_all : ∀ ps l : List Str, l.Sublist ps → l ∈ subs ps := snoc_ind (fun l h => by
    cases h
    simp [subs]) fun ps x ih l hl => by
  rw [subs_snoc]
  obtain ⟨a, b, rfl, ha, hb⟩ := List.sublist_append_iff.mp hl
  rcases sub_one hb with rfl | rfl
  · rw [List.append_nil]
    exact List.mem_append_left _ (ih a ha)
  · exact List.mem_append_right _ (List.mem_map_of_mem (f := fun l => l ++ [x]) (ih a ha))
theorem lots_iff {ps l : List Str} (hn : ps.Nodup) : l ∈ lotsOf ps ↔ l.Sublist ps ∧ l ≠ [] := by
  have e := subs_eq ps
  have nd := subs_nodup ps hn
  rw [e] at nd
  constructor
  · intro h
    exact ⟨lots_sub h, fun z => (List.nodup_cons.mp nd).1 (z ▸ h)⟩
  · rintro ⟨h1, h2⟩
    have := subs_all ps l h1
    rw [e] at this
    exact (List.mem_cons.mp this).resolve_left h2
theorem sub_filter {ps l : List Str} {p : Str → Bool} : l.Sublist (ps.filter p) ↔ l.Sublist ps ∧ ∀ x ∈ l, p x = true := by
  constructor
  · intro h
    exact ⟨h.trans List.filter_sublist, fun x hx => (List.mem_filter.mp (h.subset hx)).2⟩
  · rintro ⟨h1, h2⟩
    have := h1.filter p
    rwa [List.filter_eq_self.mpr h2] at this
theorem others_nd {ps : List Str} (root : Str) (h : ps.Nodup) : (others ps root).Nodup := h.filter _
theorem lots_others {ps l : List Str} {root : Str} (hn : ps.Nodup) : l ∈ lotsOf (others ps root) ↔ l ∈ lotsOf ps ∧ root ∉ l := by
  rw [lots_iff (others_nd root hn), lots_iff hn]
  unfold others
  rw [sub_filter]
  constructor
  · rintro ⟨⟨h1, h2⟩, h3⟩
    exact ⟨⟨h1, h3⟩, fun z => by have := h2 root z; simp at this⟩
  · rintro ⟨⟨h1, h3⟩, h2⟩
    exact ⟨⟨h1, fun x hx => by
      have : x ≠ root := fun z => h2 (z ▸ hx)
      simp [this]⟩, h3⟩
theorem need_rep (m : Nat) (root : Str) (l : List Str) : need (List.replicate m root) l = if root ∈ l then 0 else m := by
  unfold need
  rw [List.filter_replicate]
  by_cases h : root ∈ l
  · simp [h]
  · simp [h]
theorem spr_rep (rs : List (Addr × Row)) (m : Nat) (root : Str) (l : List Str) : spr rs (List.replicate m root) l = (cnt rs l : Int) - (if root ∈ l then 0 else (m : Int)) := by
  unfold spr
  rw [need_rep]
  by_cases h : root ∈ l <;> simp [h]
theorem flat_rep {α : Type} (x : α) : ∀ m : Nat, (List.replicate m [x]).flatten = List.replicate m x
  | 0 => rfl
  | m + 1 => by rw [List.replicate_succ, List.flatten_cons, flat_rep x m, List.replicate_succ]; rfl
section
variable {P : Program} {w : World} {K : PySem.W.Frag} {mg : Str → Option Value} {base : Heap}
end
end K33

set_option Elab.async false
set_option linter.all false
set_option maxRecDepth 100000
set_option maxHeartbeats 4000000
namespace K33
open PySem L2
/-! ### the count of what leads in is submodular -/
noncomputable def ind (b : Bool) : Nat := if b = true then 1 else 0
theorem cnt_cons (r : Addr × Row) (rs : List (Addr × Row)) (l : List Str) : cnt (r :: rs) l = ind (lead l r) + cnt rs l := by
  unfold cnt ind
  rw [List.filter_cons]
  split <;> simp <;> omega
theorem submod {a b i u : List Str} (hi : ∀ x, x ∈ i ↔ x ∈ a ∧ x ∈ b) (hu : ∀ x, x ∈ u ↔ x ∈ a ∨ x ∈ b) : ∀ rs : List (Addr × Row), cnt rs i + cnt rs u ≤ cnt rs a + cnt rs b
  | [] => Nat.le_refl _
  | r :: rs => by
    have ih := submod hi hu rs
    rw [cnt_cons, cnt_cons, cnt_cons, cnt_cons]
    have h : ind (lead i r) + ind (lead u r) ≤ ind (lead a r) + ind (lead b r) := by
      have e1 := hi r.2.2.2
      have e2 := hi r.2.2.1
      have e3 := hu r.2.2.2
      have e4 := hu r.2.2.1
      unfold lead ind
      by_cases c1 : r.2.2.2 ∈ a <;> by_cases c2 : r.2.2.2 ∈ b <;> by_cases c3 : r.2.2.1 ∈ a <;> by_cases c4 : r.2.2.1 ∈ b <;> simp_all
    omega
section
variable {P : Program} {w : World} {K : PySem.W.Frag} {mg : Str → Option Value} {base : Heap}
end
end K33

set_option Elab.async false
set_option linter.all false
set_option maxRecDepth 100000
set_option maxHeartbeats 4000000
namespace K33
open PySem L2
/-! ### so many one-way trees: a row that may be taken is there -/
noncomputable abbrev T := Addr × Row
theorem cnt_perm {a b : List T} (h : a.Perm b) (l : List Str) : cnt a l = cnt b l := by
  unfold cnt
  exact (h.filter _).length_eq
theorem need_cons (r : Str) (rts l : List Str) : need (r :: rts) l = ind (!decide (r ∈ l)) + need rts l := by
  unfold need ind
  rw [List.filter_cons]
  split <;> simp <;> omega
theorem need_mod {a b i u : List Str} (hi : ∀ x, x ∈ i ↔ x ∈ a ∧ x ∈ b) (hu : ∀ x, x ∈ u ↔ x ∈ a ∨ x ∈ b) : ∀ rts : List Str, need rts i + need rts u = need rts a + need rts b
  | [] => rfl
  | r :: rts => by
    have ih := need_mod hi hu rts
    rw [need_cons, need_cons, need_cons, need_cons]
    have h : ind (!decide (r ∈ i)) + ind (!decide (r ∈ u)) = ind (!decide (r ∈ a)) + ind (!decide (r ∈ b)) := by
      have e1 := hi r
      have e2 := hu r
      unfold ind
      by_cases c1 : r ∈ a <;> by_cases c2 : r ∈ b <;> simp_all
    omega
theorem need_anti {x y : List Str} (h : ∀ z, z ∈ y → z ∈ x) : ∀ rts : List Str, need rts x ≤ need rts y
  | [] => Nat.le_refl _
  | r :: rts => by
    have ih := need_anti h rts
    rw [need_cons, need_cons]
    have : ind (!decide (r ∈ x)) ≤ ind (!decide (r ∈ y)) := by
      have e := h r
      unfold ind
      by_cases c1 : r ∈ x <;> by_cases c2 : r ∈ y <;> simp_all
    omega
theorem cnt_more {x y : List Str} : ∀ {rs : List T}, cnt rs x < cnt rs y → ∃ r ∈ rs, lead y r = true ∧ lead x r = false
  | [], h => absurd h (Nat.lt_irrefl _)
  | r :: rs, h => by
    by_cases c : lead y r = true ∧ lead x r = false
    · exact ⟨r, List.mem_cons_self, c⟩
    · have : cnt rs x < cnt rs y := by
        rw [cnt_cons, cnt_cons] at h
        have : ind (lead y r) ≤ ind (lead x r) := by
          unfold ind
          cases e1 : lead y r <;> cases e2 : lead x r <;> simp_all
        omega
      obtain ⟨q, hq, h1⟩ := cnt_more this
      exact ⟨q, List.mem_cons_of_mem _ hq, h1⟩
theorem cnt_some {y : List Str} : ∀ {rs : List T}, 0 < cnt rs y → ∃ r ∈ rs, lead y r = true
  | [], h => absurd h (Nat.lt_irrefl _)
  | r :: rs, h => by
    by_cases c : lead y r = true
    · exact ⟨r, List.mem_cons_self, c⟩
    · have : 0 < cnt rs y := by
        rw [cnt_cons] at h
        unfold ind at h
        rw [if_neg c] at h
        omega
      obtain ⟨q, hq, h1⟩ := cnt_some this
      exact ⟨q, List.mem_cons_of_mem _ hq, h1⟩
theorem lead_iff {l : List Str} {r : T} : lead l r = true ↔ r.2.2.2 ∈ l ∧ r.2.2.1 ∉ l := by
  unfold lead
  simp
theorem shortest {P : List Str → Prop} : ∀ (n : Nat), (∃ x, P x ∧ x.length ≤ n) → ∃ x, P x ∧ ∀ y, P y → x.length ≤ y.length
  | 0, ⟨x, h, z⟩ => ⟨x, h, fun y _ => by omega⟩
  | n + 1, ⟨x, h, z⟩ => by
    by_cases c : ∃ x, P x ∧ x.length ≤ n
    · exact shortest n c
    · exact ⟨x, h, fun y hy => by
        have : ¬ y.length ≤ n := fun q => c ⟨y, hy, q⟩
        omega⟩
/-- what stands ahead of each row that is taken -/
structure Grow (ps rts fs : List Str) (rem : List T) : Prop where
  nd : ps.Nodup
  st : ∀ r ∈ rem, r.2.2.1 ∈ ps ∧ r.2.2.2 ∈ ps
  ge : ∀ l ∈ lotsOf ps, 0 ≤ spr rem rts l
  gt : ∀ l ∈ lotsOf ps, (∀ x ∈ l, x ∉ fs) → 1 ≤ spr rem rts l
noncomputable def GoodRow (ps rts fs : List Str) (rem : List T) (r : T) : Prop := r.2.2.1 ∈ fs ∧ r.2.2.2 ∉ fs ∧ ∀ l ∈ lotsOf ps, lead l r = true → 0 < spr rem rts l
theorem Grow.ex {ps rts fs : List Str} {rem : List T} (G : Grow ps rts fs rem) (hx : ∃ x ∈ ps, x ∉ fs) : ∃ r ∈ rem, GoodRow ps rts fs rem r := by
  by_cases tight : ∃ X, (X ∈ lotsOf ps ∧ spr rem rts X = 0 ∧ ∃ x ∈ X, x ∉ fs)
  · obtain ⟨X0, h0⟩ := tight
    obtain ⟨X, ⟨hX, hX0, x, hxX, hxf⟩, hmin⟩ := shortest (P := fun X => X ∈ lotsOf ps ∧ spr rem rts X = 0 ∧ ∃ x ∈ X, x ∉ fs) X0.length ⟨X0, h0, Nat.le_refl _⟩
    obtain ⟨sX, _⟩ := (lots_iff G.nd).mp hX
    have memY : ∀ z, z ∈ (X.filter fun p => !decide (p ∈ fs)) ↔ z ∈ X ∧ z ∉ fs := fun z => by simp
    have hY : (X.filter fun p => !decide (p ∈ fs)) ∈ lotsOf ps := (lots_iff G.nd).mpr ⟨List.filter_sublist.trans sX, fun e => by
      have := (memY x).mpr ⟨hxX, hxf⟩
      rw [e] at this; cases this⟩
    have gY := G.gt _ hY fun z hz => ((memY z).mp hz).2
    have nY := need_anti (x := X) (y := X.filter fun p => !decide (p ∈ fs)) (fun z hz => ((memY z).mp hz).1) rts
    have hlt : cnt rem X < cnt rem (X.filter fun p => !decide (p ∈ fs)) := by
      unfold spr at gY hX0
      omega
    obtain ⟨r, hr, h1, h2⟩ := cnt_more hlt
    obtain ⟨e1, e2⟩ := lead_iff.mp h1
    obtain ⟨e3, e4⟩ := (memY _).mp e1
    have e5 : r.2.2.1 ∈ X := by
      by_cases c : r.2.2.1 ∈ X
      · exact c
      · have := lead_iff.mpr ⟨e3, c⟩
        rw [h2] at this; cases this
    have e6 : r.2.2.1 ∈ fs := by
      by_cases c : r.2.2.1 ∈ fs
      · exact c
      · exact absurd ((memY _).mpr ⟨e5, c⟩) e2
    refine ⟨r, hr, e6, e4, fun Z hZ hl => ?_⟩
    obtain ⟨z1, z2⟩ := lead_iff.mp hl
    have hZ0 := G.ge Z hZ
    by_cases c : spr rem rts Z = 0
    · exfalso
      obtain ⟨sZ, _⟩ := (lots_iff G.nd).mp hZ
      have memI : ∀ p, p ∈ (X.filter fun p => decide (p ∈ Z)) ↔ p ∈ X ∧ p ∈ Z := fun p => by simp
      have memU : ∀ p, p ∈ (ps.filter fun p => decide (p ∈ X ∨ p ∈ Z)) ↔ p ∈ X ∨ p ∈ Z := fun p => by
        simp only [List.mem_filter, decide_eq_true_eq]
        exact ⟨fun h => h.2, fun h => ⟨h.elim (fun q => sX.subset q) (fun q => sZ.subset q), h⟩⟩
      have hI : (X.filter fun p => decide (p ∈ Z)) ∈ lotsOf ps := (lots_iff G.nd).mpr ⟨List.filter_sublist.trans sX, fun e => by
        have := (memI _).mpr ⟨e3, z1⟩
        rw [e] at this; cases this⟩
      have hU : (ps.filter fun p => decide (p ∈ X ∨ p ∈ Z)) ∈ lotsOf ps := (lots_iff G.nd).mpr ⟨List.filter_sublist, fun e => by
        have := (memU _).mpr (.inl e3)
        rw [e] at this; cases this⟩
      have sm := submod memI memU rem
      have nm := need_mod memI memU rts
      have gI := G.ge _ hI
      have gU := G.ge _ hU
      have hI0 : spr rem rts (X.filter fun p => decide (p ∈ Z)) = 0 := by
        unfold spr at *
        omega
      have hm := hmin _ ⟨hI, hI0, r.2.2.2, (memI _).mpr ⟨e3, z1⟩, e4⟩
      have hls : (X.filter fun p => decide (p ∈ Z)).length < X.length := List.length_filter_lt_length_iff_exists.mpr ⟨r.2.2.1, e5, by simpa using z2⟩
      omega
    · omega
  · obtain ⟨x, hxp, hxf⟩ := hx
    have memW : ∀ z, z ∈ (ps.filter fun p => !decide (p ∈ fs)) ↔ z ∈ ps ∧ z ∉ fs := fun z => by simp
    have hW : (ps.filter fun p => !decide (p ∈ fs)) ∈ lotsOf ps := (lots_iff G.nd).mpr ⟨List.filter_sublist, fun e => by
      have := (memW x).mpr ⟨hxp, hxf⟩
      rw [e] at this; cases this⟩
    have gW := G.gt _ hW fun z hz => ((memW z).mp hz).2
    have hpos : 0 < cnt rem (ps.filter fun p => !decide (p ∈ fs)) := by
      unfold spr at gW
      omega
    obtain ⟨r, hr, h1⟩ := cnt_some hpos
    obtain ⟨e1, e2⟩ := lead_iff.mp h1
    obtain ⟨e3, e4⟩ := (memW _).mp e1
    have e6 : r.2.2.1 ∈ fs := by
      by_cases c : r.2.2.1 ∈ fs
      · exact c
      · exact absurd ((memW _).mpr ⟨(G.st r hr).1, c⟩) e2
    refine ⟨r, hr, e6, e4, fun Z hZ hl => ?_⟩
    obtain ⟨z1, z2⟩ := lead_iff.mp hl
    have hZ0 := G.ge Z hZ
    by_cases c : spr rem rts Z = 0
    · exact absurd ⟨Z, hZ, c, r.2.2.2, z1, e4⟩ tight
    · omega
theorem spr_step {rem : List T} {r : T} {rem' : List T} (h : rem.Perm (r :: rem')) (rts l : List Str) : spr rem' rts l = spr rem rts l - (ind (lead l r) : Nat) := by
  unfold spr
  rw [cnt_perm h, cnt_cons]
  omega
theorem Grow.step {ps rts fs : List Str} {rem rem' : List T} {r : T} (G : Grow ps rts fs rem) (g : GoodRow ps rts fs rem r) (h : rem.Perm (r :: rem')) : Grow ps rts (fs ++ [r.2.2.2]) rem' where
  nd := G.nd
  st := fun q hq => G.st q (h.mem_iff.mpr (List.mem_cons_of_mem _ hq))
  ge := fun l hl => by
    rw [spr_step h]
    have := G.ge l hl
    unfold ind
    cases c : lead l r with
    | true => have := g.2.2 l hl c; simp; omega
    | false => simp; omega
  gt := fun l hl hd => by
    rw [spr_step h]
    have h1 := G.gt l hl fun x hx hf => hd x hx (List.mem_append_left _ hf)
    have c : lead l r = false := by
      cases c : lead l r with
      | false => rfl
      | true => exact absurd (List.mem_append_right _ (by simp)) (hd _ (lead_iff.mp c).1)
    rw [c]
    unfold ind
    simp
    omega
theorem Grow.start {ps rts : List Str} {root : Str} {rs : List T} (nd : ps.Nodup) (st : ∀ r ∈ rs, r.2.2.1 ∈ ps ∧ r.2.2.2 ∈ ps) (h : ∀ l ∈ lotsOf ps, 0 ≤ spr rs (root :: rts) l) : Grow ps rts [root] rs where
  nd := nd
  st := st
  ge := fun l hl => by
    have := h l hl
    unfold spr at this ⊢
    rw [need_cons] at this
    omega
  gt := fun l hl hd => by
    have := h l hl
    unfold spr at this ⊢
    have c : root ∉ l := fun z => hd root z (by simp)
    rw [need_cons, decide_eq_false c] at this
    unfold ind at this
    simp at this
    omega
end K33

set_option Elab.async false
set_option linter.all false
set_option maxRecDepth 100000
set_option maxHeartbeats 4000000
namespace K33
open PySem L2
/-- lots with numbers -/
noncomputable abbrev kvF (f : List Str → Int) (ls : List (List Str)) : List (List Key × V) := ls.map fun l => (keyL l, V.int (f l))
theorem kvF_some {f : List Str → Int} : ∀ {ls : List (List Str)} {l : List Str}, l ∈ ls → valV (kvF f ls) (keyL l) = some (.int (f l))
  | m :: r, l, h => by
    show valV ((keyL m, V.int (f m)) :: kvF f r) (keyL l) = _
    by_cases e : m = l
    · subst e; exact valV_pos rfl
    · rw [valV_neg (fun z => e (keyL_inj z))]
      exact kvF_some ((List.mem_cons.mp h).resolve_left fun z => e z.symm)
noncomputable def GoodIn (f : List Str → Int) (ls : List (List Str)) (fs : List Str) (r : T) : Prop := r.2.2.1 ∈ fs ∧ r.2.2.2 ∉ fs ∧ ∀ l ∈ ls, lead l r = true → 0 < f l
section
variable {P : Program} {w : World} {K : PySem.W.Frag} {mg : Str → Option Value} {base : Heap}
/-- a row that may be taken, and the lots into which it leads -/
noncomputable def spNext : Sp := fun vs H Q _ => ∃ (ra fo sd : Addr) (rs : List T) (fs : List Str) (f : List Str → Int) (ls : List (List Str)), vs = [.ref ra, .ref fo, .ref sd] ∧ (H ra = some (.lst (rrefs rs)) ∨ H ra = some (.tup (rrefs rs))) ∧ (∀ r ∈ rs, RowAt H r.1 r.2) ∧
  H fo = some (.lst (fs.map V.str)) ∧ H sd = some (.dT (kvF f ls)) ∧ ls.length ≤ 255 ∧ (∃ r ∈ rs, GoodIn f ls fs r) ∧
  ∀ (r : T) (t en : Addr) (lts : List (Addr × List Str)) (H' : Hp), Same H H' → r ∈ rs → GoodIn f ls fs r → H' t = some (.tup [.ref r.1, .ref en]) → H' en = some (.lst (trefs lts)) → LtAt H' lts → lts.map (·.2) = ls.filter (fun l => lead l r) → H en = none → Q (.ref t) H'
noncomputable abbrev N26 : List Str := ["rows", "found", "spare", "row", "entered"]
theorem sc26 : FnScope N26 ["rows", "found", "spare"] (defScope (top 26)) := ⟨rfl, rfl, rfl, by decide +kernel, rfl, by decide +kernel, by decide +kernel⟩
theorem ok_next {f : Addr} {fd : FuncData} (F : Fun K "next_row" "next_row" (top 26) f fd) (B : Bl mg) (F1 : Fn P w K mg base 1 "leads_into" ["row", "lot"] spInto) : FnOk P w K mg base CX0 2 f fd ["rows", "found", "spare"] spNext := by
  refine F.ok sc26 (fun vs H Q E h => ?_) (fun cdv A outer s H vs Q E hr h => ?_)
  · obtain ⟨ra, fo, sd, rs, fs, f, ls, rfl, _⟩ := h
    rfl
  · obtain ⟨ra, fo, sd, rs, fs, f, ls, rfl, hra, hrow, hfo, hsd, hl255, hex, k⟩ := h
    have hr1 : Room 1 _ := hr.mono (by decide)
    refine ⟨_, pss_cons (ps_for PassesOwn.never rfl (pi_or (pi_list (pv 0)) (pi_tup (pv 0))) (pg_name (i := 3) sc26.nd rfl (Or.inr rfl))
        (pss_one (ps_if (PW.pt (pw_and (pt_cmpR op_in_seq (pe_ix ix_seq (pv 3) pe_int (fun _ _ => rfl)) (pv 1) (by with_unfolding_all rfl)) (pw_and1 (pt_cmpR op_notIn_seq (pe_ix ix_seq (pv 3) pe_int (fun _ _ => rfl)) (pv 1) (by with_unfolding_all rfl)))))
          (pss_cons (ps_thaw (ps_setLc (i := 4) (N := ["lot", "row"]) (ix := [none, some 3]) sc26.nd rfl (Or.inl rfl) ⟨rfl, rfl, rfl, by decide⟩ rfl (pi_dict (pv 2)) (fun _ _ _ _ => pg_lc 0 (by decide) rfl rfl) (fun _ _ _ _ => pts_one (pt_val (pe_fn F1 hr1 (pa_cons (pv 1) (pa_cons (pv 0) pa_nil))))) (fun _ _ _ _ => pv 0)))
          (pss_one (ps_if (pt_val (pe_callB (call_allB rfl) rfl B.all b_all (pa_cons (pe_lc (N := ["lot", "spare"]) (ix := [none, some 2]) ⟨rfl, rfl, rfl, by decide⟩ rfl (pi_list (pv 4)) (fun _ _ _ _ => pg_lc 0 (by decide) rfl rfl) (fun _ _ _ _ => pts_nil)
            (fun _ _ _ _ => pe_cmpR op_gt (pe_dget (lt1' hr) (pv 1) (pv 0) (fun _ _ => rfl)) pe_int (nomark _))) pa_nil)))
            (pss_one (ps_ret (pe_tup (pa_cons (pv 3) (pa_cons (pv 4) pa_nil))))) pss_nil))) pss_nil)))
      (pss_one (ps_ret pe_non)), ?_⟩
    refine tfor_seq (K := K) (Hb := H) (a := ra) (xs := rrefs rs) (fun Q q => ⟨_, rfl, q⟩) hra (Same.refl H) (fun i σ H1 => Same H H1 ∧ (∃ g1 g2, σ = [some (.ref ra), some (.ref fo), some (.ref sd), g1, g2]) ∧ ∀ r ∈ rs.take i, ¬ GoodIn f ls fs r)
      ⟨Same.refl _, ⟨_, _, rfl⟩, by simp⟩ (fun i σ H1 _ q => q.1) ?_ ?_
    · rintro i x σ H1 hx ⟨s1, ⟨g1, g2, rfl⟩, hno⟩
      obtain ⟨r, hri, rfl⟩ := rowAt_get hx
      have hrm := List.mem_of_getElem? hri
      have hrr := s1 _ _ (hrow r hrm)
      have f1 := s1 _ _ hfo
      have step : ¬ GoodIn f ls fs r → ∀ q ∈ rs.take (i + 1), ¬ GoodIn f ls fs q := fun hn q hq => by
        rw [List.take_add_one, hri] at hq
        rcases List.mem_append.mp hq with z | z
        · exact hno q z
        · have e : q = r := by simpa using z
          rw [e]; exact hn
      refine ⟨_, rfl, rix_of (j := 1) (.inr (SqT.of hrr)) rfl rfl ⟨_, rfl, fo, _, rfl, .inl (SqL.of f1), rfl, flat_strs _, _, rfl, ?_⟩⟩
      rw [in_strs]
      show if decide (r.2.2.1 ∈ fs) = true then _ else _
      by_cases c1 : r.2.2.1 ∈ fs
      · rw [decide_eq_true c1]
        refine iteT ⟨_, rfl, rix_of (j := 2) (.inr (SqT.of hrr)) rfl rfl ⟨_, rfl, fo, _, rfl, .inl (SqL.of f1), rfl, flat_strs _, _, rfl, ?_⟩⟩
        rw [in_strs]
        show if (!decide (r.2.2.2 ∈ fs)) = true then _ else _
        by_cases c2 : r.2.2.2 ∈ fs
        · rw [decide_eq_true c2]
          exact iteF ⟨s1, ⟨_, _, rfl⟩, step fun g => g.2.1 c2⟩
        · rw [decide_eq_false c2]
          refine iteT ⟨_, rfl, sd, _, rfl, s1 _ _ hsd, fun o => ?_⟩
          have hd1 := s1 _ _ hsd
          have e1 : upd H1 sd (.frz o (.dT (kvF f ls))) sd = some (.frz o (.dT (kvF f ls))) := upd_same
          have row1 : upd H1 sd (.frz o (.dT (kvF f ls))) r.1 = some (.tup [.str r.2.1, .str r.2.2.1, .str r.2.2.2]) := by
            rw [upd_ne (fun z => by rw [z, hd1] at hrr; cases hrr)]; exact hrr
          refine lcw_dict (a := sd) (o := o) (kvs := kvF f ls) (fits (by rw [List.length_map]; omega)) (fun j ys σ H2 => H2 = upd H1 sd (.frz o (.dT (kvF f ls))) ∧ (∃ x, σ = [x, some (.ref r.1)]) ∧ ∃ lts : List (Addr × List Str), ys = trefs lts ∧ lts.length ≤ j ∧ LtAt H1 lts ∧ lts.map (·.2) = (ls.take j).filter (fun l => lead l r))
            ⟨rfl, ⟨_, rfl⟩, [], rfl, Nat.le_refl _, (fun x hx => nomatch hx), rfl⟩ (fun j ys σ H2 _ p => by obtain ⟨rfl, _, lts, rfl, hz, _⟩ := p; exact ⟨by simpa using hz, e1⟩) ?_ ?_
          · rintro j p b ys σ H2 hp hb ⟨rfl, ⟨x, rfl⟩, lts, rfl, hz, hA, hm⟩
            rw [List.getElem?_map] at hp
            cases hc : ls[j]? with
            | none => rw [hc] at hp; cases hp
            | some l =>
              rw [hc] at hp
              cases hp
              have hb' : upd H1 sd (.frz o (.dT (kvF f ls))) b = some (.tup (l.map V.str)) := by rw [← keyL_kV]; exact hb
              have hb1 : H1 b = some (.tup (l.map V.str)) := by
                rw [upd_ne (fun z => by rw [z, upd_same] at hb'; cases hb')] at hb'; exact hb'
              have tf := take_filter_succ (fun l : List Str => lead l r) ls j l hc
              refine ⟨_, rfl, _, rfl, b, r, l, rfl, row1, hb', _, rfl, ite2 (fun c => ⟨_, rfl, rfl, ⟨_, rfl⟩, lts ++ [(b, l)], ?_, ?_, ?_, ?_⟩) (fun c => ⟨rfl, ⟨_, rfl⟩, lts, rfl, by omega, hA, ?_⟩)⟩
              · simp
              · rw [List.length_append]; simp; omega
              · intro x hx
                rcases List.mem_append.mp hx with z | z
                · exact hA x z
                · have e : x = (b, l) := by simpa using z
                  subst e; exact hb1
              · rw [List.map_append, hm, tf, c]; simp
              · rw [hm, tf]; simp only [Bool.not_eq_true] at c; rw [c]; simp
          rintro ys σ H2 ⟨rfl, ⟨x, rfl⟩, lts, rfl, hz, hA, hm⟩ en hen
          rw [take_all ls (by simp)] at hm
          have nen : en ≠ sd := fun z => by rw [z, upd_same] at hen; cases hen
          have hen1 : H1 en = none := by rw [upd_ne nen] at hen; exact hen
          refine ⟨sd, o, _, by rw [upd_ne nen.symm]; exact upd_same, fun o' u' (z : H sd = _) => (by rw [hsd] at z; cases z), ?_⟩
          have s2 : Same H1 (upd (upd (upd H1 sd (.frz o (.dT (kvF f ls)))) en (.lst (trefs lts))) sd (.dT (kvF f ls))) := fun b ob e => by
            by_cases z : b = sd
            · subst z; rw [upd_same, ← e, hd1]
            · rw [upd_ne z, upd_ne (ne_of_none e hen1), upd_ne z]; exact e
          have en2 : (upd (upd (upd H1 sd (.frz o (.dT (kvF f ls)))) en (.lst (trefs lts))) sd (.dT (kvF f ls))) en = some (.lst (trefs lts)) := by rw [upd_ne nen, upd_same]
          generalize upd (upd (upd H1 sd (.frz o (.dT (kvF f ls)))) en (.lst (trefs lts))) sd (.dT (kvF f ls)) = H3 at s2 en2 ⊢
          have hd3 := s2 _ _ hd1
          have hz' : lts.length ≤ 255 := by
            have e2 := congrArg List.length hm
            rw [List.length_map] at e2
            have := List.length_filter_le (fun l : List Str => lead l r) ls
            omega
          have hmem : ∀ x ∈ lts, x.2 ∈ ls ∧ lead x.2 r = true := fun x hx => by
            have : x.2 ∈ lts.map (·.2) := List.mem_map_of_mem hx
            rw [hm] at this
            exact List.mem_filter.mp this
          refine ⟨_, rfl, en, rfl, ⟨_, SqL.of en2⟩, lcw_list0 (xs := trefs lts) (fits (by rw [List.length_map]; omega)) (fun j ys σ H4 => ys = ((lts.take j).map fun x => decide (0 < f x.2)).map V.bl ∧ H4 = H3 ∧ ∃ x, σ = [x, some (.ref sd)]) ⟨rfl, rfl, _, rfl⟩
            (fun j ys σ H4 _ p => ⟨by rw [p.1]; simp; omega, by rw [p.2.1]; exact SqL.of en2⟩) ?_ ?_⟩
          · rintro j y ys σ H4 hy ⟨rfl, rfl, x, rfl⟩
            obtain ⟨lt, hlt, rfl⟩ := tref_get hy
            have hm' := List.mem_of_getElem? hlt
            have gd : DGet H4 sd (.ref lt.1) (some (.int (f lt.2))) := by
              rw [← kvF_some (f := f) (hmem lt hm').1]; exact DGet.t hd3 (by rw [keyL_kV]; exact s2 _ _ (hA lt hm'))
            refine ⟨_, rfl, _, rfl, sd, _, rfl, gd, _, _, rfl, rfl, ?_, rfl, _, rfl⟩
            rw [List.take_add_one, hlt]; simp
          · rintro ys σ H4 ⟨rfl, rfl, x, rfl⟩ al hal
            rw [take_all lts (by simp)]
            refine ⟨al, _, rfl, SqL.of upd_same, _, rfl, ?_⟩
            have s4 := same_upd (o := .lst ((lts.map fun x => decide (0 < f x.2)).map V.bl)) (Same.refl H4) hal
            generalize upd H4 al (.lst ((lts.map fun x => decide (0 < f x.2)).map V.bl)) = H5 at s4 ⊢
            have s05 := s1.trans (s2.trans s4)
            refine ite2 (fun c => ?_) (fun c => ⟨s05, ⟨_, _, rfl⟩, step fun g => c ?_⟩)
            · refine ⟨_, rfl, _, rfl, by show 2 ≤ sizeLine; decide, fun t ht => ?_⟩
              have s6 := same_upd (o := .tup [.ref r.1, .ref en]) (Same.refl H5) ht
              refine k r t en lts _ (s05.trans s6) hrm ⟨c1, c2, fun l hl hle => ?_⟩ upd_same (s6 _ _ (s4 _ _ en2)) (fun x hx => s6 _ _ (s4 _ _ (s2 _ _ (hA x hx)))) hm (s1.free hen1)
              have hin : l ∈ lts.map (·.2) := by rw [hm]; exact List.mem_filter.mpr ⟨hl, hle⟩
              obtain ⟨x, hx, rfl⟩ := List.mem_map.mp hin
              have := List.all_eq_true.mp c (decide (0 < f x.2)) (List.mem_map_of_mem (f := fun x : Addr × List Str => decide (0 < f x.2)) hx)
              exact of_decide_eq_true this
            · refine List.all_eq_true.mpr fun b hb => ?_
              obtain ⟨x, hx, rfl⟩ := List.mem_map.mp hb
              obtain ⟨h1, h2⟩ := hmem x hx
              exact decide_eq_true (g.2.2 _ h1 h2)
      · rw [decide_eq_false c1]
        exact iteF (iteF ⟨s1, ⟨_, _, rfl⟩, step fun g => c1 g.1⟩)
    · rintro σ H1 ⟨s1, ⟨g1, g2, rfl⟩, hno⟩
      rw [take_all rs (by simp)] at hno
      obtain ⟨r, hr', hg⟩ := hex
      exact absurd hg (hno r hr')
end
end K33

set_option Elab.async false
set_option linter.all false
set_option maxRecDepth 100000
set_option maxHeartbeats 4000000
namespace K33
open PySem L2
theorem putK_kvF {f : List Str → Int} {ls : List (List Str)} {l : List Str} {z : Int} (h : l ∈ ls) : putK (kvF f ls) (keyL l) (.int z) = kvF (fun m => if m = l then z else f m) ls := by
  unfold putK
  have ha : ((kvF f ls).any fun kv => decide (kv.1 = keyL l)) = true := by rw [valV_any, kvF_some h]; rfl
  rw [if_pos ha]
  unfold kvF
  rw [List.map_map]
  refine List.map_congr_left fun m _ => ?_
  show (if keyL m = keyL l then (keyL m, V.int z) else (keyL m, V.int (f m))) = _
  by_cases e : m = l
  · subst e; simp
  · rw [if_neg (fun q => e (keyL_inj q))]
    show _ = (keyL m, V.int (if m = l then z else f m))
    rw [if_neg e]
theorem kvF_congr {f g : List Str → Int} {ls : List (List Str)} (h : ∀ l ∈ ls, f l = g l) : kvF f ls = kvF g ls := List.map_congr_left fun l hl => by rw [h l hl]
noncomputable abbrev ends (tr : List T) : List Str := tr.map fun r => r.2.2.2
/-- rows of a one-way tree, as they were taken -/
structure SpT (root : Str) (ps : List Str) (tr : List T) : Prop where
  nd : (root :: ends tr).Nodup
  sub : ∀ x ∈ root :: ends tr, x ∈ ps
  ord : ∀ i r, tr[i]? = some r → r.2.2.1 ∈ root :: ends (tr.take i)
theorem SpT.start {root : Str} {ps : List Str} (h : root ∈ ps) : SpT root ps [] := ⟨by simp, by simpa using h, fun i r e => by simp at e⟩
theorem SpT.add {root : Str} {ps : List Str} {tr : List T} {r : T} (S : SpT root ps tr) (h1 : r.2.2.1 ∈ root :: ends tr) (h2 : r.2.2.2 ∉ root :: ends tr) (h3 : r.2.2.2 ∈ ps) : SpT root ps (tr ++ [r]) where
  nd := by
    have e : root :: ends (tr ++ [r]) = (root :: ends tr) ++ [r.2.2.2] := by simp [ends]
    rw [e]
    exact List.nodup_append.mpr ⟨S.nd, by simp, fun a ha b hb => by
      have : b = r.2.2.2 := by simpa using hb
      rw [this]
      exact fun z => h2 (z ▸ ha)⟩
  sub := fun x hx => by
    have e : root :: ends (tr ++ [r]) = (root :: ends tr) ++ [r.2.2.2] := by simp [ends]
    rw [e] at hx
    rcases List.mem_append.mp hx with z | z
    · exact S.sub x z
    · have : x = r.2.2.2 := by simpa using z
      rw [this]; exact h3
  ord := fun i q hq => by
    by_cases hi : i < tr.length
    · rw [List.getElem?_append_left hi] at hq
      rw [List.take_append_of_le_length (by omega)]
      exact S.ord i q hq
    · rw [List.getElem?_append_right (by omega)] at hq
      have hz : i - tr.length = 0 := by
        cases hc : i - tr.length with
        | zero => rfl
        | succ n => rw [hc] at hq; simp at hq
      rw [hz] at hq
      have e : q = r := by simpa using hq.symm
      subst e
      have : i = tr.length := by omega
      subst this
      rw [List.take_left']
      · exact h1
      · rfl
theorem nd_len : ∀ {a b : List Str}, a.Nodup → (∀ x ∈ a, x ∈ b) → a.length ≤ b.length
  | [], _, _, _ => Nat.zero_le _
  | x :: a, b, hn, hs => by
    obtain ⟨h1, h2⟩ := List.nodup_cons.mp hn
    have hx := hs x List.mem_cons_self
    have ih := nd_len (a := a) (b := b.erase x) h2 (fun y hy => (List.mem_erase_of_ne (a := y) (b := x) (fun z : y = x => h1 (z ▸ hy))).mpr (hs y (List.mem_cons_of_mem _ hy)))
    rw [List.length_erase_of_mem hx] at ih
    have := List.length_pos_of_mem hx
    simp
    omega
theorem ex_out {a b : List Str} (hb : b.Nodup) (hl : a.length < b.length) : ∃ x ∈ b, x ∉ a := by
  by_cases c : ∃ x ∈ b, x ∉ a
  · exact c
  · have : ∀ x ∈ b, x ∈ a := fun x hx => by
      by_cases d : x ∈ a
      · exact d
      · exact absurd ⟨x, hx, d⟩ c
    have := nd_len hb this
    omega
section
variable {P : Program} {w : World} {K : PySem.W.Frag} {mg : Str → Option Value} {base : Heap}
noncomputable def spGrown : Sp := fun vs H Q _ => ∃ (pa ra la : Addr) (root : Str) (ps later : List Str) (rs : List T), vs = [.ref pa, .ref ra, .str root, .ref la] ∧ H pa = some (.tup (ps.map V.str)) ∧ (H ra = some (.lst (rrefs rs)) ∨ H ra = some (.tup (rrefs rs))) ∧ (∀ r ∈ rs, RowAt H r.1 r.2) ∧ rs.length ≤ 60 ∧
  ps.Nodup ∧ ps.length ≤ 8 ∧ root ∈ ps ∧ (∀ r ∈ rs, r.2.2.1 ∈ ps ∧ r.2.2.2 ∈ ps) ∧ H la = some (.tup (later.map V.str)) ∧ later.length ≤ 100 ∧ (∀ l ∈ lotsOf ps, 0 ≤ spr rs (root :: later) l) ∧
  ∀ (q : Addr) (tr rem : List T) (H' : Hp), Same H H' → H q = none → H' q = some (.lst (rrefs tr)) → rs.Perm (tr ++ rem) → (∀ l ∈ lotsOf ps, 0 ≤ spr rem later l) → SpT root ps tr → tr.length + 1 = ps.length → Q (.ref q) H'
noncomputable abbrev N27 : List Str := ["places", "rows", "root", "later", "spare", "found", "tree", "row", "entered", "lot"]
theorem sc27 : FnScope N27 ["places", "rows", "root", "later"] (defScope (top 27)) := ⟨rfl, rfl, rfl, by decide +kernel, rfl, by decide +kernel, by decide +kernel⟩
theorem ok_grown {f : Addr} {fd : FuncData} (F : Fun K "grown" "grown" (top 27) f fd) (B : Bl mg) (F1 : Fn P w K mg base 3 "spare_into" ["rows", "lots", "roots"] spSpare) (F2 : Fn P w K mg base 1 "lots_among" ["places"] spAmongL) (F3 : Fn P w K mg base 2 "next_row" ["rows", "found", "spare"] spNext) : FnOk P w K mg base CX0 4 f fd ["places", "rows", "root", "later"] spGrown := by
  refine F.ok sc27 (fun vs H Q E h => ?_) (fun cdv A outer s H vs Q E hr h => ?_)
  · obtain ⟨pa, ra, la, root, ps, later, rs, rfl, _⟩ := h
    rfl
  · obtain ⟨pa, ra, la, root, ps, later, rs, rfl, hpa, hra, hrow, hrz, hnd, h8, hroot, hst, hla, hl100, hge, k⟩ := h
    have hr1 : Room 1 _ := hr.mono (by decide)
    have hr2 : Room 2 _ := hr.mono (by decide)
    refine ⟨_, pss_cons (ps_set (i := 4) sc27.nd rfl (Or.inl rfl) (pe_fn F1 hr (pa_cons (pv 1) (pa_cons (pe_fn F2 hr1 (pa_cons (pv 0) pa_nil)) (pa_cons (pv 3) pa_nil)))))
      (pss_cons (ps_set (i := 5) sc27.nd rfl (Or.inl rfl) (pe_lst (pa_cons (pv 2) pa_nil)))
      (pss_cons (ps_set (i := 6) sc27.nd rfl (Or.inl rfl) (pe_lst pa_nil))
      (pss_cons (ps_while PassesOwn.never (pt_cmpR op_lt (pe_callB call_len_seq rfl B.len PySem.boot_len (pa_cons (pv 5) pa_nil)) (pe_callB call_len_seq rfl B.len PySem.boot_len (pa_cons (pv 0) pa_nil)) (nomark _))
        (pss_cons (ps_asg (pe_fn F3 hr2 (pa_cons (pv 1) (pa_cons (pv 5) (pa_cons (pv 4) pa_nil)))) (pg_tup rfl (n := 2) (pgs_cons (pg_name (i := 7) sc27.nd rfl (Or.inl rfl)) (pgs_cons (pg_name (i := 8) sc27.nd rfl (Or.inl rfl)) pgs_nil))))
        (pss_cons (ps_expr (pe_bm PySem.F.plainAttrs_list PySem.F.slot_list_append PySem.F.type_list_append mt_append (pv 5) (pa_cons (pe_ix ix_seq (pv 7) pe_int (fun _ _ => rfl)) pa_nil)))
        (pss_cons (ps_expr (pe_bm PySem.F.plainAttrs_list PySem.F.slot_list_append PySem.F.type_list_append mt_append (pv 6) (pa_cons (pv 7) pa_nil)))
        (pss_one (ps_for PassesOwn.never rfl (pi_list (pv 8)) (pg_name (i := 9) sc27.nd rfl (Or.inl rfl)) (pss_one (ps_daug (lt1' hr) (pv 4) (pv 9) pe_int in_sub (fun _ _ _ => rfl)))))))))
      (pss_one (ps_ret (pv 6)))))), ?_⟩
    refine ⟨_, rfl, _, rfl, pa, ps, rfl, .inr hpa, h8, fun q lts H1 s1 q1 A1 e1 => ?_⟩
    have hll : lts.length ≤ 255 := by
      have e2 := congrArg List.length e1
      rw [List.length_map] at e2
      have e3 := lots_len ps
      have e4 := pow_le h8
      omega
    refine ⟨_, rfl, ra, q, la, rs, lts, later, rfl, hra.imp (s1 _ _) (s1 _ _), fun r hr => s1 _ _ (hrow r hr), hrz, q1, A1, by rw [e1]; exact lots_nodup hnd, hll, s1 _ _ hla, hl100, fun sd H2 s2 hsd0 d2 => ?_⟩
    rw [e1] at d2
    have hl256 : (lotsOf ps).length ≤ 255 := by rw [← e1, List.length_map]; exact hll
    have s02 := s1.trans s2
    have hsd : H sd = none := s1.free hsd0
    refine ⟨_, rfl, by show 1 ≤ sizeLine; decide, fun fo hfo => ?_⟩
    have s3 := same_upd (o := .lst [.str root]) s02 hfo
    have f3 : upd H2 fo (.lst [.str root]) fo = some (.lst ((root :: ends []).map V.str)) := upd_same
    have nsf : sd ≠ fo := ne_of_none d2 hfo
    have d3 : upd H2 fo (.lst [.str root]) sd = some (.dT (kvF (spr rs later) (lotsOf ps))) := by rw [upd_ne nsf]; exact d2
    generalize upd H2 fo (.lst [.str root]) = H3 at s3 f3 d3 ⊢
    refine ⟨Nat.zero_le _, fun tk htk => ?_⟩
    have hfo0 : H fo = none := s02.free hfo
    have htk0 : H tk = none := s3.free htk
    have nst : sd ≠ tk := ne_of_none d3 htk
    have nft : fo ≠ tk := ne_of_none f3 htk
    have s4 := same_upd (o := .lst []) s3 htk
    have d4 : upd H3 tk (.lst []) sd = some (.dT (kvF (spr rs later) (lotsOf ps))) := by rw [upd_ne nst]; exact d3
    have f4 : upd H3 tk (.lst []) fo = some (.lst ((root :: ends []).map V.str)) := by rw [upd_ne nft]; exact f3
    have t4 : upd H3 tk (.lst []) tk = some (.lst (rrefs [])) := upd_same
    generalize upd H3 tk (.lst []) = H4 at s4 d4 f4 t4 ⊢
    refine ⟨fun m σ H5 => ∃ (tr rem : List T) (g1 g2 g3 : Option V), σ = [some (.ref pa), some (.ref ra), some (.str root), some (.ref la), some (.ref sd), some (.ref fo), some (.ref tk), g1, g2, g3] ∧ m = 100 - tr.length ∧ rs.Perm (tr ++ rem) ∧ Grow ps later (root :: ends tr) rem ∧ SpT root ps tr ∧ Same H H5 ∧ H5 sd = some (.dT (kvF (spr rem later) (lotsOf ps))) ∧ H5 fo = some (.lst ((root :: ends tr).map V.str)) ∧ H5 tk = some (.lst (rrefs tr)),
      ⟨_, [], rs, none, none, none, rfl, rfl, List.Perm.refl _, Grow.start hnd hst hge, SpT.start hroot, s4, d4, f4, t4⟩, ?_⟩
    rintro m σ H5 ⟨tr, rem, g1, g2, g3, rfl, rfl, hp, G, S, s5, d5, f5, t5⟩
    have htl : tr.length + 1 ≤ ps.length := by
      have := nd_len S.nd S.sub
      simpa using this
    refine ⟨_, rfl, fo, _, rfl, .inl (SqL.of f5), _, rfl, pa, _, rfl, .inr (SqT.of (s5 _ _ hpa)), _, _, rfl, rfl, _, rfl, ite2 (fun c => ?_) (fun c => ?_)⟩
    · have hlt : tr.length + 1 < ps.length := by
        have := of_decide_eq_true c
        simp at this
        omega
      refine ⟨fun σ' H' => ∃ m', m' < 100 - tr.length ∧ ∃ (tr rem : List T) (g1 g2 g3 : Option V), σ' = [some (.ref pa), some (.ref ra), some (.str root), some (.ref la), some (.ref sd), some (.ref fo), some (.ref tk), g1, g2, g3] ∧ m' = 100 - tr.length ∧ rs.Perm (tr ++ rem) ∧ Grow ps later (root :: ends tr) rem ∧ SpT root ps tr ∧ Same H H' ∧ H' sd = some (.dT (kvF (spr rem later) (lotsOf ps))) ∧ H' fo = some (.lst ((root :: ends tr).map V.str)) ∧ H' tk = some (.lst (rrefs tr)), fun σ' H' q => q, ?_⟩
      have hex : ∃ r ∈ rs, GoodIn (spr rem later) (lotsOf ps) (root :: ends tr) r := by
        obtain ⟨r, hr, hg⟩ := G.ex (ex_out hnd (by simpa using hlt))
        exact ⟨r, hp.mem_iff.mpr (List.mem_append_right _ hr), hg⟩
      refine ⟨_, rfl, _, rfl, _, rfl, ra, fo, sd, rs, root :: ends tr, spr rem later, lotsOf ps, rfl, hra.imp (s5 _ _) (s5 _ _), fun r hr => s5 _ _ (hrow r hr), f5, d5, hl256, hex, fun r t en lts H6 s6 hr hg t6 en6 A6 m6 hen => ?_⟩
      have s06 := s5.trans s6
      have hrow6 := s06 _ _ (hrow r hr)
      have hrem : r ∈ rem := by
        rcases List.mem_append.mp (hp.mem_iff.mp hr) with z | z
        · exact absurd (List.mem_cons_of_mem _ (List.mem_map_of_mem (f := fun r : T => r.2.2.2) z)) hg.2.1
        · exact z
      have hpr := List.perm_cons_erase hrem
      have G' := G.step hg hpr
      have S' := S.add hg.1 hg.2.1 (hst r hr).2
      have hp' : rs.Perm ((tr ++ [r]) ++ rem.erase r) := by
        rw [List.append_assoc]
        exact hp.trans (hpr.append_left tr)
      have ee : (root :: ends tr) ++ [r.2.2.2] = root :: ends (tr ++ [r]) := by simp [ends]
      rw [ee] at G'
      have d6 := s6 _ _ d5
      have f6 := s6 _ _ f5
      have t6' := s6 _ _ t5
      have nen1 : en ≠ sd := fun z => by rw [z, d5] at hen; cases hen
      have nen2 : en ≠ fo := fun z => by rw [z, f5] at hen; cases hen
      have nen3 : en ≠ tk := fun z => by rw [z, t5] at hen; cases hen
      refine ⟨t, _, rfl, SqT.of t6, rfl, _, _, rfl, _, _, rfl, rfl, ?_⟩
      have hel : (root :: ends tr).length ≤ 8 := by simp; omega
      refine ⟨_, rfl, .inl ⟨rfl, _, SqL.of f6⟩, _, rfl, rix_of (j := 2) (.inr (SqT.of hrow6)) rfl rfl ⟨fo, _, _, rfl, rfl, f6, fits (by rw [List.length_map]; omega), ?_⟩⟩
      have s7 := same_over (o := .lst ((root :: ends tr).map V.str ++ [V.str r.2.2.2])) s06 hfo0
      have f7 : upd H6 fo (.lst ((root :: ends tr).map V.str ++ [V.str r.2.2.2])) fo = some (.lst ((root :: ends (tr ++ [r])).map V.str)) := by rw [upd_same]; simp [ends]
      have d7 : upd H6 fo (.lst ((root :: ends tr).map V.str ++ [V.str r.2.2.2])) sd = some (.dT (kvF (spr rem later) (lotsOf ps))) := by rw [upd_ne nsf]; exact d6
      have t7 : upd H6 fo (.lst ((root :: ends tr).map V.str ++ [V.str r.2.2.2])) tk = some (.lst (rrefs tr)) := by rw [upd_ne nft.symm]; exact t6'
      have en7 : upd H6 fo (.lst ((root :: ends tr).map V.str ++ [V.str r.2.2.2])) en = some (.lst (trefs lts)) := by rw [upd_ne nen2]; exact en6
      have A7 : LtAt (upd H6 fo (.lst ((root :: ends tr).map V.str ++ [V.str r.2.2.2]))) lts := fun x hx => by
        have := A6 x hx
        rw [upd_ne (fun z => by rw [z, f6] at this; cases this)]; exact this
      generalize upd H6 fo (.lst ((root :: ends tr).map V.str ++ [V.str r.2.2.2])) = H7 at s7 f7 d7 t7 en7 A7 ⊢
      refine ⟨_, rfl, .inl ⟨rfl, _, SqL.of t7⟩, _, rfl, tk, _, _, rfl, rfl, t7, fits (by rw [List.length_map]; omega), ?_⟩
      have s8 := same_over (o := .lst (rrefs tr ++ [V.ref r.1])) s7 htk0
      have t8 : upd H7 tk (.lst (rrefs tr ++ [V.ref r.1])) tk = some (.lst (rrefs (tr ++ [r]))) := by rw [upd_same]; simp [rrefs]
      have d8 : upd H7 tk (.lst (rrefs tr ++ [V.ref r.1])) sd = some (.dT (kvF (spr rem later) (lotsOf ps))) := by rw [upd_ne nst]; exact d7
      have f8 : upd H7 tk (.lst (rrefs tr ++ [V.ref r.1])) fo = some (.lst ((root :: ends (tr ++ [r])).map V.str)) := by rw [upd_ne nft]; exact f7
      have en8 : upd H7 tk (.lst (rrefs tr ++ [V.ref r.1])) en = some (.lst (trefs lts)) := by rw [upd_ne nen3]; exact en7
      have A8 : LtAt (upd H7 tk (.lst (rrefs tr ++ [V.ref r.1]))) lts := fun x hx => by
        have := A7 x hx
        rw [upd_ne (fun z => by rw [z, t7] at this; cases this)]; exact this
      generalize upd H7 tk (.lst (rrefs tr ++ [V.ref r.1])) = H8 at s8 t8 d8 f8 en8 A8 ⊢
      have lnd : (lts.map (·.2)).Nodup := by rw [m6]; exact (lots_nodup hnd).filter _
      have hmem : ∀ x ∈ lts, x.2 ∈ lotsOf ps ∧ lead x.2 r = true := fun x hx => by
        have : x.2 ∈ lts.map (·.2) := List.mem_map_of_mem hx
        rw [m6] at this
        exact List.mem_filter.mp this
      refine ⟨_, rfl, en, rfl, ⟨_, SqL.of en8⟩, for_list (K := K) (a := en) (xs := trefs lts) (fun j σ H9 => (∃ g3, σ = [some (.ref pa), some (.ref ra), some (.str root), some (.ref la), some (.ref sd), some (.ref fo), some (.ref tk), some (.ref r.1), some (.ref en), g3]) ∧ Same H H9 ∧ H9 sd = some (.dT (kvF (fun l => spr rem later l - (if l ∈ (lts.take j).map (·.2) then 1 else 0)) (lotsOf ps))) ∧ H9 fo = some (.lst ((root :: ends (tr ++ [r])).map V.str)) ∧ H9 tk = some (.lst (rrefs (tr ++ [r]))) ∧ H9 en = some (.lst (trefs lts)) ∧ LtAt H9 lts)
        ⟨⟨_, rfl⟩, s8, ?_, f8, t8, en8, A8⟩ (fun j σ H9 _ p => SqL.of p.2.2.2.2.2.1) ?_ ?_⟩
      · rw [d8]
        refine congrArg (fun x => some (HO.dT x)) (kvF_congr fun l _ => ?_)
        simp
      · rintro j x σ H9 hx ⟨⟨g3, rfl⟩, s9, d9, f9, t9, en9, A9⟩
        obtain ⟨lt, hlt, rfl⟩ := tref_get hx
        have hm := List.mem_of_getElem? hlt
        have hnew : lt.2 ∉ (lts.take j).map (·.2) := fun hmm => by
          have nd := lnd.sublist ((List.take_sublist (j + 1) lts).map (fun x : Addr × List Str => x.2))
          rw [List.take_add_one, hlt, List.map_append] at nd
          exact (List.nodup_append.mp nd).2.2 _ hmm lt.2 (by simp) rfl
        have hA9 := A9 lt hm
        have gd : DGet H9 sd (.ref lt.1) (some (.int (spr rem later lt.2))) := by
          have g := DGet.t (k := keyL lt.2) (b := lt.1) d9 (by rw [keyL_kV]; exact hA9)
          rw [kvF_some (hmem lt hm).1] at g
          simp only [hnew, if_false, Int.sub_zero] at g
          exact g
        refine ⟨_, rfl, _, rfl, sd, _, rfl, gd, _, _, rfl, rfl, _, DPut.t d9 (by rw [keyL_kV]; exact hA9) (fits (by rw [List.length_map]; omega)), ⟨_, rfl⟩, same_over s9 hsd, ?_, ?_, ?_, ?_, ?_⟩
        · rw [upd_same, putK_kvF (hmem lt hm).1]
          refine congrArg (fun x => some (HO.dT x)) (kvF_congr fun l _ => ?_)
          rw [List.take_add_one, hlt]
          by_cases e : l = lt.2
          · subst e
            simp
          · simp [e]
        · rw [upd_ne nsf.symm]; exact f9
        · rw [upd_ne nst.symm]; exact t9
        · rw [upd_ne nen1]; exact en9
        · intro x hx
          have := A9 x hx
          rw [upd_ne (fun z => by rw [z, d9] at this; cases this)]; exact this
      · rintro σ H9 ⟨⟨g3, rfl⟩, s9, d9, f9, t9, en9, A9⟩
        refine ⟨_, ?_, tr ++ [r], rem.erase r, _, _, _, rfl, rfl, hp', G', S', s9, ?_, f9, t9⟩
        · rw [List.length_append]; simp; omega
        · rw [d9]
          refine congrArg (fun x => some (HO.dT x)) (kvF_congr fun l hl => ?_)
          rw [take_all lts (by simp), m6, spr_step hpr]
          unfold ind
          cases hc : lead l r with
          | true =>
            have : l ∈ (lotsOf ps).filter fun l => lead l r := List.mem_filter.mpr ⟨hl, hc⟩
            simp [this]
          | false =>
            have : l ∉ (lotsOf ps).filter fun l => lead l r := fun z => by
              have := (List.mem_filter.mp z).2
              rw [hc] at this; cases this
            simp [this]
    · have hle : ps.length ≤ tr.length + 1 := by
        have : ¬ (((root :: ends tr).map V.str).length : Int) < ((ps.map V.str).length : Int) := fun z => c (decide_eq_true z)
        simp at this
        omega
      exact ⟨_, rfl, k tk tr rem H5 s5 htk0 t5 hp G.ge S (by omega)⟩
end
end K33

set_option Elab.async false
set_option linter.all false
set_option maxRecDepth 100000
set_option maxHeartbeats 4000000
namespace L2
open PySem
theorem tslc_seq {K : PySem.W.Frag} {tl : TE} {g : TG} {tt : TT} {te : TE} {ix : List (Option Nat)} {n : Nat} {D : Ends} {σ : St} {H Hb : Hp} {a : Addr} {xs : List V} (hn : xs.length < sizeLine) (htl : ∀ Q : VK, Q (.ref a) H → tl σ H Q) (hb : Hb a = some (.lst xs) ∨ Hb a = some (.tup xs)) (s0 : Same Hb H) (Pv : Nat → List V → St → Hp → Prop) (h0 : Pv 0 [] (emb ix σ) H)
    (hl : ∀ i ys σ' H', i ≤ xs.length → Pv i ys σ' H' → ys.length ≤ i ∧ Same Hb H')
    (hs : ∀ i x ys σ H, xs[i]? = some x → Pv i ys σ H → g x σ H fun σ2 H2 => tt σ2 H2 fun b H3 => if b = true then te σ2 H3 (fun v H4 => Pv (i + 1) (ys ++ [v]) σ2 H4) else Pv (i + 1) ys σ2 H3)
    (hd : ∀ ys σ' H, Pv xs.length ys σ' H → ∀ p, H p = none → D.nx (σ.set n (some (.ref p))) (upd H p (.lst ys))) : tSetLc n (iOr (iList K tl) (iTup K tl)) g tt te ix D σ H := by
  rcases hb with hb | hb
  · exact .inl (htl _ ⟨a, rfl, ⟨xs, SqL.of (s0 _ _ hb)⟩, lcw_list hn Pv h0 (fun i ys σ H' hi p => ⟨(hl i ys σ H' hi p).1, SqL.of ((hl i ys σ H' hi p).2 _ _ hb)⟩) hs hd⟩)
  · exact .inr (htl _ ⟨a, rfl, ⟨xs, SqT.of (s0 _ _ hb)⟩, lcw_tup hn Pv h0 (fun i ys σ H' hi p => ⟨(hl i ys σ H' hi p).1, SqT.of ((hl i ys σ H' hi p).2 _ _ hb)⟩) hs hd⟩)
end L2
namespace K33
open PySem L2
theorem notInTK (K : PySem.W.Frag) {X : Cx} {k : Nat} (hr : Room k X.A) (h : X.K = K := by rfl) : OpR X (compareOp .NotIn) (rNotInT K) := by subst h; exact op_notInT hr
theorem cut_from (xs : List V) {n : Nat} (h : n ≤ xs.length) : cutV xs (some (n : Int)) none = xs.drop n := by
  unfold cutV
  have h0 : ¬ ((n : Int) < 0) := by omega
  have h1 : min n xs.length = n := by omega
  simp [HT.sIx, h0]
  rw [List.take_of_length_le (by simp)]
  rw [h1]
noncomputable abbrev tri (r : T) : List Str := [r.2.1, r.2.2.1, r.2.2.2]
noncomputable abbrev tna (tr : List T) : List Str := tr.map fun r => r.2.1
theorem left_perm {cur tr rem : List T} (hp : cur.Perm (tr ++ rem)) (hn : (tna cur).Nodup) : (cur.filter fun r => !decide (tri r ∈ tr.map tri)).Perm rem := by
  have h1 := hp.filter (fun r => !decide (tri r ∈ tr.map tri))
  rw [List.filter_append] at h1
  have hn' : (tna (tr ++ rem)).Nodup := (hp.map _).nodup_iff.mp hn
  have e1 : tr.filter (fun r => !decide (tri r ∈ tr.map tri)) = [] := List.filter_eq_nil_iff.mpr fun r hr => by
    have : tri r ∈ tr.map tri := List.mem_map_of_mem hr
    simp [this]
  have e2 : rem.filter (fun r => !decide (tri r ∈ tr.map tri)) = rem := List.filter_eq_self.mpr fun r hr => by
    have : tri r ∉ tr.map tri := fun z => by
      obtain ⟨q, hq, e⟩ := List.mem_map.mp z
      have e' : q.2.1 = r.2.1 := (List.cons.inj e).1
      have hn2 : (tna tr ++ tna rem).Nodup := by rw [← List.map_append]; exact hn'
      exact (List.nodup_append.mp hn2).2.2 q.2.1 (List.mem_map_of_mem (f := fun r : T => r.2.1) hq) r.2.1 (List.mem_map_of_mem (f := fun r : T => r.2.1) hr) e'
    simp [this]
  rw [e1, e2, List.nil_append] at h1
  exact h1
theorem spr_perm {a b : List T} (h : a.Perm b) (rts l : List Str) : spr a rts l = spr b rts l := by unfold spr; rw [cnt_perm h]
/-- the trees that are told -/
structure Trs (ps rts : List Str) (rs : List T) (n : Nat) (trs : List (List T)) (tls : List (Addr × List Str)) (cur : List T) : Prop where
  l1 : trs.length = n
  l2 : tls.length = n
  pm : rs.Perm (trs.flatten ++ cur)
  tr : ∀ (i : Nat) (root : Str) (tr : List T) (x : Addr × List Str), rts[i]? = some root → trs[i]? = some tr → tls[i]? = some x → SpT root ps tr ∧ tr.length + 1 = ps.length ∧ x.2.Perm (tna tr) ∧ PyProof.Rows.sortedS x.2 = true
theorem Trs.add {ps rts : List Str} {rs : List T} {n : Nat} {trs : List (List T)} {tls : List (Addr × List Str)} {cur : List T} (h : Trs ps rts rs n trs tls cur) {root : Str} {tr cur' : List T} {x : Addr × List Str} (hn : rts[n]? = some root) (hp : cur.Perm (tr ++ cur')) (S : SpT root ps tr) (hl : tr.length + 1 = ps.length) (hx : x.2.Perm (tna tr)) (hso : PyProof.Rows.sortedS x.2 = true) : Trs ps rts rs (n + 1) (trs ++ [tr]) (tls ++ [x]) cur' where
  l1 := by rw [List.length_append, h.l1]; rfl
  l2 := by rw [List.length_append, h.l2]; rfl
  pm := by
    rw [List.flatten_append, List.append_assoc]
    refine h.pm.trans (List.Perm.append_left _ ?_)
    simpa using hp
  tr := fun i rt t y hr ht hy => by
    by_cases hi : i < n
    · rw [List.getElem?_append_left (by rw [h.l1]; exact hi)] at ht
      rw [List.getElem?_append_left (by rw [h.l2]; exact hi)] at hy
      exact h.tr i rt t y hr ht hy
    · have hlt : i < (trs ++ [tr]).length := (List.getElem?_eq_some_iff.mp ht).1
      rw [List.length_append, h.l1] at hlt
      have e : i = n := by simp at hlt; omega
      subst e
      rw [List.getElem?_append_right (by rw [h.l1]; exact Nat.le_refl _), h.l1, Nat.sub_self] at ht
      rw [List.getElem?_append_right (by rw [h.l2]; exact Nat.le_refl _), h.l2, Nat.sub_self] at hy
      rw [hn] at hr
      cases hr
      have e1 : t = tr := by simpa using ht.symm
      have e2 : y = x := by simpa using hy.symm
      subst e1 e2
      exact ⟨S, hl, hx, hso⟩
section
variable {P : Program} {w : World} {K : PySem.W.Frag} {mg : Str → Option Value} {base : Heap}
noncomputable def spTrees (C : Addr) : Sp := fun vs H Q E => ∃ (v pa ra a : Addr) (ps rts : List Str) (rs : List T), vs = [.ref v, .ref a] ∧ WebAt H v pa ra ps rs ∧ Good ps (rs.map (·.2)) ∧ ps.length ≤ 8 ∧ H a = some (.tup (rts.map V.str)) ∧ rts.length ≤ 100 ∧ (∀ x ∈ rts, x ∈ ps) ∧
  ∀ H', Same H H' → ((∀ l ∈ lotsOf ps, 0 ≤ spr rs rts l) → ∀ (q : Addr) (trs : List (List T)) (tls : List (Addr × List Str)) (cur : List T), H q = none → H' q = some (.lst (trefs tls)) → LtAt H' tls → Trs ps rts rs rts.length trs tls cur → Q (.ref q) H') ∧
    (∀ l ∈ lotsOf ps, spr rs rts l < 0 → ∀ dx u, H' dx = some (.xd [(Str.ofString "lot", .ref u)]) → H' u = some (.tup (l.map V.str)) → E (.ref C) (some dx) H')
noncomputable abbrev N29 : List Str := ["web", "roots", "places", "rows", "trees", "at", "root", "tree"]
theorem sc29 : FnScope N29 ["web", "roots"] (defScope (top 29)) := ⟨rfl, rfl, rfl, by decide +kernel, rfl, by decide +kernel, by decide +kernel⟩
theorem ok_trees {f C : Addr} {fd : FuncData} (F : Fun K "trees_from" "trees_from" (top 29) f fd) (B : Bl mg) (F1 : FnX P w K mg base 4 "need_enough" ["web", "roots"] (spEnough C)) (F2 : Fn P w K mg base 4 "grown" ["places", "rows", "root", "later"] spGrown) : FnOk P w K mg base (CXE P w) 5 f fd ["web", "roots"] (spTrees C) := by
  refine F.okX sc29 (fun vs H Q E h => ?_) (fun cdv A outer s H vs Q E hr h => ?_)
  · obtain ⟨v, pa, ra, a, ps, rts, rs, rfl, _⟩ := h
    rfl
  · obtain ⟨v, pa, ra, a, ps, rts, rs, rfl, W, G, h8, ha, hr100, hin, k⟩ := h
    refine ⟨_, pss_cons (ps_expr (pe_fnX (E := E) F1 hr passE (pa_cons (pv 0) (pa_cons (pv 1) pa_nil))))
      (pss_cons (ps_asg (pv 0) (pg_tup rfl (n := 2) (pgs_cons (pg_name (i := 2) sc29.nd rfl (Or.inl rfl)) (pgs_cons (pg_name (i := 3) sc29.nd rfl (Or.inl rfl)) pgs_nil))))
      (pss_cons (ps_set (i := 4) sc29.nd rfl (Or.inl rfl) (pe_lst pa_nil))
      (pss_cons (ps_for PassesOwn.leaving rfl (pi_enT rfl B.enumerate (pa_cons (pv 1) pa_nil)) (pg_tup rfl (n := 2) (pgs_cons (pg_name (i := 5) sc29.nd rfl (Or.inl rfl)) (pgs_cons (pg_name (i := 6) sc29.nd rfl (Or.inl rfl)) pgs_nil)))
        (pss_cons (ps_set (i := 7) sc29.nd rfl (Or.inr rfl) (pe_fn F2 hr (pa_cons (pv 2) (pa_cons (pv 3) (pa_cons (pv 6) (pa_cons (pe_slice sl_tupA (pv 1) (po_some (pe_op op_add (pv 5) pe_int)) po_none) pa_nil))))))
        (pss_cons (ps_setLc (i := 3) (N := ["row", "tree"]) (ix := [none, some 7]) sc29.nd rfl (Or.inl rfl) ⟨rfl, rfl, rfl, by decide⟩ rfl (pi_or (pi_list (pv 3)) (pi_tup (pv 3))) (fun _ _ _ _ => pg_lc 0 (by decide) rfl rfl) (fun _ _ _ _ => pts_one (pt_cmpR (notInTK K hr) (pv 0) (pv 1) (by with_unfolding_all rfl))) (fun _ _ _ _ => pv 0))
        (pss_one (ps_expr (pe_bm PySem.F.plainAttrs_list PySem.F.slot_list_append PySem.F.type_list_append mt_append (pv 4) (pa_cons (pe_callTy call_tuple_of rfl B.tuple b_tuple (pa_cons (pe_callB call_sortedS rfl B.sorted b_sorted (pa_cons (PE.nox (pe_lc (N := ["row"]) (ix := [none]) ⟨rfl, rfl, rfl, by decide⟩ rfl (pi_list (pv 7)) (fun _ _ _ _ => pg_lc 0 (by decide) rfl rfl) (fun _ _ _ _ => pts_nil) (fun _ _ _ _ => pe_ix (ix_seqK K) (pv 0) pe_int (fun _ _ => rfl)))) pa_nil)) pa_nil)) pa_nil)))))))
      (pss_one (ps_ret (pv 4)))))), ?_⟩
    have hnd := pw_nodup G.so
    have hrz : rs.length ≤ 60 := by have := G.rz; simpa using this
    have hst : ∀ r ∈ rs, NameP r.2.1 ∧ r.2.2.1 ∈ ps ∧ r.2.2.2 ∈ ps := fun r hr => by
      obtain ⟨h1, h2, h3, _⟩ := G.rn r.2 (List.mem_map_of_mem hr)
      exact ⟨h1, h2, h3⟩
    have htn : (tna rs).Nodup := by
      have := pw_nodup G.rso
      rw [List.map_map] at this
      exact this
    refine ⟨_, rfl, _, rfl, v, pa, ra, a, ps, rts, rs, rfl, W, hnd, h8, hrz, ha, hr100, fun H1 s1 => ⟨fun hge => ?_, fun l hl hneg dx u hdx hu => (k H1 s1).2 l hl hneg dx u hdx hu⟩⟩
    have W1 := W.same s1
    have a1 := s1 _ _ ha
    refine ⟨_, rfl, v, _, rfl, SqT.of W1.tp, rfl, _, _, rfl, _, _, rfl, rfl, Nat.zero_le _, fun tk htk => ?_⟩
    have s2 := same_upd (o := .lst []) s1 htk
    have htk0 := s1.free htk
    have t2 : upd H1 tk (.lst []) tk = some (.lst (trefs [])) := upd_same
    generalize upd H1 tk (.lst []) = H2 at s2 t2 ⊢
    refine ⟨_, rfl, a, _, rfl, SqT.of (s2 _ _ ha), for_enT (K := K) (a := a) (xs := rts.map V.str) (fun i σ H3 => ∃ (rc : Addr) (trs : List (List T)) (tls : List (Addr × List Str)) (cur : List T) (g1 g2 g3 : Option V), σ = [some (.ref v), some (.ref a), some (.ref pa), some (.ref rc), some (.ref tk), g1, g2, g3] ∧ Same H H3 ∧ H3 tk = some (.lst (trefs tls)) ∧ LtAt H3 tls ∧ (H3 rc = some (.lst (rrefs cur)) ∨ H3 rc = some (.tup (rrefs cur))) ∧ rc ≠ tk ∧ cur.Sublist rs ∧ Trs ps rts rs i trs tls cur ∧ ∀ l ∈ lotsOf ps, 0 ≤ spr cur (rts.drop i) l)
      ⟨ra, [], [], rs, none, none, none, rfl, s2, t2, (fun x hx => nomatch hx), .inr (s2 _ _ W.rl), (fun z => by have := W.rl; rw [z, htk0] at this; cases this), List.Sublist.refl _, ⟨rfl, rfl, by simp, fun i rt t x _ ht => by simp at ht⟩, hge⟩
      (fun i σ H3 _ p => by obtain ⟨_, _, _, _, _, _, _, _, s3, _⟩ := p; exact SqT.of (s3 _ _ ha)) ?_ ?_⟩
    · rintro i x σ H3 T0 hx ⟨rc, trs, tls, cur, g1, g2, g3, rfl, s3, t3, A3, c3, nct, hsub, R3, hge3⟩ hT0
      rw [List.getElem?_map] at hx
      cases hc : rts[i]? with
      | none => rw [hc] at hx; cases hx
      | some root =>
        rw [hc] at hx
        cases hx
        have hi : i < rts.length := (List.getElem?_eq_some_iff.mp hc).1
        have s4 := same_upd (o := .tup [.int i, .str root]) (Same.refl H3) hT0
        have T4 : upd H3 T0 (.tup [.int i, .str root]) T0 = some (.tup [.int i, .str root]) := upd_same
        generalize upd H3 T0 (.tup [.int i, .str root]) = H4 at s4 T4 ⊢
        have s04 := s3.trans s4
        refine ⟨T0, _, rfl, SqT.of T4, rfl, _, _, rfl, _, _, rfl, rfl, ?_⟩
        have hdrop : rts.drop i = root :: rts.drop (i + 1) := by
          rw [List.drop_eq_getElem_cons hi]
          have := (List.getElem?_eq_some_iff.mp hc).2
          rw [this]
        have hcut : cutV (rts.map V.str) (some ((i : Int) + 1)) none = (rts.drop (i + 1)).map V.str := by
          have := cut_from (rts.map V.str) (n := i + 1) (by rw [List.length_map]; omega)
          rw [List.map_drop]
          exact this
        refine ⟨_, rfl, _, rfl, _, rfl, _, rfl, _, rfl, _, _, rfl, rfl, _, rfl, a, _, rfl, SqT.of (s04 _ _ ha), fun e => ?_, fun la hla => ?_⟩
        · rw [hcut] at e
          have := congrArg List.length e
          simp at this
          omega
        rw [hcut]
        have s5 := same_upd (o := .tup ((rts.drop (i + 1)).map V.str)) (Same.refl H4) hla
        have l5 : upd H4 la (.tup ((rts.drop (i + 1)).map V.str)) la = some (.tup ((rts.drop (i + 1)).map V.str)) := upd_same
        generalize upd H4 la (.tup ((rts.drop (i + 1)).map V.str)) = H5 at s5 l5 ⊢
        have s05 := s04.trans s5
        have s35 := s4.trans s5
        have hcl : cur.length ≤ 60 := Nat.le_trans hsub.length_le hrz
        have hcn : (tna cur).Nodup := htn.sublist (hsub.map _)
        refine ⟨pa, rc, la, root, ps, rts.drop (i + 1), cur, rfl, s05 _ _ W.pl, c3.imp (s35 _ _) (s35 _ _), fun r hr => s05 _ _ (W.rows r (hsub.subset hr)), hcl, hnd, h8, hin root (List.mem_of_getElem? hc), fun r hr => (hst r (hsub.subset hr)).2, l5, by rw [List.length_drop]; omega, by rw [← hdrop]; exact hge3, fun q tr rem H6 s6 hq q6 hp hge6 S hl => ?_⟩
        have s36 := s35.trans s6
        have s06 := s3.trans s36
        have htr : ∀ r ∈ tr, r ∈ rs := fun r hr => hsub.subset (hp.mem_iff.mpr (List.mem_append_left _ hr))
        have hnm3 : ∀ r ∈ rs, ∀ z ∈ tri r, NameP z := fun r hr z hz => by
          obtain ⟨h1, h2, h3⟩ := hst r hr
          simp [tri] at hz
          rcases hz with e | e | e
          · rw [e]; exact h1
          · rw [e]; exact G.nm _ h2
          · rw [e]; exact G.nm _ h3
        have htrl : tr.length ≤ 8 := by omega
        -- the rows that are left
        refine tslc_seq (K := K) (Hb := H6) (a := rc) (xs := rrefs cur) (fits (by rw [List.length_map]; omega)) (fun Q q => ⟨_, rfl, q⟩) (c3.imp (s36 _ _) (s36 _ _)) (Same.refl H6) (fun j ys σ H7 => ys = rrefs ((cur.take j).filter fun r => !decide (tri r ∈ tr.map tri)) ∧ H7 = H6 ∧ ∃ x, σ = [x, some (.ref q)]) ⟨rfl, rfl, _, rfl⟩
          (fun j ys σ H7 _ p => ⟨by rw [p.1, List.length_map]; exact Nat.le_trans (List.length_filter_le _ _) (by rw [List.length_take]; omega), by rw [p.2.1]; exact Same.refl H6⟩) ?_ ?_
        · rintro j y ys σ H7 hy ⟨rfl, rfl, x, rfl⟩
          obtain ⟨r, hrj, rfl⟩ := rowAt_get hy
          have hrm := hsub.subset (List.mem_of_getElem? hrj)
          have tf := take_filter_succ (fun r : T => !decide (tri r ∈ tr.map tri)) cur j r hrj
          refine ⟨_, rfl, _, rfl, r.1, q, tri r, tr.map (fun r => (r.1, tri r)), rfl, rfl, s06 _ _ (W.rows r hrm), hnm3 r hrm, SqL.of (by rw [q6]; simp [trefs, rrefs]), ?_, ?_, _, rfl, ?_⟩
          · intro x hx
            obtain ⟨t, ht, rfl⟩ := List.mem_map.mp hx
            exact s06 _ _ (W.rows t (htr t ht))
          · intro x hx z hz
            obtain ⟨t, ht, rfl⟩ := List.mem_map.mp hx
            exact hnm3 t (htr t ht) z hz
          · have e : (tr.map fun r => (r.1, tri r)).map (·.2) = tr.map tri := by rw [List.map_map]; rfl
            rw [e]
            refine ite2 (fun c => ⟨_, rfl, ?_, rfl, _, rfl⟩) (fun c => ⟨?_, rfl, _, rfl⟩)
            · rw [tf, if_pos c]; simp [rrefs]
            · rw [tf, if_neg c]; simp
        rintro ys σ' H7 ⟨rfl, rfl, x, rfl⟩ rn hrn
        rw [take_all cur (by simp)]
        have hlp := left_perm hp hcn
        have hsub' := (List.filter_sublist (l := cur) (p := fun r => !decide (tri r ∈ tr.map tri))).trans hsub
        generalize hcur' : (cur.filter fun r => !decide (tri r ∈ tr.map tri)) = cur' at hlp hsub' ⊢
        have s8 := same_upd (o := .lst (rrefs cur')) (Same.refl H7) hrn
        have n8 : upd H7 rn (.lst (rrefs cur')) rn = some (.lst (rrefs cur')) := upd_same
        generalize upd H7 rn (.lst (rrefs cur')) = H8 at s8 n8 ⊢
        have s38 := s36.trans s8
        have s08 := s3.trans s38
        have t8 := s38 _ _ t3
        have q8 := s8 _ _ q6
        have nrt : rn ≠ tk := fun z => by rw [z, s36 _ _ t3] at hrn; cases hrn
        -- the names
        refine ⟨_, rfl, .inl ⟨rfl, _, SqL.of t8⟩, _, rfl, q, rfl, ⟨_, SqL.of q8⟩, lcw_list0 (xs := rrefs tr) (fits (by rw [List.length_map]; omega)) (fun j ys σ H9 => ys = (tna (tr.take j)).map V.str ∧ H9 = H8 ∧ ∃ x, σ = [x]) ⟨rfl, rfl, _, rfl⟩
          (fun j ys σ H9 _ p => ⟨by rw [p.1]; simp; omega, by rw [p.2.1]; exact SqL.of q8⟩) ?_ ?_⟩
        · rintro j y ys σ H9 hy ⟨rfl, rfl, x, rfl⟩
          obtain ⟨r, hrj, rfl⟩ := rowAt_get hy
          refine ⟨_, rfl, rix_of (j := 0) (.inr (SqT.of (s08 _ _ (W.rows r (htr r (List.mem_of_getElem? hrj)))))) rfl rfl ⟨?_, rfl, _, rfl⟩⟩
          rw [List.take_add_one, hrj]; simp
        rintro ys σ H9 ⟨rfl, rfl, x, rfl⟩ l9 hl9
        rw [take_all tr (by simp)]
        have s10 := same_upd (o := .lst ((tna tr).map V.str)) (Same.refl H9) hl9
        have l10 : upd H9 l9 (.lst ((tna tr).map V.str)) l9 = some (.lst ((tna tr).map V.str)) := upd_same
        generalize upd H9 l9 (.lst ((tna tr).map V.str)) = H10 at s10 l10 ⊢
        refine ⟨l9, tna tr, rfl, SqL.of l10, by simp; omega, fun ss q11 hpm hso hq11 => ?_⟩
        have s11 := same_upd (o := .lst (ss.map V.str)) (Same.refl H10) hq11
        have q11' : upd H10 q11 (.lst (ss.map V.str)) q11 = some (.lst (ss.map V.str)) := upd_same
        generalize upd H10 q11 (.lst (ss.map V.str)) = H11 at s11 q11' ⊢
        refine ⟨q11, _, rfl, .inl ⟨SqL.of q11', fun tt htt => ?_⟩⟩
        have s12 := same_upd (o := .tup (ss.map V.str)) (Same.refl H11) htt
        have t12 : upd H11 tt (.tup (ss.map V.str)) tt = some (.tup (ss.map V.str)) := upd_same
        generalize upd H11 tt (.tup (ss.map V.str)) = H12 at s12 t12 ⊢
        have s812 := s10.trans (s11.trans s12)
        have s312 := s38.trans s812
        have hti : tls.length ≤ 100 := by rw [R3.l2]; omega
        refine ⟨tk, _, _, rfl, rfl, s312 _ _ t3, fits (by rw [List.length_map]; omega), ?_⟩
        refine ⟨rn, trs ++ [tr], tls ++ [(tt, ss)], cur', _, _, _, rfl, same_over (s3.trans s312) htk0, ?_, ?_, .inl ?_, nrt, hsub', R3.add hc (hp.trans (hlp.symm.append_left tr)) S hl hpm hso, fun l hl => ?_⟩
        · rw [upd_same]; simp [trefs]
        · intro y hy
          rcases List.mem_append.mp hy with z | z
          · have := s312 _ _ (A3 y z)
            rw [upd_ne (fun e => by rw [e, s312 _ _ t3] at this; cases this)]; exact this
          · have e : y = (tt, ss) := by simpa using z
            subst e
            rw [upd_ne (fun e : tt = tk => by rw [e, s312 _ _ t3] at t12; cases t12)]; exact t12
        · rw [upd_ne nrt]; exact s812 _ _ n8
        · rw [spr_perm hlp]; exact hge6 l hl
    · rintro σ H3 ⟨rc, trs, tls, cur, g1, g2, g3, rfl, s3, t3, A3, c3, nct, hsub, R3, hge3⟩
      rw [List.length_map] at R3
      exact ⟨_, rfl, (k H3 s3).1 hge tk trs tls cur htk0 t3 A3 R3⟩
end
end K33

set_option Elab.async false
set_option linter.all false
set_option maxRecDepth 100000
set_option maxHeartbeats 4000000
namespace K33
open PySem L2
mutual
theorem eqv_self : ∀ d : PyData, d.canLay0 = true → PyData.eqv d d = true
  | .none, _ => by simp [PyData.eqv]
  | .bool b, _ => by simp [PyData.eqv]
  | .int i, _ => by simp [PyData.eqv]
  | .str x, _ => by simp [PyData.eqv]
  | .list xs, h => by rw [PyData.eqv]; exact eqvAll_self xs (by simpa [PyData.canLay0] using h)
  | .tuple xs, h => by rw [PyData.eqv]; exact eqvAll_self xs (by simpa [PyData.canLay0] using h)
  | .dict _, h => by simp [PyData.canLay0] at h
theorem eqvAll_self : ∀ ds : List PyData, PyData.canLayAll0 ds = true → PyData.eqvAll ds ds = true
  | [], _ => by simp [PyData.eqvAll]
  | d :: ds, h => by
    simp only [PyData.canLayAll0, Bool.and_eq_true] at h
    rw [PyData.eqvAll, eqv_self d h.1, eqvAll_self ds h.2]
    rfl
end

noncomputable abbrev tupD (ts : List Str) : PyData := .tuple (ts.map PyData.str)
noncomputable abbrev tlD (tl : List (List Str)) : PyData := .list (tl.map tupD)
theorem trsDV {H : Hp} : ∀ {tss : List (Addr × List Str)}, LtAt H tss → DVs H (trefs tss) ((tss.map (·.2)).map tupD)
  | [], _ => .nil
  | r :: t, h => .cons (.tup (h r List.mem_cons_self) (DVs.strs _)) (trsDV fun x hx => h x (List.mem_cons_of_mem _ hx))
theorem lay_trs : ∀ {tl : List (List Str)}, (∀ ts ∈ tl, ∀ y ∈ ts, NameP y) → PyData.canLayAll0 (tl.map tupD) = true ∧ PyData.depthAll (tl.map tupD) ≤ 1
  | [], _ => ⟨rfl, Nat.zero_le _⟩
  | ts :: t, h => by
    have ih := lay_trs (tl := t) fun x hx => h x (List.mem_cons_of_mem _ hx)
    have q := lay_strs (h ts List.mem_cons_self)
    rw [List.map_cons]
    have i2 := ih.2
    simp only [PyData.canLayAll0, PyData.canLay0, PyData.depthAll, PyData.depth, q.1, q.2, ih.1]
    exact ⟨rfl, by omega⟩
theorem shT {tl : List (List Str)} (h : ∀ ts ∈ tl, ∀ y ∈ ts, NameP y) : SeqAt.shaped (tlD tl) = true := by
  have q := lay_trs h
  have i2 := q.2
  have hc : (tlD tl).canLay0 = true := by simp only [tlD, PyData.canLay0, q.1]
  have hd : (tlD tl).depth ≤ 2 := by simp only [tlD, PyData.depth]; omega
  unfold SeqAt.shaped
  rw [hc, decide_eq_true (by omega)]
  rfl
noncomputable abbrev toldD (c : Int) (l : List Str) : PyData := .tuple [.int c, tupD l]
theorem sh_told {c : Int} {l : List Str} (h : ∀ y ∈ l, NameP y) : SeqAt.shaped (toldD c l) = true ∧ (toldD c l).canLay0 = true := by
  have q := lay_strs h
  have hc : (toldD c l).canLay0 = true := by simp only [toldD, tupD, PyData.canLay0, PyData.canLayAll0, q.1]; rfl
  have hd : (toldD c l).depth ≤ 2 := by simp only [toldD, tupD, PyData.depth, PyData.depthAll, q.2]; decide
  refine ⟨?_, hc⟩
  unfold SeqAt.shaped
  rw [hc, decide_eq_true (by omega)]
  rfl
theorem best_is_min (rs : List (Addr × Row)) {ls : List (List Str)} (h : ls ≠ []) : (bestD (datL rs ls)).1 = minI (ls.map fun l => (cnt rs l : Int)) ∧ (bestD (datL rs ls)).2 ∈ ls ∧ (bestD (datL rs ls)).1 = cnt rs (bestD (datL rs ls)).2 := by
  have hd : datL rs ls ≠ [] := by simpa using h
  have hm := bestD_mem hd
  obtain ⟨l, hl, e⟩ := List.mem_map.mp hm
  have e2 : (bestD (datL rs ls)).2 = l := by rw [← e]
  have e1 : (bestD (datL rs ls)).1 = cnt rs l := by rw [← e]
  have hn : (ls.map fun l => (cnt rs l : Int)) ≠ [] := by simpa using h
  refine ⟨?_, by rw [e2]; exact hl, by rw [e1, e2]⟩
  have h1 : minI (ls.map fun l => (cnt rs l : Int)) ≤ (bestD (datL rs ls)).1 := minI_le (by rw [e1]; exact List.mem_map_of_mem (f := fun l => (cnt rs l : Int)) hl)
  obtain ⟨m, hm', em⟩ := List.mem_map.mp (minI_mem hn)
  have h2 : (bestD (datL rs ls)).1 ≤ minI (ls.map fun l => (cnt rs l : Int)) := by
    rw [← em]
    exact bestD_le (x := ((cnt rs m : Int), m)) (List.mem_map_of_mem (f := fun l => ((cnt rs l : Int), l)) hm')
  omega
section
variable {P : Program} {w : World} {K : PySem.W.Frag} {mg : Str → Option Value} {base : Heap}
noncomputable def spLeast : Sp := fun vs H Q _ => ∃ (v pa ra : Addr) (ps : List Str) (rs : List (Addr × Row)) (root : Str), vs = [.ref v, .str root] ∧ WebAt H v pa ra ps rs ∧ Good ps (rs.map (·.2)) ∧ ps.length ≤ 8 ∧ root ∈ ps ∧
  (lotsOf (others ps root) = [] → ∀ H', Same H H' → Q .non H') ∧
  (lotsOf (others ps root) ≠ [] → ∀ (q la : Addr) (H' : Hp), Same H H' → H' q = some (.tup [.int (bestD (datL rs (lotsOf (others ps root)))).1, .ref la]) → H' la = some (.tup ((bestD (datL rs (lotsOf (others ps root)))).2.map V.str)) → Q (.ref q) H')
noncomputable abbrev N30 : List Str := ["web", "root", "lots", "counts"]
theorem sc30 : FnScope N30 ["web", "root"] (defScope (top 30)) := ⟨rfl, rfl, rfl, by decide +kernel, rfl, by decide +kernel, by decide +kernel⟩
theorem ok_least {f : Addr} {fd : FuncData} (F : Fun K "least" "least" (top 30) f fd) (B : Bl mg) (F1 : Fn P w K mg base 4 "need_web" ["thing"] (spWeb .non)) (F2 : Fn P w K mg base 2 "need_place" ["web", "thing"] spNeedPlace) (F3 : Fn P w K mg base 2 "lots_without" ["web", "root"] spLotsW)
    (F4 : Fn P w K mg base 2 "counts_into" ["rows", "lots"] spCounts) : FnOk P w K mg base CX0 5 f fd ["web", "root"] spLeast := by
  refine F.ok sc30 (fun vs H Q E h => ?_) (fun cdv A outer s H vs Q E hr h => ?_)
  · obtain ⟨v, pa, ra, ps, rs, root, rfl, _⟩ := h
    rfl
  · obtain ⟨v, pa, ra, ps, rs, root, rfl, W, G, p8, hroot, k1, k2⟩ := h
    have hr2 : Room 2 _ := hr.mono (by decide)
    refine ⟨_, pss_cons (ps_expr (pe_fn F1 hr (pa_cons (pv 0) pa_nil))) (pss_cons (ps_expr (pe_fn F2 hr2 (pa_cons (pv 0) (pa_cons (pv 1) pa_nil)))) (pss_cons (ps_set (i := 2) sc30.nd rfl (Or.inl rfl) (pe_fn F3 hr2 (pa_cons (pv 0) (pa_cons (pv 1) pa_nil))))
      (pss_cons (ps_if (pt_cmpR op_eq (pe_callB call_len_seq rfl B.len PySem.boot_len (pa_cons (pv 2) pa_nil)) pe_int (nomark _)) (pss_one (ps_ret pe_non)) pss_nil)
      (pss_cons (ps_set (i := 3) sc30.nd rfl (Or.inr rfl) (pe_fn F4 hr2 (pa_cons (pe_ix ix_seq (pv 0) pe_int (fun _ _ => rfl)) (pa_cons (pv 2) pa_nil))))
      (pss_one (ps_ret (pe_callB (call_minP hr rfl) rfl B.min b_min (pa_cons (pe_lc (N := ["lot", "counts"]) (ix := [none, some 3]) ⟨rfl, rfl, rfl, by decide⟩ rfl (pi_list (pv 2)) (fun _ _ _ _ => pg_lc 0 (by decide) rfl rfl) (fun _ _ _ _ => pts_nil)
        (fun _ _ _ _ => pe_tup (pa_cons (pe_dget (lt1' hr) (pv 1) (pv 0) (fun _ _ => rfl)) (pa_cons (pv 0) pa_nil)))) pa_nil)))))))), ?_⟩
    have hz : rs.length ≤ 60 := by have := G.rz; simpa using this
    refine ⟨_, rfl, v, pa, ra, ps, rs, rfl, W, G, fun H1 s1 => ⟨_, rfl, _, rfl, v, pa, ra, ps, rs, root, rfl, W.same s1, hroot, ?_⟩⟩
    refine ⟨_, rfl, _, rfl, v, pa, ra, ps, rs, root, rfl, W.same s1, p8, fun lo lts H2 s2 lo2 A2 e2 => ?_⟩
    have s12 := s1.trans s2
    have W2 := W.same s12
    have hll : (trefs lts).length = lts.length := by simp
    have hnd0 : ps.Nodup := pw_nodup G.so
    have hnd : (lts.map (·.2)).Nodup := by rw [e2]; exact lots_nodup (hnd0.filter _)
    have hl255 : lts.length ≤ 255 := by
      have q := lots_len (others ps root)
      have q2 := congrArg List.length e2
      rw [List.length_map] at q2
      have q3 := pow_le (Nat.le_trans (others_len ps root) p8)
      omega
    have hnm : ∀ x ∈ lts, ∀ y ∈ x.2, NameP y := fun x hx y hy => by
      have q := (lots_sub (by rw [← e2]; exact List.mem_map_of_mem (f := fun z : Addr × List Str => z.2) hx)).subset hy
      exact G.nm y (List.mem_filter.mp q).1
    refine ⟨_, rfl, lo, _, rfl, .inl (SqL.of lo2), rfl, _, rfl, ?_⟩
    refine ite2 (fun c => ?_) (fun c => ?_)
    · have c' : (((trefs lts).length : Nat) : Int) = 0 := V.int.inj (of_decide_eq_true c)
      have hl0 : lts = [] := List.length_eq_zero_iff.mp (by omega)
      exact k1 (by rw [← e2, hl0]; rfl) H2 s12
    · have hne : lts ≠ [] := fun z => by
        simp only [decide_eq_true_eq] at c
        exact c (by rw [z]; rfl)
      refine ⟨_, rfl, rix_of (j := 1) (.inr (SqT.of W2.tp)) rfl rfl ⟨_, rfl, ra, lo, rs, lts, rfl, .inr W2.rl, W2.rows, hz, lo2, A2, hnd, hl255, fun D kvs H3 s3 d3 v3 => ?_⟩⟩
      have s13 := s12.trans s3
      have A3 := A2.same s3
      have lo3 := s3 _ _ lo2
      refine ⟨_, rfl, lo, rfl, ⟨_, SqL.of lo3⟩, lcw_list0 (xs := trefs lts) (fits (by omega)) (fun j ys σ H4 => (∃ qs : List Pl, ys = plrefs qs ∧ (∀ x ∈ qs, H4 x.1 = some (.tup [.int x.2.1, .ref x.2.2.1]) ∧ H4 x.2.2.1 = some (.tup (x.2.2.2.map V.str)) ∧ ∀ y ∈ x.2.2.2, NameP y) ∧ (qs.map fun x => (x.2.1, x.2.2.2)) = (lts.take j).map fun x => ((cnt rs x.2 : Int), x.2)) ∧ Same H3 H4 ∧ ∃ x, σ = [x, some (.ref D)])
        ⟨⟨[], rfl, by simp, rfl⟩, Same.refl _, _, rfl⟩ (fun j ys σ H4 _ q => ?_) ?_ ?_⟩
      · obtain ⟨⟨qs, rfl, _, e⟩, s4, _⟩ := q
        have q := congrArg List.length e
        simp only [List.length_map, List.length_take] at q
        exact ⟨by rw [List.length_map]; omega, SqL.of (s4 _ _ lo3)⟩
      · rintro j y ys σ H4 hy ⟨⟨qs, rfl, O4, e4⟩, s4, v, rfl⟩
        obtain ⟨lt, hlt, rfl⟩ := tref_get hy
        have hm := List.mem_of_getElem? hlt
        have l4 := s4 _ _ (A3 lt hm)
        have g : DGet H4 D (.ref lt.1) (some (.int (cnt rs lt.2))) := by
          have q := DGet.t (k := keyL lt.2) (b := lt.1) (s4 _ _ d3) (by rw [keyL_kV]; exact l4)
          rw [v3 lt hm] at q
          exact q
        refine ⟨_, rfl, _, rfl, D, _, rfl, g, _, rfl, by show 2 ≤ sizeLine; decide, fun t ht => ?_⟩
        have s5 := same_upd (o := .tup [.int (cnt rs lt.2), .ref lt.1]) (Same.refl H4) ht
        refine ⟨⟨qs ++ [(t, (cnt rs lt.2 : Int), lt.1, lt.2)], by simp [plrefs], fun x hx => ?_, ?_⟩, s4.trans s5, _, rfl⟩
        · rcases List.mem_append.mp hx with z | z
          · obtain ⟨o1, o2, o3⟩ := O4 x z
            exact ⟨s5 _ _ o1, s5 _ _ o2, o3⟩
          · have ex : x = (t, (cnt rs lt.2 : Int), lt.1, lt.2) := by simpa using z
            subst ex
            exact ⟨upd_same, s5 _ _ l4, hnm lt hm⟩
        · rw [List.map_append, e4, take_map_succ _ _ _ _ hlt]; rfl
      · rintro ys σ H4 ⟨⟨qs, rfl, O4, e4⟩, s4, v, rfl⟩ t ht
        rw [take_all lts (by simp)] at e4
        have ed : (qs.map fun x => (x.2.1, x.2.2.2)) = datL rs (lotsOf (others ps root)) := by
          rw [e4, ← e2]
          simp [datL, List.map_map, Function.comp_def]
        have s5 := same_upd (o := .lst (plrefs qs)) (Same.refl H4) ht
        have hqne : qs ≠ [] := fun z => by
          rw [z] at e4
          have := congrArg List.length e4
          simp at this
          exact hne (by simpa using this.symm)
        have hql : qs.length = (datL rs (lotsOf (others ps root))).length := by rw [← ed]; simp
        refine ⟨t, qs, rfl, SqL.of upd_same, hqne, fun x hx => ?_, fun x hx => ?_⟩
        · obtain ⟨o1, o2, o3⟩ := O4 x hx
          exact ⟨s5 _ _ o1, s5 _ _ o2, o3⟩
        · rw [bt_dat ed, hql] at hx
          have hb : bestD (datL rs (lotsOf (others ps root))) = (x.2.1, x.2.2.2) := by
            unfold bestD
            rw [← ed, List.getElem?_map, ed, hx]
            rfl
          obtain ⟨o1, o2, o3⟩ := O4 x (List.mem_of_getElem? hx)
          have hlne : lotsOf (others ps root) ≠ [] := fun z => hne (by
            rw [z] at e2
            have := congrArg List.length e2
            simp at this
            simpa using this)
          exact k2 hlne x.1 x.2.2.1 _ (s13.trans (s4.trans s5)) (by rw [hb]; exact s5 _ _ o1) (by rw [hb]; exact s5 _ _ o2)
end
end K33

set_option Elab.async false
set_option linter.all false
set_option maxRecDepth 100000
set_option maxHeartbeats 4000000
namespace K33
open PySem L2
section
variable {P : Program} {w : World} {K : PySem.W.Frag} {mg : Str → Option Value} {base : Heap}
noncomputable def spShares (C : Addr) : Sp := fun vs H Q E => ∃ (v pa ra : Addr) (ps : List Str) (rs : List T) (root : Str) (m : Nat), vs = [.ref v, .str root, .int m] ∧ WebAt H v pa ra ps rs ∧ Good ps (rs.map (·.2)) ∧ ps.length ≤ 8 ∧ root ∈ ps ∧ m ≤ 6 ∧
  ∀ H', Same H H' → ((∀ l ∈ lotsOf (others ps root), m ≤ cnt rs l) → ∀ (q : Addr) (trs : List (List T)) (tls : List (Addr × List Str)) (cur : List T), H q = none → H' q = some (.lst (trefs tls)) → LtAt H' tls → Trs ps (List.replicate m root) rs m trs tls cur → Q (.ref q) H') ∧
    (∀ l ∈ lotsOf (others ps root), cnt rs l < m → ∀ dx u, H' dx = some (.xd [(Str.ofString "lot", .ref u)]) → H' u = some (.tup (l.map V.str)) → E (.ref C) (some dx) H')
theorem sc31 : FnScope ["web", "root", "many"] ["web", "root", "many"] (defScope (top 31)) := ⟨rfl, rfl, rfl, by decide +kernel, rfl, by decide +kernel, by decide +kernel⟩
theorem ok_shares {f C : Addr} {fd : FuncData} (F : Fun K "shares" "shares" (top 31) f fd) (B : Bl mg)
    (F1 : Fn P w K mg base 4 "need_web" ["thing"] (spWeb .non)) (F2 : Fn P w K mg base 2 "need_place" ["web", "thing"] spNeedPlace) (F3 : Fn P w K mg base 2 "need_number" ["thing", "low", "high"] spNumber) (F4 : FnX P w K mg base 5 "trees_from" ["web", "roots"] (spTrees C)) : FnOk P w K mg base (CXE P w) 6 f fd ["web", "root", "many"] (spShares C) := by
  refine F.okX sc31 (fun vs H Q E h => ?_) (fun cdv A outer s H vs Q E hr h => ?_)
  · obtain ⟨v, pa, ra, ps, rs, root, m, rfl, _⟩ := h
    rfl
  · obtain ⟨v, pa, ra, ps, rs, root, m, rfl, W, G, h8, hroot, hm6, k⟩ := h
    have hr4 : Room 4 _ := hr.mono (by decide)
    have hr2 : Room 2 _ := hr.mono (by decide)
    obtain ⟨tm, hmost⟩ := B.most
    refine ⟨_, pss_cons (ps_expr (pe_fn F1 hr4 (pa_cons (pv 0) pa_nil))) (pss_cons (ps_expr (pe_fn F2 hr2 (pa_cons (pv 0) (pa_cons (pv 1) pa_nil))))
      (pss_cons (ps_expr (pe_fn F3 hr2 (pa_cons (pv 2) (pa_cons pe_int (pa_cons (pe_glob (v := .int 6) rfl hmost ⟨_, rfl⟩) pa_nil)))))
      (pss_one (ps_ret (pe_fnX (E := E) F4 hr passE (pa_cons (pv 0) (pa_cons (pe_op op_repU (pe_tup (pa_cons (pv 1) pa_nil)) (pv 2)) pa_nil))))))), ?_⟩
    have hnd := pw_nodup G.so
    refine ⟨_, rfl, v, pa, ra, ps, rs, rfl, W, G, fun H1 s1 => ?_⟩
    have W1 := W.same s1
    refine ⟨_, rfl, _, rfl, v, pa, ra, ps, rs, root, rfl, W1, hroot, ?_⟩
    refine ⟨_, rfl, (m : Int), 0, 6, rfl, by omega, by omega, ?_⟩
    refine ⟨_, rfl, _, rfl, by show 1 ≤ sizeLine; decide, fun t0 ht0 => ?_⟩
    have s1' := same_upd (o := .tup [.str root]) (Same.refl H1) ht0
    have t1 : upd H1 t0 (.tup [.str root]) t0 = some (.tup [.str root]) := upd_same
    generalize upd H1 t0 (.tup [.str root]) = H1b at s1' t1 ⊢
    refine ⟨_, rfl, t0, (m : Int), [.str root], rfl, rfl, t1, by simp, by show 1 ≤ 1000; decide, by omega, by omega, fun a H2 s2 a2 => ?_⟩
    have ea : (List.replicate ((m : Int)).toNat [V.str root]).flatten = (List.replicate m root).map V.str := by
      rw [Int.toNat_natCast, List.map_replicate]
      exact flat_rep _ _
    rw [ea] at a2
    have s02 := s1.trans (s1'.trans s2)
    have W2 := W.same s02
    refine ⟨v, pa, ra, a, ps, List.replicate m root, rs, rfl, W2, G, h8, a2, by rw [List.length_replicate]; omega, fun x hx => by rw [List.eq_of_mem_replicate hx]; exact hroot, fun H3 s3 => ⟨fun hge q trs tls cur hq q3 A3 R3 => ?_, fun l hl hneg dx u hdx hu => ?_⟩⟩
    · rw [List.length_replicate] at R3
      refine (k H3 (s02.trans s3)).1 (fun l hl => ?_) q trs tls cur (s02.free hq) q3 A3 R3
      obtain ⟨h1, h2⟩ := (lots_others hnd).mp hl
      have := hge l h1
      rw [spr_rep, if_neg h2] at this
      omega
    · have h2 : root ∉ l := fun z => by
        rw [spr_rep, if_pos z] at hneg
        omega
      rw [spr_rep, if_neg h2] at hneg
      exact (k H3 (s02.trans s3)).2 l ((lots_others hnd).mpr ⟨hl, h2⟩) (by omega) dx u hdx hu
end
end K33

set_option Elab.async false
set_option linter.all false
set_option maxRecDepth 100000
set_option maxHeartbeats 4000000
namespace K33
open PySem L2
theorem cut_to (xs : List V) {n : Nat} (h : n ≤ xs.length) : cutV xs none (some (n : Int)) = xs.take n := by
  unfold cutV
  have h0 : ¬ ((n : Int) < 0) := by omega
  have h1 : min n xs.length = n := by omega
  simp [HT.sIx, h0]
  try rw [h1]
noncomputable abbrev rowsOf (a b : Str) (ts : List Str) : List Row := ts.map fun t => (t, a, b)
noncomputable abbrev allOf (a b : Str) (ts : List Str) (n : Nat) : List Row := rowsOf a b (ts.take n) ++ rowsOf b a (ts.drop n)
theorem str_get {ts : List Str} {i : Nat} {x : V} (h : (ts.map V.str)[i]? = some x) : ∃ t, ts[i]? = some t ∧ x = .str t := by
  rw [List.getElem?_map] at h
  cases e : ts[i]? with
  | none => rw [e] at h; cases h
  | some r => rw [e] at h; exact ⟨r, rfl, (Option.some.inj h).symm⟩
section
variable {P : Program} {w : World} {K : PySem.W.Frag} {mg : Str → Option Value} {base : Heap}
noncomputable def spTwo : Sp := fun vs H Q _ => ∃ (p : Addr), vs = [.ref p] ∧ Pot H p ∧
  ∀ (v u pl pa ra ti : Addr) (a b : Str) (ps ts : List Str) (rs : List (Addr × Row)) (n : Nat) (H' : Hp), Pot H' p → H' v = some (.tup [.ref u, .ref pl, .ref ti, .int n]) → WebAt H' u pa ra ps rs → Good ps (rs.map (·.2)) → ps.Perm [a, b] → a ≠ b → (rs.map (·.2)).Perm (allOf a b ts n) → H' pl = some (.lst [.str a, .str b]) → H' ti = some (.lst (ts.map V.str)) → ts.Nodup → ts.length ≤ 40 → n ≤ ts.length → Kp [p] H H' → Q (.ref v) H'
noncomputable abbrev N36 : List Str := ["_law_pot_here", "_law_places", "_law_there", "_law_back", "_law_ties", "_law_rows"]
theorem sc36 : FnScope N36 ["_law_pot_here"] (defScope (top 36)) := ⟨rfl, rfl, rfl, by decide +kernel, rfl, by decide +kernel, by decide +kernel⟩
theorem ok_two {f : Addr} {fd : FuncData} (F : Fun K "_law_two" "_law_two" (top 36) f fd) (B : Bl mg) (Ft : Fn P w K mg base 1 "_law_take" ["_law_pot_here", "_law_many"] spTake) (Fn' : Fn P w K mg base 2 "_law_names" ["_law_pot_here", "_law_many"] spNames) : FnOk P w K mg base CX0 3 f fd ["_law_pot_here"] spTwo := by
  refine F.ok sc36 (fun vs H Q E h => ?_) (fun cdv A outer s H vs Q E hr h => ?_)
  · obtain ⟨p, rfl, _⟩ := h
    rfl
  · obtain ⟨p, rfl, hp, k⟩ := h
    have hr1 : Room 1 _ := hr.mono (by decide)
    refine ⟨_, pss_cons (ps_set (i := 1) sc36.nd rfl (Or.inr rfl) (pe_fn Fn' hr (pa_cons (pv 0) (pa_cons pe_int pa_nil))))
      (pss_cons (ps_par (i := 2) (j := 3) rfl sc36.nd rfl rfl (by decide) rfl rfl (pa_cons (pe_fn Ft hr1 (pa_cons (pv 0) (pa_cons (pe_ix ix_seq (pe_lst (pa_cons pe_int (pa_cons pe_int pa_nil))) (pe_fn Ft hr1 (pa_cons (pv 0) (pa_cons pe_int pa_nil))) (fun _ _ => rfl)) pa_nil))) (pa_cons (pe_fn Ft hr1 (pa_cons (pv 0) (pa_cons (pe_ix ix_seq (pe_lst (pa_cons pe_int (pa_cons pe_int pa_nil))) (pe_fn Ft hr1 (pa_cons (pv 0) (pa_cons pe_int pa_nil))) (fun _ _ => rfl)) pa_nil))) pa_nil)) rfl)
      (pss_cons (ps_set (i := 4) sc36.nd rfl (Or.inl rfl) (pe_fn Fn' hr (pa_cons (pv 0) (pa_cons (pe_op op_add (pv 2) (pv 3)) pa_nil))))
      (pss_cons (ps_setLc (i := 5) (N := ["_law_tie", "_law_places"]) (ix := [none, some 1]) sc36.nd rfl (Or.inl rfl) ⟨rfl, rfl, rfl, by decide⟩ rfl (pi_list (pe_slice sl_list (pv 4) po_none (po_some (pv 2)))) (fun _ _ _ _ => pg_lc 0 (by decide) rfl rfl) (fun _ _ _ _ => pts_nil)
        (fun _ _ _ _ => pe_tup (pa_cons (pv 0) (pa_cons (pe_ix (ix_seqK K) (pv 1) pe_int (fun _ _ => rfl)) (pa_cons (pe_ix (ix_seqK K) (pv 1) pe_int (fun _ _ => rfl)) pa_nil)))))
      (pss_cons (ps_set (i := 5) sc36.nd rfl (Or.inl rfl) (pe_op op_cat (pv 5) (pe_lc (N := ["_law_tie", "_law_places"]) (ix := [none, some 1]) ⟨rfl, rfl, rfl, by decide⟩ rfl (pi_list (pe_slice sl_list (pv 4) (po_some (pv 2)) po_none)) (fun _ _ _ _ => pg_lc 0 (by decide) rfl rfl) (fun _ _ _ _ => pts_nil)
        (fun _ _ _ _ => pe_tup (pa_cons (pv 0) (pa_cons (pe_ix (ix_seqK K) (pv 1) pe_int (fun _ _ => rfl)) (pa_cons (pe_ix (ix_seqK K) (pv 1) pe_int (fun _ _ => rfl)) pa_nil)))))))
      (pss_one (ps_ret (pe_tup (pa_cons (pe_tup (pa_cons (pe_callTy call_tuple_of rfl B.tuple b_tuple (pa_cons (pe_callB call_sortedS rfl B.sorted b_sorted (pa_cons (pv 1) pa_nil)) pa_nil)) (pa_cons (pe_callTy call_tuple_of rfl B.tuple b_tuple (pa_cons (pe_callB call_sortedR rfl B.sorted b_sorted (pa_cons (pv 5) pa_nil)) pa_nil)) pa_nil))) (pa_cons (pv 1) (pa_cons (pv 4) (pa_cons (pv 2) pa_nil))))))))))), ?_⟩
    refine ⟨_, rfl, p, 2, rfl, hp, by decide, fun pl ns H1 P1 n1 _ nnm nnd nlen K1 => ?_⟩
    obtain ⟨a, b, rfl⟩ : ∃ a b, ns = [a, b] := by
      match ns, nlen with
      | [a, b], _ => exact ⟨a, b, rfl⟩
    have hab : a ≠ b := fun z => by subst z; simp at nnd
    have npl := pot_ne P1 n1
    have pick : ∀ r : Int, 0 ≤ r → r < 2 → ∃ c : Int, ([V.int 4, V.int 21] : List V)[r.toNat]? = some (.int c) ∧ 0 < c ∧ c ≤ 21 := fun r h0 h1 => by
      have : r = 0 ∨ r = 1 := by omega
      rcases this with rfl | rfl
      · exact ⟨4, rfl, by decide, by decide⟩
      · exact ⟨21, rfl, by decide, by decide⟩
    -- how many there, how many back
    refine ⟨_, rfl, by show 2 ≤ sizeLine; decide, fun l2 hl2 => ?_⟩
    have nl2 := P1.ne_new hl2
    have P2 := P1.new (o := .lst [.int 4, .int 21]) hl2
    have K2 := K1.new (o := .lst [.int 4, .int 21]) hl2
    have L2' : upd H1 l2 (.lst [.int 4, .int 21]) l2 = some (.lst [.int 4, .int 21]) := upd_same
    have n2 := same_upd (o := .lst [.int 4, .int 21]) (Same.refl H1) hl2 _ _ n1
    generalize upd H1 l2 (.lst [.int 4, .int 21]) = H2 at P2 K2 L2' n2 ⊢
    refine ⟨_, rfl, p, 2, rfl, P2, by decide, by decide, fun r3 H3 a0 a1 P3 K3' => ?_⟩
    obtain ⟨c3, hc3, c30, c31⟩ := pick r3 a0 a1
    refine rix_of (j := r3.toNat) (.inl (SqL.of (K3'.at nl2 L2'))) (by omega) hc3 ?_
    have n3 := K3'.at npl n2
    refine ⟨p, c3, rfl, P3, c30, by omega, fun r4 H4 b0 b1 P4 K4' => ?_⟩
    have n4 := K4'.at npl n3
    have K4 := K2.trans (K3'.trans K4')
    refine ⟨_, rfl, by show 2 ≤ sizeLine; decide, fun l5 hl5 => ?_⟩
    have nl5 := P4.ne_new hl5
    have P5 := P4.new (o := .lst [.int 4, .int 21]) hl5
    have K5 := K4.new (o := .lst [.int 4, .int 21]) hl5
    have L5 : upd H4 l5 (.lst [.int 4, .int 21]) l5 = some (.lst [.int 4, .int 21]) := upd_same
    have n5 := same_upd (o := .lst [.int 4, .int 21]) (Same.refl H4) hl5 _ _ n4
    generalize upd H4 l5 (.lst [.int 4, .int 21]) = H5 at P5 K5 L5 n5 ⊢
    refine ⟨_, rfl, p, 2, rfl, P5, by decide, by decide, fun r6 H6 d0 d1 P6 K6' => ?_⟩
    obtain ⟨c6, hc6, c60, c61⟩ := pick r6 d0 d1
    refine rix_of (j := r6.toNat) (.inl (SqL.of (K6'.at nl5 L5))) (by omega) hc6 ?_
    have n6 := K6'.at npl n5
    refine ⟨p, c6, rfl, P6, c60, by omega, fun r7 H7 e0 e1 P7 K7' => ?_⟩
    have n7 := K7'.at npl n6
    have K7 := K5.trans (K6'.trans K7')
    refine ⟨_, _, rfl, _, rfl, _, rfl, _, rfl, _, _, rfl, rfl, p, (r4 + r7).toNat, by rw [Int.toNat_of_nonneg (by omega)]; rfl, P7, by omega, fun ti ts H8 P8 t8 _ tnm tnd tlen K8' => ?_⟩
    have n8 := K8'.at npl n7
    have K8 := K7.trans K8'
    have nti := pot_ne P8 t8
    obtain ⟨n, rfl⟩ : ∃ n : Nat, r4 = n := ⟨r4.toNat, by omega⟩
    have hn : n ≤ ts.length := by omega
    have h40 : ts.length ≤ 40 := by omega
    clear K1 K2 K3' K4' K4 K5 K6' K7' K7 K8'
    -- the rows there
    refine ⟨_, rfl, _, rfl, _, rfl, ti, _, rfl, SqL.of t8, fun l9 hl9 => ?_⟩
    rw [cut_to (ts.map V.str) (by rw [List.length_map]; exact hn), ← List.map_take]
    have s9 := same_upd (o := .lst ((ts.take n).map V.str)) (Same.refl H8) hl9
    have e9 : upd H8 l9 (.lst ((ts.take n).map V.str)) l9 = some (.lst ((ts.take n).map V.str)) := upd_same
    generalize upd H8 l9 (.lst ((ts.take n).map V.str)) = H9 at s9 e9 ⊢
    refine ⟨l9, rfl, ⟨_, SqL.of e9⟩, lcw_list0 (xs := (ts.take n).map V.str) (fits (by simp; omega)) (fun i zs σ H2 => (∃ rr : List (Addr × Row), zs = rrefs rr ∧ (∀ r ∈ rr, RowAt H2 r.1 r.2) ∧ rr.map (·.2) = rowsOf a b ((ts.take n).take i)) ∧ Same H9 H2 ∧ ∃ g1, σ = [g1, some (.ref pl)])
      ⟨⟨[], rfl, by simp, rfl⟩, Same.refl _, _, rfl⟩ (fun i zs σ H2 hi q => ?_) ?_ ?_⟩
    · obtain ⟨⟨rr, rfl, _, e⟩, s2, _⟩ := q
      have := congrArg List.length e
      simp only [List.length_map, List.length_take] at this
      exact ⟨by simp [this]; omega, SqL.of (s2 _ _ e9)⟩
    · rintro i x zs σ H2 hx ⟨⟨rr, rfl, Ra, e⟩, s2, g1, rfl⟩
      obtain ⟨t, ht, rfl⟩ := str_get hx
      have n3' := s2 _ _ (s9 _ _ n8)
      refine ⟨_, rfl, _, rfl, rix_of (j := 0) (.inl (SqL.of n3')) rfl rfl ⟨_, rfl, rix_of (j := 1) (.inl (SqL.of n3')) rfl rfl ⟨by show 3 ≤ sizeLine; decide, fun m hm => ?_⟩⟩⟩
      have s3 := same_upd (o := .tup [.str t, .str a, .str b]) (Same.refl H2) hm
      refine ⟨⟨rr ++ [(m, (t, a, b))], by simp [rrefs], fun r hr' => ?_, ?_⟩, s2.trans s3, _, rfl⟩
      · rcases List.mem_append.mp hr' with z | z
        · exact s3 _ _ (Ra r z)
        · have e' : r = (m, (t, a, b)) := by simpa using z
          subst e'; exact upd_same
      · rw [List.map_append, e, List.take_add_one, ht]
        simp [rowsOf]
    rintro zs σ H10 ⟨⟨r1, rfl, Ra1, e1⟩, s10, g1, rfl⟩ w1 hw1
    rw [take_all (ts.take n) (by simp)] at e1
    have s11 := same_upd (o := .lst (rrefs r1)) (Same.refl H10) hw1
    have w11 : upd H10 w1 (.lst (rrefs r1)) w1 = some (.lst (rrefs r1)) := upd_same
    have Ra11 : ∀ r ∈ r1, RowAt (upd H10 w1 (.lst (rrefs r1))) r.1 r.2 := fun r h => s11 _ _ (Ra1 r h)
    have s811 := s9.trans (s10.trans s11)
    generalize upd H10 w1 (.lst (rrefs r1)) = H11 at s811 w11 Ra11 ⊢
    clear s11 s10 s9 e9 Ra1
    have n11 := s811 _ _ n8
    have t11 := s811 _ _ t8
    have P11 := P8.keep fun o e => s811 _ _ e
    have K11 := K8.of_same s811
    -- the rows back
    refine ⟨_, rfl, _, rfl, _, rfl, _, rfl, ti, _, rfl, SqL.of t11, fun l12 hl12 => ?_⟩
    rw [cut_from (ts.map V.str) (by rw [List.length_map]; exact hn), ← List.map_drop]
    have s12 := same_upd (o := .lst ((ts.drop n).map V.str)) (Same.refl H11) hl12
    have e12 : upd H11 l12 (.lst ((ts.drop n).map V.str)) l12 = some (.lst ((ts.drop n).map V.str)) := upd_same
    generalize upd H11 l12 (.lst ((ts.drop n).map V.str)) = H12 at s12 e12 ⊢
    refine ⟨l12, rfl, ⟨_, SqL.of e12⟩, lcw_list0 (xs := (ts.drop n).map V.str) (fits (by simp; omega)) (fun i zs σ H2 => (∃ rr : List (Addr × Row), zs = rrefs rr ∧ (∀ r ∈ rr, RowAt H2 r.1 r.2) ∧ rr.map (·.2) = rowsOf b a ((ts.drop n).take i)) ∧ Same H12 H2 ∧ ∃ g1, σ = [g1, some (.ref pl)])
      ⟨⟨[], rfl, by simp, rfl⟩, Same.refl _, _, rfl⟩ (fun i zs σ H2 hi q => ?_) ?_ ?_⟩
    · obtain ⟨⟨rr, rfl, _, e⟩, s2, _⟩ := q
      have := congrArg List.length e
      simp only [List.length_map, List.length_take] at this
      exact ⟨by simp [this]; omega, SqL.of (s2 _ _ e12)⟩
    · rintro i x zs σ H2 hx ⟨⟨rr, rfl, Ra, e⟩, s2, g1, rfl⟩
      obtain ⟨t, ht, rfl⟩ := str_get hx
      have n3' := s2 _ _ (s12 _ _ n11)
      refine ⟨_, rfl, _, rfl, rix_of (j := 1) (.inl (SqL.of n3')) rfl rfl ⟨_, rfl, rix_of (j := 0) (.inl (SqL.of n3')) rfl rfl ⟨by show 3 ≤ sizeLine; decide, fun m hm => ?_⟩⟩⟩
      have s3 := same_upd (o := .tup [.str t, .str b, .str a]) (Same.refl H2) hm
      refine ⟨⟨rr ++ [(m, (t, b, a))], by simp [rrefs], fun r hr' => ?_, ?_⟩, s2.trans s3, _, rfl⟩
      · rcases List.mem_append.mp hr' with z | z
        · exact s3 _ _ (Ra r z)
        · have e' : r = (m, (t, b, a)) := by simpa using z
          subst e'; exact upd_same
      · rw [List.map_append, e, List.take_add_one, ht]
        simp [rowsOf]
    rintro zs σ H13 ⟨⟨r2, rfl, Ra2, e2⟩, s13, g2, rfl⟩ w2 hw2
    rw [take_all (ts.drop n) (by simp)] at e2
    have s14 := same_upd (o := .lst (rrefs r2)) (Same.refl H13) hw2
    have w14 : upd H13 w2 (.lst (rrefs r2)) w2 = some (.lst (rrefs r2)) := upd_same
    have Ra14 : ∀ r ∈ r2, RowAt (upd H13 w2 (.lst (rrefs r2))) r.1 r.2 := fun r h => s14 _ _ (Ra2 r h)
    have s1114 := s12.trans (s13.trans s14)
    generalize upd H13 w2 (.lst (rrefs r2)) = H14 at s1114 w14 Ra14 ⊢
    clear s14 s13 s12 e12 Ra2
    have hz1 : r1.length = n := by have := congrArg List.length e1; simp at this; omega
    have hz2 : r2.length = ts.length - n := by have := congrArg List.length e2; simp at this; omega
    refine ⟨w1, w2, rrefs r1, rrefs r2, rfl, rfl, s1114 _ _ w11, w14, Nat.le_of_lt (fits (by simp [rrefs]; omega)), fun w3 hw3 => ?_⟩
    have er : rrefs r1 ++ rrefs r2 = rrefs (r1 ++ r2) := by simp [rrefs]
    rw [er]
    have s15 := same_upd (o := .lst (rrefs (r1 ++ r2))) (Same.refl H14) hw3
    have w15 : upd H14 w3 (.lst (rrefs (r1 ++ r2))) w3 = some (.lst (rrefs (r1 ++ r2))) := upd_same
    have Ra15 : ∀ r ∈ r1 ++ r2, RowAt (upd H14 w3 (.lst (rrefs (r1 ++ r2)))) r.1 r.2 := fun r h => by
      rcases List.mem_append.mp h with z | z
      · exact s15 _ _ (s1114 _ _ (Ra11 r z))
      · exact s15 _ _ (Ra14 r z)
    have s1115 := s1114.trans s15
    generalize upd H14 w3 (.lst (rrefs (r1 ++ r2))) = H15 at s1115 w15 Ra15 ⊢
    clear s15 s1114 w14 Ra14 Ra11 w11
    have erows : (r1 ++ r2).map (·.2) = allOf a b ts n := by rw [List.map_append, e1, e2]
    have en : nms (r1 ++ r2) = ts := by
      have : nms (r1 ++ r2) = ((r1 ++ r2).map (·.2)).map (·.1) := by rw [List.map_map]; rfl
      rw [this, erows, List.map_append, List.map_map, List.map_map]
      show (ts.take n).map (fun t => t) ++ (ts.drop n).map (fun t => t) = ts
      simp
    have hrl : (r1 ++ r2).length = ts.length := by rw [← en]; simp
    have n15 := s1115 _ _ n11
    have t15 := s1115 _ _ t11
    generalize r1 ++ r2 = rr at erows en hrl w15 Ra15 ⊢
    -- the web
    refine ⟨_, rfl, pl, [a, b], rfl, SqL.of n15, by show 2 < 64; decide, fun ps q hpm hso hq => ?_⟩
    have pnd : ps.Nodup := hpm.nodup_iff.mpr nnd
    have hpl : ps.length = 2 := hpm.length_eq
    have t1 := same_upd (o := .lst (ps.map V.str)) (Same.refl H15) hq
    refine ⟨q, _, rfl, .inl ⟨SqL.of upd_same, fun pa hpa => ?_⟩⟩
    have t2 := same_upd (o := .tup (ps.map V.str)) t1 hpa
    have a16 : upd (upd H15 q (.lst (ps.map V.str))) pa (.tup (ps.map V.str)) pa = some (.tup (ps.map V.str)) := upd_same
    generalize upd (upd H15 q (.lst (ps.map V.str))) pa (.tup (ps.map V.str)) = H16 at t2 a16 ⊢
    refine ⟨_, rfl, w3, rr.map fun r => (r.1, r.2.1), rfl, .inl (SqL.of (by rw [key_refs]; exact t2 _ _ w15)), fun y hy => ?_, by rw [List.length_map]; omega, ?_, fun rs1 q2 hpm2 hpw hq2 => ?_⟩
    · obtain ⟨x, hx, rfl⟩ := List.mem_map.mp hy
      exact ⟨_, t2 _ _ (Ra15 x hx)⟩
    · rw [List.map_map]
      show (nms rr).Nodup
      rw [en]; exact tnd
    obtain ⟨rs', hp2, e2'⟩ := perm_lift (fun r : Addr × Row => (r.1, r.2.1)) rs1 _ hpm2
    subst e2'
    rw [key_refs]
    have u1 := same_upd (o := .lst (rrefs rs')) (Same.refl H16) hq2
    refine ⟨q2, _, rfl, .inl ⟨SqL.of upd_same, fun ra hra => ?_⟩⟩
    have u2 := same_upd (o := .tup (rrefs rs')) u1 hra
    refine ⟨by show 2 ≤ sizeLine; decide, fun u hu => ?_⟩
    have u3 := same_upd (o := .tup [.ref pa, .ref ra]) u2 hu
    refine ⟨_, rfl, _, rfl, _, rfl, by show 4 ≤ sizeLine; decide, fun v hv => ?_⟩
    have u4 := same_upd (o := .tup [.ref u, .ref pl, .ref ti, .int n]) u3 hv
    have hur : ra ≠ u := fun z => by rw [← z, upd_same] at hu; cases hu
    have hvu : u ≠ v := fun z => by rw [← z, upd_same] at hv; cases hv
    have hvr : ra ≠ v := fun z => by rw [← z, upd_ne hur, upd_same] at hv; cases hv
    have s15v := t2.trans u4
    have s11v := s1115.trans s15v
    have hin : ∀ x ∈ [a, b], x ∈ ps := fun x hx => hpm.mem_iff.mpr hx
    have hrow : ∀ r ∈ allOf a b ts n, r.1 ∈ ts ∧ (r.2.1 = a ∧ r.2.2 = b ∨ r.2.1 = b ∧ r.2.2 = a) := fun r hr' => by
      rcases List.mem_append.mp hr' with z | z
      · obtain ⟨t, ht, rfl⟩ := List.mem_map.mp z
        exact ⟨List.mem_of_mem_take ht, .inl ⟨rfl, rfl⟩⟩
      · obtain ⟨t, ht, rfl⟩ := List.mem_map.mp z
        exact ⟨List.mem_of_mem_drop ht, .inr ⟨rfl, rfl⟩⟩
    refine k v u pl pa ra ti a b ps ts rs' n _ (P11.keep fun o e => s11v _ _ e) upd_same ⟨?_, u4 _ _ a16, ?_, fun x hx => u4 _ _ (t2 _ _ (Ra15 x (hp2.mem_iff.mp hx)))⟩ ⟨?_, fun x hx => nnm x (hpm.mem_iff.mp hx), sorted_pw hso pnd, fun r hr' => ?_, ?_, by omega, ?_⟩ hpm hab ?_ (s15v _ _ n15) (s15v _ _ t15) tnd h40 hn (K11.of_same s11v)
    · rw [upd_ne hvu, upd_same]
    · rw [upd_ne hvr, upd_ne hur, upd_same]
    · intro z; rw [z] at hpl; cases hpl
    · obtain ⟨x, hx, rfl⟩ := List.mem_map.mp hr'
      have hxr : x.2 ∈ allOf a b ts n := by rw [← erows]; exact List.mem_map_of_mem (f := fun z : Addr × Row => z.2) (hp2.mem_iff.mp hx)
      obtain ⟨y1, y2⟩ := hrow _ hxr
      rcases y2 with ⟨z1, z2⟩ | ⟨z1, z2⟩
      · exact ⟨tnm _ y1, by rw [z1]; exact hin _ (by simp), by rw [z2]; exact hin _ (by simp), by rw [z1, z2]; exact hab⟩
      · exact ⟨tnm _ y1, by rw [z1]; exact hin _ (by simp), by rw [z2]; exact hin _ (by simp), by rw [z1, z2]; exact fun z => hab z.symm⟩
    · rw [List.map_map] at hpw ⊢; exact hpw
    · rw [List.length_map, hp2.length_eq]; omega
    · rw [← erows]; exact hp2.map _
end
end K33

set_option Elab.async false
set_option linter.all false
set_option maxRecDepth 100000
set_option maxHeartbeats 4000000
namespace K33
open PySem L2
section
variable {P : Program} {w : World} {K : PySem.W.Frag} {mg : Str → Option Value} {base : Heap}
noncomputable def spLacking : Sp := fun vs H Q _ => ∃ (v pa ra : Addr) (ps : List Str) (rs : List T) (root : Str) (m : Nat), vs = [.ref v, .str root, .int m] ∧ WebAt H v pa ra ps rs ∧ Good ps (rs.map (·.2)) ∧ ps.length ≤ 8 ∧ root ∈ ps ∧ m ≤ 6 ∧ (∃ l ∈ lotsOf (others ps root), cnt rs l < m) ∧
  ∀ H', Same H H' → ∀ l ∈ lotsOf (others ps root), cnt rs l < m → ∀ u, H' u = some (.tup (l.map V.str)) → Q (.ref u) H'
noncomputable abbrev N37 : List Str := ["_law_web", "_law_root", "_law_many", "_law_found", "e"]
theorem sc37 : FnScope N37 ["_law_web", "_law_root", "_law_many"] (defScope (top 37)) := ⟨rfl, rfl, rfl, by decide +kernel, rfl, by decide +kernel, by decide +kernel⟩
theorem ok_lacking {f C fI : Addr} {fd : FuncData} (F : Fun K "_law_lacking" "_law_lacking" (top 37) f fd) (hx : mg "TooFew" = some (.ref C)) (hC : ExcK lotS base C fI)
    (F1 : FnX P w K mg base 6 "shares" ["web", "root", "many"] (spShares C)) : FnOk P w K mg base CX0 7 f fd ["_law_web", "_law_root", "_law_many"] spLacking := by
  refine F.ok sc37 (fun vs H Q E h => ?_) (fun cdv A outer s H vs Q E hr h => ?_)
  · obtain ⟨v, pa, ra, ps, rs, root, m, rfl, _⟩ := h
    rfl
  · obtain ⟨v, pa, ra, ps, rs, root, m, rfl, W, G, h8, hroot, hm6, ⟨l0, hl0, hlt0⟩, k⟩ := h
    refine ⟨_, pss_cons (ps_set (i := 3) sc37.nd rfl (Or.inl rfl) pe_non)
      (pss_cons (ps_tryC (j := 4) (px_expr (px_call F1 hr (pa_cons (pv 0) (pa_cons (pv 1) (pa_cons (pv 2) pa_nil))))) hx hC.cat
        (fun ea => pss_one (ps_set (i := 3) sc37.nd rfl (Or.inl rfl) (pe_fldE (n := Str.ofString "lot") hC (by decide) (by decide) (by decide) (by decide) (pv 4)))) sc37.nd rfl rfl rfl rfl rfl)
      (pss_one (ps_ret (pv 3)))), ?_⟩
    refine ⟨_, rfl, _, rfl, _, rfl, v, pa, ra, ps, rs, root, m, rfl, W, G, h8, hroot, hm6, fun H3 s3 => ⟨fun hge => absurd (hge l0 hl0) (by omega), fun l hl hlt dx u hdx hu => ⟨C, rfl, hC.under, fun ea hea => ?_⟩⟩⟩
    have s4 := same_upd (o := ExcO ea C (some dx)) (Same.refl H3) hea
    refine ⟨_, rfl, ea, dx, _, .ref u, rfl, upd_same, s4 _ _ hdx, rfl, _, rfl, ?_⟩
    exact k _ (s3.trans s4) l hl hlt u (s4 _ _ hu)
end
end K33

set_option Elab.async false
set_option linter.all false
set_option maxRecDepth 100000
set_option maxHeartbeats 4000000
namespace K33
open PySem L2 PySem.Spec PyProof.Rows
noncomputable def rInT (K : PySem.W.Frag) : R2 := fun x y H Q => ∃ (a p : Addr) (ss : List Str) (lts : List (Addr × List Str)), x = .ref a ∧ y = .ref p ∧ H a = some (.tup (ss.map V.str)) ∧ (∀ z ∈ ss, NameP z) ∧ SqL K H p (trefs lts) ∧ LtAt H lts ∧ (∀ l ∈ lts, ∀ z ∈ l.2, NameP z) ∧ Q (.bl (decide (ss ∈ lts.map (·.2)))) H
theorem op_inT {X : Cx} {k : Nat} (hr : Room k X.A) : OpR X (compareOp .In) (rInT X.K) := by
  intro pins s σ H x y v u Q I rx ry h
  obtain ⟨a, p, ss, lts, rfl, rfl, ha, hs, hq, hL, hn, q⟩ := h
  cases rx
  cases ry
  obtain ⟨its, r', pl, hz⟩ := I.list hq
  have hun := hr.un
  obtain ⟨as, r1⟩ := (DV.tup ha (DVs.strs _)).reads I.hok (show RelV (.ref a) (Value.ref a) from rfl)
  -- what an item is
  have item : ∀ (i : Nat) (v : Value), its[i]? = some v → ∃ l, lts[i]? = some l ∧ v = Value.ref l.1 := fun i v hv => by
    have hlen := r'.length
    rw [List.length_map] at hlen
    have hi : i < lts.length := by rw [hlen]; exact (List.getElem?_eq_some_iff.mp hv).1
    have e1 : (trefs lts)[i]? = some (V.ref lts[i].1) := by rw [List.getElem?_map, List.getElem?_eq_getElem hi]; rfl
    obtain ⟨w', e2, rw'⟩ := r'.get e1
    rw [hv] at e2
    cases e2
    exact ⟨lts[i], List.getElem?_eq_getElem hi, rw'⟩
  have data : ∀ y ∈ its, ∃ l ∈ lts, y = Value.ref l.1 := fun y hy => by
    obtain ⟨i, hi⟩ := List.getElem?_of_mem hy
    obtain ⟨l, h1, h2⟩ := item i y hi
    exact ⟨l, List.mem_of_getElem? h1, h2⟩
  let e : Value → Bool := fun y => match y with | .ref c => lts.any fun l => decide (l.1 = c) && decide (l.2 = ss) | _ => false
  have ee : ∀ c, e (.ref c) = true ↔ ∃ l ∈ lts, l.1 = c ∧ l.2 = ss := fun c => by
    show (lts.any fun l => decide (l.1 = c) && decide (l.2 = ss)) = true ↔ _
    rw [List.any_eq_true]
    simp only [Bool.and_eq_true, decide_eq_true_eq]
  refine SeqAt.in_listAt e pl.isList (fun y hy => ?_) ?_
  · obtain ⟨l, hl, rfl⟩ := data y (by simpa using hy)
    have el : e (.ref l.1) = decide (l.2 = ss) := by
      rw [Bool.eq_iff_iff, ee, decide_eq_true_iff]
      constructor
      · rintro ⟨m, hm, em, es⟩
        rw [lt_data (hL l hl) (hL m hm) em.symm]; exact es
      · exact fun q => ⟨l, hl, rfl, q⟩
    rw [el]
    by_cases hab : l.1 = a
    · rw [decide_eq_true (lt_data (hL l hl) ha hab), hab]
      exact SeqAt.EqAt.same _
    · refine SeqAt.EqAt.of_refs hab fun prog w E Q hq => ?_
      obtain ⟨bs, r2⟩ := (DV.tup (hL l hl) (DVs.strs _)).reads I.hok (show RelV (.ref l.1) (Value.ref l.1) from rfl)
      have ev : PyData.eqv (.tuple (l.2.map PyData.str)) (.tuple (ss.map PyData.str)) = decide (l.2 = ss) := eqvAll_strs _ _
      refine (eq_dataH (A := X.A.in1) r2 r1 (shaped_strs (hn l hl)).2 (shaped_strs hs).2 (by show X.A.units + 1 + 64 < cLine; omega) ?_ : wpAny (model prog w) X.A.in1 (compareOp .Eq (.ref l.1) (.ref a)) Q E _)
      rw [ev]; exact hq
  · have ea : its.toArray.any e = decide (ss ∈ lts.map (·.2)) := by
      rw [Bool.eq_iff_iff, List.any_toArray, List.any_eq_true, decide_eq_true_iff]
      constructor
      · rintro ⟨y, hy, ey⟩
        obtain ⟨m, hm, rfl⟩ := data y hy
        obtain ⟨l, hl, _, es⟩ := (ee _).mp ey
        exact es ▸ List.mem_map_of_mem hl
      · intro hm
        obtain ⟨l, hl, es⟩ := List.mem_map.mp hm
        obtain ⟨i, hi⟩ := List.getElem?_of_mem hl
        obtain ⟨w', e2, rw'⟩ := r'.get (show (trefs lts)[i]? = some (V.ref l.1) by rw [List.getElem?_map, hi]; rfl)
        cases rw'
        exact ⟨_, List.mem_of_getElem? e2, (ee _).mpr ⟨l, hl, rfl, es⟩⟩
    rw [ea]
    exact ⟨V.bl (decide (ss ∈ lts.map (fun z : Addr × List Str => z.2))), H, I, rfl, q⟩


theorem inTK (K : PySem.W.Frag) {X : Cx} {k : Nat} (hr : Room k X.A) (h : X.K = K := by rfl) : OpR X (compareOp .In) (rInT K) := by subst h; exact op_inT hr
theorem pi_listK (K : PySem.W.Frag) {X : Cx} {tg l : Expr} {tl : TE} (hl : PE X l tl) (h : X.K = K := by rfl) : PI X tg l (iList K tl) := by subst h; exact pi_list hl
theorem passX0 {X : Cx} : Passes (CXE X.prog X.w) X E0 := fun _ _ _ _ _ _ _ h => by
  obtain ⟨_, _, _, _, _, _, _, _, _, _, _, _, _, _, _, _, f⟩ := h
  exact f.elim
theorem others_two {ps : List Str} {root other : Str} (hp : ps.Perm [root, other]) (hne : root ≠ other) : others ps root = [other] := by
  have h : (others ps root).Perm ([root, other].filter fun y => !decide (y = root)) := hp.filter _
  have e : ([root, other].filter fun y => !decide (y = root)) = [other] := by
    rw [List.filter_cons, List.filter_cons]
    have : ¬ other = root := fun z => hne z.symm
    simp [this]
  rw [e] at h
  exact List.perm_singleton.mp h
theorem singles : ∀ (trs : List (List T)) (tls : List (Addr × List Str)), trs.length = tls.length → (∀ (i : Nat) tr x, trs[i]? = some tr → tls[i]? = some x → ∃ r : T, tr = [r] ∧ x.2 = [r.2.1]) → tls.map (·.2) = (tna trs.flatten).map fun n => [n]
  | [], [], _, _ => rfl
  | [], _ :: _, h, _ => by cases h
  | _ :: _, [], h, _ => by cases h
  | tr :: trs, x :: tls, h, k => by
    obtain ⟨r, rfl, e⟩ := k 0 tr x rfl rfl
    rw [List.map_cons, e, singles trs tls (by simpa using h) fun i tr' x' h1 h2 => k (i + 1) tr' x' (by simpa using h1) (by simpa using h2)]
    rfl
/-- what is told of a web of two places -/
theorem Trs.two {ps : List Str} {rs : List T} {m : Nat} {trs : List (List T)} {tls : List (Addr × List Str)} {cur : List T} {root other : Str} {ts : List Str} (R : Trs ps (List.replicate m root) rs m trs tls cur) (hp : ps.Perm [root, other])
    (hin : ∀ r ∈ rs, r.2.2.2 = other → r.2.1 ∈ ts) (hn : (tna rs).Nodup) : (tls.map (·.2)).Nodup ∧ ∀ x ∈ tls, ∃ t ∈ ts, x.2 = [t] := by
  have one : ∀ (i : Nat) tr x, trs[i]? = some tr → tls[i]? = some x → ∃ r : T, tr = [r] ∧ x.2 = [r.2.1] ∧ r.2.2.2 = other := fun i tr x h1 h2 => by
    have him : i < m := by rw [← R.l1]; exact (List.getElem?_eq_some_iff.mp h1).1
    obtain ⟨S, hl, hx, _⟩ := R.tr i root tr x (by rw [List.getElem?_replicate]; simp [him]) h1 h2
    rw [hp.length_eq] at hl
    match tr, hl with
    | [r], _ =>
      refine ⟨r, rfl, List.perm_singleton.mp hx, ?_⟩
      have h3 := hp.mem_iff.mp (S.sub r.2.2.2 (by simp [ends]))
      have h4 := S.nd
      simp [ends] at h4
      simp only [List.mem_cons, List.not_mem_nil, or_false] at h3
      rcases h3 with z | z
      · exact absurd z.symm h4
      · exact z
  have e := singles trs tls (by rw [R.l1, R.l2]) fun i tr x h1 h2 => let ⟨r, a, b, _⟩ := one i tr x h1 h2; ⟨r, a, b⟩
  refine ⟨?_, fun x hx => ?_⟩
  · rw [e]
    have h1 : (tna (trs.flatten ++ cur)).Nodup := (R.pm.map (fun r : T => r.2.1)).nodup_iff.mp hn
    rw [tna, List.map_append] at h1
    exact (List.Pairwise.map _ (fun a b (z : a ≠ b) (w : [a] = [b]) => z (List.cons.inj w).1) (List.nodup_append.mp h1).1)
  · obtain ⟨i, hi⟩ := List.getElem?_of_mem hx
    have hit : i < trs.length := by rw [R.l1, ← R.l2]; exact (List.getElem?_eq_some_iff.mp hi).1
    obtain ⟨r, h1, h2, h3⟩ := one i _ x (List.getElem?_eq_getElem hit) hi
    refine ⟨r.2.1, hin r ?_ h3, h2⟩
    refine R.pm.mem_iff.mpr (List.mem_append_left _ (List.mem_flatten.mpr ⟨trs[i], List.getElem_mem hit, ?_⟩))
    rw [h1]
    simp
section
variable {P : Program} {w : World} {K : PySem.W.Frag} {mg : Str → Option Value} {base : Heap}
noncomputable def spOfTwo : Sp := fun vs H Q _ => ∃ (v pa ra ti : Addr) (ps ts : List Str) (rs : List T) (root other : Str) (m : Nat), vs = [.ref v, .str root, .str other, .ref ti, .int m] ∧ WebAt H v pa ra ps rs ∧ Good ps (rs.map (·.2)) ∧ ps.Perm [root, other] ∧ root ≠ other ∧
  H ti = some (.lst (ts.map V.str)) ∧ ts.length ≤ 40 ∧ (∀ t ∈ ts, NameP t) ∧ cnt rs [other] = ts.length ∧ (∀ r ∈ rs, r.2.2.2 = other → r.2.1 ∈ ts) ∧ m ≤ 6 ∧ ∀ H', Same H H' → Q (.bl true) H'
noncomputable abbrev N38 : List Str := ["_law_web", "_law_root", "_law_other", "_law_ties", "_law_many", "_law_told"]
theorem sc38 : FnScope N38 ["_law_web", "_law_root", "_law_other", "_law_ties", "_law_many"] (defScope (top 38)) := ⟨rfl, rfl, rfl, by decide +kernel, rfl, by decide +kernel, by decide +kernel⟩
theorem ok_of_two {f C : Addr} {fd : FuncData} (F : Fun K "_law_of_two" "_law_of_two" (top 38) f fd) (B : Bl mg) (F1 : Fn P w K mg base 5 "least" ["web", "root"] spLeast) (F2 : FnX P w K mg base 6 "shares" ["web", "root", "many"] (spShares C)) (F3 : Fn P w K mg base 7 "_law_lacking" ["_law_web", "_law_root", "_law_many"] spLacking) :
    FnOk P w K mg base CX0 8 f fd ["_law_web", "_law_root", "_law_other", "_law_ties", "_law_many"] spOfTwo := by
  refine F.ok sc38 (fun vs H Q E h => ?_) (fun cdv A outer s H vs Q E hr h => ?_)
  · obtain ⟨v, pa, ra, ti, ps, ts, rs, root, other, m, rfl, _⟩ := h
    rfl
  · obtain ⟨v, pa, ra, ti, ps, ts, rs, root, other, m, rfl, W, G, hpm, hne, hti, h40, hnm, hcnt, hin, hm6, k⟩ := h
    have hr5 : Room 5 _ := hr.mono (by decide)
    have hr6 : Room 6 _ := hr.mono (by decide)
    refine ⟨_, pss_cons (ps_if (PW.pt (pw_or (pt_cmpR (op_neD hr) (pe_fn F1 hr5 (pa_cons (pv 0) (pa_cons (pv 1) pa_nil))) (pe_tup (pa_cons (pe_callB call_len_seq rfl B.len PySem.boot_len (pa_cons (pv 3) pa_nil)) (pa_cons (pe_tup (pa_cons (pv 2) pa_nil)) pa_nil))) (nomark _))
        (pw_or1 (pt_cmpR (op_neD hr) (pe_fnX F2 hr6 passX0 (pa_cons (pv 0) (pa_cons (pv 1) (pa_cons pe_int pa_nil)))) (pe_lst pa_nil) (nomark _))))) pss_never pss_nil)
      (pss_cons (ps_if (pt_cmpR op_lt (pe_callB call_len_seq rfl B.len PySem.boot_len (pa_cons (pv 3) pa_nil)) (pv 4) (nomark _)) (pss_one (ps_ret (pe_cmpR (op_eqD hr) (pe_fn F3 hr (pa_cons (pv 0) (pa_cons (pv 1) (pa_cons (pv 4) pa_nil)))) (pe_tup (pa_cons (pv 2) pa_nil)) (nomark _)))) pss_nil)
      (pss_cons (ps_set (i := 5) sc38.nd rfl (Or.inl rfl) (pe_fnX F2 hr6 passX0 (pa_cons (pv 0) (pa_cons (pv 1) (pa_cons (pv 4) pa_nil)))))
      (pss_cons (ps_if (PW.pt (pw_or (pt_not (pt_val (pe_callB (call_isinst (T := "list")) rfl B.isinstance b_isinstance (pa_cons (pv 5) (pa_cons (pe_bltn (v := .ty "list") rfl B.list b_list rfl) pa_nil)))))
        (pw_or (pt_cmpR op_ne (pe_callB call_len_seq rfl B.len PySem.boot_len (pa_cons (pv 5) pa_nil)) (pv 4) (nomark _))
        (pw_or1 (pt_cmpR op_ne (pe_callB call_lenU rfl B.len PySem.boot_len (pa_cons (pe_callTy (call_setLiT rfl hr.units) rfl B.set b_set (pa_cons (pv 5) pa_nil)) pa_nil)) (pv 4) (nomark _)))))) pss_never pss_nil)
      (pss_one (ps_ret (pe_callB (call_allB rfl) rfl B.all b_all (pa_cons (pe_lc (N := ["_law_tree", "_law_ties"]) (ix := [none, some 3]) ⟨rfl, rfl, rfl, by decide⟩ rfl (pi_list (pv 5)) (fun _ _ _ _ => pg_lc 0 (by decide) rfl rfl) (fun _ _ _ _ => pts_nil)
        (fun _ _ _ _ => pe_cmpR (inTK K hr) (pv 0) (pe_lc (N := ["_law_tie"]) (ix := [none]) ⟨rfl, rfl, rfl, by decide⟩ rfl (pi_listK K (pv 1)) (fun _ _ _ _ => pg_lc 0 (by decide) rfl rfl) (fun _ _ _ _ => pts_nil) (fun _ _ _ _ => pe_tup (pa_cons (pv 0) pa_nil))) (by with_unfolding_all rfl))) pa_nil))))))), ?_⟩
    have h2 : ps.length = 2 := hpm.length_eq
    have h8 : ps.length ≤ 8 := by omega
    have hroot : root ∈ ps := hpm.mem_iff.mpr (by simp)
    have hoth : other ∈ ps := hpm.mem_iff.mpr (by simp)
    have ho : others ps root = [other] := others_two hpm hne
    have hlots : lotsOf (others ps root) = [[other]] := by rw [ho]; rfl
    have hnmo : NameP other := G.nm _ hoth
    have hnmo1 : ∀ y ∈ [other], NameP y := fun y hy => by rw [List.mem_singleton.mp hy]; exact hnmo
    have htn : (tna rs).Nodup := by
      have := pw_nodup G.rso
      rw [List.map_map] at this
      exact this
    obtain ⟨_, b2, b3⟩ := best_is_min rs (ls := lotsOf (others ps root)) (by rw [hlots]; simp)
    have b2' : (bestD (datL rs (lotsOf (others ps root)))).2 = [other] := by
      rw [hlots] at b2 ⊢
      exact List.mem_singleton.mp b2
    rw [b2', hcnt] at b3
    refine ⟨_, rfl, _, rfl, v, pa, ra, ps, rs, root, rfl, W, G, h8, hroot, fun z => (by rw [hlots] at z; cases z), fun _ q la H1 s1 q1 la1 => ?_⟩
    rw [b3] at q1
    rw [b2'] at la1
    refine ⟨_, rfl, ti, _, rfl, .inl (SqL.of (s1 _ _ hti)), _, rfl, by show 1 ≤ sizeLine; decide, fun t2 ht2 => ?_⟩
    have s2 := same_upd (o := .tup [.str other]) (Same.refl H1) ht2
    have e2 : upd H1 t2 (.tup [.str other]) t2 = some (.tup [.str other]) := upd_same
    generalize upd H1 t2 (.tup [.str other]) = H2 at s2 e2 ⊢
    refine ⟨by show 2 ≤ sizeLine; decide, fun t3 ht3 => ?_⟩
    have s3 := same_upd (o := .tup [.int ((ts.map V.str).length : Int), .ref t2]) s2 ht3
    have s3' := same_upd (o := .tup [.int ((ts.map V.str).length : Int), .ref t2]) (Same.refl H2) ht3
    have e3 : upd H2 t3 (.tup [.int ((ts.map V.str).length : Int), .ref t2]) t3 = some (.tup [.int ((ts.map V.str).length : Int), .ref t2]) := upd_same
    generalize upd H2 t3 (.tup [.int ((ts.map V.str).length : Int), .ref t2]) = H3 at s3 s3' e3 ⊢
    rw [List.length_map] at e3
    have hd := sh_told (c := (ts.length : Int)) hnmo1
    refine ⟨toldD ts.length [other], toldD ts.length [other], .tup (s3 _ _ q1) (.cons (.int _) (.cons (.tup (s3 _ _ la1) (DVs.strs _)) .nil)), .tup e3 (.cons (.int _) (.cons (.tup (s3' _ _ e2) (DVs.strs [other])) .nil)), hd.1, hd.1, _, rfl, ?_⟩
    rw [eqv_self _ hd.2]
    refine iteF ?_
    -- shares with none
    have s03 := s1.trans s3
    refine ⟨_, rfl, _, rfl, v, pa, ra, ps, rs, root, 0, rfl, W.same s03, G, h8, hroot, by omega, fun H4 s4 => ⟨fun _ q4 trs tls cur _ e4 A4 R4 => ?_, fun l hl hlt => absurd hlt (Nat.not_lt_zero _)⟩⟩
    have htl0 : tls = [] := List.length_eq_zero_iff.mp R4.l2
    subst htl0
    refine ⟨Nat.zero_le _, fun l5 hl5 => ?_⟩
    have s5 := same_upd (o := .lst []) (Same.refl H4) hl5
    have e5 : upd H4 l5 (.lst []) l5 = some (.lst []) := upd_same
    generalize upd H4 l5 (.lst []) = H5 at s5 e5 ⊢
    refine ⟨.list [], .list [], .lst (s5 _ _ e4) .nil, .lst e5 .nil, by decide +kernel, by decide +kernel, _, rfl, iteF ?_⟩
    have s05 := s03.trans (s4.trans s5)
    refine ⟨_, rfl, ti, _, rfl, .inl (SqL.of (s05 _ _ hti)), _, rfl, _, _, rfl, rfl, _, rfl, ?_⟩
    rw [List.length_map]
    by_cases c : ts.length < m
    · rw [decide_eq_true (by omega)]
      refine iteT ⟨_, rfl, _, rfl, _, rfl, v, pa, ra, ps, rs, root, m, rfl, W.same s05, G, h8, hroot, hm6, ⟨[other], by rw [hlots]; simp, by rw [hcnt]; exact c⟩, fun H6 s6 l hl _ u hu => ?_⟩
      rw [hlots] at hl
      rw [List.mem_singleton.mp hl] at hu
      refine ⟨_, rfl, by show 1 ≤ sizeLine; decide, fun t7 ht7 => ?_⟩
      have s7 := same_upd (o := .tup [.str other]) (Same.refl H6) ht7
      have e7 : upd H6 t7 (.tup [.str other]) t7 = some (.tup [.str other]) := upd_same
      generalize upd H6 t7 (.tup [.str other]) = H7 at s7 e7 ⊢
      have hs1 := shaped_strs hnmo1
      refine ⟨tupD [other], tupD [other], .tup (s7 _ _ hu) (DVs.strs _), .tup e7 (DVs.strs [other]), hs1.2, hs1.2, ?_⟩
      have ev : PyData.eqv (tupD [other]) (tupD [other]) = true := by
        have h1 : PyData.eqv (tupD [other]) (tupD [other]) = decide ([other] = [other]) := eqvAll_strs [other] [other]
        rw [h1, decide_eq_true rfl]
      rw [ev]
      exact k H7 (s05.trans (s6.trans s7))
    rw [decide_eq_false (by omega)]
    refine iteF ?_
    refine ⟨_, rfl, _, rfl, _, rfl, v, pa, ra, ps, rs, root, m, rfl, W.same s05, G, h8, hroot, hm6, fun H6 s6 => ⟨fun _ q6 trs6 tls6 cur6 _ e6 A6 R6 => ?_, fun l hl hlt => absurd hlt (by rw [hlots] at hl; rw [List.mem_singleton.mp hl, hcnt]; exact c)⟩⟩
    obtain ⟨hnd, hone⟩ := R6.two hpm hin htn
    have htl : tls6.length = m := R6.l2
    have s06 := s05.trans s6
    refine ⟨_, rfl, _, _, true, rfl, .lst e6, rfl, true, rfl, iteF ?_⟩
    refine ⟨_, rfl, q6, _, rfl, .inl (SqL.of e6), _, rfl, rfl, _, rfl, ?_⟩
    have en : (!decide (V.int ((trefs tls6).length : Int) = V.int (m : Int))) = false := by
      rw [List.length_map, htl]; simp
    rw [en]
    refine iteF ?_
    refine ⟨_, rfl, q6, tls6, rfl, SqL.of e6, A6, hnd, by omega, fun a7 ha7 => ?_⟩
    have s7 := same_upd (o := SetU a7 tls6.length) (Same.refl H6) ha7
    have e7 : upd H6 a7 (SetU a7 tls6.length) a7 = some (SetU a7 tls6.length) := upd_same
    generalize upd H6 a7 (SetU a7 tls6.length) = H7 at s7 e7 ⊢
    refine ⟨a7, _, rfl, e7, _, rfl, rfl, _, rfl, ?_⟩
    have en2 : (!decide (V.int (tls6.length : Int) = V.int (m : Int))) = false := by
      rw [htl]; simp
    rw [en2]
    refine iteF ?_
    -- each tree is a tie alone
    have e67 := s7 _ _ e6
    have s07 := s06.trans s7
    have A7 : LtAt H7 tls6 := fun x hx => s7 _ _ (A6 x hx)
    refine ⟨_, rfl, q6, rfl, ⟨_, SqL.of e67⟩, lcw_list0 (xs := trefs tls6) (fits (by rw [List.length_map]; omega)) (fun i ys σ H8 => ys = (List.replicate i true).map V.bl ∧ Same H7 H8 ∧ ∃ x, σ = [x, some (.ref ti)]) ⟨rfl, Same.refl _, _, rfl⟩
      (fun i ys σ H8 _ p => ⟨by rw [p.1]; simp, SqL.of (p.2.1 _ _ e67)⟩) ?_ ?_⟩
    · rintro i x ys σ H8 hx ⟨rfl, s8, g, rfl⟩
      obtain ⟨z, hz, rfl⟩ : ∃ z ∈ tls6, x = .ref z.1 := by
        obtain ⟨z, h1, h2⟩ := List.mem_map.mp (List.mem_of_getElem? hx)
        exact ⟨z, h1, h2.symm⟩
      obtain ⟨t, ht, ezt⟩ := hone z hz
      have ti8 := s8 _ _ (s07 _ _ hti)
      refine ⟨_, rfl, _, rfl, ti, rfl, ⟨_, SqL.of ti8⟩, lcw_list0 (xs := ts.map V.str) (fits (by rw [List.length_map]; omega)) (fun i zs σ H9 => (∃ lts : List (Addr × List Str), zs = trefs lts ∧ LtAt H9 lts ∧ lts.map (·.2) = (ts.take i).map fun t => [t]) ∧ Same H8 H9 ∧ ∃ x, σ = [x])
        ⟨⟨[], rfl, fun _ h => (by cases h), rfl⟩, Same.refl _, _, rfl⟩ (fun i zs σ H9 hi q => ?_) ?_ ?_⟩
      · obtain ⟨⟨lts, rfl, _, e⟩, s9, _⟩ := q
        have := congrArg List.length e
        simp only [List.length_map, List.length_take] at this
        exact ⟨by simp [this]; omega, SqL.of (s9 _ _ ti8)⟩
      · rintro j y zs σ H9 hy ⟨⟨lts, rfl, L9, e⟩, s9, g', rfl⟩
        obtain ⟨t', ht', rfl⟩ := str_get hy
        refine ⟨_, rfl, by show 1 ≤ sizeLine; decide, fun n hn => ?_⟩
        have s10 := same_upd (o := .tup [.str t']) (Same.refl H9) hn
        refine ⟨⟨lts ++ [(n, [t'])], by simp, fun y' hy' => ?_, ?_⟩, s9.trans s10, _, rfl⟩
        · rcases List.mem_append.mp hy' with z' | z'
          · exact s10 _ _ (L9 y' z')
          · have e' : y' = (n, [t']) := by simpa using z'
            subst e'; exact upd_same
        · rw [List.map_append, e, List.take_add_one, ht']
          simp
      rintro zs σ H9 ⟨⟨lts, rfl, L9, e⟩, s9, g', rfl⟩ p9 hp9
      rw [take_all ts (by simp)] at e
      have s10 := same_upd (o := .lst (trefs lts)) (Same.refl H9) hp9
      have e10 : upd H9 p9 (.lst (trefs lts)) p9 = some (.lst (trefs lts)) := upd_same
      generalize upd H9 p9 (.lst (trefs lts)) = H10 at s10 e10 ⊢
      have s810 := s9.trans s10
      have hz10 : H10 z.1 = some (.tup (z.2.map V.str)) := s810 _ _ (s8 _ _ (A7 z hz))
      refine ⟨z.1, p9, z.2, lts, rfl, rfl, hz10, fun y hy => ?_, SqL.of e10, fun l hl => s10 _ _ (L9 l hl), fun l hl y hy => ?_, ?_, s8.trans s810, _, rfl⟩
      · rw [ezt] at hy
        rw [List.mem_singleton.mp hy]; exact hnm t ht
      · have : l.2 ∈ ts.map fun t => [t] := by rw [← e]; exact List.mem_map_of_mem (f := fun z : Addr × List Str => z.2) hl
        obtain ⟨t2, ht2', e2'⟩ := List.mem_map.mp this
        rw [← e2'] at hy
        rw [List.mem_singleton.mp hy]; exact hnm t2 ht2'
      · rw [decide_eq_true (by rw [e, ezt]; exact List.mem_map_of_mem (f := fun t => [t]) ht), List.replicate_succ', List.map_append]
        rfl
    rintro ys σ H8 ⟨rfl, s8, g, rfl⟩ al hal
    have s9 := same_upd (o := .lst ((List.replicate (trefs tls6).length true).map V.bl)) (Same.refl H8) hal
    refine ⟨al, List.replicate (trefs tls6).length true, rfl, SqL.of upd_same, ?_⟩
    have ea : (List.replicate (trefs tls6).length true).all id = true := by simp
    rw [ea]
    exact k _ (s07.trans (s8.trans s9))
end
end K33

set_option Elab.async false
set_option linter.all false
set_option maxRecDepth 100000
set_option maxHeartbeats 4000000
namespace K33
open PySem L2
theorem kp_same {p : Addr} {H H1 H2 : Hp} (s : Same H H1) (hp : H p = none) (k : Kp [p] H1 H2) : Same H H2 := fun b o e => k b o (s b o e) (by simp; exact ne_of_none e hp)
theorem cnt_R (rs : List T) (l : List Str) : cnt rs l = ((rs.map (·.2)).filter fun r => decide (r.2.2 ∈ l) && !decide (r.2.1 ∈ l)).length := by
  unfold cnt
  rw [List.filter_map, List.length_map]
  rfl
theorem row_to (a b : Str) (hab : a ≠ b) (ts : List Str) : ((rowsOf a b ts).filter fun r => decide (r.2.2 ∈ [b]) && !decide (r.2.1 ∈ [b])).length = ts.length := by
  rw [List.filter_eq_self.mpr (fun r hr => ?_), List.length_map]
  obtain ⟨t, _, rfl⟩ := List.mem_map.mp hr
  simp [hab]
theorem row_off (a b : Str) (hab : a ≠ b) (ts : List Str) : ((rowsOf a b ts).filter fun r => decide (r.2.2 ∈ [a]) && !decide (r.2.1 ∈ [a])).length = 0 := by
  rw [List.filter_eq_nil_iff.mpr (fun r hr => ?_)]
  · rfl
  · obtain ⟨t, _, rfl⟩ := List.mem_map.mp hr
    simp
theorem cnt_two {rs : List T} {a b : Str} {ts : List Str} {n : Nat} (hab : a ≠ b) (hn : n ≤ ts.length) (hp : (rs.map (·.2)).Perm (allOf a b ts n)) : cnt rs [b] = (ts.take n).length ∧ cnt rs [a] = (ts.drop n).length := by
  rw [cnt_R, cnt_R, (hp.filter _).length_eq, (hp.filter _).length_eq, List.filter_append, List.filter_append, List.length_append, List.length_append, row_to a b hab, row_off b a hab.symm, row_to b a hab.symm, row_off a b hab]
  omega
theorem in_two {rs : List T} {a b : Str} {ts : List Str} {n : Nat} (hab : a ≠ b) (hp : (rs.map (·.2)).Perm (allOf a b ts n)) : (∀ r ∈ rs, r.2.2.2 = b → r.2.1 ∈ ts.take n) ∧ (∀ r ∈ rs, r.2.2.2 = a → r.2.1 ∈ ts.drop n) := by
  have h : ∀ r ∈ rs, r.2 ∈ allOf a b ts n := fun r hr => hp.mem_iff.mp (List.mem_map_of_mem (f := fun z : T => z.2) hr)
  refine ⟨fun r hr e => ?_, fun r hr e => ?_⟩
  · rcases List.mem_append.mp (h r hr) with z | z
    · obtain ⟨t, ht, e'⟩ := List.mem_map.mp z
      rw [← e']; exact ht
    · obtain ⟨t, ht, e'⟩ := List.mem_map.mp z
      rw [← e'] at e
      exact absurd e hab
  · rcases List.mem_append.mp (h r hr) with z | z
    · obtain ⟨t, ht, e'⟩ := List.mem_map.mp z
      rw [← e'] at e
      exact absurd e.symm hab
    · obtain ⟨t, ht, e'⟩ := List.mem_map.mp z
      rw [← e']; exact ht
theorem dv_rep {H : Hp} {t : Addr} (h : H t = some (.tup [])) : ∀ m : Nat, DVs H (List.replicate m (V.ref t)) ((List.replicate m ([] : List Str)).map tupD)
  | 0 => .nil
  | m + 1 => .cons (.tup h .nil) (dv_rep h m)
section
variable {P : Program} {w : World} {K : PySem.W.Frag} {mg : Str → Option Value} {base : Heap}
noncomputable def spLaw (K : PySem.W.Frag) : Sp := fun vs H Q _ => ∃ (a : Addr) (ns : List Int), vs = [.ref a] ∧ SqL K H a (ns.map V.int) ∧ ns.length ≤ 63 ∧ ∀ H', Q (.bl true) H'
noncomputable abbrev N39 : List Str := ["_law_script", "_law_k", "_law_pot_here", "_law_alone", "_law_many", "_law_web", "_law_places", "_law_ties", "_law_there"]
theorem sc39 : FnScope N39 ["_law_script"] (defScope (top 39)) := ⟨rfl, rfl, rfl, by decide +kernel, rfl, by decide +kernel, by decide +kernel⟩
theorem ok_law {f C : Addr} {fd : FuncData} (F : Fun K "law" "law" (top 39) f fd) (B : Bl mg) (Fp : Fn P w K mg base 1 "_law_pot" ["_law_script", "_law_k"] (spPot K)) (Ft : Fn P w K mg base 1 "_law_take" ["_law_pot_here", "_law_many"] spTake) (Fn' : Fn P w K mg base 2 "_law_names" ["_law_pot_here", "_law_many"] spNames)
    (Fl : Fn P w K mg base 5 "least" ["web", "root"] spLeast) (Fs : FnX P w K mg base 6 "shares" ["web", "root", "many"] (spShares C)) (F2 : Fn P w K mg base 3 "_law_two" ["_law_pot_here"] spTwo) (Fo : Fn P w K mg base 8 "_law_of_two" ["_law_web", "_law_root", "_law_other", "_law_ties", "_law_many"] spOfTwo) : FnOk P w K mg base CX0 9 f fd ["_law_script"] (spLaw K) := by
  refine F.ok sc39 (fun vs H Q E h => ?_) (fun cdv A outer s H vs Q E hr h => ?_)
  · obtain ⟨a, ns, rfl, _⟩ := h
    rfl
  · obtain ⟨a, sc, rfl, hS, hlen, k⟩ := h
    have hr1 : Room 1 _ := hr.mono (by decide)
    have hr2 : Room 2 _ := hr.mono (by decide)
    have hr3 : Room 3 _ := hr.mono (by decide)
    have hr5 : Room 5 _ := hr.mono (by decide)
    have hr6 : Room 6 _ := hr.mono (by decide)
    refine ⟨_, pss_cons (ps_for PassesOwn.never rfl (pi_range1 rfl B.range (pa_cons (pe_callB (call_max2 rfl) rfl B.max b_max (pa_cons pe_int (pa_cons (pe_callB (call_min2 rfl) rfl B.min b_min (pa_cons (pe_callB call_len_seq rfl B.len PySem.boot_len (pa_cons (pv 0) pa_nil)) (pa_cons pe_int pa_nil))) pa_nil))) pa_nil)) (pg_name (i := 1) sc39.nd rfl (Or.inl rfl))
        (pss_cons (ps_set (i := 2) sc39.nd rfl (Or.inl rfl) (pe_fn Fp hr1 (pa_cons (pv 0) (pa_cons (pv 1) pa_nil))))
        (pss_cons (ps_set (i := 3) sc39.nd rfl (Or.inl rfl) (pe_fn Fn' hr2 (pa_cons (pv 2) (pa_cons pe_int pa_nil))))
        (pss_cons (ps_set (i := 4) sc39.nd rfl (Or.inl rfl) (pe_fn Ft hr1 (pa_cons (pv 2) (pa_cons pe_int pa_nil))))
        (pss_cons (ps_set (i := 5) sc39.nd rfl (Or.inl rfl) (pe_tup (pa_cons (pe_callTy call_tuple_of rfl B.tuple b_tuple (pa_cons (pv 3) pa_nil)) (pa_cons (pe_tup pa_nil) pa_nil))))
        (pss_cons (ps_if (PW.pt (pw_or (pt_cmpR op_notN (pe_fn Fl hr5 (pa_cons (pv 5) (pa_cons (pe_ix ix_seq (pv 3) pe_int (fun _ _ => rfl)) pa_nil))) pe_non (nomark _))
          (pw_or1 (pt_cmpR (op_neD hr) (pe_fnX Fs hr6 passX0 (pa_cons (pv 5) (pa_cons (pe_ix ix_seq (pv 3) pe_int (fun _ _ => rfl)) (pa_cons (pv 4) pa_nil)))) (pe_op op_rep (pe_lst (pa_cons (pe_tup pa_nil) pa_nil)) (pv 4)) (nomark _))))) pss_never pss_nil)
        (pss_cons (ps_asg (pe_fn F2 hr3 (pa_cons (pv 2) pa_nil)) (pg_tup rfl (n := 4) (pgs_cons (pg_name (i := 5) sc39.nd rfl (Or.inl rfl)) (pgs_cons (pg_name (i := 6) sc39.nd rfl (Or.inl rfl)) (pgs_cons (pg_name (i := 7) sc39.nd rfl (Or.inl rfl)) (pgs_cons (pg_name (i := 8) sc39.nd rfl (Or.inl rfl)) pgs_nil))))))
        (pss_cons (ps_if (pt_not (pt_val (pe_fn Fo hr (pa_cons (pv 5) (pa_cons (pe_ix ix_seq (pv 6) pe_int (fun _ _ => rfl)) (pa_cons (pe_ix ix_seq (pv 6) pe_int (fun _ _ => rfl)) (pa_cons (pe_slice sl_list (pv 7) po_none (po_some (pv 8))) (pa_cons (pv 4) pa_nil)))))))) pss_never pss_nil)
        (pss_one (ps_if (pt_not (pt_val (pe_fn Fo hr (pa_cons (pv 5) (pa_cons (pe_ix ix_seq (pv 6) pe_int (fun _ _ => rfl)) (pa_cons (pe_ix ix_seq (pv 6) pe_int (fun _ _ => rfl)) (pa_cons (pe_slice sl_list (pv 7) (po_some (pv 8)) po_none) (pa_cons (pv 4) pa_nil)))))))) pss_never pss_nil))))))))))
      (pss_one (ps_ret pe_bl)), ?_⟩
    refine ⟨_, rfl, a, _, rfl, .inl hS, _, _, rfl, _, _, rfl, _, rfl, ?_, ?_, ?_⟩
    · repeat' split
      all_goals omega
    · repeat' split
      all_goals omega
    have hn9 : ∀ x : Int, x = (if (if (6 : Int) < ((sc.map V.int).length : Int) then 6 else ((sc.map V.int).length : Int)) > 1 then (if (6 : Int) < ((sc.map V.int).length : Int) then 6 else ((sc.map V.int).length : Int)) else 1) → x.toNat ≤ 8 := fun x hx => by
      subst hx
      repeat' split
      all_goals omega
    refine for_range (fun i σ H1 => (∃ g1 g2 g3 g4 g5 g6 g7 g8, σ = [some (.ref a), g1, g2, g3, g4, g5, g6, g7, g8]) ∧ Same H H1) ⟨⟨_, _, _, _, _, _, _, _, rfl⟩, Same.refl _⟩ ?_ (fun σ H1 _ => k H1)
    rintro i σ H1 hi ⟨⟨g1, g2, g3, g4, g5, g6, g7, g8, rfl⟩, s1⟩
    have hi8 : i < 8 := Nat.lt_of_lt_of_le hi (hn9 _ rfl)
    refine ⟨_, rfl, _, rfl, a, sc, _, rfl, s1.seq hS, by omega, by omega, fun p H2 s2 p0 P2 => ?_⟩
    have sH2 := s1.trans s2
    have pn : H p = none := s1.free p0
    refine ⟨_, rfl, p, 1, rfl, P2, by decide, fun al ns H3 P3 n3 _ nnm nnd nlen K3 => ?_⟩
    obtain ⟨x, rfl⟩ : ∃ x, ns = [x] := by
      match ns, nlen with
      | [x], _ => exact ⟨x, rfl⟩
    have nal := pot_ne P3 n3
    refine ⟨_, rfl, p, 7, rfl, P3, by decide, by decide, fun r H4 r0 r7 P4 K4 => ?_⟩
    obtain ⟨m, rfl⟩ : ∃ m : Nat, r = m := ⟨r.toNat, by omega⟩
    have n4 := K4.at nal n3
    have sH4 : Same H H4 := kp_same sH2 pn (K3.trans K4)
    -- a web of one place
    refine ⟨_, rfl, al, _, rfl, .inl ⟨SqL.of n4, fun pa hpa => ?_⟩⟩
    have s5 := same_upd (o := .tup ([x].map V.str)) (Same.refl H4) hpa
    have e5 : upd H4 pa (.tup ([x].map V.str)) pa = some (.tup ([x].map V.str)) := upd_same
    generalize upd H4 pa (.tup ([x].map V.str)) = H5 at s5 e5 ⊢
    refine ⟨Nat.zero_le _, fun ra hra => ?_⟩
    have s6 := same_upd (o := .tup []) (Same.refl H5) hra
    have e6 : upd H5 ra (.tup []) ra = some (.tup []) := upd_same
    generalize upd H5 ra (.tup []) = H6 at s6 e6 ⊢
    refine ⟨by show 2 ≤ sizeLine; decide, fun v hv => ?_⟩
    have s7 := same_upd (o := .tup [.ref pa, .ref ra]) (Same.refl H6) hv
    have e7 : upd H6 v (.tup [.ref pa, .ref ra]) v = some (.tup [.ref pa, .ref ra]) := upd_same
    generalize upd H6 v (.tup [.ref pa, .ref ra]) = H7 at s7 e7 ⊢
    have s47 := s5.trans (s6.trans s7)
    have W7 : WebAt H7 v pa ra [x] [] := ⟨e7, s7 _ _ (s6 _ _ e5), s7 _ _ e6, fun r hr => by cases hr⟩
    have G1 : Good [x] (([] : List T).map (·.2)) := ⟨by simp, nnm, by simp, fun r hr => (by cases hr), by simp, by simp, by simp⟩
    have hx1 : x ∈ [x] := by simp
    have hl0 : lotsOf (others [x] x) = [] := by
      have : others [x] x = [] := by simp [others]
      rw [this]; rfl
    have n7 := s47 _ _ n4
    refine ⟨_, rfl, _, rfl, rix_of (j := 0) (.inl (SqL.of n7)) rfl rfl ⟨v, pa, ra, [x], [], x, rfl, W7, G1, by simp, hx1, fun _ H8 s8 => ?_, fun z => absurd hl0 z⟩⟩
    refine ⟨rfl, _, rfl, iteF ?_⟩
    have n8 := s8 _ _ n7
    refine ⟨_, rfl, _, rfl, rix_of (j := 0) (.inl (SqL.of n8)) rfl rfl ⟨_, rfl, v, pa, ra, [x], [], x, m, rfl, W7.same s8, G1, by simp, hx1, by omega, fun H9 s9 => ⟨fun _ q9 trs tls cur _ e9 A9 R9 => ?_, fun l hl => by rw [hl0] at hl; cases hl⟩⟩⟩
    have htl : tls.map (·.2) = List.replicate m ([] : List Str) := by
      refine List.eq_replicate_iff.mpr ⟨by rw [List.length_map, R9.l2], fun b hb => ?_⟩
      obtain ⟨y, hy, rfl⟩ := List.mem_map.mp hb
      obtain ⟨j, hj⟩ := List.getElem?_of_mem hy
      have hjt : j < trs.length := by rw [R9.l1, ← R9.l2]; exact (List.getElem?_eq_some_iff.mp hj).1
      obtain ⟨_, hl, hp, _⟩ := R9.tr j x trs[j] y (by rw [List.getElem?_replicate]; simp [← R9.l1, hjt]) (List.getElem?_eq_getElem hjt) hj
      have h0 : trs[j] = [] := List.length_eq_zero_iff.mp (by simpa using hl)
      rw [h0] at hp
      exact hp.eq_nil
    refine ⟨Nat.zero_le _, fun t10 ht10 => ?_⟩
    have s10 := same_upd (o := .tup []) (Same.refl H9) ht10
    have e10 : upd H9 t10 (.tup []) t10 = some (.tup []) := upd_same
    generalize upd H9 t10 (.tup []) = H10 at s10 e10 ⊢
    refine ⟨by show 1 ≤ sizeLine; decide, fun l11 hl11 => ?_⟩
    have s11 := same_upd (o := .lst [.ref t10]) (Same.refl H10) hl11
    have e11 : upd H10 l11 (.lst [.ref t10]) l11 = some (.lst [.ref t10]) := upd_same
    generalize upd H10 l11 (.lst [.ref t10]) = H11 at s11 e11 ⊢
    refine ⟨_, rfl, l11, (m : Int), [.ref t10], rfl, rfl, e11, by omega, by omega, Nat.le_of_lt (fits (by show 1 * (m : Int).toNat ≤ 1000; omega)), fun l12 hl12 => ?_⟩
    have ef : (List.replicate ((m : Int)).toNat [V.ref t10]).flatten = List.replicate m (V.ref t10) := by
      rw [Int.toNat_natCast]; exact flat_rep _ _
    rw [ef]
    have s12 := same_upd (o := .lst (List.replicate m (V.ref t10))) (Same.refl H11) hl12
    have e12 : upd H11 l12 (.lst (List.replicate m (V.ref t10))) l12 = some (.lst (List.replicate m (V.ref t10))) := upd_same
    generalize upd H11 l12 (.lst (List.replicate m (V.ref t10))) = H12 at s12 e12 ⊢
    have s912 := s10.trans (s11.trans s12)
    have hnn : ∀ ts ∈ List.replicate m ([] : List Str), ∀ y ∈ ts, NameP y := fun ts hts y hy => by
      rw [List.eq_of_mem_replicate hts] at hy; cases hy
    have hsh := shT hnn
    have dv1 : DV H12 (.ref q9) (tlD (List.replicate m [])) := by
      rw [← htl]
      exact .lst (s912 _ _ e9) (trsDV fun y hy => s912 _ _ (A9 y hy))
    refine ⟨tlD (List.replicate m []), tlD (List.replicate m []), dv1, .lst e12 (dv_rep (s12 _ _ (s11 _ _ e10)) m), hsh, hsh, _, rfl, ?_⟩
    have ev : PyData.eqv (tlD (List.replicate m [])) (tlD (List.replicate m [])) = true := eqv_self _ (by
      have q := lay_trs hnn
      simp only [tlD, PyData.canLay0, q.1])
    rw [ev]
    refine iteF ?_
    have s412 := s47.trans (s8.trans (s9.trans s912))
    have sH12 := sH4.trans s412
    have P12 := P4.keep fun o e => s412 _ _ e
    -- a web of two places
    refine ⟨_, rfl, p, rfl, P12, fun w0 u pl pa2 ra2 ti A' B' ps ts rs n H13 P13 w13 W13 G13 hpm hab hrs pl13 ti13 tnd h40 hn K13 => ?_⟩
    have sH13 : Same H H13 := kp_same sH12 pn K13
    have hnd := in_two hab hrs
    have hct := cnt_two hab hn hrs
    have hnm : ∀ t ∈ ts, NameP t := fun t ht => by
      have : t ∈ (allOf A' B' ts n).map (·.1) := by
        rw [List.map_append, List.map_map, List.map_map]
        show t ∈ (ts.take n).map (fun t => t) ++ (ts.drop n).map (fun t => t)
        simp [ht]
      obtain ⟨r, hr', e⟩ := List.mem_map.mp this
      rw [← e]
      exact (G13.rn r (hrs.mem_iff.mpr hr')).1
    refine ⟨w0, _, rfl, SqT.of w13, rfl, _, _, rfl, _, _, rfl, _, _, rfl, _, _, rfl, rfl, ?_⟩
    refine ⟨_, rfl, _, rfl, rix_of (j := 0) (.inl (SqL.of pl13)) rfl rfl ⟨_, rfl, rix_of (j := 1) (.inl (SqL.of pl13)) rfl rfl ⟨_, rfl, _, rfl, _, rfl, ti, _, rfl, SqL.of ti13, fun l14 hl14 => ?_⟩⟩⟩
    rw [cut_to (ts.map V.str) (by rw [List.length_map]; exact hn), ← List.map_take]
    have s14 := same_upd (o := .lst ((ts.take n).map V.str)) (Same.refl H13) hl14
    have e14 : upd H13 l14 (.lst ((ts.take n).map V.str)) l14 = some (.lst ((ts.take n).map V.str)) := upd_same
    generalize upd H13 l14 (.lst ((ts.take n).map V.str)) = H14 at s14 e14 ⊢
    refine ⟨_, rfl, u, pa2, ra2, l14, ps, ts.take n, rs, A', B', m, rfl, W13.same s14, G13, hpm, hab, e14, by simp; omega, fun t ht => hnm t (List.mem_of_mem_take ht), hct.1, hnd.1, by omega, fun H15 s15 => ⟨true, rfl, iteF ?_⟩⟩
    have s1315 := s14.trans s15
    have pl15 := s1315 _ _ pl13
    refine ⟨_, rfl, _, rfl, rix_of (j := 1) (.inl (SqL.of pl15)) rfl rfl ⟨_, rfl, rix_of (j := 0) (.inl (SqL.of pl15)) rfl rfl ⟨_, rfl, _, rfl, _, rfl, ti, _, rfl, SqL.of (s1315 _ _ ti13), fun l16 hl16 => ?_⟩⟩⟩
    rw [cut_from (ts.map V.str) (by rw [List.length_map]; exact hn), ← List.map_drop]
    have s16 := same_upd (o := .lst ((ts.drop n).map V.str)) (Same.refl H15) hl16
    have e16 : upd H15 l16 (.lst ((ts.drop n).map V.str)) l16 = some (.lst ((ts.drop n).map V.str)) := upd_same
    generalize upd H15 l16 (.lst ((ts.drop n).map V.str)) = H16 at s16 e16 ⊢
    have s1316 := s1315.trans s16
    refine ⟨_, rfl, u, pa2, ra2, l16, ps, ts.drop n, rs, B', A', m, rfl, W13.same s1316, G13, hpm.trans (List.Perm.swap _ _ _), hab.symm, e16, by simp; omega, fun t ht => hnm t (List.mem_of_mem_drop ht), hct.2, hnd.2, by omega, fun H17 s17 => ⟨true, rfl, iteF ?_⟩⟩
    exact ⟨⟨_, _, _, _, _, _, _, _, rfl⟩, sH13.trans (s1316.trans s17)⟩
end
end K33

set_option Elab.async false
set_option linter.all false
set_option maxRecDepth 100000
set_option maxHeartbeats 4000000
namespace K33
open PySem L2
/-- a def of the text as it stands behind the top -/
noncomputable def DefAt (K : PySem.W.Frag) (x : Str) (st : Stmt) : Prop := ∃ (f : Addr) (oc : Value) (od : Option Addr) (kV doc pm : Value) (an : Option Addr) (cd ct : Value) (sl : Array (Option Value)),
  PySem.W.nsIn K mainGlobals x = some (some (.ref f)) ∧ K.lookup f = some ⟨oc, od, .func (PySem.W.fnOf x x (defArgs st) (defBody st) (defScope st) .none kV doc pm an cd ct), sl⟩ ∧ PySem.W.codeIn K cd x = true ∧ PySem.W.keepIn K (.ref f) = true
theorem def_mk {K : PySem.W.Frag} {x : Str} {st : Stmt} {f : Addr} {oc : Value} {od : Option Addr} {kV doc pm : Value} {an : Option Addr} {cd ct : Value} {sl : Array (Option Value)} (a : PySem.W.nsIn K mainGlobals x = some (some (.ref f)))
    (l : K.lookup f = some ⟨oc, od, .func (PySem.W.fnOf x x (defArgs st) (defBody st) (defScope st) .none kV doc pm an cd ct), sl⟩) (c : PySem.W.codeIn K cd x = true) (k : PySem.W.keepIn K (.ref f) = true) : DefAt K x st :=
  ⟨f, oc, od, kV, doc, pm, an, cd, ct, sl, a, l, c, k⟩
theorem fn_def {P : Program} {w : World} {K : PySem.W.Frag} {mg : Str → Option Value} {base h : Heap} {x : Str} {st : Stmt} {k : Nat} {ps : List Str} {sp : Sp} (D : DefAt K x st) (X : K.In h) (G : h.Ns mainGlobals mg)
    (hb : ∀ (kV doc pm : Value) (an : Option Addr) (cdv ct : Value) (us : List Value), us.length = ps.length → bindArgs (PySem.W.fnOf x x (defArgs st) (defBody st) (defScope st) .none kV doc pm an cdv ct) ⟨us, []⟩ = pure (ps.zip us))
    (ok : ∀ (f : Addr) (fd : FuncData), Fun K x x st f fd → FnOk P w K mg base CX0 k f fd ps sp) : Fn P w K mg base k x ps sp := by
  obtain ⟨f, oc, od, kV, doc, pm, an, cd, ct, sl, a, l, c, kk⟩ := D
  have F := fun_mk (st := st) l c kk
  exact ⟨f, _, PySem.W.mg_of X G a, kk, F.binds hb, ok f _ F⟩
theorem fnx_def {P : Program} {w : World} {K : PySem.W.Frag} {mg : Str → Option Value} {base h : Heap} {x : Str} {st : Stmt} {k : Nat} {ps : List Str} {sp : Sp} (D : DefAt K x st) (X : K.In h) (G : h.Ns mainGlobals mg)
    (hb : ∀ (kV doc pm : Value) (an : Option Addr) (cdv ct : Value) (us : List Value), us.length = ps.length → bindArgs (PySem.W.fnOf x x (defArgs st) (defBody st) (defScope st) .none kV doc pm an cdv ct) ⟨us, []⟩ = pure (ps.zip us))
    (ok : ∀ (f : Addr) (fd : FuncData), Fun K x x st f fd → FnOk P w K mg base (CXE P w) k f fd ps sp) : FnX P w K mg base k x ps sp := by
  obtain ⟨f, oc, od, kV, doc, pm, an, cd, ct, sl, a, l, c, kk⟩ := D
  have F := fun_mk (st := st) l c kk
  exact ⟨f, _, PySem.W.mg_of X G a, kk, F.binds hb, ok f _ F⟩
/-- the class whose __init__ sets lot, as it stands behind the top -/
noncomputable def TooAt (K : PySem.W.Frag) (x q : Str) (st : Stmt) (C f : Addr) : Prop := ∃ (oc : Value) (od : Option Addr) (kV doc pm : Value) (an : Option Addr) (cd ct : Value) (sl : Array (Option Value)),
  PySem.W.nsIn K mainGlobals x = some (some (.ref C)) ∧ excKIn K lotS C f veM "ValueError.__new__" = true ∧ K.lookup f = some ⟨oc, od, .func (PySem.W.fnOf "__init__" q (defArgs st) (defBody st) (defScope st) .none kV doc pm an cd ct), sl⟩ ∧ PySem.W.codeIn K cd q = true ∧ PySem.W.keepIn K (.ref f) = true
theorem too_mk {K : PySem.W.Frag} {x q : Str} {st : Stmt} {C f : Addr} {oc : Value} {od : Option Addr} {kV doc pm : Value} {an : Option Addr} {cd ct : Value} {sl : Array (Option Value)} (a : PySem.W.nsIn K mainGlobals x = some (some (.ref C))) (i : PySem.W.findIn K (.ref C) "__init__" = some (some (.ref f)))
    (l : K.lookup f = some ⟨oc, od, .func (PySem.W.fnOf "__init__" q (defArgs st) (defBody st) (defScope st) .none kV doc pm an cd ct), sl⟩) (c : PySem.W.codeIn K cd q = true) (k : PySem.W.keepIn K (.ref f) = true) (e : excKIn K lotS C f veM "ValueError.__new__" = true) : TooAt K x q st C f :=
  ⟨oc, od, kV, doc, pm, an, cd, ct, sl, a, e, l, c, k⟩
theorem all_mk {l : PySem.W.OpenLaw} {w : World} {K : PySem.W.Frag} {h : Heap} {mg : Str → Option Value} {fa : Addr} (X : K.In h) (G : h.Ns mainGlobals mg) (hfa : mg "law" = some (.ref fa)) (B : Bl mg) {C fI : Addr}
    (tC : TooAt K "TooFew" "TooFew.__init__" (mth (top 5) 0) C fI)
    (d8 : DefAt K "is_name" (top 8))
    (d9 : DefAt K "is_whole" (top 9))
    (d10 : DefAt K "is_rising" (top 10))
    (d11 : DefAt K "is_sorted_names" (top 11))
    (d12 : DefAt K "is_among" (top 12))
    (d13 : DefAt K "is_tie_row" (top 13))
    (d14 : DefAt K "is_web" (top 14))
    (d15 : DefAt K "need_web" (top 15))
    (d16 : DefAt K "need_number" (top 16))
    (d17 : DefAt K "need_place" (top 17))
    (d18 : DefAt K "leads_into" (top 18))
    (d21 : DefAt K "lots_among" (top 21))
    (d22 : DefAt K "lots_without" (top 22))
    (d23 : DefAt K "counts_into" (top 23))
    (d24 : DefAt K "need_of" (top 24))
    (d25 : DefAt K "spare_into" (top 25))
    (d26 : DefAt K "next_row" (top 26))
    (d27 : DefAt K "grown" (top 27))
    (d28 : DefAt K "need_enough" (top 28))
    (d29 : DefAt K "trees_from" (top 29))
    (d30 : DefAt K "least" (top 30))
    (d31 : DefAt K "shares" (top 31))
    (d33 : DefAt K "_law_pot" (top 33))
    (d34 : DefAt K "_law_take" (top 34))
    (d35 : DefAt K "_law_names" (top 35))
    (d36 : DefAt K "_law_two" (top 36))
    (d37 : DefAt K "_law_lacking" (top 37))
    (d38 : DefAt K "_law_of_two" (top 38))
    (d39 : DefAt K "law" (top 39)) :
    ∃ fd : FuncData, (∀ (s : Shared) (v : Value), BindsTo s fd ⟨[v], []⟩ [("_law_script", v)]) ∧ ∀ base : Heap, K.In base → base.Ns mainGlobals mg → FnOk l.prog w K mg base CX0 9 fa fd ["_law_script"] (spLaw K) := by
  obtain ⟨f, oc, od, kV, doc, pm, an, cd, ct, sl, a, lk, c, kk⟩ := d39
  have e := hfa.symm.trans (PySem.W.mg_of X G a)
  cases e
  refine ⟨PySem.W.fnOf "law" "law" (defArgs (top 39)) (defBody (top 39)) (defScope (top 39)) .none kV doc pm an cd ct, fun s v => .of_eq rfl, fun base KB _ => ?_⟩
  obtain ⟨ocI, odI, kVI, docI, pmI, anI, cdI, ctI, slI, a1, a2, a3, a4, a5⟩ := tC
  have gC := PySem.W.mg_of X G a1
  have xC := excK_lot KB a2
  have FI := fun_mk (st := mth (top 5) 0) a3 a4 a5
  have bI := FI.binds (ps := ["self", "lot"]) (fun _ _ _ _ _ _ us hl => match us, hl with | [_, _], _ => rfl)
  have nI := ok_init (P := l.prog) (w := w) (mg := mg) FI xC
  have n8 := fn_def (P := l.prog) (w := w) (base := base) d8 X G (ps := ["thing"]) (fun _ _ _ _ _ _ us hl => match us, hl with | [_], _ => rfl) fun f fd F => ok_is_name F B
  have n9 := fn_def (P := l.prog) (w := w) (base := base) d9 X G (ps := ["thing"]) (fun _ _ _ _ _ _ us hl => match us, hl with | [_], _ => rfl) fun f fd F => ok_is_whole F B
  have n10 := fn_def (P := l.prog) (w := w) (base := base) d10 X G (ps := ["names"]) (fun _ _ _ _ _ _ us hl => match us, hl with | [_], _ => rfl) fun f fd F => ok_is_rising F B
  have n11 := fn_def (P := l.prog) (w := w) (base := base) d11 X G (ps := ["thing"]) (fun _ _ _ _ _ _ us hl => match us, hl with | [_], _ => rfl) fun f fd F => ok_is_sorted F B n8 n10
  have n12 := fn_def (P := l.prog) (w := w) (base := base) d12 X G (ps := ["thing", "names"]) (fun _ _ _ _ _ _ us hl => match us, hl with | [_, _], _ => rfl) fun f fd F => ok_is_among F B
  have n13 := fn_def (P := l.prog) (w := w) (base := base) d13 X G (ps := ["thing", "places"]) (fun _ _ _ _ _ _ us hl => match us, hl with | [_, _], _ => rfl) fun f fd F => ok_is_tie_row F B n8 n12
  have n14 := fn_def (P := l.prog) (w := w) (base := base) d14 X G (ps := ["thing"]) (fun _ _ _ _ _ _ us hl => match us, hl with | [_], _ => rfl) fun f fd F => ok_is_web F B n11 n13 n10
  have n15 := fn_def (P := l.prog) (w := w) (base := base) d15 X G (ps := ["thing"]) (fun _ _ _ _ _ _ us hl => match us, hl with | [_], _ => rfl) fun f fd F => ok_need_web F n14
  have n16 := fn_def (P := l.prog) (w := w) (base := base) d16 X G (ps := ["thing", "low", "high"]) (fun _ _ _ _ _ _ us hl => match us, hl with | [_, _, _], _ => rfl) fun f fd F => ok_need_number F n9
  have n17 := fn_def (P := l.prog) (w := w) (base := base) d17 X G (ps := ["web", "thing"]) (fun _ _ _ _ _ _ us hl => match us, hl with | [_, _], _ => rfl) fun f fd F => ok_need_place F n12
  have n18 := fn_def (P := l.prog) (w := w) (base := base) d18 X G (ps := ["row", "lot"]) (fun _ _ _ _ _ _ us hl => match us, hl with | [_, _], _ => rfl) fun f fd F => ok_leads_into F
  have n21 := fn_def (P := l.prog) (w := w) (base := base) d21 X G (ps := ["places"]) (fun _ _ _ _ _ _ us hl => match us, hl with | [_], _ => rfl) fun f fd F => ok_lots_among F B
  have n22 := fn_def (P := l.prog) (w := w) (base := base) d22 X G (ps := ["web", "root"]) (fun _ _ _ _ _ _ us hl => match us, hl with | [_, _], _ => rfl) fun f fd F => ok_lots_without F n21
  have n23 := fn_def (P := l.prog) (w := w) (base := base) d23 X G (ps := ["rows", "lots"]) (fun _ _ _ _ _ _ us hl => match us, hl with | [_, _], _ => rfl) fun f fd F => ok_counts F n18
  have n24 := fn_def (P := l.prog) (w := w) (base := base) d24 X G (ps := ["roots", "lot"]) (fun _ _ _ _ _ _ us hl => match us, hl with | [_, _], _ => rfl) fun f fd F => ok_need_of F B
  have n25 := fn_def (P := l.prog) (w := w) (base := base) d25 X G (ps := ["rows", "lots", "roots"]) (fun _ _ _ _ _ _ us hl => match us, hl with | [_, _, _], _ => rfl) fun f fd F => ok_spare F n23 n24
  have n26 := fn_def (P := l.prog) (w := w) (base := base) d26 X G (ps := ["rows", "found", "spare"]) (fun _ _ _ _ _ _ us hl => match us, hl with | [_, _, _], _ => rfl) fun f fd F => ok_next F B n18
  have n27 := fn_def (P := l.prog) (w := w) (base := base) d27 X G (ps := ["places", "rows", "root", "later"]) (fun _ _ _ _ _ _ us hl => match us, hl with | [_, _, _, _], _ => rfl) fun f fd F => ok_grown F B n25 n21 n26
  have n28 := fnx_def (P := l.prog) (w := w) (base := base) d28 X G (ps := ["web", "roots"]) (fun _ _ _ _ _ _ us hl => match us, hl with | [_, _], _ => rfl) fun f fd F => ok_enough F gC xC nI bI n25 n21
  have n29 := fnx_def (P := l.prog) (w := w) (base := base) d29 X G (ps := ["web", "roots"]) (fun _ _ _ _ _ _ us hl => match us, hl with | [_, _], _ => rfl) fun f fd F => ok_trees F B n28 n27
  have n30 := fn_def (P := l.prog) (w := w) (base := base) d30 X G (ps := ["web", "root"]) (fun _ _ _ _ _ _ us hl => match us, hl with | [_, _], _ => rfl) fun f fd F => ok_least F B n15 n17 n22 n23
  have n31 := fnx_def (P := l.prog) (w := w) (base := base) d31 X G (ps := ["web", "root", "many"]) (fun _ _ _ _ _ _ us hl => match us, hl with | [_, _, _], _ => rfl) fun f fd F => ok_shares F B n15 n17 n16 n29
  have n33 := fn_def (P := l.prog) (w := w) (base := base) d33 X G (ps := ["_law_script", "_law_k"]) (fun _ _ _ _ _ _ us hl => match us, hl with | [_, _], _ => rfl) fun f fd F => ok_pot F B
  have n34 := fn_def (P := l.prog) (w := w) (base := base) d34 X G (ps := ["_law_pot_here", "_law_many"]) (fun _ _ _ _ _ _ us hl => match us, hl with | [_, _], _ => rfl) fun f fd F => ok_take F B
  have n35 := fn_def (P := l.prog) (w := w) (base := base) d35 X G (ps := ["_law_pot_here", "_law_many"]) (fun _ _ _ _ _ _ us hl => match us, hl with | [_, _], _ => rfl) fun f fd F => ok_names F B n34
  have n36 := fn_def (P := l.prog) (w := w) (base := base) d36 X G (ps := ["_law_pot_here"]) (fun _ _ _ _ _ _ us hl => match us, hl with | [_], _ => rfl) fun f fd F => ok_two F B n34 n35
  have n37 := fn_def (P := l.prog) (w := w) (base := base) d37 X G (ps := ["_law_web", "_law_root", "_law_many"]) (fun _ _ _ _ _ _ us hl => match us, hl with | [_, _, _], _ => rfl) fun f fd F => ok_lacking F gC xC n31
  have n38 := fn_def (P := l.prog) (w := w) (base := base) d38 X G (ps := ["_law_web", "_law_root", "_law_other", "_law_ties", "_law_many"]) (fun _ _ _ _ _ _ us hl => match us, hl with | [_, _, _, _, _], _ => rfl) fun f fd F => ok_of_two F B n30 n31 n37
  exact ok_law (fun_mk (st := top 39) lk c kk) B n33 n34 n35 n30 n31 n36 n38
theorem bl_mk {K : PySem.W.Frag} {h : Heap} {mg : Str → Option Value} (X : K.In h) (G : h.Ns mainGlobals mg) {t_most : Tok} {t_lng : Tok}
    (z_len : PySem.W.nsIn K mainGlobals "len" = some none)
    (z_isinstance : PySem.W.nsIn K mainGlobals "isinstance" = some none)
    (z_all : PySem.W.nsIn K mainGlobals "all" = some none)
    (z_range : PySem.W.nsIn K mainGlobals "range" = some none)
    (z_sorted : PySem.W.nsIn K mainGlobals "sorted" = some none)
    (z_repr : PySem.W.nsIn K mainGlobals "repr" = some none)
    (z_max : PySem.W.nsIn K mainGlobals "max" = some none)
    (z_min : PySem.W.nsIn K mainGlobals "min" = some none)
    (z_str : PySem.W.nsIn K mainGlobals "str" = some none)
    (z_tuple : PySem.W.nsIn K mainGlobals "tuple" = some none)
    (z_list : PySem.W.nsIn K mainGlobals "list" = some none)
    (z_int : PySem.W.nsIn K mainGlobals "int" = some none)
    (z_bool : PySem.W.nsIn K mainGlobals "bool" = some none)
    (z_zip : PySem.W.nsIn K mainGlobals "zip" = some none)
    (z_divmod : PySem.W.nsIn K mainGlobals "divmod" = some none)
    (z_abs : PySem.W.nsIn K mainGlobals "abs" = some none)
    (z_set : PySem.W.nsIn K mainGlobals "set" = some none)
    (z_enumerate : PySem.W.nsIn K mainGlobals "enumerate" = some none)
    (z_most : PySem.W.nsIn K mainGlobals "MOST_TREES" = some (some (.int 6 t_most)))
    (z_lng : PySem.W.nsIn K mainGlobals "LONGEST_NAME" = some (some (.int 8 t_lng)))
    : Bl mg :=
  ⟨PySem.W.mg_none_of X G z_len, PySem.W.mg_none_of X G z_isinstance, PySem.W.mg_none_of X G z_all, PySem.W.mg_none_of X G z_range, PySem.W.mg_none_of X G z_sorted, PySem.W.mg_none_of X G z_repr, PySem.W.mg_none_of X G z_max, PySem.W.mg_none_of X G z_min, PySem.W.mg_none_of X G z_str, PySem.W.mg_none_of X G z_tuple, PySem.W.mg_none_of X G z_list, PySem.W.mg_none_of X G z_int, PySem.W.mg_none_of X G z_bool, PySem.W.mg_none_of X G z_zip, PySem.W.mg_none_of X G z_divmod, PySem.W.mg_none_of X G z_abs, PySem.W.mg_none_of X G z_set, PySem.W.mg_none_of X G z_enumerate, ⟨t_most, PySem.W.mg_of X G z_most⟩, ⟨t_lng, PySem.W.mg_of X G z_lng⟩⟩
theorem walk {l : PySem.W.OpenLaw} {q : Program} {loose : List Str} {XP : (Str → Option Value) → Heap → Prop} {YP : World → Heap → Prop} {d : DefRec} {K : Params → PySem.W.Frag} (hn : l.most = some 63) (hdf : d.params.defaults = [])
    (hY : ∀ (w : World) (h : Heap), YP w h → (K w.params).In h)
    (F : ∀ (w : World) (mg : Str → Option Value) (fa : Addr) (h : Heap), (K w.params).In h → h.Ns mainGlobals mg → mg d.name = some (.ref fa) →
      ∃ fd : FuncData, (∀ (s : Shared) (u : Value), BindsTo s fd ⟨[u], []⟩ [("_law_script", u)]) ∧ ∀ base : Heap, (K w.params).In base → base.Ns mainGlobals mg → FnOk l.prog w (K w.params) mg base CX0 9 fa fd ["_law_script"] (spLaw (K w.params))) :
    PySem.W.WalkO q loose XP YP l.row.toRowW d [] (fun f vs => PySem.call f vs) :=
  L2.walk_of (n := 63) (k := 9) (x := "_law_script") (CX := fun _ => CX0) (sp := fun w => spLaw (K w.params)) hn (by decide) hdf ⟨rfl, by decide, by decide, rfl⟩ hY F (fun _ _ a ns hl _ hS => ⟨a, ns, rfl, hS, hl, fun _ => rfl⟩) fun _ _ _ _ _ z => z
end K33
theorem PySem.W.Fast.tw5703549222957446603 : True := trivial
theorem PySem.W.Fast.tw6803187398734443933 : True := trivial
theorem PySem.W.Fast.tw12013891173108166278 : True := trivial
theorem PySem.W.Fast.tw16069887626049567240 : True := trivial
theorem PySem.W.Fast.tw13275965885602352857 : True := trivial
theorem PySem.W.Fast.tw1624166324937297441 : True := trivial
theorem PySem.W.Fast.tw18386901461627828848 : True := trivial
theorem PySem.W.Fast.tw6976777674954979772 : True := trivial
theorem PySem.W.Fast.tw15355616218434941475 : True := trivial
theorem PySem.W.Fast.tw7681764681101828502 : True := trivial
theorem PySem.W.Fast.tw15389372397916035326 : True := trivial
theorem PySem.W.Fast.tw16009145828303618975 : True := trivial
theorem PySem.W.Fast.tw15659836205887534653 : True := trivial
theorem PySem.W.Fast.tw9423975972307377987 : True := trivial
theorem PySem.W.Fast.tw8290686984670887528 : True := trivial
theorem PySem.W.Fast.tw17447144087006792497 : True := trivial
theorem PySem.W.Fast.tw6577850153499723259 : True := trivial
theorem PySem.W.Fast.tw4292056540024030049 : True := trivial
theorem PySem.W.Fast.tw18208707650486337363 : True := trivial
theorem PySem.W.Fast.tw715208931315932757 : True := trivial
theorem PySem.W.Fast.tw136629231584490359 : True := trivial
theorem PySem.W.Fast.tw8475349791987379189 : True := trivial
theorem PySem.W.Fast.tw610333648460477284 : True := trivial
theorem PySem.W.Fast.tw2430212038743580086 : True := trivial
theorem PySem.W.Fast.tw2904884887791524032 : True := trivial
theorem PySem.W.Fast.tw15508499997599882829 : True := trivial
theorem PySem.W.Fast.tw11661978168800556088 : True := trivial
theorem PySem.W.Fast.tw17695817882185346440 : True := trivial
theorem PySem.W.Fast.tw14830066400217996674 : True := trivial
open PySem PySem.W PyProof.Rows
set_option maxRecDepth 100000 in
set_option maxHeartbeats 0 in
theorem PySem.Challenge.cw_rootshares_k33_one_place_or_two_holds : PySem.Challenge.rw_rootshares_k33_one_place_or_two.Holds := by
  w_on; o_law; k_head; (case hw => w_witness2)
  k_fill
  refine K33.walk (l := PySem.Challenge.rw_rootshares_k33_one_place_or_two) rfl rfl (fun w h Y => PySem.W.kIn_of Y) ?F
  case F =>
    intro w mg fa h KX G hmg
    have B : K33.Bl mg := by
      refine' K33.bl_mk KX G ?len ?isinstance ?all ?range ?sorted ?repr ?max ?min ?str ?tuple ?list ?int ?bool ?zip ?divmod ?abs ?set ?enumerate ?most ?lng
      (case len => k_is)
      (case isinstance => k_is)
      (case all => k_is)
      (case range => k_is)
      (case sorted => k_is)
      (case repr => k_is)
      (case max => k_is)
      (case min => k_is)
      (case str => k_is)
      (case tuple => k_is)
      (case list => k_is)
      (case int => k_is)
      (case bool => k_is)
      (case zip => k_is)
      (case divmod => k_is)
      (case abs => k_is)
      (case set => k_is)
      (case enumerate => k_is)
      (case most => k_is)
      (case lng => k_is)
    refine' K33.all_mk KX G hmg B ?tC ?d8 ?d9 ?d10 ?d11 ?d12 ?d13 ?d14 ?d15 ?d16 ?d17 ?d18 ?d21 ?d22 ?d23 ?d24 ?d25 ?d26 ?d27 ?d28 ?d29 ?d30 ?d31 ?d33 ?d34 ?d35 ?d36 ?d37 ?d38 ?d39
    (case tC => (refine' K33.too_mk ?a ?i ?l ?c ?k ?e; (case a => k_is); (case i => k_is); (case l => k_is); (case c => k_is); (case k => k_is); (case e => kernel_rfl)))
    (case d8 => (refine' K33.def_mk ?a ?l ?c ?k; (case a => k_is); (case l => k_is); (case c => k_is); (case k => k_is)))
    (case d9 => (refine' K33.def_mk ?a ?l ?c ?k; (case a => k_is); (case l => k_is); (case c => k_is); (case k => k_is)))
    (case d10 => (refine' K33.def_mk ?a ?l ?c ?k; (case a => k_is); (case l => k_is); (case c => k_is); (case k => k_is)))
    (case d11 => (refine' K33.def_mk ?a ?l ?c ?k; (case a => k_is); (case l => k_is); (case c => k_is); (case k => k_is)))
    (case d12 => (refine' K33.def_mk ?a ?l ?c ?k; (case a => k_is); (case l => k_is); (case c => k_is); (case k => k_is)))
    (case d13 => (refine' K33.def_mk ?a ?l ?c ?k; (case a => k_is); (case l => k_is); (case c => k_is); (case k => k_is)))
    (case d14 => (refine' K33.def_mk ?a ?l ?c ?k; (case a => k_is); (case l => k_is); (case c => k_is); (case k => k_is)))
    (case d15 => (refine' K33.def_mk ?a ?l ?c ?k; (case a => k_is); (case l => k_is); (case c => k_is); (case k => k_is)))
    (case d16 => (refine' K33.def_mk ?a ?l ?c ?k; (case a => k_is); (case l => k_is); (case c => k_is); (case k => k_is)))
    (case d17 => (refine' K33.def_mk ?a ?l ?c ?k; (case a => k_is); (case l => k_is); (case c => k_is); (case k => k_is)))
    (case d18 => (refine' K33.def_mk ?a ?l ?c ?k; (case a => k_is); (case l => k_is); (case c => k_is); (case k => k_is)))
    (case d21 => (refine' K33.def_mk ?a ?l ?c ?k; (case a => k_is); (case l => k_is); (case c => k_is); (case k => k_is)))
    (case d22 => (refine' K33.def_mk ?a ?l ?c ?k; (case a => k_is); (case l => k_is); (case c => k_is); (case k => k_is)))
    (case d23 => (refine' K33.def_mk ?a ?l ?c ?k; (case a => k_is); (case l => k_is); (case c => k_is); (case k => k_is)))
    (case d24 => (refine' K33.def_mk ?a ?l ?c ?k; (case a => k_is); (case l => k_is); (case c => k_is); (case k => k_is)))
    (case d25 => (refine' K33.def_mk ?a ?l ?c ?k; (case a => k_is); (case l => k_is); (case c => k_is); (case k => k_is)))
    (case d26 => (refine' K33.def_mk ?a ?l ?c ?k; (case a => k_is); (case l => k_is); (case c => k_is); (case k => k_is)))
    (case d27 => (refine' K33.def_mk ?a ?l ?c ?k; (case a => k_is); (case l => k_is); (case c => k_is); (case k => k_is)))
    (case d28 => (refine' K33.def_mk ?a ?l ?c ?k; (case a => k_is); (case l => k_is); (case c => k_is); (case k => k_is)))
    (case d29 => (refine' K33.def_mk ?a ?l ?c ?k; (case a => k_is); (case l => k_is); (case c => k_is); (case k => k_is)))
    (case d30 => (refine' K33.def_mk ?a ?l ?c ?k; (case a => k_is); (case l => k_is); (case c => k_is); (case k => k_is)))
    (case d31 => (refine' K33.def_mk ?a ?l ?c ?k; (case a => k_is); (case l => k_is); (case c => k_is); (case k => k_is)))
    (case d33 => (refine' K33.def_mk ?a ?l ?c ?k; (case a => k_is); (case l => k_is); (case c => k_is); (case k => k_is)))
    (case d34 => (refine' K33.def_mk ?a ?l ?c ?k; (case a => k_is); (case l => k_is); (case c => k_is); (case k => k_is)))
    (case d35 => (refine' K33.def_mk ?a ?l ?c ?k; (case a => k_is); (case l => k_is); (case c => k_is); (case k => k_is)))
    (case d36 => (refine' K33.def_mk ?a ?l ?c ?k; (case a => k_is); (case l => k_is); (case c => k_is); (case k => k_is)))
    (case d37 => (refine' K33.def_mk ?a ?l ?c ?k; (case a => k_is); (case l => k_is); (case c => k_is); (case k => k_is)))
    (case d38 => (refine' K33.def_mk ?a ?l ?c ?k; (case a => k_is); (case l => k_is); (case c => k_is); (case k => k_is)))
    (case d39 => (refine' K33.def_mk ?a ?l ?c ?k; (case a => k_is); (case l => k_is); (case c => k_is); (case k => k_is)))

