import PyProof.Rows.All
import Wide.All
import OpenK.AllK
import Wide.FinOn
import Lean
import PyProof.EqAt
import PyProof.EqKinds
import PyProof.TupleCall
import KE.KSortTup
import KE.KDictSum
import KE.KDictOf
import PyProof.AttrMissHeap
import PyProof.WalksEnum
import PyProof.EnumMake
import PyProof.Draws
import PyProof.Rows.SetFrom
import KE.KTryOn
import KE.KTryDeep
import PySem.Challenge.RW_rootshares_k34_shares_refused
-- CHANGE: your row's module here, as the last of these rows
set_option Elab.async false
set_option linter.all false
set_option maxRecDepth 100000
/-! THE HAND LAYER, for ints, bools, texts, own classes, LISTS and tuples (index, slices, in, append, pop ..), calls, loops. Paste it whole ahead of your own text; what your proof does not reach may be deleted. -/
namespace L2
open PySem PySem.Spec PyProof.Rows

/-- a key: an int or a str -/
noncomputable abbrev Key := Sum Int Str
noncomputable def keyIs : Key → Value → Bool
  | .inl k, v => Value.isInt k v
  | .inr x, v => Value.isStrOf x v
noncomputable def keyH (w : World) : Key → Int
  | .inl k => hashInt k
  | .inr x => hashStr w x
theorem keyIs_shape : ∀ {k : Key} {v : Value}, keyIs k v = true → (∃ i t, k = Sum.inl i ∧ v = Value.int i t) ∨ (∃ x t, k = Sum.inr x ∧ v = Value.str x t)
  | .inl i, v, h => by
    obtain ⟨t, e⟩ := Value.isInt_shape (k := i) (v := v) h
    exact .inl ⟨i, t, rfl, e⟩
  | .inr x, v, h => by
    obtain ⟨t, e⟩ := Value.isStrOf_shape (x := x) (v := v) h
    exact .inr ⟨x, t, rfl, e⟩
theorem keyIs_int (i : Int) (t : Tok) : keyIs (.inl i) (.int i t) = true := by simp [keyIs, Value.isInt]
theorem keyIs_str (x : Str) (t : Tok) : keyIs (.inr x) (.str x t) = true := by simp [keyIs, Value.isStrOf]
theorem key_ll (a b : Int) : decide ((Sum.inl a : Key) = Sum.inl b) = (a == b) := by
  by_cases e : a = b
  · subst e; simp
  · have h : ¬ (Sum.inl a : Key) = Sum.inl b := fun q => e (Sum.inl.inj q)
    rw [decide_eq_false h]
    exact (beq_eq_false_iff_ne.mpr e).symm
theorem key_rr (a b : Str) : decide ((Sum.inr a : Key) = Sum.inr b) = decide (a = b) := by
  by_cases e : a = b
  · subst e; simp
  · have h : ¬ (Sum.inr a : Key) = Sum.inr b := fun q => e (Sum.inr.inj q)
    rw [decide_eq_false h, decide_eq_false e]
theorem key_lr (a : Int) (b : Str) : decide ((Sum.inl a : Key) = Sum.inr b) = false := decide_eq_false (fun q => nomatch q)
theorem key_rl (a : Str) (b : Int) : decide ((Sum.inr a : Key) = Sum.inl b) = false := decide_eq_false (fun q => nomatch q)

noncomputable def mixKind (prog : Program) (w : World) : PySem.KeyKind prog w Key where
  is := keyIs
  hash := keyH w
  inj := fun v a b ha hb => by
    rcases keyIs_shape ha with ⟨i, t, rfl, rfl⟩ | ⟨x, t, rfl, rfl⟩
    · rcases keyIs_shape hb with ⟨j, u, rfl, e⟩ | ⟨y, u, rfl, e⟩
      · injection e with e1 _; rw [e1]
      · exact nomatch e
    · rcases keyIs_shape hb with ⟨j, u, rfl, e⟩ | ⟨y, u, rfl, e⟩
      · exact nomatch e
      · injection e with e1 _; rw [e1]
  byValue := fun k v h => by
    rcases keyIs_shape h with ⟨i, t, rfl, rfl⟩ | ⟨x, t, rfl, rfl⟩ <;> rfl
  pyHash := fun hv h => by
    rcases keyIs_shape hv with ⟨i, t, rfl, rfl⟩ | ⟨x, t, rfl, rfl⟩
    · exact wpAny_pyHash_int h
    · exact wpAny_pyHash_str h
  eqBool := fun hu hv h => by
    rcases keyIs_shape hu with ⟨i, t, rfl, rfl⟩ | ⟨x, t, rfl, rfl⟩
    · rcases keyIs_shape hv with ⟨j, u, rfl, rfl⟩ | ⟨y, u, rfl, rfl⟩
      · rw [key_ll] at h; exact wpAny_eqBool_int h
      · rw [key_lr] at h; exact SeqAt.EqAt.int_str i t y u _ _ _ _ h
    · rcases keyIs_shape hv with ⟨j, u, rfl, rfl⟩ | ⟨y, u, rfl, rfl⟩
      · rw [key_rl] at h; exact SeqAt.EqAt.str_int x t j u _ _ _ _ h
      · rw [key_rr] at h; exact wpAny_eqBool_str h
  «strs» := fun k x t v h => by
    rcases keyIs_shape h with ⟨i, u, rfl, e⟩ | ⟨y, u, rfl, e⟩
    · exact nomatch e
    · injection e with e1 _
      subst e1
      cases v <;> rfl

theorem mixKind_int (prog : Program) (w : World) (i : Int) (t : Tok) : (mixKind prog w).is (.inl i) (.int i t) = true := keyIs_int i t
theorem mixKind_str (prog : Program) (w : World) (x : Str) (t : Tok) : (mixKind prog w).is (.inr x) (.str x t) = true := keyIs_str x t
end L2

namespace L2
open PySem PySem.Spec PyProof.Rows

/-- a value, without the heap -/
inductive V where
  | non | bl (b : Bool) | int (i : Int) | str (x : Str) | byt (b : Array UInt8) | flt (b : UInt64) | ref (a : Addr) | ty (n : String)
  deriving DecidableEq

noncomputable def RelV : V → Value → Prop
  | .non, u => u = Value.none
  | .bl b, u => u = Value.bool b
  | .int i, u => ∃ t, u = Value.int i t
  | .str x, u => ∃ t, u = Value.str x t
  | .byt b, u => ∃ t, u = Value.bytes b t
  | .flt b, u => ∃ t, u = Value.float b t
  | .ref a, u => u = Value.ref a
  | .ty n, u => u = Value.type n

noncomputable abbrev Vals : List V → List Value → Prop := Paired RelV
theorem Vals.length {xs : List V} {us : List Value} (r : Vals xs us) : xs.length = us.length := Paired.length r
theorem Vals.get : ∀ {xs : List V} {us : List Value} {i : Nat} {x : V}, Vals xs us → xs[i]? = some x → ∃ u, us[i]? = some u ∧ RelV x u
  | _, _, _, _, .nil, e => by simp at e
  | _, _, 0, _, .cons r _, e => by simp at e; subst e; exact ⟨_, rfl, r⟩
  | _, _, i + 1, x, .cons _ t, e => by
    obtain ⟨u, h1, h2⟩ := Vals.get (i := i) (x := x) t (by simpa using e)
    exact ⟨u, by simpa using h1, h2⟩
theorem Vals.set {x : V} {u : Value} (r : RelV x u) : ∀ {xs : List V} {us : List Value} (i : Nat), Vals xs us → Vals (xs.set i x) (us.set i u)
  | _, _, _, .nil => .nil
  | _, _, 0, .cons _ t => .cons r t
  | _, _, i + 1, .cons q t => .cons q (Vals.set r i t)
theorem Vals.append : ∀ {xs ys : List V} {us ws : List Value}, Vals xs us → Vals ys ws → Vals (xs ++ ys) (us ++ ws)
  | _, _, _, _, .nil, s => s
  | _, _, _, _, .cons r t, s => .cons r (Vals.append t s)
theorem Vals.take : ∀ {xs : List V} {us : List Value} (n : Nat), Vals xs us → Vals (xs.take n) (us.take n)
  | _, _, 0, _ => .nil
  | _, _, _ + 1, .nil => .nil
  | _, _, n + 1, .cons r t => .cons r (Vals.take n t)
theorem Vals.drop : ∀ {xs : List V} {us : List Value} (n : Nat), Vals xs us → Vals (xs.drop n) (us.drop n)
  | _, _, 0, r => r
  | _, _, _ + 1, .nil => .nil
  | _, _, n + 1, .cons _ t => Vals.drop n t
noncomputable def RelO : Option V → Option Value → Prop
  | some v, some u => RelV v u
  | none, none => True
  | _, _ => False
noncomputable def KV {κ : Type} : List (κ × V) → List (κ × Value) → Prop := Paired fun (p : κ × V) (q : κ × Value) => p.1 = q.1 ∧ RelV p.2 q.2

/-- a key of a dict (00_mix): an int or a text -/
noncomputable def kV : Key → V
  | .inl i => .int i
  | .inr x => .str x

/-- what stands at a tracked address -/
inductive HO where
  /-- a list -/
  | lst (xs : List V)
  /-- a tuple (never changes) -/
  | tup (xs : List V)
  /-- a dict whose keys are ints and texts; one whose keys are tuples of ints and texts (the empty one is both) -/
  | dK (kvs : List (Key × V)) | dT (kvs : List (List Key × V))
  /-- a set of ints: its members, its size -/
  | set (S : Int → Bool) (n : Nat)
  /-- an instance of the class at C, its dict at dx, its attributes -/
  | ins (C dx : Addr) (fs : List (Str × V))
  /-- the dict of the instance at x -/
  | own (x : Addr)
  /-- the dict of an exception -/
  | xd (fs : List (Str × V))
  /-- a bound method, f of x -/
  | met (f x : Addr)
  /-- a range object lo, lo + 1, .. below hi -/
  | rng (lo hi : Int)
  /-- a thing that is known to the object (the script; a dict while a loop walks it): read, never written while it is so -/
  | frz (o : Obj) (u : HO)
  /-- a code object's table -/
  | tbl (ps : Array Value)
  /-- any other thing, by what is true of its one object (a def of one's own: SetO a S n := HO.ext fun h => ..) -/
  | ext (φ : Heap → Prop)

noncomputable abbrev Hp := Addr → Option HO
noncomputable def upd (H : Hp) (a : Addr) (o : HO) : Hp := fun b => if b = a then some o else H b
theorem upd_same {H : Hp} {a : Addr} {o : HO} : upd H a o a = some o := by unfold upd; rw [if_pos rfl]
theorem upd_ne {H : Hp} {a b : Addr} {o : HO} (h : b ≠ a) : upd H a o b = H b := by unfold upd; rw [if_neg h]
/-- two objects of different content stand apart -/
theorem ne_of {H : Hp} {a b : Addr} {o u : HO} (h : H a = some o) (h' : H b = some u) (d : o ≠ u) : a ≠ b := by
  intro e; subst e; rw [h] at h'; exact d (Option.some.inj h')
theorem ne_of_none {H : Hp} {a b : Addr} {o : HO} (h : H a = some o) (h' : H b = none) : a ≠ b := by
  intro e; subst e; rw [h] at h'; cases h'

section
variable (P : Program) (w : World)
noncomputable def ObjOk (H : Hp) (h : Heap) (a : Addr) : HO → Prop
  | .lst xs => xs.length ≤ sizeLine ∧ ∃ (its : List Value) (n : Nat), Vals xs its ∧ h.get? a = some { cls := .type "list", data := .seq its.toArray n }
  | .tup xs => xs.length ≤ sizeLine ∧ ∃ its : List Value, Vals xs its ∧ IsTup h a its.toArray
  | .dK kvs => kvs.length ≤ sizeLine ∧ (a == sysModules) = false ∧ ∃ vs, KV kvs vs ∧ h.DictOf (mixKind P w) a vs
  | .dT kvs => kvs.length ≤ sizeLine ∧ (a == sysModules) = false ∧ ∃ xs : List (List Key × Addr × Value),
      Paired (fun (p : List Key × V) (q : List Key × Addr × Value) => p.1 = q.1 ∧ H q.2.1 = some (.tup (p.1.map kV)) ∧ RelV p.2 q.2.2) kvs xs ∧
      ∃ o es ep, h.get? a = some o ∧ o.ExactDict ∧ o.data = .dict es ep ∧ es.toList = xs.map (entryOfKey (tupleKind (mixKind P w))) ∧ (xs.map (·.1)).Nodup
  | .set S n => h.SetOf (intKind P w) a S n
  | .ins C dx fs => H dx = some (.own a) ∧ fs.length ≤ 1000 ∧ dx ≠ a ∧ h.get? a = some (PySem.W.instObj C dx) ∧
      ∃ mA, h.Ns1 dx mA ∧ (∀ f, RelO (fs.lookup f) (mA f)) ∧ PySem.Within mA (fs.map (·.1))
  | .own _ => ∃ o, h.get? a = some o
  | .xd fs => ∃ mA, h.Ns1 a mA ∧ ∀ f, RelO (fs.lookup f) (mA f)
  | .rng lo hi => ∃ t u v, h.get? a = some { cls := .type "range", data := .fields #[.int lo t, .int hi u, .int 1 v] }
  | .frz o u => h.get? a = some o ∧ ObjOk H h a u
  | .tbl ps => h.get? a = some { cls := .none, data := .fields ps }
  | .met f x => h.get? a = some (PySem.W.methodObj (.ref f) (.ref x))
  | .ext φ => φ h ∧ (∃ o, h.get? a = some o) ∧ ∀ h1 h2 : Heap, φ h1 → (∀ o, h1.get? a = some o → h2.get? a = some o) → φ h2
/-- the abstract heap is held -/
noncomputable def HOk (H : Hp) (h : Heap) : Prop := ∀ a o, H a = some o → ObjOk P w H h a o
end

section
variable {P : Program} {w : World} {H H' : Hp} {h h' : Heap} {a : Addr} {o : HO}
theorem ObjOk.lt (x : ObjOk P w H h a o) : a < h.objs.size := by
  cases o with
  | lst xs => obtain ⟨_, _, _, _, e⟩ := x; exact Heap.lt_size e
  | tup xs => obtain ⟨_, _, _, p⟩ := x; exact p.lt
  | dK kvs => obtain ⟨_, _, _, _, o, _, _, e, _⟩ := x; exact Heap.lt_size e
  | dT kvs => obtain ⟨_, _, _, _, o, _, _, e, _⟩ := x; exact Heap.lt_size e
  | set S n => obtain ⟨o, _, _, _, e, _⟩ := x; exact Heap.lt_size e
  | ins C dx fs => obtain ⟨_, _, _, e, _⟩ := x; exact Heap.lt_size e
  | own y => obtain ⟨_, e⟩ := x; exact Heap.lt_size e
  | xd fs => obtain ⟨_, ⟨_, _, _, e, _⟩, _⟩ := x; exact Heap.lt_size e
  | rng lo hi => obtain ⟨_, _, _, e⟩ := x; exact Heap.lt_size e
  | frz ob u => obtain ⟨e, _⟩ := x; exact Heap.lt_size e
  | tbl ps => exact Heap.lt_size (show h.get? a = some _ from x)
  | met f y => exact Heap.lt_size (show h.get? a = some _ from x)
  | ext φ => obtain ⟨_, ⟨_, e⟩, _⟩ := x; exact Heap.lt_size e
theorem Paired.mapP {α β : Type} {F G : α → β → Prop} : ∀ {l₁ : List α} {l₂ : List β}, Paired F l₁ l₂ → (∀ a b, F a b → G a b) → Paired G l₁ l₂
  | _, _, .nil, _ => .nil
  | _, _, .cons r t, f => .cons (f _ _ r) (Paired.mapP t f)
/-- what an object's description leans on: its own object, its own dict, the tuples -/
theorem ObjOk.stay (x : ObjOk P w H h a o) (k : ∀ b u, (b = a ∨ H b = some (.own a)) → h.get? b = some u → h'.get? b = some u)
    (ho : ∀ b, H b = some (.own a) → H' b = some (.own a)) (ht : ∀ b xs, H b = some (.tup xs) → H' b = some (.tup xs)) : ObjOk P w H' h' a o := by
  induction o with
  | lst xs => obtain ⟨z, its, n, r, e⟩ := x; exact ⟨z, its, n, r, k _ _ (.inl rfl) e⟩
  | tup xs => obtain ⟨z, its, r, ob, e, c⟩ := x; exact ⟨z, its, r, ob, k _ _ (.inl rfl) e, c⟩
  | dK kvs => obtain ⟨z, y, vs, r, ob, es, ep, e, c⟩ := x; exact ⟨z, y, vs, r, ob, es, ep, k _ _ (.inl rfl) e, c⟩
  | dT kvs =>
    obtain ⟨z, y, xs, r, ob, es, ep, e, c⟩ := x
    exact ⟨z, y, xs, Paired.mapP r fun p q z => ⟨z.1, ht _ _ z.2.1, z.2.2⟩, ob, es, ep, k _ _ (.inl rfl) e, c⟩
  | set S n => obtain ⟨ob, es, ep, t, e, c⟩ := x; exact ⟨ob, es, ep, t, k _ _ (.inl rfl) e, c⟩
  | ins C dx fs =>
    obtain ⟨d, z, ne, e, mA, ⟨od, es, ep, e2, c⟩, r⟩ := x
    exact ⟨ho _ d, z, ne, k _ _ (.inl rfl) e, mA, ⟨od, es, ep, k _ _ (.inr d) e2, c⟩, r⟩
  | own y => obtain ⟨ob, e⟩ := x; exact ⟨ob, k _ _ (.inl rfl) e⟩
  | xd fs => obtain ⟨mA, ⟨od, es, ep, e, c⟩, r⟩ := x; exact ⟨mA, ⟨od, es, ep, k _ _ (.inl rfl) e, c⟩, r⟩
  | rng lo hi => obtain ⟨t, u, v, e⟩ := x; exact ⟨t, u, v, k _ _ (.inl rfl) e⟩
  | frz ob u ih => obtain ⟨e, q⟩ := x; exact ⟨k _ _ (.inl rfl) e, ih q⟩
  | tbl ps =>
    have e : h.get? a = some { cls := .none, data := .fields ps } := x
    show h'.get? a = some { cls := .none, data := .fields ps }
    exact k a _ (.inl rfl) e
  | met f y =>
    have e : h.get? a = some (PySem.W.methodObj (.ref f) (.ref y)) := x
    show h'.get? a = some (PySem.W.methodObj (.ref f) (.ref y))
    exact k a _ (.inl rfl) e
  | ext φ => obtain ⟨p, ⟨o, e⟩, st⟩ := x; exact ⟨st _ _ p fun o q => k _ _ (.inl rfl) q, ⟨o, k _ _ (.inl rfl) e⟩, st⟩
theorem HOk.lt (x : HOk P w H h) (e : H a = some o) : a < h.objs.size := (x a o e).lt
theorem HOk.fresh (x : HOk P w H h) (e : h.objs.size ≤ a) : H a = none := by
  cases q : H a with
  | none => rfl
  | some u => exact absurd (Nat.lt_of_lt_of_le (x.lt q) e) (Nat.lt_irrefl _)
/-- every object of the heap is kept -/
theorem HOk.kept (x : HOk P w H h) (k : ∀ b u, h.get? b = some u → h'.get? b = some u) : HOk P w H h' := fun a o e =>
  (x a o e).stay (fun b u _ q => k b u q) (fun _ q => q) fun _ _ q => q
/-- a new object is laid and tracked -/
theorem HOk.laid (x : HOk P w H h) (k : ∀ b u, h.get? b = some u → h'.get? b = some u) (hp : h.objs.size ≤ a) (new : ObjOk P w (upd H a o) h' a o) : HOk P w (upd H a o) h' := fun b u e => by
  have hn := x.fresh hp
  by_cases hb : b = a
  · subst hb; rw [upd_same] at e; cases e; exact new
  · rw [upd_ne hb] at e
    exact (x b u e).stay (fun c v _ q => k c v q) (fun c q => by rw [upd_ne (ne_of_none q hn)]; exact q) fun c xs q => by rw [upd_ne (ne_of_none q hn)]; exact q
end

/-- what may be read as u: it is u, or a known u -/
noncomputable def Rd (H : Hp) (a : Addr) (u : HO) : Prop := H a = some u ∨ ∃ o, H a = some (.frz o u)
theorem Rd.ok {P : Program} {w : World} {H : Hp} {h : Heap} {a : Addr} {u : HO} (r : Rd H a u) (x : HOk P w H h) : ObjOk P w H h a u := by
  rcases r with r | ⟨o, r⟩
  · exact x a u r
  · obtain ⟨_, q⟩ := x a _ r
    exact q
/-- what may be written -/
noncomputable def Mut : Option HO → Prop
  | some (.lst _) => True
  | some (.dK _) => True
  | some (.dT _) => True
  | some (.set _ _) => True
  | some (.ins _ _ _) => True
  | some (.ext _) => True
  | _ => False
section
variable {P : Program} {w : World} {H : Hp} {h h' : Heap} {x e : Addr} {o' : HO}
/-- the object at e is changed: x itself, or the dict of the instance x -/
theorem HOk.write (ok : HOk P w H h) (mu : Mut (H x)) (he : e = x ∨ H e = some (.own x)) (k : ∀ b u, b ≠ e → h.get? b = some u → h'.get? b = some u) (heo : ∃ u, h'.get? e = some u)
    (new : ObjOk P w (upd H x o') h' x o') : HOk P w (upd H x o') h' := fun b u q => by
  have nown : ∀ c y, H c = some (.own y) → c ≠ x := fun c y r z => by subst z; rw [r] at mu; exact mu
  have ntup : ∀ c xs, H c = some (.tup xs) → c ≠ x := fun c xs r z => by subst z; rw [r] at mu; exact mu
  by_cases hb : b = x
  · subst hb; rw [upd_same] at q; cases q; exact new
  · rw [upd_ne hb] at q
    by_cases hbe : b = e
    · have q' : H b = some (.own x) := by
        rcases he with z | z
        · exact absurd (hbe.trans z) hb
        · rw [hbe]; exact z
      rw [q] at q'; cases q'
      obtain ⟨v, hv⟩ := heo
      exact ⟨v, by rw [hbe]; exact hv⟩
    · refine (ok b u q).stay (fun c v hc r => k c v ?_ r) (fun c r => by rw [upd_ne (nown c b r)]; exact r) fun c xs r => by rw [upd_ne (ntup c xs r)]; exact r
      rcases hc with rfl | hc
      · exact hbe
      · rintro rfl
        rcases he with z | z
        · exact nown c b hc z
        · rw [hc] at z; cases z; exact hb rfl
end

/-! ### kept unless tracked; of the frames at fs (the callers') the slots may change (an exception that passes writes there); of the records at ex (iterators) nothing is said -/
structure Un (fs ex : List Addr) (H H' : Hp) (h h' : Heap) : Prop where
  keep : ∀ b o, h.get? b = some o → H b = none → b ∉ fs → b ∉ ex → h'.get? b = some o
  slot : ∀ b o, h.get? b = some o → H b = none → b ∈ fs → b ∉ ex → ∃ sl, h'.get? b = some { o with slots := sl }
  free : ∀ b o, h.get? b = some o → H b = none → b ∉ ex → H' b = none
  there : ∀ b o, h.get? b = some o → b ∉ ex → ∃ o', h'.get? b = some o'
  tups : ∀ b xs, H b = some (.tup xs) → H' b = some (.tup xs)
  frzs : ∀ b o u, H b = some (.frz o u) → H' b = some (.frz o u)
  tbls : ∀ b ps, H b = some (.tbl ps) → ∃ more, H' b = some (.tbl (ps ++ more))
section
variable {fs fs' ex ex' : List Addr} {H H1 H2 : Hp} {h h1 h2 h' : Heap} {a x e : Addr} {o : HO}
theorem Un.any (u : Un fs ex H H1 h h1) {b : Addr} {ob : Obj} (q : h.get? b = some ob) (n : H b = none) (hx : b ∉ ex) : ∃ sl, h1.get? b = some { ob with slots := sl } := by
  by_cases hb : b ∈ fs
  · exact u.slot b ob q n hb hx
  · exact ⟨ob.slots, u.keep b ob q n hb hx⟩
theorem Un.kept (k : ∀ b u, h.get? b = some u → h'.get? b = some u) : Un fs ex H H h h' :=
  ⟨fun b ob q _ _ _ => k b ob q, fun b ob q _ _ _ => ⟨ob.slots, k b ob q⟩, fun _ _ _ n _ => n, fun b ob q _ => ⟨ob, k b ob q⟩, fun _ _ q => q, fun _ _ _ q => q, fun _ ps q => ⟨#[], by rw [q]; simp⟩⟩
theorem Un.refl : Un fs ex H H h h := Un.kept fun _ _ q => q
theorem Un.laid (k : ∀ b u, h.get? b = some u → h'.get? b = some u) (hp : h.objs.size ≤ a) (hn : H a = none) : Un fs ex H (upd H a o) h h' where
  keep := fun b u q _ _ _ => k b u q
  slot := fun b u q _ _ _ => ⟨u.slots, k b u q⟩
  free := fun b u q n _ => by rw [upd_ne (Nat.ne_of_lt (Nat.lt_of_lt_of_le (Heap.lt_size q) hp))]; exact n
  there := fun b u q _ => ⟨u, k b u q⟩
  tups := fun b xs q => by rw [upd_ne (ne_of_none q hn)]; exact q
  frzs := fun b u xs q => by rw [upd_ne (ne_of_none q hn)]; exact q
  tbls := fun b ps q => ⟨#[], by rw [upd_ne (ne_of_none q hn), q]; simp⟩
theorem Un.write (mu : Mut (H x)) (he : e = x ∨ H e = some (.own x)) (k : ∀ b u, b ≠ e → h.get? b = some u → h'.get? b = some u) (heo : ∃ u, h'.get? e = some u) : Un fs ex H (upd H x o) h h' := by
  have hx : ∀ b, H b = none → b ≠ x := fun b n z => by subst z; rw [n] at mu; exact mu
  have hb : ∀ b, H b = none → b ≠ e := fun b n z => by
    subst z
    rcases he with r | r
    · exact hx b n r
    · rw [n] at r; cases r
  have hm : ∀ b u, H b = some u → ¬ Mut (some u) → b ≠ x := fun b u q nm z => by subst z; rw [q] at mu; exact nm mu
  refine ⟨fun b u q n _ _ => k b u (hb b n) q, fun b u q n _ _ => ⟨u.slots, k b u (hb b n) q⟩, fun b u q n _ => by rw [upd_ne (hx b n)]; exact n, fun b u q _ => ?_,
    fun b xs q => by rw [upd_ne (hm b _ q fun z => z)]; exact q, fun b u xs q => by rw [upd_ne (hm b _ q fun z => z)]; exact q, fun b ps q => ⟨#[], by rw [upd_ne (hm b _ q fun z => z), q]; simp⟩⟩
  by_cases hbe : b = e
  · subst hbe; exact heo
  · exact ⟨u, k b u hbe q⟩
end

/-! ### the heap without what is tracked -/
noncomputable def trk (h : Heap) (H : Hp) : List Addr := (List.range h.objs.size).filter fun a => (H a).isSome
noncomputable def hidT (h : Heap) (H : Hp) : Heap := PySem.W.hideAll h (trk h H)
theorem hidT_size (h : Heap) (H : Hp) : (hidT h H).objs.size = h.objs.size := PySem.W.hideAll_size _ _
theorem hidT_get {h : Heap} {H : Hp} {b : Addr} {o : Obj} (e : h.get? b = some o) (n : H b = none) : (hidT h H).get? b = some o :=
  PySem.W.hideAll_get _ e fun hm => by
    have q : (H b).isSome = true := (List.mem_filter.mp hm).2
    rw [n] at q; simp at q
theorem of_hidT {h : Heap} {H : Hp} {b : Addr} {o : Obj} (e : (hidT h H).get? b = some o) : h.get? b = some o ∧ H b = none := by
  have e' : h.get? b = some o := PySem.W.of_hideAll (trk h H) e
  refine ⟨e', ?_⟩
  cases q : H b with
  | none => rfl
  | some x =>
    have hm : b ∈ trk h H := List.mem_filter.mpr ⟨List.mem_range.mpr (Heap.lt_size e'), by simp [q]⟩
    have z : (hidT h H).get? b = none := PySem.W.hideAll_none (trk h H) hm
    rw [z] at e; cases e

/-! ### OpenK's ledger, filled with every new object but one -/
noncomputable def allNews (g h : Heap) (L : Addr) : List (Addr × Obj) := (List.range h.objs.size).filterMap fun a => if a = L ∨ (g.get? a).isSome = true then none else (h.get? a).map fun o => (a, o)
noncomputable def rest (g h : Heap) (L d : Addr) : List (Addr × Obj) := (allNews g h L).filter fun p => decide (p.1 ≠ d)
end L2

namespace L2
open PySem PySem.Spec PyProof.Rows

/-- the module's facts, over the base: the heap at the law's entry without what is tracked there -/
structure Mod (K : PySem.W.Frag) (mg : Str → Option Value) (base : Heap) : Prop where
  kin : K.In base
  glob : base.Ns mainGlobals mg
  blt : ∃ mb, base.Ns builtinsNs mb ∧ ∀ x : Str, x ≠ "__name__" → mb x = bootBuiltins x
  nolimit : base.NoLimit

/-- the context: a def's body (or a comprehension's block) running. base: fixed through the whole law; s₀, H₀: the entry; outer: the frames whose slots others may change (a def's callers); stack: all frames that run;
   ex: iterators that were made ahead of the entry and are walked here (a comprehension's); fn: the names whose cells were made at the entry (a def: all; a comprehension's block: its own); calm: not within an except suite; pn: pins that every state bears; xe: what is wanted of an exception that leaves the code -/
structure Cx where
  prog : Program
  w : World
  K : PySem.W.Frag
  mg : Str → Option Value
  base : Heap
  A : Around
  N : List Str
  s₀ : Shared
  H₀ : Hp
  env : Env
  outer : List Env
  stack : List Env
  ex : List Addr
  fn : Str → Bool
  calm : Bool
  pn : List (Addr × Obj)
  xe : Value → Shared → Prop
/-- the callers' frames -/
noncomputable def frs (l : List Env) : List Addr := l.filterMap (·.frame)
noncomputable abbrev Cx.fs (X : Cx) : List Addr := frs X.outer

noncomputable def Vis (sc : Scope) (x : Str) : Prop := sc.names.lookup x = some .local ∨ sc.names.lookup x = some .cell ∨ sc.names.lookup x = some .free
noncomputable def Loc (sc : Scope) (x : Str) : Prop := sc.names.lookup x = some .local ∨ sc.names.lookup x = some .cell
noncomputable def Look (env : Env) (h : Heap) (m : Str → Option Value) (x : Str) (u : Value) : Prop :=
  (env.kindOf x = some .local ∧ m x = some u) ∨ ((env.kindOf x = some .cell ∨ env.kindOf x = some .free) ∧ ∃ c, env.cells.lookup x = some c ∧ h.IsCell c (some u))

structure Cx.Ok (X : Cx) : Prop where
  mod : Mod X.K X.mg X.base
  kind : X.env.scope.kind = .function
  glob : X.env.globals = mainGlobals
  blt : X.env.builtins = builtinsNs
  above : X.s₀.heap.objs.size ≤ X.env.locals
  inj : ∀ x y c, X.env.cells.lookup x = some c → X.env.cells.lookup y = some c → x = y
  has : ∀ x, (X.env.kindOf x = some .cell ∨ X.env.kindOf x = some .free) → ∃ c, X.env.cells.lookup x = some c
  cab : ∀ x c, X.fn x = true → X.env.cells.lookup x = some c → X.s₀.heap.objs.size ≤ c
  hd : X.calm = true → X.A.handled = none
  frames : X.A.frames = some X.stack
  stk : X.stack = X.outer ∨ (X.stack = X.env :: X.outer ∧ X.env.frame = some X.env.locals)
  exf : ∀ b ∈ X.ex, b ≠ X.env.locals ∧ ∀ x c, X.env.cells.lookup x = some c → c ≠ b
  bs : ∀ b o, X.base.get? b = some o → X.s₀.heap.get? b = some o ∧ X.H₀ b = none
  bsz : X.base.objs.size ≤ X.s₀.heap.objs.size
  noex : ∀ b o, X.base.get? b = some o → b ∉ X.ex
  exfs : ∀ b ∈ X.ex, b ∉ X.fs
  funs : X.s₀.heap.FunFrames X.base X.outer
  frf : ∀ b ∈ X.fs, X.H₀ b = none

structure Inv (X : Cx) (pins : List (Addr × Obj)) (σ : List (Option V)) (H : Hp) (s : Shared) : Prop where
  ok : X.Ok
  os : s.os = X.s₀.os
  bare : AllBare s.gens
  base : Un X.fs X.ex X.H₀ H X.s₀.heap s.heap
  loc : ∃ m, s.heap.Ns X.env.locals m ∧ ∀ (i : Nat) (x : Str) (v : V), X.N[i]? = some x → σ[i]? = some (some v) → Vis X.env.scope x → ∃ u, RelV v u ∧ Look X.env s.heap m x u
  cell : ∀ x c, X.env.cells.lookup x = some c → ∃ v, s.heap.IsCell c v
  free : H X.env.locals = none
  freeC : ∀ x c, X.env.cells.lookup x = some c → H c = none
  pin : ∀ p ∈ X.pn ++ pins, s.heap.get? p.1 = some p.2 ∧ H p.1 = none ∧ p.1 ≠ X.env.locals ∧ p.1 ∉ X.fs ∧ ∀ v, p.2.data ≠ .cell v
  hok : HOk X.prog X.w H s.heap
  len : σ.length = X.N.length

section
variable {X : Cx} {pins : List (Addr × Obj)} {σ : List (Option V)} {H H' : Hp} {s : Shared} {h' : Heap}

theorem Cx.Ok.nofr (ok : X.Ok) {b : Addr} {o : Obj} (e : X.base.get? b = some o) : b ∉ X.fs := fun hb => by
  have := (ok.funs.mem hb).1
  rw [e] at this; cases this
theorem Inv.bs (I : Inv X pins σ H s) : ∀ b o, X.base.get? b = some o → s.heap.get? b = some o ∧ H b = none := fun b o e =>
  ⟨I.base.keep b o (I.ok.bs b o e).1 (I.ok.bs b o e).2 (I.ok.nofr e) (I.ok.noex b o e), I.base.free b o (I.ok.bs b o e).1 (I.ok.bs b o e).2 (I.ok.noex b o e)⟩
theorem Inv.bk (I : Inv X pins σ H s) : ∀ b o, X.base.get? b = some o → s.heap.get? b = some o := fun b o e => (I.bs b o e).1
theorem Inv.mod (I : Inv X pins σ H s) : Mod X.K X.mg X.base := I.ok.mod
theorem Inv.kIn (I : Inv X pins σ H s) : X.K.In s.heap := I.ok.mod.kin.keeps I.bk
theorem Inv.lt (I : Inv X pins σ H s) : X.env.locals < s.heap.objs.size := let ⟨_, hn, _⟩ := I.loc; hn.lt
theorem Inv.sz (I : Inv X pins σ H s) : X.s₀.heap.objs.size ≤ s.heap.objs.size := Nat.le_trans I.ok.above (Nat.le_of_lt I.lt)
theorem Inv.nofs (I : Inv X pins σ H s) {a : Addr} (h : s.heap.objs.size ≤ a) : a ∉ X.fs := fun hb => by
  obtain ⟨_, o, ho, _⟩ := I.ok.funs.mem hb
  exact absurd (Nat.lt_of_lt_of_le (Heap.lt_size ho) (Nat.le_trans I.sz h)) (Nat.lt_irrefl _)
theorem Inv.cne (I : Inv X pins σ H s) : ∀ x c, X.env.cells.lookup x = some c → c ≠ X.env.locals := fun x c e z => by
  obtain ⟨v, o, ho, hd⟩ := I.cell x c e
  obtain ⟨m, ⟨o', es, ep, ho', hd', _⟩, _⟩ := I.loc
  rw [z, ho'] at ho; cases ho; rw [hd'] at hd; cases hd
theorem Inv.funs (I : Inv X pins σ H s) : s.heap.FunFrames X.base X.outer := by
  have all : ∀ (l : List Env), (∀ b ∈ frs l, b ∈ X.fs) → X.s₀.heap.FunFrames X.base l → s.heap.FunFrames X.base l := by
    intro l
    induction l with
    | nil => intro _ _; trivial
    | cons env r ih =>
      intro hs hl
      obtain ⟨hk, ⟨L, o, hf, hn, ho, hd⟩, hr⟩ := hl
      have hL : L ∈ X.fs := hs L (by unfold frs; rw [List.filterMap_cons, hf]; exact List.mem_cons_self)
      obtain ⟨sl, e⟩ := I.base.slot L o ho (I.ok.frf L hL) hL fun z => I.ok.exfs L z hL
      exact ⟨hk, ⟨L, _, hf, hn, e, hd⟩, ih (fun b hb => hs b (by unfold frs; rw [List.filterMap_cons, hf]; exact List.mem_cons_of_mem _ hb)) hr⟩
  exact all X.outer (fun _ hb => hb) I.ok.funs

/-- the frames that run, for a call -/
theorem Inv.stack (I : Inv X pins σ H s) : s.heap.FunFrames X.base X.stack := by
  rcases I.ok.stk with e | ⟨e, hf⟩
  · rw [e]; exact I.funs
  · rw [e]
    obtain ⟨m, hn, _⟩ := I.loc
    refine .cons (by rw [I.ok.kind]; decide) hf hn ?_ I.funs
    exact Heap.get?_none_of_le (Nat.le_trans I.ok.bsz I.ok.above)
theorem Inv.stkSub (I : Inv X pins σ H s) : ∀ b ∈ frs X.stack, b ∈ X.env.locals :: X.fs := fun b hb => by
  rcases I.ok.stk with e | ⟨e, hf⟩
  · rw [e] at hb; exact List.mem_cons_of_mem _ hb
  · rw [e] at hb
    unfold frs at hb
    rw [List.filterMap_cons, hf] at hb
    exact hb
theorem Inv.stkFree (I : Inv X pins σ H s) : ∀ b ∈ frs X.stack, H b = none := fun b hb => by
  rcases List.mem_cons.mp (I.stkSub b hb) with e | hb
  · rw [e]; exact I.free
  · obtain ⟨_, o, ho, _⟩ := I.ok.funs.mem hb
    exact I.base.free b o ho (I.ok.frf b hb) fun z => I.ok.exfs b z hb

/-- THE STEP: the untracked objects but the frame and the records at ch are kept (the callers' frames up to slots), the frame's map is kept, the new abstract heap is held -/
theorem Inv.step {g' : Array GenState} {t' : Nat} {d' : Drawn} {ch : List Addr} (I : Inv X pins σ H s)
    (hch : ∀ b ∈ ch, (b ∈ X.ex ∨ X.s₀.heap.objs.size ≤ b) ∧ b ≠ X.env.locals ∧ (∀ x c, X.env.cells.lookup x = some c → c ≠ b) ∧ ∀ p ∈ X.pn ++ pins, p.1 ≠ b)
    (keep : ∀ b o, b ≠ X.env.locals → b ∉ X.fs → b ∉ ch → s.heap.get? b = some o → H b = none → h'.get? b = some o)
    (slot : ∀ b o, b ≠ X.env.locals → b ∈ X.fs → b ∉ ch → s.heap.get? b = some o → H b = none → ∃ sl, h'.get? b = some { o with slots := sl }) (free : ∀ b o, b ∉ ch → s.heap.get? b = some o → H b = none → H' b = none)
    (there : ∀ b o, b ∉ ch → s.heap.get? b = some o → ∃ o', h'.get? b = some o')
    (tups : ∀ b xs, H b = some (.tup xs) → H' b = some (.tup xs)) (frzs : ∀ b o u, H b = some (.frz o u) → H' b = some (.frz o u)) (tbls : ∀ b ps, H b = some (.tbl ps) → ∃ more, H' b = some (.tbl (ps ++ more)))
    (ns : ∀ m, s.heap.Ns X.env.locals m → h'.Ns X.env.locals m) (hok : HOk X.prog X.w H' h') (hg : AllBare g') :
    Inv X pins σ H' { s with heap := h', gens := g', drawn := d', toks := t' } := by
  have neL : ∀ b o, X.s₀.heap.get? b = some o → b ≠ X.env.locals := fun b o e => Nat.ne_of_lt (Nat.lt_of_lt_of_le (Heap.lt_size e) I.ok.above)
  have neC : ∀ b o, X.s₀.heap.get? b = some o → b ∉ X.ex → b ∉ ch := fun b o e hx hb => by
    rcases (hch b hb).1 with z | z
    · exact hx z
    · exact absurd (Nat.lt_of_lt_of_le (Heap.lt_size e) z) (Nat.lt_irrefl _)
  have cellK : ∀ x c, X.env.cells.lookup x = some c → ∀ v, s.heap.IsCell c v → h'.IsCell c v := fun x c e v ⟨o, ho, hd⟩ => by
    have nch : c ∉ ch := fun z => (hch c z).2.2.1 x c e rfl
    by_cases hc : c ∈ X.fs
    · obtain ⟨sl, q⟩ := slot c o (I.cne x c e) hc nch ho (I.freeC x c e)
      exact ⟨_, q, hd⟩
    · exact ⟨o, keep c o (I.cne x c e) hc nch ho (I.freeC x c e), hd⟩
  refine ⟨I.ok, I.os, hg, ⟨fun b o e n hb hx => ?_, fun b o e n hb hx => ?_, fun b o e n hx => ?_, fun b o e hx => ?_, fun b xs e => tups b xs (I.base.tups b xs e), fun b o xs e => frzs b o xs (I.base.frzs b o xs e), fun b ps e => ?_⟩, ?_, fun x c e => ?_, ?_, fun x c e => ?_, fun p hp => ?_, hok, I.len⟩
  · exact keep b o (neL b o e) hb (neC b o e hx) (I.base.keep b o e n hb hx) (I.base.free b o e n hx)
  · obtain ⟨sl, e1⟩ := I.base.slot b o e n hb hx
    obtain ⟨sl', e2⟩ := slot b _ (neL b o e) hb (neC b o e hx) e1 (I.base.free b o e n hx)
    exact ⟨sl', e2⟩
  · obtain ⟨o', e1⟩ := I.base.there b o e hx
    exact free b o' (neC b o e hx) e1 (I.base.free b o e n hx)
  · obtain ⟨o', e1⟩ := I.base.there b o e hx
    exact there b o' (neC b o e hx) e1
  · obtain ⟨m1, e1⟩ := I.base.tbls b ps e
    obtain ⟨m2, e2⟩ := tbls b _ e1
    exact ⟨m1 ++ m2, by rw [e2, Array.append_assoc]⟩
  · obtain ⟨m, hn, hl⟩ := I.loc
    refine ⟨m, ns m hn, fun i x v e1 e2 e3 => ?_⟩
    obtain ⟨u, r, l⟩ := hl i x v e1 e2 e3
    refine ⟨u, r, ?_⟩
    rcases l with l | ⟨k, c, e, z⟩
    · exact .inl l
    · exact .inr ⟨k, c, e, cellK x c e _ z⟩
  · obtain ⟨v, z⟩ := I.cell x c e
    exact ⟨v, cellK x c e v z⟩
  · obtain ⟨m, ⟨o, _, _, ho, _⟩, _⟩ := I.loc
    exact free _ o (fun z => (hch _ z).2.1 rfl) ho I.free
  · obtain ⟨v, o, ho, hd⟩ := I.cell x c e
    exact free c o (fun z => (hch c z).2.2.1 x c e rfl) ho (I.freeC x c e)
  · obtain ⟨e, n, ne, nf, d⟩ := I.pin p hp
    have nch : p.1 ∉ ch := fun z => (hch p.1 z).2.2.2 p hp rfl
    exact ⟨keep p.1 p.2 ne nf nch e n, free p.1 p.2 nch e n, ne, nf, d⟩
/-- .. where the frame's own object is kept too -/
theorem Inv.un {t' : Nat} (I : Inv X pins σ H s) (u : Un X.fs [] H H' s.heap h') (hok : HOk X.prog X.w H' h') : Inv X pins σ H' { s with heap := h', toks := t' } := by
  obtain ⟨m, ⟨o, es, ep, ho, r⟩, _⟩ := id I.loc
  obtain ⟨sl, hL⟩ := u.any ho I.free (by simp)
  exact I.step (g' := s.gens) (d' := s.drawn) (ch := []) (fun _ z => nomatch z) (fun b o _ hb _ e n => u.keep b o e n hb (by simp)) (fun b o _ hb _ e n => u.slot b o e n hb (by simp)) (fun b o _ e n => u.free b o e n (by simp)) (fun b o _ e => u.there b o e (by simp)) u.tups u.frzs u.tbls (fun m' hm => by
    obtain ⟨o', es', ep', ho', r'⟩ := hm
    rw [ho] at ho'; cases ho'
    exact ⟨_, es', ep', hL, r'⟩) hok I.bare
/-- behind a call (or a comprehension's block): the slots of this frame may have changed too, the records at ch may have turned -/
theorem Inv.call {g' : Array GenState} {t' : Nat} {d' : Drawn} {ch : List Addr} (I : Inv X pins σ H s) (u : Un (frs X.stack) ch H H' s.heap h') (hok : HOk X.prog X.w H' h') (hg : AllBare g')
    (hch : ∀ b ∈ ch, (b ∈ X.ex ∨ X.s₀.heap.objs.size ≤ b) ∧ b ≠ X.env.locals ∧ (∀ x c, X.env.cells.lookup x = some c → c ≠ b) ∧ ∀ p ∈ X.pn ++ pins, p.1 ≠ b) :
    Inv X pins σ H' { s with heap := h', gens := g', drawn := d', toks := t' } := by
  obtain ⟨m, ⟨o, es, ep, ho, r⟩, _⟩ := id I.loc
  obtain ⟨sl, hL⟩ := u.any ho I.free fun z => (hch _ z).2.1 rfl
  exact I.step (ch := ch) hch (fun b o hL hb hc e n => u.keep b o e n (fun z => (List.mem_cons.mp (I.stkSub b z)).elim hL hb) hc) (fun b o _ _ hc e n => u.any e n hc) (fun b o hc e n => u.free b o e n hc) (fun b o hc e => u.there b o e hc) u.tups u.frzs u.tbls (fun m' hm => by
    obtain ⟨o', es', ep', ho', r'⟩ := hm
    rw [ho] at ho'; cases ho'
    exact ⟨_, es', ep', hL, r'⟩) hok hg
/-- an untracked record of ours (an iterator) has turned -/
theorem Inv.turned {t' : Nat} {it : Addr} (I : Inv X pins σ H s) (k : ∀ b o, b ≠ it → s.heap.get? b = some o → h'.get? b = some o) (hn : H it = none) (hL : it ≠ X.env.locals)
    (h1 : it ∈ X.ex ∨ X.s₀.heap.objs.size ≤ it) (h2 : ∀ x c, X.env.cells.lookup x = some c → c ≠ it) (h3 : ∀ p ∈ X.pn ++ pins, p.1 ≠ it) : Inv X pins σ H { s with heap := h', toks := t' } := by
  have nit : ∀ b u, H b = some u → b ≠ it := fun b u e z => by rw [z, hn] at e; cases e
  refine I.step (g' := s.gens) (d' := s.drawn) (ch := [it]) (fun b hb => ?_) (fun b o _ _ hc e _ => k b o (fun z => hc (by simp [z])) e) (fun b o _ _ hc e _ => ⟨o.slots, k b o (fun z => hc (by simp [z])) e⟩) (fun _ _ _ _ n => n)
    (fun b o hc e => ⟨o, k b o (fun z => hc (by simp [z])) e⟩) (fun _ _ e => e) (fun _ _ _ e => e) (fun b ps e => ⟨#[], by rw [e]; simp⟩) (fun m hm => ?_) (fun b u e => ?_) I.bare
  · have e : b = it := by simpa using hb
    subst e
    exact ⟨h1, hL, h2, h3⟩
  · obtain ⟨o, es, ep, ho, r⟩ := hm
    exact ⟨o, es, ep, k _ o (Ne.symm hL) ho, r⟩
  · refine (I.hok b u e).stay (fun c v hc q => k c v ?_ q) (fun _ q => q) fun _ _ q => q
    rcases hc with z | z
    · rw [z]; exact nit b u e
    · exact nit c _ z
theorem Inv.tok (I : Inv X pins σ H s) (t : Nat) : Inv X pins σ H { s with toks := t } := I.un (h' := s.heap) (t' := t) Un.refl I.hok
/-- all objects kept -/
theorem Inv.kept {t' : Nat} (I : Inv X pins σ H s) (k : ∀ b u, s.heap.get? b = some u → h'.get? b = some u) : Inv X pins σ H { s with heap := h', toks := t' } := I.un (Un.kept k) (I.hok.kept k)
/-- a new object laid and tracked -/
theorem Inv.laid {a : Addr} {o : HO} {t' : Nat} (I : Inv X pins σ H s) (k : ∀ b u, s.heap.get? b = some u → h'.get? b = some u) (hp : s.heap.objs.size ≤ a) (new : ObjOk X.prog X.w (upd H a o) h' a o) :
    Inv X pins σ (upd H a o) { s with heap := h', toks := t' } := I.un (Un.laid k hp (I.hok.fresh hp)) (I.hok.laid k hp new)
/-- an object written -/
theorem Inv.write {x e : Addr} {o : HO} {t' : Nat} (I : Inv X pins σ H s) (mu : Mut (H x)) (he : e = x ∨ H e = some (.own x)) (k : ∀ b u, b ≠ e → s.heap.get? b = some u → h'.get? b = some u) (heo : ∃ u, h'.get? e = some u)
    (new : ObjOk X.prog X.w (upd H x o) h' x o) : Inv X pins σ (upd H x o) { s with heap := h', toks := t' } := I.un (Un.write mu he k heo) (I.hok.write mu he k heo new)
theorem Inv.pins_of {pins' : List (Addr × Obj)} (I : Inv X pins σ H s) (h : ∀ p ∈ pins', s.heap.get? p.1 = some p.2 ∧ H p.1 = none ∧ p.1 ≠ X.env.locals ∧ p.1 ∉ X.fs ∧ ∀ v, p.2.data ≠ .cell v) : Inv X pins' σ H s :=
  ⟨I.ok, I.os, I.bare, I.base, I.loc, I.cell, I.free, I.freeC, fun p hp => (List.mem_append.mp hp).elim (fun z => I.pin p (List.mem_append_left _ z)) (h p), I.hok, I.len⟩

theorem nodup_ix {N : List Str} (hN : N.Nodup) {i j : Nat} {x : Str} (a : N[i]? = some x) (b : N[j]? = some x) : i = j := by
  obtain ⟨h1, e1⟩ := List.getElem?_eq_some_iff.mp a
  obtain ⟨h2, e2⟩ := List.getElem?_eq_some_iff.mp b
  exact (List.getElem_inj hN).mp (e1.trans e2.symm)

/-- a name is stored; what changed -/
theorem store_ok2 {M : Model} {A : Around} {E : Value → Shared → Prop} {i : Nat} {x : Str} {v : V} {u : Value} {Q : Unit → Shared → Prop} (I : Inv X pins σ H s) (hN : X.N.Nodup) (hi : X.N[i]? = some x) (hx : Loc X.env.scope x) (r : RelV v u)
    (h : ∀ s', Inv X pins (σ.set i (some v)) H s' → (∃ a, Heap.SameBut a s.heap s'.heap ∧ (a = X.env.locals ∨ X.env.cells.lookup x = some a)) → Q () s') (hf : X.fn x = true ∨ X.env.scope.names.lookup x = some .local := by first | exact .inl rfl | exact .inr rfl | assumption) : wpAny M A (storeName X.env x u) Q E s := by
  obtain ⟨m, hn, hl⟩ := id I.loc
  have hcls : (X.env.scope.kind == .class || (X.env.scope.kind == .module && X.env.locals != X.env.globals)) = false := by rw [I.ok.kind]; rfl
  have hiσ : i < σ.length := by rw [I.len]; exact (List.getElem?_eq_some_iff.mp hi).1
  have cne := I.cne
  have tracked : ∀ {a : Addr} {h' : Heap}, (∃ o, s.heap.get? a = some o ∧ H a = none) → Heap.SameBut a s.heap h' → HOk X.prog X.w H h' := fun {a h'} ha hs b ob e => by
    obtain ⟨_, _, hfree⟩ := ha
    refine (I.hok b ob e).stay (fun c w' hc q => (hs.2 c ?_).trans q) (fun _ q => q) fun _ _ q => q
    rintro rfl
    rcases hc with rfl | hc
    · rw [hfree] at e; cases e
    · rw [hfree] at hc; cases hc
  rcases hx with hk | hk
  · refine wpAny_storeName_local hk hn (fun h' hn' hs => ?_) hcls
    obtain ⟨oL, _, _, hoL, _⟩ := id hn
    refine h _ ⟨I.ok, I.os, I.bare, ⟨fun b o e n hb hx => ?_, fun b o e n hb hx => ?_, I.base.free, fun b o e hx => ?_, I.base.tups, I.base.frzs, I.base.tbls⟩, ⟨_, hn', fun j y v' e1 e2 e3 => ?_⟩, fun y c e => ?_, I.free, I.freeC, fun p hp => ?_, tracked ⟨oL, hoL, I.free⟩ hs, by simpa using I.len⟩ ⟨_, hs, .inl rfl⟩
    · exact (hs.2 b (Nat.ne_of_lt (Nat.lt_of_lt_of_le (Heap.lt_size e) I.ok.above))).trans (I.base.keep b o e n hb hx)
    · obtain ⟨sl, e1⟩ := I.base.slot b o e n hb hx
      exact ⟨sl, (hs.2 b (Nat.ne_of_lt (Nat.lt_of_lt_of_le (Heap.lt_size e) I.ok.above))).trans e1⟩
    · obtain ⟨o', e1⟩ := I.base.there b o e hx
      exact ⟨o', (hs.2 b (Nat.ne_of_lt (Nat.lt_of_lt_of_le (Heap.lt_size e) I.ok.above))).trans e1⟩
    · by_cases hj : j = i
      · subst hj
        rw [hi] at e1; cases e1
        rw [List.getElem?_set_self hiσ] at e2
        cases e2
        exact ⟨u, r, .inl ⟨hk, by simp⟩⟩
      · rw [List.getElem?_set_ne (Ne.symm hj)] at e2
        obtain ⟨u', r', q⟩ := hl j y v' e1 e2 e3
        refine ⟨u', r', ?_⟩
        rcases q with ⟨k, e⟩ | ⟨k, c, e, z⟩
        · refine .inl ⟨k, ?_⟩
          have : y ≠ x := fun e => hj (nodup_ix hN e1 (e ▸ hi))
          simp [this, e]
        · exact .inr ⟨k, c, e, z.sameBut hs (cne y c e)⟩
    · obtain ⟨w', z⟩ := I.cell y c e
      exact ⟨w', z.sameBut hs (cne y c e)⟩
    · obtain ⟨e, n, ne, nf, d⟩ := I.pin p hp
      exact ⟨(hs.2 p.1 ne).trans e, n, ne, nf, d⟩
  · have hfn : X.fn x = true := by
      rcases hf with z | z
      · exact z
      · rw [z] at hk; cases hk
    obtain ⟨c, hc⟩ := I.ok.has x (.inl hk)
    obtain ⟨w', z⟩ := I.cell x c hc
    refine wpAny_storeName_cell I.ok.kind hk hc z (fun h' hc' hs => ?_)
    obtain ⟨oc, hoc, hocd⟩ := id z
    refine h { s with heap := h' } ⟨I.ok, I.os, I.bare, ⟨fun b o e n hb hx => ?_, fun b o e n hb hx => ?_, I.base.free, fun b o e hx => ?_, I.base.tups, I.base.frzs, I.base.tbls⟩, ⟨m, hn.sameBut hs (Ne.symm (cne x c hc)), fun j y v' e1 e2 e3 => ?_⟩, fun y c' e => ?_, I.free, I.freeC, fun p hp => ?_, tracked ⟨oc, hoc, I.freeC x c hc⟩ hs, by simpa using I.len⟩ ⟨c, hs, .inr hc⟩
    · exact (hs.2 b (Nat.ne_of_lt (Nat.lt_of_lt_of_le (Heap.lt_size e) (I.ok.cab x c hfn hc)))).trans (I.base.keep b o e n hb hx)
    · obtain ⟨sl, e1⟩ := I.base.slot b o e n hb hx
      exact ⟨sl, (hs.2 b (Nat.ne_of_lt (Nat.lt_of_lt_of_le (Heap.lt_size e) (I.ok.cab x c hfn hc)))).trans e1⟩
    · obtain ⟨o', e1⟩ := I.base.there b o e hx
      exact ⟨o', (hs.2 b (Nat.ne_of_lt (Nat.lt_of_lt_of_le (Heap.lt_size e) (I.ok.cab x c hfn hc)))).trans e1⟩
    · by_cases hj : j = i
      · subst hj
        rw [hi] at e1; cases e1
        rw [List.getElem?_set_self hiσ] at e2
        cases e2
        exact ⟨u, r, .inr ⟨.inl hk, c, hc, hc'⟩⟩
      · rw [List.getElem?_set_ne (Ne.symm hj)] at e2
        obtain ⟨u', r', q⟩ := hl j y v' e1 e2 e3
        refine ⟨u', r', ?_⟩
        rcases q with q | ⟨k, c', e, z'⟩
        · exact .inl q
        · refine .inr ⟨k, c', e, z'.sameBut hs ?_⟩
          rintro rfl
          exact hj (nodup_ix hN e1 (I.ok.inj _ _ _ e hc ▸ hi))
    · by_cases hcc : c' = c
      · subst hcc; exact ⟨_, hc'⟩
      · obtain ⟨w2, z2⟩ := I.cell y c' e
        exact ⟨w2, z2.sameBut hs hcc⟩
    · obtain ⟨e, n, ne, nf, d⟩ := I.pin p hp
      refine ⟨(hs.2 p.1 ?_).trans e, n, ne, nf, d⟩
      intro q
      rw [q, hoc] at e
      have q' : oc = p.2 := Option.some.inj e
      exact d w' (by rw [← q']; exact hocd)
theorem store_ok {M : Model} {A : Around} {E : Value → Shared → Prop} {i : Nat} {x : Str} {v : V} {u : Value} {Q : Unit → Shared → Prop} (I : Inv X pins σ H s) (hN : X.N.Nodup) (hi : X.N[i]? = some x) (hx : Loc X.env.scope x) (r : RelV v u)
    (h : ∀ s', Inv X pins (σ.set i (some v)) H s' → Q () s') (hf : X.fn x = true ∨ X.env.scope.names.lookup x = some .local := by first | exact .inl rfl | exact .inr rfl | assumption) : wpAny M A (storeName X.env x u) Q E s :=
  store_ok2 I hN hi hx r (fun s' I' _ => h s' I') hf
/-- behind a call or a block, the state as it is -/
theorem Inv.call' {s' : Shared} {ch : List Addr} (I : Inv X pins σ H s) (ho : s'.os = s.os) (u : Un (frs X.stack) ch H H' s.heap s'.heap) (hok : HOk X.prog X.w H' s'.heap) (hg : AllBare s'.gens)
    (hch : ∀ b ∈ ch, (b ∈ X.ex ∨ X.s₀.heap.objs.size ≤ b) ∧ b ≠ X.env.locals ∧ (∀ x c, X.env.cells.lookup x = some c → c ≠ b) ∧ ∀ p ∈ X.pn ++ pins, p.1 ≠ b) : Inv X pins σ H' s' := by
  obtain ⟨h', g', d', t', o'⟩ := s'
  have e : o' = s.os := ho
  subst e
  exact I.call (g' := g') (t' := t') (d' := d') u hok hg hch
end

/-! ### the judgements -/
/-- an exception: its class, its own dict's address (where it has one), the abstract heap behind it -/
noncomputable abbrev XK := Value → Option Addr → Hp → Prop
noncomputable abbrev St := List (Option V)
noncomputable abbrev VK := V → Hp → Prop
/-- an expression's reading; a test's; an argument list's -/
noncomputable abbrev TE := St → Hp → VK → Prop
noncomputable abbrev TT := St → Hp → (Bool → Hp → Prop) → Prop
noncomputable abbrev TA := St → Hp → (List V → Hp → Prop) → Prop
/-- what is wanted behind a statement -/
structure Ends where
  nx : St → Hp → Prop
  rt : VK
  bk : St → Hp → Prop := fun _ _ => False
  ct : St → Hp → Prop := fun _ _ => False
noncomputable abbrev TS := Ends → St → Hp → Prop

noncomputable def EP (X : Cx) (pins : List (Addr × Obj)) (σ : St) (Q : VK) (u : Value) (s' : Shared) : Prop := ∃ v H', Inv X pins σ H' s' ∧ RelV v u ∧ Q v H'
noncomputable def TP (X : Cx) (pins : List (Addr × Obj)) (σ : St) (Q : Bool → Hp → Prop) (b : Bool) (s' : Shared) : Prop := ∃ H', Inv X pins σ H' s' ∧ Q b H'
noncomputable def AP (X : Cx) (pins : List (Addr × Obj)) (σ : St) (Q : List V → Hp → Prop) (us : List Value) (s' : Shared) : Prop := ∃ vs H', Inv X pins σ H' s' ∧ Vals vs us ∧ Q vs H'
noncomputable def SP (X : Cx) (pins : List (Addr × Obj)) (D : Ends) (f : Flow) (s' : Shared) : Prop :=
  match f with
  | .next => ∃ σ' H', Inv X pins σ' H' s' ∧ D.nx σ' H'
  | .brk => ∃ σ' H', Inv X pins σ' H' s' ∧ D.bk σ' H'
  | .cont => ∃ σ' H', Inv X pins σ' H' s' ∧ D.ct σ' H'
  | .ret u => ∃ v σ' H', Inv X pins σ' H' s' ∧ RelV v u ∧ D.rt v H'

noncomputable def PE (X : Cx) (e : Expr) (t : TE) : Prop :=
  ∀ (pins : List (Addr × Obj)) (s : Shared) (σ : St) (H : Hp) (Q : VK), Inv X pins σ H s → t σ H Q → wpAny (model X.prog X.w) X.A (eval e X.env) (EP X pins σ Q) X.xe s
noncomputable def PT (X : Cx) (e : Expr) (t : TT) : Prop :=
  ∀ (pins : List (Addr × Obj)) (s : Shared) (σ : St) (H : Hp) (Q : Bool → Hp → Prop), Inv X pins σ H s → t σ H Q → wpAny (model X.prog X.w) X.A (isTrue e X.env (eval e X.env)) (TP X pins σ Q) X.xe s
/-- a test whatever its 'whole' is (and, or) -/
noncomputable def PW (X : Cx) (e : Expr) (t : TT) : Prop :=
  ∀ (whole : Sem Value) (pins : List (Addr × Obj)) (s : Shared) (σ : St) (H : Hp) (Q : Bool → Hp → Prop), Inv X pins σ H s → t σ H Q → wpAny (model X.prog X.w) X.A (isTrue e X.env whole) (TP X pins σ Q) X.xe s
theorem PW.pt {X : Cx} {e : Expr} {t : TT} (h : PW X e t) : PT X e t := h _
/-- an argument list (no star), from the left -/
noncomputable def PA (X : Cx) (es : List Expr) (t : TA) : Prop :=
  ∀ (pos : Pos) (pins : List (Addr × Obj)) (s : Shared) (σ : St) (H : Hp) (Q : List V → Hp → Prop), Inv X pins σ H s → t σ H Q → wpAny (model X.prog X.w) X.A (spliced (backTo pos (starEach es X.env))) (AP X pins σ Q) X.xe s
noncomputable def PS (X : Cx) (st : Stmt) (t : TS) : Prop :=
  ∀ (pins : List (Addr × Obj)) (s : Shared) (σ : St) (H : Hp) (D : Ends), Inv X pins σ H s → t D σ H → wpAny (model X.prog X.w) X.A (exec st X.env) (SP X pins D) X.xe s
noncomputable def PSs (X : Cx) (st : List Stmt) (t : TS) : Prop :=
  ∀ (pins : List (Addr × Obj)) (s : Shared) (σ : St) (H : Hp) (D : Ends), Inv X pins σ H s → t D σ H → wpAny (model X.prog X.w) X.A (execs st X.env) (SP X pins D) X.xe s
/-- weaken the end -/
theorem thn {α : Type} {t : Sem α} {Q Q' : α → Shared → Prop} {M : Model} {A : Around} {E : Value → Shared → Prop} {s : Shared} (h : wpAny M A t Q E s) (hQ : ∀ a s, Q a s → Q' a s) : wpAny M A t Q' E s := wpAny_mono h hQ fun _ _ x => x
end L2

namespace L2
open PySem PySem.Spec PyProof.Rows
section
variable {X : Cx}

/-! ### names and constants -/
noncomputable def tVar (i : Nat) : TE := fun σ H Q => ∃ v, σ[i]? = some (some v) ∧ Q v H
noncomputable def tC (v : V) : TE := fun _ H Q => Q v H
theorem pe_var {i : Nat} {x : Str} {pos : Pos} (hN : X.N[i]? = some x) (hv : Vis X.env.scope x) (hd : (x == ("__debug__" : Str)) = false := by decide) (hcd : (x == ("__classdict__" : Str)) = false := by decide) : PE X (.Name x pos) (tVar i) := by
  intro pins s σ H Q I h
  obtain ⟨v, e, h⟩ := h
  obtain ⟨m, hn, hl⟩ := I.loc
  obtain ⟨u, r, l⟩ := hl i x v hN e hv
  have fin : EP X pins σ Q u s := ⟨v, H, I, r, h⟩
  rcases l with ⟨hk, hm⟩ | ⟨hk, c, hc, hcell⟩
  · exact wpAny_Name (wpAny_loadName_local I.ok.kind hk hn hm fin) hd
  · rcases hk with hk | hk
    · exact wpAny_Name (wpAny_loadName_cell I.ok.kind hk hc hcell fin) hd
    · exact wpAny_Name (wpAny_loadName_free I.ok.kind hk hc hcell fin hcd) hd
theorem pe_int {i j pos} : PE X (.Constant (.int i) j pos) (tC (.int i)) := fun _ _ _ H _ I h => wpAny_Constant_int ⟨.int i, H, I.tok _, ⟨_, rfl⟩, h⟩
theorem pe_bl {b j pos} : PE X (.Constant (.bool b) j pos) (tC (.bl b)) := fun _ _ _ H _ I h => Constant_bool ⟨.bl b, H, I, rfl, h⟩
theorem pe_non {j pos} : PE X (.Constant .none j pos) (tC .non) := fun _ _ _ H _ I h => Constant_none ⟨.non, H, I, rfl, h⟩
theorem pe_str {x j pos} : PE X (.Constant (.str x) j pos) (tC (.str x)) := fun _ _ _ H _ I h => Calls.Constant_str ⟨.str x, H, I.tok _, ⟨_, rfl⟩, h⟩

/-- a global name of the def -/
noncomputable def Gl (X : Cx) (x : Str) : Prop := X.env.kindOf x = some .globalImplicit
theorem ld_glob {E : Value → Shared → Prop} {pins : List (Addr × Obj)} {s : Shared} {σ : St} {H : Hp} {x : Str} {u : Value} {pos : Pos} {Q : Value → Shared → Prop} (I : Inv X pins σ H s) (hg : Gl X x) (hm : X.mg x = some u) (h : Q u s)
    (hd : (x == ("__debug__" : Str)) = false := by decide) : wpAny (model X.prog X.w) X.A (eval (.Name x pos) X.env) Q E s :=
  Calls.Name_function_global I.ok.kind hg (Calls.loadGlobal_global (by rw [I.ok.glob]; exact I.mod.glob.keeps I.bk) hm h) hd
theorem ld_blt {E : Value → Shared → Prop} {pins : List (Addr × Obj)} {s : Shared} {σ : St} {H : Hp} {x : Str} {u : Value} {pos : Pos} {Q : Value → Shared → Prop} (I : Inv X pins σ H s) (hg : Gl X x) (hm : X.mg x = none) (hv : bootBuiltins x = some u) (h : Q u s)
    (hn : x ≠ "__name__" := by decide) (hd : (x == ("__debug__" : Str)) = false := by decide) : wpAny (model X.prog X.w) X.A (eval (.Name x pos) X.env) Q E s := by
  obtain ⟨mb, h1, h2⟩ := I.mod.blt
  exact Calls.Name_function_global I.ok.kind hg (Calls.loadGlobal_builtin (by rw [I.ok.glob]; exact I.mod.glob.keeps I.bk) hm (by rw [I.ok.blt]; exact h1.keeps I.bk) ((h2 x hn).trans hv) h) hd
/-- a module's constant, a class, a function, as a value -/
theorem pe_glob {x : Str} {v : V} {u : Value} {pos : Pos} (hg : Gl X x) (hm : X.mg x = some u) (r : RelV v u) (hd : (x == ("__debug__" : Str)) = false := by decide) : PE X (.Name x pos) (tC v) :=
  fun _ _ _ H _ I h => ld_glob I hg hm ⟨v, H, I, r, h⟩ hd
theorem pe_bltn {x : Str} {v : V} {u : Value} {pos : Pos} (hg : Gl X x) (hm : X.mg x = none) (hv : bootBuiltins x = some u) (r : RelV v u) (hn : x ≠ "__name__" := by decide) (hd : (x == ("__debug__" : Str)) = false := by decide) : PE X (.Name x pos) (tC v) :=
  fun _ _ _ H _ I h => ld_blt I hg hm hv ⟨v, H, I, r, h⟩ hn hd

/-! ### arithmetic -/
variable {a b : Expr} {ta tb : TE} {pos : Pos}
/-! ### comparisons -/
/-- a comparison as a value, as a test -/
noncomputable def tB (t : TE) : TT := fun σ H Q => t σ H fun x H1 => ∃ c, x = .bl c ∧ Q c H1
/-- an expression whose value is a bool, as a test -/
theorem pt_val {e : Expr} {t : TE} (h : PE X e t) (he : ∀ whole, isTrue e X.env whole = (do let v ← whole; standAt e.pos; holding [v] (truthy v)) := by intro _; rfl) : PT X e (tB t) := by
  intro pins s σ H Q I hw
  refine isTrue_plain (thn (h pins s σ H _ I hw) fun v s1 ⟨x, H1, I1, r1, q1⟩ => ?_) (he _)
  obtain ⟨d, rfl, q⟩ := q1
  cases r1
  exact wpAny_truthy_bool ⟨H1, I1, q⟩

/-! ### and, or, not -/
variable {tA tB' : TT} {rest : List Expr}
noncomputable def tOr (t u : TT) : TT := fun σ H Q => t σ H fun c H1 => if c = true then Q true H1 else u σ H1 Q
noncomputable def tNot (t : TT) : TT := fun σ H Q => t σ H fun c H1 => Q (!c) H1
theorem pw_or1 (ha : PT X a tA) : PW X (.BoolOp .Or [a] pos) tA := by
  intro wh pins s σ H Q I h
  refine isTrue_or (thn (ha pins s σ H Q I h) fun c s1 e => ?_)
  cases c with
  | false => exact isTrue_or_nil e
  | true => exact e
theorem pw_or (ha : PT X a tA) (hb : PW X (.BoolOp .Or (b :: rest) pos) tB') : PW X (.BoolOp .Or (a :: b :: rest) pos) (tOr tA tB') := by
  intro wh pins s σ H Q I h
  refine isTrue_or (thn (ha pins s σ H _ I h) fun c s1 ⟨H1, I1, q1⟩ => ?_)
  cases c with
  | true => exact ⟨H1, I1, q1⟩
  | false => exact hb wh pins s1 σ H1 Q I1 q1
theorem pt_not (ha : PT X a tA) : PT X (.UnaryOp .Not a pos) (tNot tA) := by
  intro pins s σ H Q I h
  exact isTrue_not (ha pins s σ H (fun c H1 => Q (!c) H1) I h)
/-- .. as values (bools) -/
noncomputable def tAndV (ta tb : TE) : TE := fun σ H Q => ta σ H fun x H1 => ∃ c, x = .bl c ∧ if c = true then tb σ H1 Q else Q (.bl false) H1
noncomputable def tNotV (ta : TE) : TE := fun σ H Q => ta σ H fun x H1 => ∃ c, x = .bl c ∧ Q (.bl (!c)) H1
theorem pe_one {op} {t : TE} (h : PE X a t) : PE X (.BoolOp op [a] pos) t := fun pins s σ H Q I hw => BoolOp_one (h pins s σ H Q I hw)
theorem pe_and (ha : PE X a ta) (hb : PE X (.BoolOp .And (b :: rest) pos) tb) : PE X (.BoolOp .And (a :: b :: rest) pos) (tAndV ta tb) := by
  intro pins s σ H Q I h
  refine BoolOp_and (thn (ha pins s σ H _ I h) fun v s1 ⟨x, H1, I1, r1, q1⟩ => ?_)
  obtain ⟨c, rfl, q1⟩ := q1
  cases r1
  refine wpAny_truthy_bool ?_
  cases c with
  | true => exact hb pins s1 σ H1 Q I1 q1
  | false => exact ⟨.bl false, H1, I1, rfl, q1⟩
theorem pe_not (ha : PE X a ta) : PE X (.UnaryOp .Not a pos) (tNotV ta) := by
  intro pins s σ H Q I h
  refine UnaryOp_ (thn (ha pins s σ H _ I h) fun v s1 ⟨x, H1, I1, r1, q1⟩ => ?_)
  obtain ⟨c, rfl, q1⟩ := q1
  cases r1
  exact not_of (wpAny_truthy_bool ⟨.bl (!c), H1, I1, rfl, q1⟩)
/-- a if t else b -/
noncomputable def tIf (t : TT) (ta tb : TE) : TE := fun σ H Q => t σ H fun c H1 => if c = true then ta σ H1 Q else tb σ H1 Q
theorem pe_ifExp {c : Expr} (hc : PT X c tA) (ha : PE X a ta) (hb : PE X b tb) : PE X (.IfExp c a b pos) (tIf tA ta tb) := by
  intro pins s σ H Q I h
  refine wpAny_IfExp (thn (hc pins s σ H _ I h) fun d s1 ⟨H1, I1, q1⟩ => ?_)
  cases d with
  | true => exact ha pins s1 σ H1 Q I1 q1
  | false => exact hb pins s1 σ H1 Q I1 q1
end
end L2

namespace L2
open PySem PySem.Spec PyProof.Rows

/-! ### a list, a tuple that is read: tracked, frozen, or an object of the module -/
noncomputable def SqL (K : PySem.W.Frag) (H : Hp) (a : Addr) (xs : List V) : Prop :=
  Rd H a (.lst xs) ∨
    ∃ (o : Obj) (its : Array Value) (n : Nat), K.lookup a = some o ∧ o.cls = .type "list" ∧ o.dict = none ∧ o.data = .seq its n ∧ its.size ≤ sizeLine ∧ Vals xs its.toList
noncomputable def SqT (K : PySem.W.Frag) (H : Hp) (a : Addr) (xs : List V) : Prop :=
  Rd H a (.tup xs) ∨
    ∃ (o : Obj) (its : Array Value) (n : Nat), K.lookup a = some o ∧ o.cls = .type "tuple" ∧ o.data = .seq its n ∧ its.size ≤ sizeLine ∧ Vals xs its.toList
noncomputable def absV : Value → Option V
  | .none => some .non
  | .bool b => some (.bl b)
  | .int i _ => some (.int i)
  | .str x _ => some (.str x)
  | .bytes b _ => some (.byt b)
  | .float b _ => some (.flt b)
  | .ref a => some (.ref a)
  | .type n => some (.ty n)
  | _ => none
theorem RelV.abs {x : V} {u : Value} (r : RelV x u) : absV u = some x := by
  cases x with
  | non => cases r; rfl
  | bl _ => cases r; rfl
  | int _ => obtain ⟨t, rfl⟩ := r; rfl
  | str _ => obtain ⟨t, rfl⟩ := r; rfl
  | byt _ => obtain ⟨t, rfl⟩ := r; rfl
  | flt _ => obtain ⟨t, rfl⟩ := r; rfl
  | ref _ => cases r; rfl
  | ty _ => cases r; rfl
theorem RelV.inj {x y : V} {u : Value} (r : RelV x u) (q : RelV y u) : x = y := Option.some.inj (r.abs.symm.trans q.abs)
theorem Vals.inj : ∀ {xs ys : List V} {us : List Value}, Vals xs us → Vals ys us → xs = ys
  | _, _, _, .nil, .nil => rfl
  | _, _, _, .cons r t, .cons r' t' => by rw [r.inj r', Vals.inj t t']
section
variable {X : Cx} {pins : List (Addr × Obj)} {σ : St} {H : Hp} {s : Shared} {a : Addr} {xs ys : List V}
theorem SqL.of {K : PySem.W.Frag} (h : H a = some (.lst xs)) : SqL K H a xs := .inl (.inl h)
theorem SqT.of {K : PySem.W.Frag} (h : H a = some (.tup xs)) : SqT K H a xs := .inl (.inl h)
theorem Inv.list (I : Inv X pins σ H s) (h : SqL X.K H a xs) : ∃ its : List Value, Vals xs its ∧ PlainL s.heap a its.toArray ∧ xs.length ≤ sizeLine := by
  rcases h with h | ⟨o, its, n, hk, hc, hd, hs, hz, r⟩
  · obtain ⟨z, its, n, r, e⟩ := h.ok I.hok
    exact ⟨its, r, ⟨_, n, e, rfl, rfl, rfl⟩, z⟩
  · refine ⟨its.toList, r, ⟨o, n, I.kIn a o hk, hc, hd, by simpa using hs⟩, ?_⟩
    have e := r.length
    simp only [Array.length_toList] at e
    omega
theorem Inv.tuple (I : Inv X pins σ H s) (h : SqT X.K H a xs) : ∃ its : List Value, Vals xs its ∧ IsTup s.heap a its.toArray ∧ xs.length ≤ sizeLine := by
  rcases h with h | ⟨o, its, n, hk, hc, hs, hz, r⟩
  · obtain ⟨z, its, r, p⟩ := h.ok I.hok
    exact ⟨its, r, p, z⟩
  · refine ⟨its.toList, r, ⟨o, I.kIn a o hk, hc, n, by simpa using hs⟩, ?_⟩
    have e := r.length
    simp only [Array.length_toList] at e
    omega
theorem Inv.list_inj (I : Inv X pins σ H s) (h : SqL X.K H a xs) (h' : SqL X.K H a ys) : xs = ys := by
  obtain ⟨its, r, ⟨o, n, e, _, _, d⟩, _⟩ := I.list h
  obtain ⟨its', r', ⟨o', n', e', _, _, d'⟩, _⟩ := I.list h'
  rw [e] at e'; cases e'
  rw [d] at d'
  injection d' with d1 _
  have : its = its' := by simpa using congrArg Array.toList d1
  subst this
  exact r.inj r'
theorem Inv.tuple_inj (I : Inv X pins σ H s) (h : SqT X.K H a xs) (h' : SqT X.K H a ys) : xs = ys := by
  obtain ⟨its, r, ⟨o, e, _, n, d⟩, _⟩ := I.tuple h
  obtain ⟨its', r', ⟨o', e', _, n', d'⟩, _⟩ := I.tuple h'
  rw [e] at e'; cases e'
  rw [d] at d'
  injection d' with d1 _
  have : its = its' := by simpa using congrArg Array.toList d1
  subst this
  exact r.inj r'
end

/-! ### another wish about exceptions -/
noncomputable abbrev Cx.wish (X : Cx) (E : Value → Shared → Prop) : Cx := { X with xe := E }
/-- no exception leaves -/
noncomputable abbrev Cx.nox (X : Cx) : Cx := X.wish fun _ _ => False
theorem Cx.Ok.wish {X : Cx} (ok : X.Ok) (E : Value → Shared → Prop) : (X.wish E).Ok :=
  ⟨ok.mod, ok.kind, ok.glob, ok.blt, ok.above, ok.inj, ok.has, ok.cab, ok.hd, ok.frames, ok.stk, ok.exf, ok.bs, ok.bsz, ok.noex, ok.exfs, ok.funs, ok.frf⟩
theorem Cx.Ok.unwish {X : Cx} {E : Value → Shared → Prop} (ok : (X.wish E).Ok) : X.Ok :=
  ⟨ok.mod, ok.kind, ok.glob, ok.blt, ok.above, ok.inj, ok.has, ok.cab, ok.hd, ok.frames, ok.stk, ok.exf, ok.bs, ok.bsz, ok.noex, ok.exfs, ok.funs, ok.frf⟩
section
variable {X : Cx} {pins : List (Addr × Obj)} {σ : St} {H : Hp} {s : Shared} {E : Value → Shared → Prop}
theorem Inv.wish (I : Inv X pins σ H s) (E : Value → Shared → Prop) : Inv (X.wish E) pins σ H s := ⟨I.ok.wish E, I.os, I.bare, I.base, I.loc, I.cell, I.free, I.freeC, I.pin, I.hok, I.len⟩
theorem Inv.unwish (I : Inv (X.wish E) pins σ H s) : Inv X pins σ H s := ⟨I.ok.unwish, I.os, I.bare, I.base, I.loc, I.cell, I.free, I.freeC, I.pin, I.hok, I.len⟩
theorem SP.unwish {D : Ends} {f : Flow} {s' : Shared} (h : SP (X.wish E) pins D f s') : SP X pins D f s' := by
  cases f with
  | next => obtain ⟨σ', H', I, q⟩ := h; exact ⟨σ', H', I.unwish, q⟩
  | brk => obtain ⟨σ', H', I, q⟩ := h; exact ⟨σ', H', I.unwish, q⟩
  | cont => obtain ⟨σ', H', I, q⟩ := h; exact ⟨σ', H', I.unwish, q⟩
  | ret u => obtain ⟨v, σ', H', I, r, q⟩ := h; exact ⟨v, σ', H', I.unwish, r, q⟩
theorem PSs.nox {st : List Stmt} {t : TS} (h : PSs X.nox st t) : PSs X st t := fun pins s σ H D I hw =>
  wpAny_mono (h pins s σ H D (I.wish _) hw) (fun _ _ q => q.unwish) fun _ _ z => False.elim z
end

/-! ### blocks and small statements -/
section
variable {X : Cx} {st : Stmt} {rest : List Stmt} {t u : TS} {e : Expr} {te : TE} {pos : Pos}
noncomputable def tNext : TS := fun D σ H => D.nx σ H
noncomputable def tSeq (t u : TS) : TS := fun D σ H => t { D with nx := u D } σ H
theorem pss_nil : PSs X [] tNext := fun _ _ σ H _ I h => wpAny_execs_nil ⟨σ, H, I, h⟩
theorem pss_cons (h1 : PS X st t) (h2 : PSs X rest u) : PSs X (st :: rest) (tSeq t u) := by
  intro pins s σ H D I h
  refine wpAny_execs_cons (thn (h1 pins s σ H { D with nx := u D } I h) fun f s1 q => ?_)
  cases f with
  | next =>
    obtain ⟨σ', H', I', q⟩ := q
    exact h2 pins s1 σ' H' D I' q
  | ret v => exact q
  | brk => exact q
  | cont => exact q
theorem pss_one (h1 : PS X st t) : PSs X [st] t := by
  intro pins s σ H D I h
  refine wpAny_execs_cons (thn (h1 pins s σ H D I h) fun f s1 q => ?_)
  cases f with
  | next => exact wpAny_execs_nil q
  | ret v => exact q
  | brk => exact q
  | cont => exact q
/-- in a def's body nothing is shown -/
theorem Inv.quiet {pins : List (Addr × Obj)} {σ : St} {H : Hp} {s : Shared} (I : Inv X pins σ H s) : interactive X.env = false := by simp [interactive, I.ok.kind]
/-- an expression whose value is dropped -/
noncomputable def tDrop (te : TE) : TS := fun D σ H => te σ H fun _ H1 => D.nx σ H1
theorem ps_expr (he : PE X e te) (hs : swapsWith e none pos.line X.env = pure false := by rfl) : PS X (.Expr e pos) (tDrop te) := by
  intro pins s σ H D I h
  exact wpAny_Expr_any (thn (he pins s σ H _ I h) fun v s1 ⟨x, H1, I1, r1, q1⟩ => ⟨σ, H1, I1, q1⟩) I.quiet hs
noncomputable def tRet (te : TE) : TS := fun D σ H => te σ H D.rt
theorem ps_ret (he : PE X e te) : PS X (.Return (some e) pos) (tRet te) := by
  intro pins s σ H D I h
  exact wpAny_Return_some (thn (he pins s σ H _ I h) fun v s1 ⟨x, H1, I1, r1, q1⟩ => ⟨x, σ, H1, I1, r1, q1⟩)
noncomputable def tIfS (c : TT) (t u : TS) : TS := fun D σ H => c σ H fun b H1 => if b = true then t D σ H1 else u D σ H1
theorem ps_if {c : Expr} {a b : List Stmt} {tc : TT} (hc : PT X c tc) (ha : PSs X a t) (hb : PSs X b u) : PS X (.If c a b pos) (tIfS tc t u) := by
  intro pins s σ H D I h
  refine wpAny_If (thn (hc pins s σ H _ I h) fun d s1 ⟨H1, I1, q1⟩ => ?_)
  cases d with
  | true => exact ha pins s1 σ H1 D I1 q1
  | false => exact hb pins s1 σ H1 D I1 q1
/-- code that the proof never comes to -/
noncomputable def tNever : TS := fun _ _ _ => False
theorem pss_never {sts : List Stmt} : PSs X sts tNever := fun _ _ _ _ _ _ h => h.elim
end

/-! ### targets -/
noncomputable abbrev TG := V → St → Hp → (St → Hp → Prop) → Prop
noncomputable abbrev TGs := List V → St → Hp → (St → Hp → Prop) → Prop
noncomputable def PG (X : Cx) (target : Expr) (t : TG) : Prop :=
  ∀ (pins : List (Addr × Obj)) (s : Shared) (σ : St) (H : Hp) (v : V) (u : Value) (Q : St → Hp → Prop), Inv X pins σ H s → RelV v u → t v σ H Q →
    wpAny (model X.prog X.w) X.A (assign target X.env u) (fun _ s' => ∃ σ' H', Inv X pins σ' H' s' ∧ Q σ' H') X.xe s
/-- several targets, one after another -/
noncomputable def PGs (X : Cx) (ts : List Expr) (t : TGs) : Prop :=
  ∀ (pins : List (Addr × Obj)) (s : Shared) (σ : St) (H : Hp) (vs : List V) (us : List Value) (Q : St → Hp → Prop), Inv X pins σ H s → Vals vs us → t vs σ H Q →
    wpAny (model X.prog X.w) X.A (assignInOrder ((assignEach ts X.env).map (·.2)) us) (fun _ s' => ∃ σ' H', Inv X pins σ' H' s' ∧ Q σ' H') X.xe s
/-- o[i] = v, by values -/
noncomputable abbrev TSet := V → V → V → Hp → (Hp → Prop) → Prop
noncomputable def PSet (X : Cx) (t : TSet) : Prop :=
  ∀ (pins : List (Addr × Obj)) (s : Shared) (σ : St) (H : Hp) (o i v : V) (ov iv u : Value) (Q : Hp → Prop), Inv X pins σ H s → RelV o ov → RelV i iv → RelV v u → t o i v H Q →
    wpAny (model X.prog X.w) X.A (setItem ov iv u) (fun _ s' => ∃ H', Inv X pins σ H' s' ∧ Q H') X.xe s
section
variable {X : Cx} {pos : Pos}
noncomputable def gName (i : Nat) : TG := fun v σ H Q => Q (σ.set i (some v)) H
theorem pg_name {i : Nat} {x : Str} (hN : X.N.Nodup) (hi : X.N[i]? = some x) (hx : Loc X.env.scope x) (hf : X.fn x = true ∨ X.env.scope.names.lookup x = some .local := by first | exact .inl rfl | exact .inr rfl | assumption) : PG X (.Name x pos) (gName i) := by
  intro pins s σ H v u Q I r h
  exact wpAny_assign_Name (store_ok I hN hi hx r (fun s' I' => ⟨_, H, I', h⟩) hf)
noncomputable def gNil : TGs := fun vs σ H Q => vs = [] ∧ Q σ H
noncomputable def gCons (t : TG) (u : TGs) : TGs := fun vs σ H Q => ∃ v r, vs = v :: r ∧ t v σ H fun σ' H' => u r σ' H' Q
theorem pgs_nil : PGs X [] gNil := by
  intro pins s σ H vs us Q I r h
  obtain ⟨e, h⟩ := h
  subst e
  cases r
  exact assignInOrder_nil ⟨σ, H, I, h⟩
theorem pgs_cons {e : Expr} {es : List Expr} {t : TG} {u : TGs} (h1 : PG X e t) (h2 : PGs X es u)
    (hs : (assignEach (e :: es) X.env).map (·.2) = assign e X.env :: (assignEach es X.env).map (·.2) := by rfl) : PGs X (e :: es) (gCons t u) := by
  intro pins s σ H vs us Q I r h
  obtain ⟨v, vr, e1, h⟩ := h
  subst e1
  cases r with
  | cons r rr =>
    rw [hs]
    refine assignInOrder_cons (thn (h1 pins s σ H _ _ _ I r h) fun _ s1 ⟨σ1, H1, I1, q1⟩ => ?_)
    exact h2 pins s1 σ1 H1 _ _ Q I1 rr q1
/-- (a, b, ..) = a tuple of that length -/
noncomputable def gTup (K : PySem.W.Frag) (n : Nat) (t : TGs) : TG := fun v σ H Q => ∃ a xs, v = .ref a ∧ SqT K H a xs ∧ xs.length = n ∧ t xs σ H Q
theorem pg_tup {es : List Expr} {k : Nat} {t : TGs} {n : Nat} (hc : X.calm = true) (h : PGs X es t)
    (hn : (assignEach es X.env).length = n := by rfl) (hst : (assignEach es X.env).findIdx? (·.1) = none := by rfl) : PG X (.Tuple es k pos) (gTup X.K n t) := by
  intro pins s σ H v u Q I r hw
  obtain ⟨a, xs, e1, hq, hl, hw⟩ := hw
  subst e1
  cases r
  obtain ⟨its, rv, ht, hz⟩ := I.tuple hq
  refine assign_Tuple_tuple (I.ok.hd hc) ht (by simp [hn, ← hl, rv.length]) hst fun h' hx => ?_
  have I1 : Inv X pins σ H { s with heap := h' } := I.kept (t' := s.toks) fun b o e => hx b o (Nat.ne_of_lt (Heap.lt_size e)) e
  exact h pins _ σ H xs _ Q I1 (by simpa using rv) hw
/-- o[i] = .. -/
noncomputable def gSub (to ti : TE) (t : TSet) : TG := fun v σ H Q => to σ H fun o H1 => ti σ H1 fun i H2 => t o i v H2 fun H3 => Q σ H3
theorem pg_sub {o i : Expr} {to ti : TE} {t : TSet} (ho : PE X o to) (hi : PE X i ti) (hs : PSet X t)
    (ha : ∀ v, assign (.Subscript o i pos) X.env v = (do
      let ov ← holding [v] (eval o X.env)
      let iv ← holding [v, ov] (eval i X.env)
      standAt pos
      holding [v, ov, iv] (setItem ov iv v)
      release [v, ov, iv] []) := by intro _; rfl) : PG X (.Subscript o i pos) (gSub to ti t) := by
  intro pins s σ H v u Q I r h
  rw [ha]
  refine wpAny_bind (wpAny_holding (thn (ho pins s σ H _ I h) fun ov s1 ⟨x, H1, I1, r1, q1⟩ => ?_))
  refine wpAny_bind (wpAny_holding (thn (hi pins s1 σ H1 _ I1 q1) fun iv s2 ⟨y, H2, I2, r2, q2⟩ => ?_))
  refine wpAny_bind (wpAny_standAt (wpAny_bind (wpAny_holding (thn (hs pins s2 σ H2 x y v ov iv u _ I2 r1 r2 r q2) fun _ s3 ⟨H3, I3, q3⟩ => ?_))))
  exact wpAny_release ⟨σ, H3, I3, q3⟩
/-- target = value -/
noncomputable def tAsg (te : TE) (g : TG) : TS := fun D σ H => te σ H fun x H1 => g x σ H1 D.nx
theorem ps_asg {tg e : Expr} {te : TE} {g : TG} (he : PE X e te) (hg : PG X tg g) (hs : swapsWithSole [tg] e pos.line X.env = pure false := by rfl) (hw : swappedStores [tg] e X.env = pure none := by rfl)
    (h1 : (assignEach [tg] X.env).map (·.2) = [assign tg X.env] := by rfl) : PS X (.Assign [tg] e pos) (tAsg te g) := by
  intro pins s σ H D I h
  refine wpAny_Assign_stores (thn (he pins s σ H _ I h) fun v s1 ⟨x, H1, I1, r1, q1⟩ => ?_) hs hw
  rw [h1]
  exact thn (hg pins s1 σ H1 x v _ I1 r1 q1) fun _ s2 q => q
/-- name = value -/
theorem ps_set {i : Nat} {x : Str} {e : Expr} {te : TE} {pos' : Pos} (hN : X.N.Nodup) (hi : X.N[i]? = some x) (hx : Loc X.env.scope x) (he : PE X e te) (hs : swapsWith e (some (.Name x pos')) pos.line X.env = pure false := by rfl) (hf : X.fn x = true ∨ X.env.scope.names.lookup x = some .local := by first | exact .inl rfl | exact .inr rfl | assumption) :
    PS X (.Assign [.Name x pos'] e pos) (tAsg te (gName i)) := by
  intro pins s σ H D I h
  refine wpAny_Assign_Name (thn (he pins s σ H _ I h) fun v s1 ⟨y, H1, I1, r1, q1⟩ => ?_) hs
  exact store_ok I1 hN hi hx r1 (fun s2 I2 => ⟨_, H1, I2, q1⟩) hf
/-- a, b = x, y with plain local names: stored from the right; the pair itself is not tracked (the opening rows as in PyProof/Rows/TupAssign.lean:23) -/
noncomputable def tPar (i j : Nat) (ta : TA) : TS := fun D σ H => ta σ H fun vs H1 => ∃ v w, vs = [v, w] ∧ D.nx ((σ.set i (some v)).set j (some w)) H1
theorem ps_par {i j : Nat} {x y : Str} {a b : Expr} {ta : TA} {px py pt : Pos} {kt k2 pt2} (hc : X.calm = true) (hN : X.N.Nodup) (hi : X.N[i]? = some x) (hj : X.N[j]? = some y) (hij : i ≠ j)
    (hx : X.env.scope.names.lookup x = some .local) (hy : X.env.scope.names.lookup y = some .local) (ha : PA X [a, b] ta)
    (hw : swappedStores [.Tuple [.Name x px, .Name y py] kt pt] (.Tuple [a, b] k2 pt2) X.env = pure (some [x, y]))
    (hs : swapsWithSole [.Tuple [.Name x px, .Name y py] kt pt] (.Tuple [a, b] k2 pt2) pos.line X.env = pure false := by rfl) :
    PS X (.Assign [.Tuple [.Name x px, .Name y py] kt pt] (.Tuple [a, b] k2 pt2) pos) (tPar i j ta) := by
  intro pins s σ H D I h
  rw [exec_Assign_arm]
  refine wpAny_bind (wpAny_standAt ?_)
  rw [hs]
  refine wpAny_bind (wpAny_pure ?_)
  rw [if_neg (by decide)]
  refine wpAny_bind (Tuple_ (thn (ha _ pins s σ H _ I h) fun us s1 ⟨vs, H1, I1, r1, q1⟩ => ?_))
  obtain ⟨v, w, e1, q1⟩ := q1
  subst e1
  obtain ⟨u1, u2, rfl, rv, rw'⟩ : ∃ u1 u2, us = [u1, u2] ∧ RelV v u1 ∧ RelV w u2 := by
    cases r1 with
    | cons p q =>
      cases q with
      | cons p' q' =>
        cases q'
        exact ⟨_, _, rfl, p, p'⟩
  refine wpAny_newObj_type ?_ (by show 2 ≤ sizeLine; decide)
  have I2 : Inv X pins σ H1 { s1 with heap := s1.heap.push { cls := .type "tuple", data := .seq [u1, u2].toArray } } := I1.kept (t' := s1.toks) fun b o e => Heap.get?_push_of_some _ e
  rw [hw]
  refine wpAny_bind (wpAny_pure ?_)
  show wpAny (model X.prog X.w) X.A (do rule "assign.swapped-stores"; let items ← unpackItems (.ref s1.heap.objs.size) 2 none; assignInOrder [fun v => bindName X.env y v, fun v => bindName X.env x v] items.reverse; pure Flow.next) _ _ _
  refine wpAny_bind (wpAny_rule (wpAny_bind (unpackItems_tuple (items := #[u1, u2]) (I.ok.hd hc) (IsTup.new s1.heap _) fun h' hx' => ?_)))
  have I3 := I2.kept (h' := h') (t' := s1.toks) fun b o e => hx' b o (Nat.ne_of_lt (Heap.lt_size e)) e
  show wpAny _ _ (assignInOrder [fun v => bindName X.env y v, fun v => bindName X.env x v] [u2, u1] >>= fun _ => pure Flow.next) _ _ _
  refine wpAny_bind (assignInOrder_cons (wpAny_bindName (store_ok I3 hN hj (.inl hy) rw' (fun s2 I4 => ?_) (.inr hy))))
  refine assignInOrder_cons (wpAny_bindName (store_ok I4 hN hi (.inl hx) rv (fun s3 I5 => assignInOrder_nil (wpAny_pure ?_)) (.inr hx)))
  rw [List.set_comm _ _ (Ne.symm hij)] at I5
  exact ⟨_, H1, I5, q1⟩
end

/-! ### while -/
section
variable {X : Cx} {pos : Pos}
end

/-! ### what a loop or a comprehension walks -/
/-- at turn i: it yields x (the heap may grow), or it stops -/
structure It where
  go : Nat → Hp → Prop
  yld : Nat → Hp → V → Hp → Prop
  stop : Nat → Hp → Prop
/-- the iterator's own objects may turn: they are not the frame's, not pinned, younger than the entry (or a comprehension's own) -/
noncomputable def FpOk (X : Cx) (pins : List (Addr × Obj)) (H : Hp) (b : Addr) : Prop :=
  H b = none ∧ b ≠ X.env.locals ∧ b ∉ X.fs ∧ (b ∈ X.ex ∨ X.s₀.heap.objs.size ≤ b) ∧ (∀ x c, X.env.cells.lookup x = some c → c ≠ b) ∧ ∀ p ∈ X.pn ++ pins, p.1 ≠ b
theorem Inv.fpOk {X : Cx} {pins : List (Addr × Obj)} {σ : St} {H H' : Hp} {s : Shared} {b : Addr} (I : Inv X pins σ H s) (hb : s.heap.objs.size ≤ b) (hn : H' b = none) : FpOk X pins H' b := by
  refine ⟨hn, Nat.ne_of_gt (Nat.lt_of_lt_of_le I.lt hb), I.nofs hb, .inr (Nat.le_trans I.sz hb), fun x c e z => ?_, fun p hp z => ?_⟩
  · obtain ⟨v, q⟩ := I.cell x c e
    exact absurd (Nat.lt_of_lt_of_le q.lt (by rw [z]; exact hb)) (Nat.lt_irrefl _)
  · exact absurd (Nat.lt_of_lt_of_le (Heap.lt_size (I.pin p hp).1) (by rw [z]; exact hb)) (Nat.lt_irrefl _)
structure Turn (P : Program) (w : World) (K : PySem.W.Frag) (tg : Expr) (J : It) (fp : List Addr) (it : Addr) (tn : Nat → Heap → Prop) : Prop where
  mem : it ∈ fp
  obj : ∀ i h, tn i h → ∀ b ∈ fp, ∃ o, h.get? b = some o ∧ ∀ v, o.data ≠ .cell v
  keep : ∀ i h h', tn i h → (∀ b ∈ fp, ∀ o, h.get? b = some o → h'.get? b = some o) → tn i h'
  item : ∀ (X : Cx), X.prog = P → X.w = w → X.K = K → X.calm = true → ∀ (i : Nat) (pins : List (Addr × Obj)) (s : Shared) (σ : St) (H : Hp) (E : Value → Shared → Prop), Inv X pins σ H s → (∀ b ∈ fp, FpOk X pins H b) → tn i s.heap → J.go i H →
    wpAny (model P w) X.A (pyNext (.ref it)) (fun r s1 => ∃ u, r = some u ∧
      wpAny (model P w) X.A (letOwnedTupleGo tg (.ref it) u) (fun _ s2 => ∃ x H', Inv X pins σ H' s2 ∧ RelV x u ∧ J.yld i H x H' ∧ tn (i + 1) s2.heap ∧ ∀ b ∈ fp, H' b = none) E s1) E s
  done : ∀ (X : Cx), X.prog = P → X.w = w → X.K = K → X.calm = true → ∀ (i : Nat) (pins : List (Addr × Obj)) (s : Shared) (σ : St) (H : Hp) (E : Value → Shared → Prop), Inv X pins σ H s → (∀ b ∈ fp, FpOk X pins H b) → tn i s.heap → J.stop i H →
    wpAny (model P w) X.A (pyNext (.ref it)) (fun r s1 => r = none ∧ Inv X pins σ H s1) E s
  self : ∀ (A : Around) (i : Nat) (s : Shared) (Q : Value → Shared → Prop) (E : Value → Shared → Prop), tn i s.heap → Q (.ref it) s → wpAny (model P w) A (pyIter (.ref it)) Q E s
noncomputable abbrev TI := St → Hp → (It → Hp → Prop) → Prop
/-- an iterator has come -/
noncomputable def PIE (X : Cx) (pins : List (Addr × Obj)) (σ : St) (tg : Expr) (R : It → Hp → Prop) (itv : Value) (s2 : Shared) : Prop :=
  ∃ (it : Addr) (fp : List Addr) (tn : Nat → Heap → Prop) (J : It) (H' : Hp), itv = .ref it ∧ Inv X pins σ H' s2 ∧ Turn X.prog X.w X.K tg J fp it tn ∧ tn 0 s2.heap ∧ (∀ b ∈ fp, FpOk X pins H' b) ∧ R J H'
noncomputable def PI (X : Cx) (tg iter : Expr) (wi : TI) : Prop :=
  ∀ (pins : List (Addr × Obj)) (s : Shared) (σ : St) (H : Hp) (R : It → Hp → Prop), Inv X pins σ H s → wi σ H R →
    wpAny (model X.prog X.w) X.A (eval iter X.env) (fun v s1 => wpAny (model X.prog X.w) X.A (pyIter v) (PIE X pins σ tg R) X.xe s1) X.xe s

/-- the step ahead of the store is nothing for an iterator that keeps no tuple -/
theorem go_of {M : Model} {A : Around} {E : Value → Shared → Prop} {s : Shared} {tg : Expr} {it : Addr} {u : Value} {o : Obj} {n : String} {vs : Array Value} {Q : Unit → Shared → Prop} (ho : s.heap.get? it = some o) (hc : o.cls = .type n) (hd : o.data = .fields vs)
    (hn : ["enumerate", "zip", "dict_itemiterator", "dict_reverseitemiterator", "odict_iterator", "itertools.zip_longest", "itertools.pairwise"].contains n = false) (hQ : Q () s) : wpAny M A (letOwnedTupleGo tg (.ref it) u) Q E s := by
  unfold letOwnedTupleGo
  cases tg <;> first
    | exact wpAny_pure hQ
    | (cases u <;> first
        | exact wpAny_pure hQ
        | (refine wpAny_bind (wpAny_load ho ?_)
           rw [hc, hd]
           show wpAny M A (if (["enumerate", "zip", "dict_itemiterator", "dict_reverseitemiterator", "odict_iterator", "itertools.zip_longest", "itertools.pairwise"].contains n && vs[0]? == some (rawInt _)) = true then _ else _) Q E s
           rw [if_neg (by intro h; rw [hn, Bool.false_and] at h; cases h)]
           exact wpAny_pure hQ))

/-- the list at a, as it stands at each turn (a loop may append to it) -/
noncomputable def Itl (K : PySem.W.Frag) (a : Addr) : It :=
  ⟨fun i H => ∃ xs x, SqL K H a xs ∧ xs[i]? = some x, fun i H x H' => H' = H ∧ ∀ xs, SqL K H a xs → xs[i]? = some x, fun i H => ∃ xs, SqL K H a xs ∧ xs.length ≤ i⟩
noncomputable def Itt (K : PySem.W.Frag) (a : Addr) : It :=
  ⟨fun i H => ∃ xs x, SqT K H a xs ∧ xs[i]? = some x, fun i H x H' => H' = H ∧ ∀ xs, SqT K H a xs → xs[i]? = some x, fun i H => ∃ xs, SqT K H a xs ∧ xs.length ≤ i⟩
/-- lo, lo + 1, .. (n of them) -/
noncomputable def Itr (lo : Int) (n : Nat) : It := ⟨fun i _ => i < n, fun i H x H' => H' = H ∧ x = .int (lo + i), fun i _ => n ≤ i⟩
theorem turn_list {P : Program} {w : World} {K : PySem.W.Frag} {tg : Expr} (a it : Addr) : Turn P w K tg (Itl K a) [it] it (fun i h => h.IsListIter it a i) where
  mem := by simp
  obj := fun i h st b hb => by
    have e : b = it := by simpa using hb
    subst e
    obtain ⟨o, e, c, d⟩ := st
    exact ⟨o, e, fun v z => by rw [d] at z; cases z⟩
  keep := fun i h h' st k => st.at fun o e => k it (by simp) o e
  item := by
    intro X hP hw hK hc i pins s σ H E I hf st hg
    subst hP hw hK
    obtain ⟨xs, x, hq, hx⟩ := hg
    obtain ⟨its, rv, p, hz⟩ := I.list hq
    obtain ⟨u, hu, ru⟩ := rv.get hx
    obtain ⟨f0, f1, f2, f3, f4, f5⟩ := hf it (by simp)
    refine wpAny_pyNext_list_item st p.isList (x := u) (by simpa using hu) fun h' st' sb => ?_
    have I1 : Inv X pins σ H { s with heap := h' } := I.turned (t' := s.toks) (fun b o hb e => (sb.2 b hb).trans e) f0 f1 f3 f4 f5
    obtain ⟨o, e, c, d⟩ := id st'
    exact ⟨u, rfl, go_of (s := { s with heap := h' }) e c d (by decide) ⟨x, H, I1, ru, ⟨rfl, fun ys hy => by rw [I.list_inj hy hq]; exact hx⟩, st', fun b hb => (hf b hb).1⟩⟩
  done := by
    intro X hP hw hK hc i pins s σ H E I hf st hg
    subst hP hw hK
    obtain ⟨xs, hq, hx⟩ := hg
    obtain ⟨its, rv, p, hz⟩ := I.list hq
    obtain ⟨f0, f1, f2, f3, f4, f5⟩ := hf it (by simp)
    have hl := rv.length
    exact wpAny_pyNext_list_end (I.ok.hd hc) st p.isList (by simp; omega) fun h' eb => ⟨rfl, I.turned (t' := s.toks) (fun b o hb e => eb b o hb e) f0 f1 f3 f4 f5⟩
  self := fun _ _ _ _ _ st h => wpAny_pyIter_listiter st h
theorem turn_tuple {P : Program} {w : World} {K : PySem.W.Frag} {tg : Expr} (a it : Addr) : Turn P w K tg (Itt K a) [it] it (fun i h => h.IsTupleIter it a i) where
  mem := by simp
  obj := fun i h st b hb => by
    have e : b = it := by simpa using hb
    subst e
    obtain ⟨o, e, c, d⟩ := st
    exact ⟨o, e, fun v z => by rw [d] at z; cases z⟩
  keep := fun i h h' st k => st.at fun o e => k it (by simp) o e
  item := by
    intro X hP hw hK hc i pins s σ H E I hf st hg
    subst hP hw hK
    obtain ⟨xs, x, hq, hx⟩ := hg
    obtain ⟨its, rv, p, hz⟩ := I.tuple hq
    obtain ⟨u, hu, ru⟩ := rv.get hx
    obtain ⟨f0, f1, f2, f3, f4, f5⟩ := hf it (by simp)
    refine wpAny_pyNext_tuple_item st (show s.heap.IsTuple a its.toArray from p) (x := u) (by simpa using hu) fun h' st' sb => ?_
    have I1 : Inv X pins σ H { s with heap := h' } := I.turned (t' := s.toks) (fun b o hb e => (sb.2 b hb).trans e) f0 f1 f3 f4 f5
    obtain ⟨o, e, c, d⟩ := id st'
    exact ⟨u, rfl, go_of (s := { s with heap := h' }) e c d (by decide) ⟨x, H, I1, ru, ⟨rfl, fun ys hy => by rw [I.tuple_inj hy hq]; exact hx⟩, st', fun b hb => (hf b hb).1⟩⟩
  done := by
    intro X hP hw hK hc i pins s σ H E I hf st hg
    subst hP hw hK
    obtain ⟨xs, hq, hx⟩ := hg
    obtain ⟨its, rv, p, hz⟩ := I.tuple hq
    obtain ⟨f0, f1, f2, f3, f4, f5⟩ := hf it (by simp)
    have hl := rv.length
    exact wpAny_pyNext_tuple_end (I.ok.hd hc) st (show s.heap.IsTuple a its.toArray from p) (by simp; omega) fun h' eb => ⟨rfl, I.turned (t' := s.toks) (fun b o hb e => eb b o hb e) f0 f1 f3 f4 f5⟩
  self := fun _ _ _ _ _ st h => wpAny_pyIter_tupleiter st h
theorem turn_range {P : Program} {w : World} {K : PySem.W.Frag} {tg : Expr} (it : Addr) (lo : Int) (n : Nat) : Turn P w K tg (Itr lo n) [it] it (fun i h => IsRangeIter h it (lo + (i : Nat) * 1) ((n : Int) - (i : Nat)) 1) where
  mem := by simp
  obj := fun i h st b hb => by
    have e : b = it := by simpa using hb
    subst e
    exact ⟨_, st, fun v z => by
      have z' : Data.fields _ = Data.cell v := z
      cases z'⟩
  keep := fun i h h' st k => k it (by simp) _ st
  item := by
    intro X hP hw hK hc i pins s σ H E I hf st hg
    subst hP hw hK
    obtain ⟨f0, f1, f2, f3, f4, f5⟩ := hf it (by simp)
    have W := Walks.range (prog := X.prog) (w := X.w) (I.ok.hd hc) it lo 1 n
    refine W.item i s _ _ hg st fun v h' tk hv st' kk => ?_
    obtain ⟨t, rfl⟩ := hv
    have I1 : Inv X pins σ H { s with heap := h', toks := tk } := I.turned (fun b o hb e => kk b o (by simpa using hb) e) f0 f1 f3 f4 f5
    refine ⟨_, rfl, go_of (s := { s with heap := h', toks := tk }) (n := "range_iterator") st' rfl rfl (by decide) ⟨.int (lo + i), H, I1, ⟨t, ?_⟩, ⟨rfl, rfl⟩, st', fun b hb => (hf b hb).1⟩⟩
    rw [Int.mul_one]
  done := by
    intro X hP hw hK hc i pins s σ H E I hf st hg
    subst hP hw hK
    obtain ⟨f0, f1, f2, f3, f4, f5⟩ := hf it (by simp)
    exact wpAny_pyNext_range_end (I.ok.hd hc) st (by have : n ≤ i := hg; omega) fun h' eb => ⟨rfl, I.turned (t' := s.toks) (fun b o hb e => eb b o hb e) f0 f1 f3 f4 f5⟩
  self := fun _ _ _ _ _ st h => wpAny_pyIter_rangeiter st h
end L2

namespace L2
open PySem PySem.Spec PyProof.Rows
section
variable {X : Cx} {tg : Expr}
noncomputable def iList (K : PySem.W.Frag) (tl : TE) : TI := fun σ H R => tl σ H fun x H1 => ∃ a, x = .ref a ∧ (∃ xs, SqL K H1 a xs) ∧ R (Itl K a) H1
noncomputable def iTup (K : PySem.W.Frag) (tl : TE) : TI := fun σ H R => tl σ H fun x H1 => ∃ a, x = .ref a ∧ (∃ xs, SqT K H1 a xs) ∧ R (Itt K a) H1
theorem pi_list {l : Expr} {tl : TE} (hl : PE X l tl) : PI X tg l (iList X.K tl) := by
  intro pins s σ H R I h
  refine thn (hl pins s σ H _ I h) fun v s1 ⟨x, H1, I1, r1, q1⟩ => ?_
  obtain ⟨a, e, ⟨xs, hq⟩, q⟩ := q1
  subst e
  cases r1
  obtain ⟨its, rv, p, hz⟩ := I1.list hq
  refine wpAny_pyIter_list p.isList ?_
  refine ⟨s1.heap.objs.size, [s1.heap.objs.size], _, _, H1, rfl, I1.kept (t' := s1.toks) fun b o e => Heap.get?_push_of_some _ e, turn_list a _, ⟨_, Heap.get?_push_size _ rfl, rfl, rfl⟩, fun b hb => ?_, q⟩
  have e : b = s1.heap.objs.size := by simpa using hb
  subst e
  exact I1.fpOk (Nat.le_refl _) (I1.hok.fresh (Nat.le_refl _))
theorem pi_tup {l : Expr} {tl : TE} (hl : PE X l tl) : PI X tg l (iTup X.K tl) := by
  intro pins s σ H R I h
  refine thn (hl pins s σ H _ I h) fun v s1 ⟨x, H1, I1, r1, q1⟩ => ?_
  obtain ⟨a, e, ⟨xs, hq⟩, q⟩ := q1
  subst e
  cases r1
  obtain ⟨its, rv, p, hz⟩ := I1.tuple hq
  refine wpAny_pyIter_tuple (show s1.heap.IsTuple a its.toArray from p) ?_
  refine ⟨s1.heap.objs.size, [s1.heap.objs.size], _, _, H1, rfl, I1.kept (t' := s1.toks) fun b o e => Heap.get?_push_of_some _ e, turn_tuple a _, ⟨_, Heap.get?_push_size _ rfl, rfl, rfl⟩, fun b hb => ?_, q⟩
  have e : b = s1.heap.objs.size := by simpa using hb
  subst e
  exact I1.fpOk (Nat.le_refl _) (I1.hok.fresh (Nat.le_refl _))
/-- a range object just made, walked -/
theorem range_it {pins : List (Addr × Obj)} {σ : St} {H : Hp} {s : Shared} {R : It → Hp → Prop} {E : Value → Shared → Prop} {lo hi : Int} {t u v : Tok} {tk : Nat} (I : Inv X pins σ H s) (h1 : -(2 ^ 62) ≤ lo) (h2 : lo < 2 ^ 62) (h3 : -(2 ^ 62) ≤ hi) (h4 : hi < 2 ^ 62)
    (q : R (Itr lo (hi - lo).toNat) H) : wpAny (model X.prog X.w) X.A (pyIter (.ref s.heap.objs.size)) (PIE X pins σ tg R) E { s with heap := s.heap.push { cls := .type "range", data := .fields #[.int lo t, .int hi u, .int 1 v] }, toks := tk } := by
  refine wpAny_pyIter_range (IsRange.new ..) (small_one h1 h2 h3 h4) ?_
  have I1 : Inv X pins σ H { s with heap := s.heap.push { cls := .type "range", data := .fields #[.int lo t, .int hi u, .int 1 v] }, toks := tk } := I.kept fun b o e => Heap.get?_push_of_some _ e
  refine ⟨(s.heap.push { cls := .type "range", data := .fields #[.int lo t, .int hi u, .int 1 v] }).objs.size, [(s.heap.push { cls := .type "range", data := .fields #[.int lo t, .int hi u, .int 1 v] }).objs.size], _, _, H, rfl,
    I1.kept (t' := tk) fun b o e => Heap.get?_push_of_some _ e, turn_range _ lo (hi - lo).toNat, ?_, fun b hb => ?_, q⟩
  · have e1 : lo + ((0 : Nat) : Int) * 1 = lo := by simp
    have e2 : (((hi - lo).toNat : Nat) : Int) - ((0 : Nat) : Int) = Builtin.Range.rangeSize lo hi 1 := by rw [rangeSize_one]; split <;> omega
    show IsRangeIter _ _ (lo + ((0 : Nat) : Int) * 1) ((((hi - lo).toNat : Nat) : Int) - ((0 : Nat) : Int)) 1
    rw [e1, e2]
    exact Heap.get?_push_size _ rfl
  · have e : b = (s.heap.push { cls := .type "range", data := .fields #[.int lo t, .int hi u, .int 1 v] }).objs.size := by simpa using hb
    subst e
    exact I1.fpOk (Nat.le_refl _) (I1.hok.fresh (Nat.le_refl _))
noncomputable def iRng1 (ta : TA) : TI := fun σ H R => ta σ H fun vs H1 => ∃ j : Int, vs = [.int j] ∧ -(2 ^ 62) ≤ j ∧ j < 2 ^ 62 ∧ R (Itr 0 j.toNat) H1
noncomputable def iRng2 (ta : TA) : TI := fun σ H R => ta σ H fun vs H1 => ∃ i j : Int, vs = [.int i, .int j] ∧ (-(2 ^ 62) ≤ i ∧ i < 2 ^ 62 ∧ -(2 ^ 62) ≤ j ∧ j < 2 ^ 62) ∧ R (Itr i (j - i).toNat) H1
theorem pi_range1 {a : Expr} {ta : TA} {p pos : Pos} (hg : Gl X "range") (hm : X.mg "range" = none) (ha : PA X [a] ta) (hs : starEach [a] X.env = [(false, eval a X.env)] := by rfl) : PI X tg (.Call (.Name "range" p) [a] [] pos) (iRng1 ta) := by
  intro pins s σ H R I h
  refine Call_ (ld_blt I hg hm boot_range (PyProof.Rows.callWith_type1 (thn (ha pos pins s σ H _ I h) fun us s1 ⟨vs, H1, I1, r1, q1⟩ => ?_) hs rfl))
  obtain ⟨j, e, q1, q2, q⟩ := q1
  subst e
  cases r1 with
  | cons r rr =>
    cases rr
    obtain ⟨t, rfl⟩ := r
    exact call_range_1 (range_it I1 (by omega) (by omega) q1 q2 (by simpa using q))
theorem pi_range2 {a b : Expr} {ta : TA} {p pos : Pos} (hg : Gl X "range") (hm : X.mg "range" = none) (ha : PA X [a, b] ta) (hs : starEach [a, b] X.env = [(false, eval a X.env), (false, eval b X.env)] := by rfl) (hs2 : starEach [b] X.env = [(false, eval b X.env)] := by rfl) :
    PI X tg (.Call (.Name "range" p) [a, b] [] pos) (iRng2 ta) := by
  intro pins s σ H R I h
  refine Call_ (ld_blt I hg hm boot_range (PyProof.Rows.callWith_type1 (thn (ha pos pins s σ H _ I h) fun us s1 ⟨vs, H1, I1, r1, q1⟩ => ?_) (by rw [hs, hs2]) (by rw [hs2]; rfl)))
  obtain ⟨i, j, e, ⟨q1, q2, q3, q4⟩, q⟩ := q1
  subst e
  cases r1 with
  | cons r rr =>
    cases rr with
    | cons r' rr =>
      cases rr
      obtain ⟨t, rfl⟩ := r
      obtain ⟨t', rfl⟩ := r'
      exact call_range_2 (range_it I1 q1 q2 q3 q4 q)

/-! ### for -/
/-- W: the invariant by the turn and a measure; N: what the body is to reach -/
noncomputable def tFor (wi : TI) (g : TG) (tb : TS) : TS := fun D σ H => wi σ H fun J H1 => ∃ W : Nat → Nat → St → Hp → Prop, (∃ m, W 0 m σ H1) ∧ ∀ i m σ H, W i m σ H →
  (J.stop i H ∧ D.nx σ H) ∨ (J.go i H ∧ ∃ N : St → Hp → Prop, (∀ σ' H', N σ' H' → ∃ m', m' < m ∧ W (i + 1) m' σ' H') ∧ ∀ x H', J.yld i H x H' → g x σ H' fun σ2 H2 => tb { D with nx := N, ct := N, bk := D.nx } σ2 H2)
/-- the records at fp as they stand -/
noncomputable def pinsAt (fp : List Addr) (h : Heap) : List (Addr × Obj) := fp.filterMap fun b => (h.get? b).map fun o => (b, o)
theorem mem_pinsAt {fp : List Addr} {h : Heap} {b : Addr} {o : Obj} (hb : b ∈ fp) (e : h.get? b = some o) : (b, o) ∈ pinsAt fp h := List.mem_filterMap.mpr ⟨b, hb, by rw [e]; rfl⟩
theorem of_pinsAt {fp : List Addr} {h : Heap} {p : Addr × Obj} (hp : p ∈ pinsAt fp h) : p.1 ∈ fp ∧ h.get? p.1 = some p.2 := by
  obtain ⟨b, hb, e⟩ := List.mem_filterMap.mp hp
  cases q : h.get? b with
  | none => rw [q] at e; cases e
  | some o =>
    rw [q] at e
    have e' : (b, o) = p := Option.some.inj e
    subst e'
    exact ⟨hb, q⟩
theorem Inv.pinned {pins : List (Addr × Obj)} {σ : St} {H : Hp} {s : Shared} {fp : List Addr} (I : Inv X pins σ H s) (hf : ∀ b ∈ fp, FpOk X pins H b) (ho : ∀ b ∈ fp, ∃ o, s.heap.get? b = some o ∧ ∀ v, o.data ≠ .cell v) : Inv X (pins ++ pinsAt fp s.heap) σ H s :=
  I.pins_of fun p hp => (List.mem_append.mp hp).elim (fun z => I.pin p (List.mem_append_right _ z)) fun z => by
    obtain ⟨hb, e⟩ := of_pinsAt z
    obtain ⟨f0, f1, f2, _⟩ := hf p.1 hb
    obtain ⟨o, e', d⟩ := ho p.1 hb
    rw [e] at e'; cases e'
    exact ⟨e, f0, f1, f2, d⟩
theorem Inv.unpinned {pins pl : List (Addr × Obj)} {σ : St} {H : Hp} {s : Shared} (I : Inv X (pins ++ pl) σ H s) : Inv X pins σ H s := I.pins_of fun p hp => I.pin p (List.mem_append_right _ (List.mem_append_left _ hp))
theorem ps_for {iter : Expr} {body : List Stmt} {wi : TI} {g : TG} {tb : TS} {pos : Pos} (hp : PassesOwn (model X.prog X.w) X.A X.env X.xe) (hc : X.calm = true) (hi : PI X tg iter wi) (hg : PG X tg g) (hb : PSs X body tb)
    (hs : ∀ x, foldedSetIterable iter X.env x = pure x := by intro _; rfl) : PS X (.For tg iter body [] pos) (tFor wi g tb) := by
  intro pins s σ H D I h
  refine wpAny_For (thn (hi pins s σ H _ I h) fun v s1 h1 => thn h1 fun itv s2 h2 => ?_) hs
  obtain ⟨it, fp, tn, J, H2, e, I2, T, st2, f2, W, ⟨m0, w0⟩, turn⟩ := h2
  subst e
  -- what stays true of the iterator's objects through the loop
  have stat : ∀ {H' : Hp}, (∀ b ∈ fp, H' b = none) → ∀ b ∈ fp, FpOk X pins H' b := fun hn b hb => ⟨hn b hb, (f2 b hb).2⟩
  refine codeAny_forLoop_any (fun n s' => ∃ i σ' H', Inv X pins σ' H' s' ∧ tn i s'.heap ∧ (∀ b ∈ fp, H' b = none) ∧ W i n σ' H') ?_ m0 ⟨0, σ, H2, I2, st2, fun b hb => (f2 b hb).1, w0⟩
  rintro n s3 ⟨i, σ3, H3, I3, st3, fr3, w3⟩
  rcases turn i n σ3 H3 w3 with ⟨stop, qn⟩ | ⟨go, N, hN, step⟩
  · refine wpAny_passesOwn hp (thn (T.done X rfl rfl rfl hc i pins s3 σ3 H3 X.xe I3 (stat fr3) st3 stop) fun r s4 ⟨hr, I4⟩ => ?_)
    subst hr
    exact wpAny_execs_nil ⟨σ3, H3, I4, qn⟩
  · refine wpAny_passesOwn hp (thn (T.item X rfl rfl rfl hc i pins s3 σ3 H3 X.xe I3 (stat fr3) st3 go) fun r s4 ⟨u, hr, h4⟩ => ?_)
    subst hr
    refine wpAny_passesOwn hp (thn h4 fun _ s5 ⟨x, H5, I5, r5, y5, st5, fr5⟩ => ?_)
    have I5' := I5.pinned (stat fr5) (T.obj _ _ st5)
    refine wpAny_passesOwn hp (thn (hg _ s5 σ3 H5 x u _ I5' r5 (step x H5 y5)) fun _ s6 ⟨σ6, H6, I6, q6⟩ => ?_)
    refine wpAny_passesOwn hp (thn (hb _ s6 σ6 H6 _ I6 q6) fun f s7 q7 => ?_)
    have again : ∀ {σ7 : St} {H7 : Hp}, Inv X (pins ++ pinsAt fp s5.heap) σ7 H7 s7 → N σ7 H7 → ∃ m, m < n ∧ ∃ i σ' H', Inv X pins σ' H' s7 ∧ tn i s7.heap ∧ (∀ b ∈ fp, H' b = none) ∧ W i m σ' H' := fun {σ7 H7} I7 n7 => by
      obtain ⟨m', hm, w7⟩ := hN σ7 H7 n7
      refine ⟨m', hm, i + 1, σ7, H7, I7.unpinned, T.keep _ _ _ st5 fun b hb o e => (I7.pin (b, o) (List.mem_append_right _ (List.mem_append_right _ (mem_pinsAt hb e)))).1, fun b hb => ?_, w7⟩
      obtain ⟨o, e, d⟩ := T.obj _ _ st5 b hb
      exact (I7.pin (b, o) (List.mem_append_right _ (List.mem_append_right _ (mem_pinsAt hb e)))).2.1
    cases f with
    | next => obtain ⟨σ7, H7, I7, n7⟩ := q7; exact again I7 n7
    | cont => obtain ⟨σ7, H7, I7, n7⟩ := q7; exact again I7 n7
    | brk => obtain ⟨σ7, H7, I7, q7⟩ := q7; exact ⟨σ7, H7, I7.unpinned, q7⟩
    | ret v => obtain ⟨x7, σ7, H7, I7, r7, q7⟩ := q7; exact ⟨x7, σ7, H7, I7.unpinned, r7, q7⟩
end

/-! ### the forms one uses -/
/-- over a list that the body leaves as it is -/
theorem for_list {K : PySem.W.Frag} {a : Addr} {xs : List V} {g : TG} {tb : TS} {D : Ends} {σ : St} {H : Hp} (Pv : Nat → St → Hp → Prop) (h0 : Pv 0 σ H) (hl : ∀ i σ H, i ≤ xs.length → Pv i σ H → SqL K H a xs)
    (hs : ∀ i x σ H, xs[i]? = some x → Pv i σ H → g x σ H fun σ2 H2 => tb { D with nx := Pv (i + 1), ct := Pv (i + 1), bk := D.nx } σ2 H2) (hd : ∀ σ H, Pv xs.length σ H → D.nx σ H) :
    ∃ W : Nat → Nat → St → Hp → Prop, (∃ m, W 0 m σ H) ∧ ∀ i m σ H, W i m σ H →
      ((Itl K a).stop i H ∧ D.nx σ H) ∨ ((Itl K a).go i H ∧ ∃ N : St → Hp → Prop, (∀ σ' H', N σ' H' → ∃ m', m' < m ∧ W (i + 1) m' σ' H') ∧ ∀ x H', (Itl K a).yld i H x H' → g x σ H' fun σ2 H2 => tb { D with nx := N, ct := N, bk := D.nx } σ2 H2) := by
  refine ⟨fun i m σ H => m = xs.length - i ∧ i ≤ xs.length ∧ Pv i σ H, ⟨xs.length, by simp, Nat.zero_le _, h0⟩, ?_⟩
  rintro i m σ H ⟨rfl, hi, p⟩
  have q := hl i σ H hi p
  by_cases hlt : i < xs.length
  · refine .inr ⟨⟨xs, xs[i], q, by simp [hlt]⟩, Pv (i + 1), fun σ' H' p' => ⟨xs.length - (i + 1), by omega, rfl, hlt, p'⟩, fun x H' y => ?_⟩
    obtain ⟨e, y⟩ := y
    subst e
    exact hs i x σ _ (y xs q) p
  · have e : i = xs.length := by omega
    subst e
    exact .inl ⟨⟨xs, q, Nat.le_refl _⟩, hd σ H p⟩
theorem for_tup {K : PySem.W.Frag} {a : Addr} {xs : List V} {g : TG} {tb : TS} {D : Ends} {σ : St} {H : Hp} (Pv : Nat → St → Hp → Prop) (h0 : Pv 0 σ H) (hl : ∀ i σ H, i ≤ xs.length → Pv i σ H → SqT K H a xs)
    (hs : ∀ i x σ H, xs[i]? = some x → Pv i σ H → g x σ H fun σ2 H2 => tb { D with nx := Pv (i + 1), ct := Pv (i + 1), bk := D.nx } σ2 H2) (hd : ∀ σ H, Pv xs.length σ H → D.nx σ H) :
    ∃ W : Nat → Nat → St → Hp → Prop, (∃ m, W 0 m σ H) ∧ ∀ i m σ H, W i m σ H →
      ((Itt K a).stop i H ∧ D.nx σ H) ∨ ((Itt K a).go i H ∧ ∃ N : St → Hp → Prop, (∀ σ' H', N σ' H' → ∃ m', m' < m ∧ W (i + 1) m' σ' H') ∧ ∀ x H', (Itt K a).yld i H x H' → g x σ H' fun σ2 H2 => tb { D with nx := N, ct := N, bk := D.nx } σ2 H2) := by
  refine ⟨fun i m σ H => m = xs.length - i ∧ i ≤ xs.length ∧ Pv i σ H, ⟨xs.length, by simp, Nat.zero_le _, h0⟩, ?_⟩
  rintro i m σ H ⟨rfl, hi, p⟩
  have q := hl i σ H hi p
  by_cases hlt : i < xs.length
  · refine .inr ⟨⟨xs, xs[i], q, by simp [hlt]⟩, Pv (i + 1), fun σ' H' p' => ⟨xs.length - (i + 1), by omega, rfl, hlt, p'⟩, fun x H' y => ?_⟩
    obtain ⟨e, y⟩ := y
    subst e
    exact hs i x σ _ (y xs q) p
  · have e : i = xs.length := by omega
    subst e
    exact .inl ⟨⟨xs, q, Nat.le_refl _⟩, hd σ H p⟩
theorem for_range {lo : Int} {n : Nat} {g : TG} {tb : TS} {D : Ends} {σ : St} {H : Hp} (Pv : Nat → St → Hp → Prop) (h0 : Pv 0 σ H)
    (hs : ∀ i σ H, i < n → Pv i σ H → g (.int (lo + i)) σ H fun σ2 H2 => tb { D with nx := Pv (i + 1), ct := Pv (i + 1), bk := D.nx } σ2 H2) (hd : ∀ σ H, Pv n σ H → D.nx σ H) :
    ∃ W : Nat → Nat → St → Hp → Prop, (∃ m, W 0 m σ H) ∧ ∀ i m σ H, W i m σ H →
      ((Itr lo n).stop i H ∧ D.nx σ H) ∨ ((Itr lo n).go i H ∧ ∃ N : St → Hp → Prop, (∀ σ' H', N σ' H' → ∃ m', m' < m ∧ W (i + 1) m' σ' H') ∧ ∀ x H', (Itr lo n).yld i H x H' → g x σ H' fun σ2 H2 => tb { D with nx := N, ct := N, bk := D.nx } σ2 H2) := by
  refine ⟨fun i m σ H => m = n - i ∧ i ≤ n ∧ Pv i σ H, ⟨n, by simp, Nat.zero_le _, h0⟩, ?_⟩
  rintro i m σ H ⟨rfl, hi, p⟩
  by_cases hlt : i < n
  · refine .inr ⟨hlt, Pv (i + 1), fun σ' H' p' => ⟨n - (i + 1), by omega, rfl, hlt, p'⟩, fun x H' y => ?_⟩
    obtain ⟨e, y⟩ := y
    subst e y
    exact hs i σ _ hlt p
  · have e : i = n := by omega
    subst e
    exact .inl ⟨Nat.le_refl _, hd σ H p⟩
end L2

namespace L2
open PySem PySem.Spec PyProof.Rows

noncomputable abbrev R2 := V → V → Hp → VK → Prop
/-- a two-place operation on values: f is binaryOp op, inplaceOp op or compareOp op -/
noncomputable def OpR (X : Cx) (f : Value → Value → Sem Value) (r : R2) : Prop :=
  ∀ (pins : List (Addr × Obj)) (s : Shared) (σ : St) (H : Hp) (x y : V) (v u : Value) (Q : VK), Inv X pins σ H s → RelV x v → RelV y u → r x y H Q →
    wpAny (model X.prog X.w) X.A (f v u) (EP X pins σ Q) X.xe s
/-- a one-place operation -/
noncomputable def UnR (X : Cx) (f : Value → Sem Value) (r : V → Hp → VK → Prop) : Prop :=
  ∀ (pins : List (Addr × Obj)) (s : Shared) (σ : St) (H : Hp) (x : V) (v : Value) (Q : VK), Inv X pins σ H s → RelV x v → r x H Q →
    wpAny (model X.prog X.w) X.A (f v) (EP X pins σ Q) X.xe s
/-- a call of a value that is known (a builtin, a type) with values -/
noncomputable def CallR (X : Cx) (f : Value) (r : List V → Hp → VK → Prop) : Prop :=
  ∀ (pins : List (Addr × Obj)) (s : Shared) (σ : St) (H : Hp) (xs : List V) (us : List Value) (Q : VK), Inv X pins σ H s → Vals xs us → r xs H Q →
    wpAny (model X.prog X.w) X.A (call f us) (EP X pins σ Q) X.xe s
noncomputable def tOp (r : R2) (ta tb : TE) : TE := fun σ H Q => ta σ H fun x H1 => tb σ H1 fun y H2 => r x y H2 Q
noncomputable def tUn (r : V → Hp → VK → Prop) (ta : TE) : TE := fun σ H Q => ta σ H fun x H1 => r x H1 Q
/-- ints in, under C, and a value out -/
noncomputable def rI (C : Int → Int → Prop) (g : Int → Int → V) : R2 := fun x y H Q => ∃ i j, x = .int i ∧ y = .int j ∧ C i j ∧ Q (g i j) H
noncomputable def rI0 (g : Int → Int → V) : R2 := fun x y H Q => ∃ i j, x = .int i ∧ y = .int j ∧ Q (g i j) H
noncomputable def rU (g : Int → V) : V → Hp → VK → Prop := fun x H Q => ∃ i, x = .int i ∧ Q (g i) H

section
variable {X : Cx} {a b c : Expr} {ta tb tc : TE} {pos : Pos}

theorem binT (ha : PE X a ta) (hb : PE X b tb) {pins : List (Addr × Obj)} {s : Shared} {σ : St} {H : Hp} {R : V → V → Hp → Prop} (I : Inv X pins σ H s)
    (h : ta σ H fun x H1 => tb σ H1 fun y H2 => R x y H2) {Q : Value → Shared → Prop} {f : Value → Value → Sem Value}
    (hf : ∀ v u s2 x y H2, Inv X pins σ H2 s2 → RelV x v → RelV y u → R x y H2 → wpAny (model X.prog X.w) X.A (f v u) Q X.xe s2) :
    wpAny (model X.prog X.w) X.A (eval a X.env) (fun v s₁ => wpAny (model X.prog X.w) X.A (eval b X.env) (fun u s₂ => wpAny (model X.prog X.w) X.A (f v u) Q X.xe s₂) X.xe s₁) X.xe s := by
  refine thn (ha pins s σ H _ I h) fun v s1 ⟨x, H1, I1, r1, q1⟩ => ?_
  refine thn (hb pins s1 σ H1 _ I1 q1) fun u s2 ⟨y, H2, I2, r2, q2⟩ => ?_
  exact hf v u s2 x y H2 I2 r1 r2 q2

theorem pe_op {op : Operator} {r : R2} (ho : OpR X (binaryOp op) r) (ha : PE X a ta) (hb : PE X b tb) : PE X (.BinOp a op b pos) (tOp r ta tb) := by
  intro pins s σ H Q I h
  exact wpAny_BinOp (binT ha hb I h fun v u s2 x y H2 I2 rx ry q => ho pins s2 σ H2 x y v u Q I2 rx ry q)
theorem pe_un {op : UnaryOp} {r : V → Hp → VK → Prop} (ho : UnR X (unaryOp op) r) (ha : PE X a ta) : PE X (.UnaryOp op a pos) (tUn r ta) := by
  intro pins s σ H Q I h
  exact UnaryOp_ (thn (ha pins s σ H _ I h) fun v s1 ⟨x, H1, I1, r1, q1⟩ => ho pins s1 σ H1 x v Q I1 r1 q1)
/-! ### ints -/
theorem opI {f : Value → Value → Sem Value} {C : Int → Int → Prop} {g : Int → Int → Int}
    (rule : ∀ (i j : Int) (t u : Tok) (s : Shared) (Q : Value → Shared → Prop) (E : Value → Shared → Prop), C i j → Q (.int (g i j) s.toks) { s with toks := s.toks + 1 } → wpAny (model X.prog X.w) X.A (f (.int i t) (.int j u)) Q E s) :
    OpR X f (rI C fun i j => .int (g i j)) := by
  intro pins s σ H x y v u Q I rx ry h
  obtain ⟨i, j, rfl, rfl, hc, q⟩ := h
  obtain ⟨t, rfl⟩ := rx
  obtain ⟨t', rfl⟩ := ry
  exact rule i j t t' s _ _ hc ⟨.int (g i j), H, I.tok _, ⟨_, rfl⟩, q⟩
theorem opI0 {f : Value → Value → Sem Value} {g : Int → Int → Int}
    (rule : ∀ (i j : Int) (t u : Tok) (s : Shared) (Q : Value → Shared → Prop) (E : Value → Shared → Prop), Q (.int (g i j) s.toks) { s with toks := s.toks + 1 } → wpAny (model X.prog X.w) X.A (f (.int i t) (.int j u)) Q E s) :
    OpR X f (rI0 fun i j => .int (g i j)) := by
  intro pins s σ H x y v u Q I rx ry h
  obtain ⟨i, j, rfl, rfl, q⟩ := h
  obtain ⟨t, rfl⟩ := rx
  obtain ⟨t', rfl⟩ := ry
  exact rule i j t t' s _ _ ⟨.int (g i j), H, I.tok _, ⟨_, rfl⟩, q⟩
theorem opB0 {f : Value → Value → Sem Value} {g : Int → Int → Bool}
    (rule : ∀ (i j : Int) (t u : Tok) (s : Shared) (Q : Value → Shared → Prop) (E : Value → Shared → Prop), Q (.bool (g i j)) s → wpAny (model X.prog X.w) X.A (f (.int i t) (.int j u)) Q E s) :
    OpR X f (rI0 fun i j => .bl (g i j)) := by
  intro pins s σ H x y v u Q I rx ry h
  obtain ⟨i, j, rfl, rfl, q⟩ := h
  obtain ⟨t, rfl⟩ := rx
  obtain ⟨t', rfl⟩ := ry
  exact rule i j t t' s _ _ ⟨.bl (g i j), H, I, rfl, q⟩

noncomputable def CDiv (i j : Int) : Prop := 0 < j ∧ j < 1073741824
noncomputable def CPow (i j : Int) : Prop := 0 ≤ j ∧ j ≤ 1000000 ∧ i.natAbs < 2 ^ 64
noncomputable def CMul (i j : Int) : Prop := (-(2 ^ 64) < i ∧ i < 2 ^ 64) ∨ (-(2 ^ 64) < j ∧ j < 2 ^ 64)
theorem CMul.ok {i j : Int} (h : CMul i j) : IntMulOk i j := by
  rcases h with ⟨h1, h2⟩ | ⟨h1, h2⟩
  · exact .of_left (intBits_le_64 h1 h2)
  · exact .of_right (intBits_le_64 h1 h2)
theorem op_add : OpR X (binaryOp .Add) (rI0 fun i j => .int (i + j)) := opI0 fun _ _ _ _ _ _ _ q => add_int q
theorem op_sub : OpR X (binaryOp .Sub) (rI0 fun i j => .int (i - j)) := opI0 fun _ _ _ _ _ _ _ q => sub_int q
theorem op_mul : OpR X (binaryOp .Mult) (rI CMul fun i j => .int (i * j)) := opI fun _ _ _ _ _ _ _ hc q => mul_int q hc.ok
/-- // by a positive divisor -/
theorem op_fdiv : OpR X (binaryOp .FloorDiv) (rI CDiv fun i j => .int (i / j)) := opI fun i j _ _ _ _ _ hc q => by
  have h1 : (0 : Int) < j := hc.1
  have h2 : j < 1073741824 := hc.2
  exact floordiv_int (by omega) (by rw [Int.fdiv_eq_ediv_of_nonneg i (by omega)]; exact q) (.inl (PyProof.noPylong_small (by omega)))
/-- % by a positive divisor of any size -/
theorem op_mod : OpR X (binaryOp .Mod) (rI (fun _ j => 0 < j) fun i j => .int (i % j)) := opI fun i j _ _ _ _ _ hc q => by
  have h1 : (0 : Int) < j := hc
  exact mod_int' (by omega) (by rw [Int.fmod_eq_emod_of_nonneg i (by omega)]; exact q)
theorem op_pow : OpR X (binaryOp .Pow) (rI CPow fun i j => .int (i ^ j.toNat)) := opI fun _ _ _ _ _ _ _ hc q => pow_int_small hc.1 hc.2.1 hc.2.2 q
theorem unI {f : Value → Sem Value} {g : Int → Int}
    (rule : ∀ (i : Int) (t : Tok) (s : Shared) (Q : Value → Shared → Prop) (E : Value → Shared → Prop), Q (.int (g i) s.toks) { s with toks := s.toks + 1 } → wpAny (model X.prog X.w) X.A (f (.int i t)) Q E s) :
    UnR X f (rU fun i => .int (g i)) := by
  intro pins s σ H x v Q I rx h
  obtain ⟨i, rfl, q⟩ := h
  obtain ⟨t, rfl⟩ := rx
  exact rule i t s _ _ ⟨.int (g i), H, I.tok _, ⟨_, rfl⟩, q⟩
theorem un_neg : UnR X (unaryOp .USub) (rU fun i => .int (-i)) := unI fun _ _ _ _ _ q => neg_int q
/-! ### bools among ints: n += (a < b) -/
end

/-! ### comparisons -/
/-- the scalars that == tells apart as data does -/
noncomputable def scal : V → V → Bool
  | .non, .non => true | .non, .int _ => true | .int _, .non => true | .non, .bl _ => true | .bl _, .non => true | .non, .str _ => true | .str _, .non => true
  | .int _, .int _ => true | .bl _, .bl _ => true | .str _, .str _ => true | .byt _, .byt _ => true
  | .int _, .str _ => true | .str _, .int _ => true | .bl _, .str _ => true | .str _, .bl _ => true
  | _, _ => false
noncomputable def rEq : R2 := fun x y H Q => scal x y = true ∧ Q (.bl (decide (x = y))) H
noncomputable def rNe : R2 := fun x y H Q => scal x y = true ∧ Q (.bl (!decide (x = y))) H

theorem dec_int {i j : Int} : decide (V.int i = V.int j) = (i == j) := by
  rw [Bool.eq_iff_iff]
  simp
theorem dec_bl {i j : Bool} : decide (V.bl i = V.bl j) = (i == j) := by
  rw [Bool.eq_iff_iff]
  simp
theorem dec_str {i j : Str} : decide (V.str i = V.str j) = (i == j) := by
  rw [Bool.eq_iff_iff]
  simp
theorem dec_byt {i j : Array UInt8} : decide (V.byt i = V.byt j) = (i.toList == j.toList) := by
  rw [Bool.eq_iff_iff]
  cases i
  cases j
  simp

section
variable {X : Cx} {a b c : Expr} {ta tb tc : TE} {pos : Pos}
theorem fin_bl {pins : List (Addr × Obj)} {σ : St} {H : Hp} {s : Shared} {Q : VK} {k k' : Bool} (I : Inv X pins σ H s) (q : Q (.bl k) H) (e : k = k') : EP X pins σ Q (.bool k') s := by
  subst e
  exact ⟨.bl k, H, I, rfl, q⟩
theorem op_eq : OpR X (compareOp .Eq) rEq := by
  intro pins s σ H x y v u Q I rx ry h
  obtain ⟨hs, q⟩ := h
  cases x with
  | non =>
    cases rx
    cases y with
    | non => cases ry; exact PySem.EqNone.eq_none_none (fin_bl I q (by simp))
    | bl j => cases ry; exact PySem.EqNone.eq_none_bool (fin_bl I q (by simp))
    | int j => obtain ⟨t', rfl⟩ := ry; exact PySem.EqNone.eq_none_int (fin_bl I q (by simp))
    | str j => obtain ⟨t', rfl⟩ := ry; exact PySem.EqNone.eq_none_str (fin_bl I q (by simp))
    | _ => exact absurd (show false = true from hs) Bool.false_ne_true
  | bl i =>
    cases rx
    cases y with
    | non => cases ry; exact PySem.EqNone.eq_bool_none (fin_bl I q (by simp))
    | bl j => cases ry; exact eq_bool (fin_bl I q dec_bl)
    | str j => obtain ⟨t', rfl⟩ := ry; exact PySem.EqMixed.eq_bool_str (fin_bl I q (by simp))
    | _ => exact absurd (show false = true from hs) Bool.false_ne_true
  | int i =>
    obtain ⟨t, rfl⟩ := rx
    cases y with
    | non => cases ry; exact PySem.EqNone.eq_int_none (fin_bl I q (by simp))
    | int j => obtain ⟨t', rfl⟩ := ry; exact eq_int (fin_bl I q dec_int)
    | str j => obtain ⟨t', rfl⟩ := ry; exact PySem.EqMixed.eq_int_str (fin_bl I q (by simp))
    | _ => exact absurd (show false = true from hs) Bool.false_ne_true
  | str i =>
    obtain ⟨t, rfl⟩ := rx
    cases y with
    | non => cases ry; exact PySem.EqNone.eq_str_none (fin_bl I q (by simp))
    | bl j => cases ry; exact PySem.EqMixed.eq_str_bool (fin_bl I q (by simp))
    | int j => obtain ⟨t', rfl⟩ := ry; exact PySem.EqMixed.eq_str_int (fin_bl I q (by simp))
    | str j => obtain ⟨t', rfl⟩ := ry; exact eq_str (fin_bl I q dec_str)
    | _ => exact absurd (show false = true from hs) Bool.false_ne_true
  | byt i =>
    obtain ⟨t, rfl⟩ := rx
    cases y with
    | byt j => obtain ⟨t', rfl⟩ := ry; exact PySem.W.eq_bytes (fin_bl I q dec_byt)
    | _ => exact absurd (show false = true from hs) Bool.false_ne_true
  | _ => cases y <;> exact absurd (show false = true from hs) Bool.false_ne_true
theorem op_ne : OpR X (compareOp .NotEq) rNe := by
  intro pins s σ H x y v u Q I rx ry h
  obtain ⟨hs, q⟩ := h
  cases x with
  | non =>
    cases rx
    cases y with
    | non => cases ry; exact PySem.EqNone.ne_none_none (fin_bl I q (by simp))
    | bl j => cases ry; exact PySem.EqNone.ne_none_bool (fin_bl I q (by simp))
    | int j => obtain ⟨t', rfl⟩ := ry; exact PySem.EqNone.ne_none_int (fin_bl I q (by simp))
    | str j => obtain ⟨t', rfl⟩ := ry; exact PySem.EqNone.ne_none_str (fin_bl I q (by simp))
    | _ => exact absurd (show false = true from hs) Bool.false_ne_true
  | bl i =>
    cases rx
    cases y with
    | non => cases ry; exact PySem.EqNone.ne_bool_none (fin_bl I q (by simp))
    | bl j => cases ry; exact ne_bool (fin_bl I q (congrArg not dec_bl))
    | str j => obtain ⟨t', rfl⟩ := ry; exact PySem.EqMixed.ne_bool_str (fin_bl I q (by simp))
    | _ => exact absurd (show false = true from hs) Bool.false_ne_true
  | int i =>
    obtain ⟨t, rfl⟩ := rx
    cases y with
    | non => cases ry; exact PySem.EqNone.ne_int_none (fin_bl I q (by simp))
    | int j => obtain ⟨t', rfl⟩ := ry; exact ne_int (fin_bl I q (congrArg not dec_int))
    | str j => obtain ⟨t', rfl⟩ := ry; exact PySem.EqMixed.ne_int_str (fin_bl I q (by simp))
    | _ => exact absurd (show false = true from hs) Bool.false_ne_true
  | str i =>
    obtain ⟨t, rfl⟩ := rx
    cases y with
    | non => cases ry; exact PySem.EqNone.ne_str_none (fin_bl I q (by simp))
    | bl j => cases ry; exact PySem.EqMixed.ne_str_bool (fin_bl I q (by simp))
    | int j => obtain ⟨t', rfl⟩ := ry; exact PySem.EqMixed.ne_str_int (fin_bl I q (by simp))
    | str j => obtain ⟨t', rfl⟩ := ry; exact ne_str (fin_bl I q (congrArg not dec_str))
    | _ => exact absurd (show false = true from hs) Bool.false_ne_true
  | byt i =>
    obtain ⟨t, rfl⟩ := rx
    cases y with
    | byt j => obtain ⟨t', rfl⟩ := ry; exact PySem.W.ne_bytes (fin_bl I q (congrArg not dec_byt))
    | _ => exact absurd (show false = true from hs) Bool.false_ne_true
  | _ => cases y <;> exact absurd (show false = true from hs) Bool.false_ne_true

theorem op_lt : OpR X (compareOp .Lt) (rI0 fun i j => .bl (decide (i < j))) := opB0 fun _ _ _ _ _ _ _ q => lt_int q
theorem op_le : OpR X (compareOp .LtE) (rI0 fun i j => .bl (decide (i ≤ j))) := opB0 fun _ _ _ _ _ _ _ q => le_int q
theorem op_gt : OpR X (compareOp .Gt) (rI0 fun i j => .bl (decide (j < i))) := opB0 fun _ _ _ _ _ _ _ q => gt_int q
theorem op_lt_str : OpR X (compareOp .Lt) (fun x y H Q => ∃ i j, x = .str i ∧ y = .str j ∧ Q (.bl (decide (i.cps.toList < j.cps.toList))) H) := by
  intro pins s σ H x y v u Q I rx ry h
  obtain ⟨i, j, rfl, rfl, q⟩ := h
  obtain ⟨t, rfl⟩ := rx
  obtain ⟨t', rfl⟩ := ry
  exact lt_str (fin_bl I q rfl)
theorem nomark (b : Expr) {op : CmpOp} (h : op ≠ .In := by decide) (h2 : op ≠ .NotIn := by decide) : behindInMarks op b = false := by
  have e1 : (op == CmpOp.In) = false := by cases op <;> first | rfl | exact absurd rfl h
  have e2 : (op == CmpOp.NotIn) = false := by cases op <;> first | rfl | exact absurd rfl h2
  cases b <;> simp [behindInMarks, e1, e2]
/-- a comparison as a value; hm: nomark b, or (for in, not in) by with_unfolding_all rfl -/
theorem pe_cmpR {op : CmpOp} {r : R2} (ho : OpR X (compareOp op) r) (ha : PE X a ta) (hb : PE X b tb) (hm : behindInMarks op b = false) : PE X (.Compare a [op] [b] pos) (tOp r ta tb) := by
  intro pins s σ H Q I h
  exact wpAny_Compare1 (binT ha hb I h fun v u s2 x y H2 I2 rx ry q => ho pins s2 σ H2 x y v u Q I2 rx ry q) hm
/-- a reading of a value as a test -/
noncomputable def tTest (t : TE) : TT := fun σ H Q => t σ H fun x H' => ∃ k, x = .bl k ∧ Q k H'
theorem pt_cmpR {op : CmpOp} {r : R2} (ho : OpR X (compareOp op) r) (ha : PE X a ta) (hb : PE X b tb) (hm : behindInMarks op b = false) : PT X (.Compare a [op] [b] pos) (tTest (tOp r ta tb)) := by
  intro pins s σ H Q I h
  refine wpAny_isTrue_Compare1 (thn (ha pins s σ H _ I h) fun v s1 ⟨x, H1, I1, r1, q1⟩ => thn (hb pins s1 σ H1 _ I1 q1) fun u s2 ⟨y, H2, I2, r2, q2⟩ =>
    thn (ho pins s2 σ H2 x y v u _ I2 r1 r2 q2) fun c s3 ⟨z, H3, I3, r3, k, e, q3⟩ => ?_) hm
  subst e
  cases r3
  exact wpAny_truthy_bool ⟨H3, I3, q3⟩
/-- a op1 b op2 c -/
noncomputable def tChain (r r' : R2) (ta tb tc : TE) : TE := fun σ H Q => ta σ H fun x H1 => tb σ H1 fun y H2 => r x y H2 fun z H3 => ∃ k, z = .bl k ∧
  (if k = true then tc σ H3 fun w' H4 => r' y w' H4 Q else Q (.bl false) H3)
theorem pe_chain {op op' : CmpOp} {r r' : R2} (ho : OpR X (compareOp op) r) (ho' : OpR X (compareOp op') r') (ha : PE X a ta) (hb : PE X b tb) (hc : PE X c tc)
    (hm : lastMarks [op, op'] [b, c] = false := by with_unfolding_all rfl) : PE X (.Compare a [op, op'] [b, c] pos) (tChain r r' ta tb tc) := by
  intro pins s σ H Q I h
  refine Compare_chain (thn (ha pins s σ H _ I h) fun v s1 ⟨x, H1, I1, r1, q1⟩ => chain_link (thn (hb pins s1 σ H1 _ I1 q1) fun u s2 ⟨y, H2, I2, r2, q2⟩ =>
    thn (ho pins s2 σ H2 x y v u _ I2 r1 r2 q2) fun d s3 ⟨z, H3, I3, r3, k, e, q3⟩ => ?_)) hm
  subst e
  cases r3
  refine wpAny_truthy_bool ?_
  cases k with
  | false => exact ite_ff ⟨.bl false, H3, I3, rfl, q3⟩
  | true => exact ite_tt (chain_last (thn (hc pins s3 σ H3 _ I3 q3) fun w' s4 ⟨z', H4, I4, r4, q4⟩ => ho' pins s4 σ H4 y z' u w' Q I4 r2 r4 q4))
theorem pt_chain {op op' : CmpOp} {r r' : R2} (ho : OpR X (compareOp op) r) (ho' : OpR X (compareOp op') r') (ha : PE X a ta) (hb : PE X b tb) (hc : PE X c tc)
    (hm : lastMarks [op, op'] [b, c] = false := by with_unfolding_all rfl) : PT X (.Compare a [op, op'] [b, c] pos) (tTest (tChain r r' ta tb tc)) := by
  intro pins s σ H Q I h
  refine isTrue_chain (thn (ha pins s σ H _ I h) fun v s1 ⟨x, H1, I1, r1, q1⟩ => test_link (thn (hb pins s1 σ H1 _ I1 q1) fun u s2 ⟨y, H2, I2, r2, q2⟩ =>
    thn (ho pins s2 σ H2 x y v u _ I2 r1 r2 q2) fun d s3 ⟨z, H3, I3, r3, k, e, q3⟩ => ?_)) hm
  subst e
  cases r3
  refine wpAny_truthy_bool ?_
  cases k with
  | false =>
    obtain ⟨k', e', q'⟩ := q3
    cases e'
    exact ite_ff ⟨H3, I3, q'⟩
  | true =>
    refine ite_tt (test_last (thn (hc pins s3 σ H3 _ I3 q3) fun w' s4 ⟨z', H4, I4, r4, q4⟩ => thn (ho' pins s4 σ H4 y z' u w' _ I4 r2 r4 q4) fun d' s5 ⟨z2, H5, I5, r5, k2, e2, q5⟩ => ?_))
    subst e2
    cases r5
    exact wpAny_truthy_bool ⟨H5, I5, q5⟩

/-! ### truth -/
theorem line63 : (sizeLine : Nat) < 2 ^ 63 := by rw [sizeLine_eq]; decide
/-! ### strs and bytes -/
theorem op_add_str : OpR X (binaryOp .Add) (fun x y H Q => ∃ i j, x = .str i ∧ y = .str j ∧ i.length + j.length ≤ sizeLine ∧ Q (.str (i ++ j)) H) := by
  intro pins s σ H x y v u Q I rx ry h
  obtain ⟨i, j, rfl, rfl, hz, q⟩ := h
  obtain ⟨t, rfl⟩ := rx
  obtain ⟨t', rfl⟩ := ry
  exact add_str (fun t' tk => ⟨.str (i ++ j), H, I.tok _, ⟨_, rfl⟩, q⟩) hz
/-! ### scalar builtins, by CallR -/
theorem vals1 {x : V} {us : List Value} (r : Vals [x] us) : ∃ u, us = [u] ∧ RelV x u := by
  cases r with
  | cons r1 r2 => cases r2; exact ⟨_, rfl, r1⟩
theorem vals2 {x y : V} {us : List Value} (r : Vals [x, y] us) : ∃ u w', us = [u, w'] ∧ RelV x u ∧ RelV y w' := by
  cases r with
  | cons r1 r2 =>
    cases r2 with
    | cons r3 r4 => cases r4; exact ⟨_, _, rfl, r1, r3⟩
theorem call_max2 (hc : X.calm = true) : CallR X (.builtin "max") (fun xs H Q => ∃ i j, xs = [.int i, .int j] ∧ Q (.int (if j > i then j else i)) H) := by
  intro pins s σ H xs us Q I r h
  obtain ⟨i, j, rfl, q⟩ := h
  obtain ⟨u, w', rfl, ⟨t, rfl⟩, ⟨t', rfl⟩⟩ := vals2 r
  refine max_two_ints (I.ok.hd hc) fun h' tk k => ⟨_, H, I.kept k, ?_, q⟩
  by_cases hj : j > i
  · rw [if_pos hj, if_pos hj]; exact ⟨_, rfl⟩
  · rw [if_neg hj, if_neg hj]; exact ⟨_, rfl⟩
theorem call_min2 (hc : X.calm = true) : CallR X (.builtin "min") (fun xs H Q => ∃ i j, xs = [.int i, .int j] ∧ Q (.int (if j < i then j else i)) H) := by
  intro pins s σ H xs us Q I r h
  obtain ⟨i, j, rfl, q⟩ := h
  obtain ⟨u, w', rfl, ⟨t, rfl⟩, ⟨t', rfl⟩⟩ := vals2 r
  refine min_two_ints (I.ok.hd hc) fun h' tk k => ⟨_, H, I.kept k, ?_, q⟩
  by_cases hj : j < i
  · rw [if_pos hj, if_pos hj]; exact ⟨_, rfl⟩
  · rw [if_neg hj, if_neg hj]; exact ⟨_, rfl⟩
theorem call_int1 : CallR X (.type "int") (fun xs H Q => (∃ i, xs = [.int i] ∧ Q (.int i) H) ∨ ∃ k, xs = [.bl k] ∧ Q (.int (if k then 1 else 0)) H) := by
  intro pins s σ H xs us Q I r h
  rcases h with ⟨i, rfl, q⟩ | ⟨k, rfl, q⟩
  · obtain ⟨u, rfl, t, rfl⟩ := vals1 r
    exact call_int_int ⟨.int i, H, I, ⟨_, rfl⟩, q⟩
  · obtain ⟨u, rfl, r1⟩ := vals1 r
    cases r1
    exact call_int_bool ⟨.int (if k then 1 else 0), H, I.tok _, ⟨_, rfl⟩, q⟩
theorem call_str_int : CallR X (.type "str") (fun xs H Q => ∃ i, xs = [.int i] ∧ i.natAbs.log2 < 1920 ∧ Q (.str (toString i)) H) := by
  intro pins s σ H xs us Q I r h
  obtain ⟨i, rfl, hz, q⟩ := h
  obtain ⟨u, rfl, t, rfl⟩ := vals1 r
  exact PySem.P.str_of_int hz ⟨.str _, H, I.tok _, ⟨_, rfl⟩, q⟩
/-- divmod: a new tuple -/
theorem call_divmod : CallR X (.builtin "divmod") (fun xs H Q => ∃ i j, xs = [.int i, .int j] ∧ CDiv i j ∧ ∀ p, H p = none → Q (.ref p) (upd H p (.tup [.int (i / j), .int (i % j)]))) := by
  intro pins s σ H xs us Q I r h
  obtain ⟨i, j, rfl, ⟨h1, h2⟩, q⟩ := h
  obtain ⟨u, w', rfl, ⟨t, rfl⟩, ⟨t', rfl⟩⟩ := vals2 r
  refine divmod_int (by omega) ?_ (.inl (PyProof.noPylong_small (by omega)))
  rw [Int.fdiv_eq_ediv_of_nonneg i (by omega), Int.fmod_eq_emod_of_nonneg i (by omega)]
  have hn : H s.heap.objs.size = none := I.hok.fresh (Nat.le_refl _)
  refine ⟨.ref s.heap.objs.size, _, ?_, rfl, q _ hn⟩
  refine I.laid (fun b o e => Heap.get?_push_of_some _ e) (Nat.le_refl _) ⟨by simp only [List.length_cons, List.length_nil]; rw [sizeLine_eq]; decide, [.int (i / j) s.toks, .int (i % j) (s.toks + 1)], .cons ⟨_, rfl⟩ (.cons ⟨_, rfl⟩ .nil), ?_⟩
  exact ⟨_, Heap.get?_push_size s.heap rfl, rfl, 0, rfl⟩
end
end L2

namespace L2
open PySem PySem.Spec PyProof.Rows

/-! ### an instance, its attributes a map -/
structure ObjM (h : Heap) (x dx C : Addr) (mA : Str → Option Value) : Prop where
  obj : h.get? x = some (PySem.W.instObj C dx)
  ns : h.Ns1 dx mA
  ne : dx ≠ x

theorem lookIn_ns {h : Heap} {dx : Addr} {mA : Str → Option Value} (n : h.Ns1 dx mA) : ∃ od, h.get? dx = some od ∧ ∀ name, PySem.W.lookIn name od = some (mA name) := by
  obtain ⟨o, es, ep, ho, hd, hk, _, hm⟩ := n
  refine ⟨o, ho, fun name => ?_⟩
  have e := hm name
  unfold nsFind findBy at e
  rw [← Array.find?_toList] at e
  unfold PySem.W.lookIn
  rw [hd]
  dsimp only
  split
  · rename_i y q
    rw [q] at e
    exact congrArg some e
  · rename_i q
    rw [q] at e
    have a : es.toList.any (·.refKey) = false := by
      rw [List.any_eq_false]
      intro y hy
      obtain ⟨z, t, hkey⟩ := hk y (Array.mem_toList_iff.mp hy)
      simp [DictEntry.refKey, hkey]
    have a' : ¬ es.toList.any (·.refKey) = true := by rw [a]; exact Bool.false_ne_true
    rw [if_neg a']
    exact congrArg some e

theorem ObjM.look {h : Heap} {x dx C : Addr} {mA : Str → Option Value} (I : ObjM h x dx C mA) : ∃ od, PySem.W.InstAt h x (PySem.W.instObj C dx) C (some od) ∧ ∀ name, PySem.W.lookIn name od = some (mA name) :=
  let ⟨od, ho, hl⟩ := lookIn_ns I.ns
  ⟨od, ⟨I.obj, rfl, rfl, ho⟩, hl⟩

section
variable {prog : Program} {w : World} {A : Around} {E : Value → Shared → Prop} {s : Shared} {K : PySem.W.Frag} {x dx C f : Addr} {mA : Str → Option Value} {name : Str} {v : Value}

end

/-! ### the attributes as a list of pairs -/
theorem RelO.some_of {v : V} {o : Option Value} (r : RelO (some v) o) : ∃ u, o = some u ∧ RelV v u := by
  cases o with
  | none => exact (show False from r).elim
  | some u => exact ⟨u, rfl, r⟩
section
variable {P : Program} {w : World} {H H' : Hp} {h h' : Heap} {a C dx : Addr} {fs fs' : List (Str × V)}
theorem ins_get (hok : HOk P w H h) (e : H a = some (.ins C dx fs)) : ∃ mA, ObjM h a dx C mA ∧ (∀ f, RelO (fs.lookup f) (mA f)) ∧ PySem.Within mA (fs.map (·.1)) ∧ fs.length ≤ 1000 ∧ H dx = some (.own a) := by
  obtain ⟨d, z, ne, ob, mA, n, r, q⟩ := (show ObjOk P w H h a (.ins C dx fs) from hok a _ e)
  exact ⟨mA, ⟨ob, n, ne⟩, r, q, z, d⟩
end

/-! ### what of the text a class must have -/
structure Cls (K : PySem.W.Frag) (C : Addr) : Prop where
  pg : PySem.W.plainGet K C Str.empty = true
  hd : PySem.W.hasDictIn K C = true
  po : PySem.W.plainOver K C = true
  sa : PySem.W.findIn K (.ref C) "__setattr__" = some (some (.builtin "object.__setattr__"))
theorem Cls.get {K : PySem.W.Frag} {C : Addr} (c : Cls K C) (f : Str) : PySem.W.plainGet K C f = true := c.pg
/-- a constant of the class -/
structure Con (K : PySem.W.Frag) (C : Addr) (f : Str) (v : V) (u : Value) : Prop where
  at_ : PySem.W.findIn K (.ref C) f = some (some u)
  rel : RelV v u
  get : PySem.W.specialIn K u "__get__" = some none
  cp : PySem.W.copiedNames.contains f = false
/-- a method: a plain def of the class or of one above it -/
structure Meth (K : PySem.W.Frag) (C : Addr) (m : Str) (f : Addr) : Prop where
  at_ : PySem.W.findIn K (.ref C) m = some (some (.ref f))
  fn : PySem.W.isFn K (.ref f) = true
  kp : PySem.W.keepIn K (.ref f) = true

section
variable {X : Cx} {pins : List (Addr × Obj)} {σ : St} {H : Hp} {s : Shared} {a C dx : Addr} {fs : List (Str × V)} {f : Str} {v : V} {A : Around} {E : Value → Shared → Prop}

end

/-! ### readings and rules -/
/-- an augmented operator on two values -/
noncomputable def InOp (X : Cx) (op : Operator) (rd : V → V → Hp → VK → Prop) : Prop :=
  ∀ (pins : List (Addr × Obj)) (s : Shared) (σ : St) (H : Hp) (x y : V) (u v : Value) (Q : VK), Inv X pins σ H s → RelV x u → RelV y v → rd x y H Q → wpAny (model X.prog X.w) X.A (inplaceOp op u v) (EP X pins σ Q) X.xe s
section
variable {X : Cx} {o e value : Expr} {f : Str} {pos pos' tpos : Pos} {ta tv : TE}
noncomputable def rAdd : V → V → Hp → VK → Prop := fun x y H Q => ∃ i j, x = .int i ∧ y = .int j ∧ Q (.int (i + j)) H
theorem in_add : InOp X .Add rAdd := by
  rintro pins s σ H x y u v Q I rx ry ⟨i, j, rfl, rfl, q⟩
  obtain ⟨t, rfl⟩ := (show ∃ t, u = Value.int i t from rx)
  obtain ⟨t', rfl⟩ := (show ∃ t', v = Value.int j t' from ry)
  exact PyProof.Rows.iadd_int ⟨.int (i + j), H, I.tok _, ⟨_, rfl⟩, q⟩
end

/-! ### isinstance -/
section
variable {X : Cx} {pins : List (Addr × Obj)} {σ : St} {H : Hp} {s : Shared} {A : Around} {E : Value → Shared → Prop} {Q : Value → Shared → Prop} {c : Value} {b : Bool}
/-- the type of a value, as the fragment's deciders take it; for an instance its class -/
inductive TyOf (K : PySem.W.Frag) (H : Hp) : V → Value → Prop where
  | non : TyOf K H .non (.type "NoneType")
  | bl (x : Bool) : TyOf K H (.bl x) (.type "bool")
  | int (i : Int) : TyOf K H (.int i) (.type "int")
  | str (x : Str) : TyOf K H (.str x) (.type "str")
  | flt (x : UInt64) : TyOf K H (.flt x) (.type "float")
  | lst {a : Addr} {xs : List V} (e : H a = some (.lst xs)) : TyOf K H (.ref a) (.type "list")
  | frz {a : Addr} {o : Obj} {xs : List V} (e : H a = some (.frz o (.lst xs))) : TyOf K H (.ref a) (.type "list")
  | tup {a : Addr} {xs : List V} (e : H a = some (.tup xs)) : TyOf K H (.ref a) (.type "tuple")
  | dK {a : Addr} {kvs : List (Key × V)} (e : H a = some (.dK kvs)) : TyOf K H (.ref a) (.type "dict")
  | dT {a : Addr} {kvs : List (List Key × V)} (e : H a = some (.dT kvs)) : TyOf K H (.ref a) (.type "dict")
  | ins {a C dx : Addr} {fs : List (Str × V)} (e : H a = some (.ins C dx fs)) (cl : Cls K C) (ha : PySem.W.findIn K (.ref C) "__class__" = some (some (.builtin "object.__class__")))
      (hn : PySem.W.specialIn K (.builtin "object.__class__") "__get__" = some (some (.builtin "getset_descriptor.__get__"))) (htk : PySem.W.takesIn K (.builtin "object.__class__") = some true)
      (hm : PySem.W.mroIn K C (.type "object") = some true) : TyOf K H (.ref a) (.ref C)
/-- isinstance(x, c) for one class c, a built-in or an own one: kitOne's answer -/
theorem isinst_ok {x : V} {u t : Value} (I : Inv X pins σ H s) (rx : RelV x u) (ty : TyOf X.K H x t) (e : PySem.W.kitOne X.K t c = some b) (h : ∀ tk, Q (.bool b) { s with toks := tk }) :
    wpAny (model X.prog X.w) A (call (.builtin "isinstance") [u, c]) Q E s := by
  cases ty with
  | non => cases (show u = Value.none from rx); exact PySem.W.kia_one PySem.W.kitx_none I.kIn True.intro e (fun z => nomatch z) h
  | bl y => cases (show u = Value.bool y from rx); exact PySem.W.kia_one PySem.W.kitx_bool I.kIn True.intro e (fun z => nomatch z) h
  | int i => obtain ⟨t, q⟩ := (show ∃ t, u = Value.int i t from rx); cases q; exact PySem.W.kia_one PySem.W.kitx_int I.kIn True.intro e (fun z => nomatch z) h
  | str y => obtain ⟨t, q⟩ := (show ∃ t, u = Value.str y t from rx); cases q; exact PySem.W.kia_one PySem.W.kitx_str I.kIn True.intro e (fun z => nomatch z) h
  | flt y => obtain ⟨t, q⟩ := (show ∃ t, u = Value.float y t from rx); cases q; exact PySem.W.kia_one PySem.W.kitx_float I.kIn True.intro e (fun z => nomatch z) h
  | @lst a xs ea =>
    cases (show u = Value.ref a from rx)
    obtain ⟨_, _, n, _, h1⟩ := (show ObjOk X.prog X.w H s.heap a (.lst xs) from I.hok a _ ea)
    exact PySem.W.kia_one PySem.W.kitx_list I.kIn ⟨_, h1, rfl⟩ e (fun z => nomatch z) h
  | @frz a ob xs ea =>
    cases (show u = Value.ref a from rx)
    obtain ⟨_, _, _, n, _, h1⟩ := (show ObjOk X.prog X.w H s.heap a (.frz ob (.lst xs)) from I.hok a _ ea)
    exact PySem.W.kia_one PySem.W.kitx_list I.kIn ⟨_, h1, rfl⟩ e (fun z => nomatch z) h
  | @tup a xs ea =>
    cases (show u = Value.ref a from rx)
    obtain ⟨_, _, _, p⟩ := (show ObjOk X.prog X.w H s.heap a (.tup xs) from I.hok a _ ea)
    obtain ⟨o, h1, h2, _⟩ := p
    exact PySem.W.kia_one PySem.W.kitx_tuple I.kIn ⟨o, h1, h2⟩ e (fun z => nomatch z) h
  | @dK a kvs ea =>
    cases (show u = Value.ref a from rx)
    obtain ⟨_, _, vs, _, p⟩ := (show ObjOk X.prog X.w H s.heap a (.dK kvs) from I.hok a _ ea)
    obtain ⟨o, es, ep, h1, h2, _⟩ := p
    exact PySem.W.kia_one PySem.W.kitx_dict I.kIn ⟨o, h1, h2.1⟩ e (fun z => nomatch z) h
  | @dT a kvs ea =>
    cases (show u = Value.ref a from rx)
    obtain ⟨_, _, xs, _, o, es, ep, h1, h2, _⟩ := (show ObjOk X.prog X.w H s.heap a (.dT kvs) from I.hok a _ ea)
    exact PySem.W.kia_one PySem.W.kitx_dict I.kIn ⟨o, h1, h2.1⟩ e (fun z => nomatch z) h
  | @ins a C dx fs ea cl ha hn htk hm =>
    cases (show u = Value.ref a from rx)
    obtain ⟨mA, O, _⟩ := ins_get I.hok ea
    obtain ⟨od, J, _⟩ := O.look
    exact PySem.W.kia_one (PySem.W.kitx_own (cl.get _) cl.hd ha hn htk hm) I.kIn J e (fun z => nomatch z) h
end
end L2

namespace L2
open PySem PySem.Spec PyProof.Rows

/-! ### room -/
structure Room (k : Nat) (A : Around) : Prop where
  hd : A.handled = none
  dp : A.depth + 3 * k + 5 < recursionLimit
  un : A.units + 16 * k + 200 < cLine
  gd : A.guards = some []
theorem Room.mono {j k : Nat} {A : Around} (r : Room k A) (h : j ≤ k) : Room j A := ⟨r.hd, by have := r.dp; omega, by have := r.un; omega, r.gd⟩
theorem Room.deeper {k : Nat} {A : Around} (r : Room (k + 1) A) (env : Env) : Room k (A.deeper env) :=
  ⟨r.hd, by have := r.dp; show A.depth + 1 + 3 * k + 5 < _; omega, by have := r.un; show A.units + 3 + 16 * k + 200 < _; omega, r.gd⟩
theorem Room.depth {k : Nat} {A : Around} (r : Room k A) : A.depth < recursionLimit := by have := r.dp; omega
theorem Room.units {k : Nat} {A : Around} (r : Room k A) : A.units + 64 < cLine := by have := r.un; omega
/-! ### argument lists and displays -/
noncomputable def tNil : TA := fun _ H Q => Q [] H
noncomputable def tCons (ta : TE) (tr : TA) : TA := fun σ H Q => ta σ H fun x H1 => tr σ H1 fun xs H2 => Q (x :: xs) H2
section
variable {X : Cx} {e : Expr} {es : List Expr} {te : TE} {t : TA} {pos : Pos}
theorem pa_nil : PA X [] tNil := fun _ _ _ _ H Q I h => Calls.spliced_nil ⟨[], H, I, .nil, h⟩
theorem pa_cons (ha : PE X e te) (hr : PA X es t) (hs : starEach (e :: es) X.env = (false, eval e X.env) :: starEach es X.env := by rfl) : PA X (e :: es) (tCons te t) := by
  intro pos pins s σ H Q I h
  rw [hs]
  show wpAny _ _ (spliced ((false, eval e X.env) :: backTo pos (starEach es X.env))) _ _ s
  refine Calls.spliced_cons (thn (ha pins s σ H _ I h) fun u s1 ⟨x, H1, I1, r1, q1⟩ => ?_)
  exact thn (hr pos pins s1 σ H1 _ I1 q1) fun us s2 ⟨xs, H2, I2, r2, q2⟩ => ⟨x :: xs, H2, I2, .cons r1 r2, q2⟩

/-- a tuple, a list of written items -/
noncomputable def tTup (t : TA) : TE := fun σ H Q => t σ H fun xs H1 => xs.length ≤ sizeLine ∧ ∀ p, H1 p = none → Q (.ref p) (upd H1 p (.tup xs))
noncomputable def tLst (t : TA) : TE := fun σ H Q => t σ H fun xs H1 => xs.length ≤ sizeLine ∧ ∀ p, H1 p = none → Q (.ref p) (upd H1 p (.lst xs))
theorem pe_tup {x1} (h : PA X es t) : PE X (.Tuple es x1 pos) (tTup t) := by
  intro pins s σ H Q I hq
  refine wpAny_Tuple_spliced (thn (h pos pins s σ H _ I hq) fun us s1 ⟨xs, H1, I1, r, z, q⟩ => ⟨by rw [← r.length]; exact z, ?_⟩)
  have hf : H1 s1.heap.objs.size = none := I1.hok.fresh (Nat.le_refl _)
  refine ⟨.ref s1.heap.objs.size, upd H1 s1.heap.objs.size (.tup xs), I1.laid (t' := s1.toks) (fun b u e => Heap.get?_push_of_some _ e) (Nat.le_refl _) ?_, rfl, q _ hf⟩
  exact ⟨z, us, r, ⟨_, Heap.get?_push_size _ rfl, rfl, _, rfl⟩⟩
theorem pe_lst (h : PA X es t) : PE X (.List es pos) (tLst t) := by
  intro pins s σ H Q I hq
  refine wpAny_List_spliced (thn (h pos pins s σ H _ I hq) fun us s1 ⟨xs, H1, I1, r, z, q⟩ => ⟨by rw [← r.length]; exact z, ?_⟩)
  have hf : H1 s1.heap.objs.size = none := I1.hok.fresh (Nat.le_refl _)
  refine ⟨.ref s1.heap.objs.size, upd H1 s1.heap.objs.size (.lst xs), I1.laid (t' := s1.toks) (fun b u e => Heap.get?_push_of_some _ e) (Nat.le_refl _) ?_, rfl, q _ hf⟩
  exact ⟨z, us, 0, r, Heap.get?_push_size _ rfl⟩
end

/-! ### what a def promises -/
/-- a def's promise: the bound arguments in the parameters' order, the heap, the wanted end, the wanted exception -/
noncomputable abbrev Sp := List V → Hp → VK → XK → Prop
/-- how an exception lies behind a call (file 08 gives it): the callers' frames, abstract heap and state ahead of the call, the wish, the exception, the state -/
noncomputable abbrev CXT := List Env → Hp → Shared → XK → Value → Shared → Prop

/-- the state at a call -/
structure Env0 (P : Program) (w : World) (K : PySem.W.Frag) (mg : Str → Option Value) (base : Heap) (A : Around) (outer : List Env) (s : Shared) (H : Hp) : Prop where
  frames : A.frames = some outer
  mod : Mod K mg base
  bs : ∀ b o, base.get? b = some o → s.heap.get? b = some o ∧ H b = none
  bsz : base.objs.size ≤ s.heap.objs.size
  funs : s.heap.FunFrames base outer
  frf : ∀ b ∈ frs outer, H b = none
  hok : HOk P w H s.heap
  bare : AllBare s.gens
/-- a call's end -/
noncomputable def CE (outer : List Env) (P : Program) (w : World) (H : Hp) (s : Shared) (Q : VK) (u : Value) (s' : Shared) : Prop :=
  ∃ v H', s'.os = s.os ∧ AllBare s'.gens ∧ Un (frs outer) [] H H' s.heap s'.heap ∧ HOk P w H' s'.heap ∧ RelV v u ∧ Q v H'
noncomputable def CR (CX : CXT) (outer : List Env) (P : Program) (w : World) (H : Hp) (s : Shared) (Q : VK) (E : XK) (r : Result) (s' : Shared) : Prop :=
  match r with
  | .ok (.ret u) => CE outer P w H s Q u s'
  | .ok _ => False
  | .error e => CX outer H s E e s'
structure FnOk (P : Program) (w : World) (K : PySem.W.Frag) (mg : Str → Option Value) (base : Heap) (CX : CXT) (k : Nat) (f : Addr) (fd : FuncData) (ps : List Str) (sp : Sp) : Prop where
  len : ∀ vs H Q E, sp vs H Q E → vs.length = ps.length
  run : ∀ (A : Around) (outer : List Env) (s : Shared) (H : Hp) (args : Args) (us : List Value) (vs : List V) (Q : VK) (E : XK), Room k A → Env0 P w K mg base A outer s H → BindsTo s fd args (ps.zip us) → Vals vs us → sp vs H Q E →
    codeAny (model P w) A (.call (.ref f) args) (CR CX outer P w H s Q E) s
/-- a weaker promise -/
theorem FnOk.imp {P : Program} {w : World} {K : PySem.W.Frag} {mg : Str → Option Value} {base : Heap} {CX : CXT} {k : Nat} {f : Addr} {fd : FuncData} {ps : List Str} {sp sp' : Sp} (F : FnOk P w K mg base CX k f fd ps sp)
    (h : ∀ vs H Q E, sp' vs H Q E → sp vs H Q E) : FnOk P w K mg base CX k f fd ps sp' :=
  ⟨fun vs H Q E q => F.len vs H Q E (h _ _ _ _ q), fun A outer s H args us vs Q E hr he hb hv hs => F.run A outer s H args us vs Q E hr he hb hv (h _ _ _ _ hs)⟩

section
variable {X : Cx} {pins : List (Addr × Obj)} {σ : St} {H : Hp} {s s' : Shared}
/-- from a body: what a callee wants -/
theorem Inv.env0 (I : Inv X pins σ H s) : Env0 X.prog X.w X.K X.mg X.base X.A X.stack s H :=
  ⟨I.ok.frames, I.ok.mod, I.bs, Nat.le_trans I.ok.bsz I.sz, I.stack, I.stkFree, I.hok, I.bare⟩
/-- behind a call -/
theorem Inv.after {Q : VK} {u : Value} (I : Inv X pins σ H s) (h : CE X.stack X.prog X.w H s Q u s') : EP X pins σ Q u s' := by
  obtain ⟨v, H', os, bare, un, hok, r, q⟩ := h
  obtain ⟨hh, g, d, t, os'⟩ := s'
  obtain rfl : os' = s.os := os
  exact ⟨v, H', I.call (h' := hh) (g' := g) (d' := d) (t' := t) (ch := []) un hok bare (fun b z => absurd z (by simp)), r, q⟩
end

/-! ### calls -/
/-- f(..): the written arguments, then the defaults dvs; E: what is wanted of an exception -/
noncomputable def tCall (sp : Sp) (dvs : List V) (E : XK) (t : TA) : TE := fun σ H Q => t σ H fun vs H1 => sp (vs ++ dvs) H1 Q E
/-- how the parameters are bound: us the positional arguments, kw the keywords' values by name, ds the defaults that fill up -/
noncomputable def Binds (K : PySem.W.Frag) (fd : FuncData) (ps : List Str) (ds : List Value) : Prop :=
  ∀ (s : Shared) (us : List Value), K.In s.heap → (us ++ ds).length = ps.length → BindsTo s fd ⟨us, []⟩ (ps.zip (us ++ ds))
/-- every parameter is given -/
theorem Binds.all {K : PySem.W.Frag} {fd : FuncData} {ps : List Str} (h : ∀ us : List Value, us.length = ps.length → bindArgs fd ⟨us, []⟩ = pure (ps.zip us)) : Binds K fd ps [] := fun s us _ hl => by
  rw [List.append_nil] at hl ⊢
  exact .of_eq (h us hl)

/-- an exception of a callee reaches what this body wants of exceptions -/
noncomputable def Passes (CX : CXT) (X : Cx) (E : XK) : Prop := ∀ (pins : List (Addr × Obj)) (σ : St) (H : Hp) (s : Shared) (e : Value) (s' : Shared), Inv X pins σ H s → CX X.stack H s E e s' → X.xe e s'

section
variable {X : Cx} {CX : CXT} {k : Nat} {f C : Addr} {fd : FuncData} {ps : List Str} {sp : Sp} {dvs : List V} {ds : List Value} {E : XK} {x m : Str} {p pos apos : Pos} {e o : Expr} {es : List Expr} {ta : TE} {t : TA}

/-- the callee runs -/
theorem run_fn {pins : List (Addr × Obj)} {σ : St} {H : Hp} {s : Shared} {Q : VK} {us : List Value} {vs : List V} (F : FnOk X.prog X.w X.K X.mg X.base CX k f fd ps sp) (hr : Room k X.A) (hb : Binds X.K fd ps ds) (hd : Vals dvs ds) (hx : Passes CX X E)
    (I : Inv X pins σ H s) (r : Vals vs us) (h : sp (vs ++ dvs) H Q E) : wpAny (model X.prog X.w) X.A (call (.ref f) us) (EP X pins σ Q) X.xe s := by
  have r2 : Vals (vs ++ dvs) (us ++ ds) := r.append hd
  have hl : (us ++ ds).length = ps.length := by rw [← r2.length]; exact F.len _ _ _ _ h
  refine wpAny_call (codeAny_mono (F.run X.A X.stack s H ⟨us, []⟩ (us ++ ds) (vs ++ dvs) Q E hr I.env0 (hb s us I.kIn hl) r2 h) fun r s' hq => ?_)
  cases r with
  | error e => exact hx pins σ H s e s' I hq
  | ok fl =>
    cases fl with
    | ret u => exact I.after hq
    | next => exact False.elim hq
    | brk => exact False.elim hq
    | cont => exact False.elim hq

theorem pe_call (F : FnOk X.prog X.w X.K X.mg X.base CX k f fd ps sp) (hr : Room k X.A) (hg : Gl X x) (hm : X.mg x = some (.ref f)) (hk : PySem.W.keepIn X.K (.ref f) = true) (hb : Binds X.K fd ps ds) (hd : Vals dvs ds) (hx : Passes CX X E)
    (ha : PA X (e :: es) t) (hdb : (x == ("__debug__" : Str)) = false := by decide) (he : starEach (e :: es) X.env = (false, eval e X.env) :: starEach es X.env := by rfl) (hpl : (backTo pos (starEach es X.env)).any (·.1) = false := by rfl) :
    PE X (.Call (.Name x p) (e :: es) [] pos) (tCall sp dvs E t) := by
  intro pins s σ H Q I h
  refine wpAny_Call_Name_kw (ld_glob I hg hm ?_ hdb)
  refine PySem.W.callWith_K (h₀ := X.base) I.ok.mod.kin hk (thn (ha pos pins s σ H _ I h) fun us s1 ⟨vs, H1, I1, r, q⟩ => ⟨I1.kIn, ?_⟩) he hpl
  exact run_fn F hr hb hd hx I1 r q
/-- what a class must have to be made -/
structure Mk (K : PySem.W.Frag) (C f : Addr) : Prop where
  makes : PySem.W.makesIn K C = true
  init : PySem.W.findIn K (.ref C) "__init__" = some (some (.ref f))
  fn : PySem.W.isFn K (.ref f) = true
  kp : PySem.W.keepIn K (.ref C) = true

end

/-! ### keywords -/
section
variable {X : Cx} {CX : CXT} {k : Nat} {f C : Addr} {fd : FuncData} {ps ks : List Str} {sp : Sp} {E : XK} {x m : Str} {p pos apos kpos : Pos} {e o : Expr} {es : List Expr} {kws : List Keyword} {te ta : TE} {t tk : TA} {nm : Option Str}
/-- how a call with keywords binds: g puts the positional values us and the keywords' values ws (names ks) in the parameters' order, defaults among them -/
structure KBinds (K : PySem.W.Frag) (fd : FuncData) (ps ks : List Str) (g : List Value → List Value → List Value) (gV : List V → List V → List V) : Prop where
  to : ∀ (s : Shared) (us ws : List Value), K.In s.heap → (g us ws).length = ps.length → BindsTo s fd ⟨us, ks.zip ws⟩ (ps.zip (g us ws))
  rel : ∀ {vs : List V} {us : List Value} {zs : List V} {ws : List Value}, Vals vs us → Vals zs ws → Vals (gV vs zs) (g us ws)
variable {g : List Value → List Value → List Value} {gV : List V → List V → List V}
end

/-! ### a def's body keeps its promise -/
/-- names: the parameters first -/
structure FnScope (N P : List Str) (sc : Scope) : Prop where
  kind : sc.kind = .function
  co : sc.isCoroutine = false
  gen : sc.isGenerator = false
  nd : N.Nodup
  pre : N.take P.length = P
  par : ∀ x ∈ P, sc.names.lookup x = some .local ∨ sc.names.lookup x = some .cell
  nofree : ∀ y ∈ sc.names, y.2 ≠ .free

theorem bindL_out {kindOf : Str → Option NameKind} {x : Str} : ∀ {binds : List (Str × Value)} {m : Str → Option Value}, (∀ v, (x, v) ∉ binds) → bindL kindOf binds m x = m x
  | [], _, _ => rfl
  | (n, v) :: r, m, h => by
    unfold bindL
    rw [bindL_out fun w hw => h w (List.mem_cons_of_mem _ hw)]
    split
    · have : x ≠ n := by rintro rfl; exact h v List.mem_cons_self
      simp [this]
    · rfl
theorem bindC_out {kindOf : Str → Option NameKind} {x : Str} : ∀ {binds : List (Str × Value)} {m : Str → Option Value}, (∀ v, (x, v) ∉ binds) → bindC kindOf binds m x = m x
  | [], _, _ => rfl
  | (n, v) :: r, m, h => by
    unfold bindC
    rw [bindC_out fun w hw => h w (List.mem_cons_of_mem _ hw)]
    split
    · rfl
    · have : x ≠ n := by rintro rfl; exact h v List.mem_cons_self
      simp [this]
theorem bindL_get {kindOf : Str → Option NameKind} {x : Str} {v : Value} : ∀ {P : List Str} {vs : List Value} {i : Nat} {m : Str → Option Value}, P.Nodup → P[i]? = some x → vs[i]? = some v → kindOf x = some .local →
    bindL kindOf (P.zip vs) m x = some v
  | [], _, _, _, _, h, _, _ => by simp at h
  | _ :: _, [], _, _, _, _, h, _ => by simp at h
  | p :: P, w :: vs, 0, m, nd, h1, h2, hk => by
    simp at h1 h2; subst h1; subst h2
    show bindL kindOf ((p, w) :: P.zip vs) m p = _
    unfold bindL
    rw [bindL_out fun v hv => (List.nodup_cons.mp nd).1 (List.of_mem_zip hv).1, if_pos hk]
    simp
  | p :: P, w :: vs, i + 1, m, nd, h1, h2, hk => by
    show bindL kindOf ((p, w) :: P.zip vs) m x = _
    unfold bindL
    exact bindL_get (i := i) (List.nodup_cons.mp nd).2 (by simpa using h1) (by simpa using h2) hk
theorem bindC_get {kindOf : Str → Option NameKind} {x : Str} {v : Value} : ∀ {P : List Str} {vs : List Value} {i : Nat} {m : Str → Option Value}, P.Nodup → P[i]? = some x → vs[i]? = some v → kindOf x ≠ some .local →
    bindC kindOf (P.zip vs) m x = some v
  | [], _, _, _, _, h, _, _ => by simp at h
  | _ :: _, [], _, _, _, _, h, _ => by simp at h
  | p :: P, w :: vs, 0, m, nd, h1, h2, hk => by
    simp at h1 h2; subst h1; subst h2
    show bindC kindOf ((p, w) :: P.zip vs) m p = _
    unfold bindC
    rw [bindC_out fun v hv => (List.nodup_cons.mp nd).1 (List.of_mem_zip hv).1, if_neg hk]
    simp
  | p :: P, w :: vs, i + 1, m, nd, h1, h2, hk => by
    show bindC kindOf ((p, w) :: P.zip vs) m x = _
    unfold bindC
    exact bindC_get (i := i) (List.nodup_cons.mp nd).2 (by simpa using h1) (by simpa using h2) hk

/-- the names' values at the entry -/
noncomputable def start (N : List Str) (vs : List V) : St := vs.map some ++ List.replicate (N.length - vs.length) none

/-- the context of a def's body, at its entry; an exception leaves the frame, then lies as CX says -/
noncomputable def cxOf (CX : CXT) (P : Program) (w : World) (K : PySem.W.Frag) (mg : Str → Option Value) (base : Heap) (N : List Str) (qual : Str) (scope : Scope) (f : Addr) (cd : Value) (A : Around) (outer : List Env) (s : Shared) (H : Hp) (E : XK) : Cx where
  prog := P
  w := w
  K := K
  mg := mg
  base := base
  A := A.deeper (envOfC qual scope s.heap.objs.size f cd)
  N := N
  s₀ := s
  H₀ := H
  env := envOfC qual scope s.heap.objs.size f cd
  outer := outer
  stack := envOfC qual scope s.heap.objs.size f cd :: outer
  ex := []
  calm := true
  fn := fun _ => true
  pn := []
  xe := fun e s' => wpAny (model P w) (A.deeper (envOfC qual scope s.heap.objs.size f cd)) (leaving (envOfC qual scope s.heap.objs.size f cd) e) (fun _ s'' => CX outer H s E e s'') (fun e' s'' => CX outer H s E e' s'') s'

theorem cell_has {sc : Scope} {n : Nat} {x : Str} (h : sc.names.lookup x = some .cell) : ∃ c, (cellsFrom n sc.names []).lookup x = some c := by
  have q := PySem.W.cellsFrom_some sc.names n [] (.inl h)
  exact Option.isSome_iff_exists.mp q

theorem inv_start {CX : CXT} {P : Program} {w : World} {K : PySem.W.Frag} {mg : Str → Option Value} {base : Heap} {N ps : List Str} {qual : Str} {scope : Scope} {f : Addr} {cd : Value} {A : Around} {outer : List Env} {s s1 : Shared} {H : Hp} {E : XK} {us : List Value} {vs : List V}
    (S : FnScope N ps scope) (hd : A.handled = none) (e0 : Env0 P w K mg base A outer s H) (hl : vs.length = ps.length) (r : Vals vs us)
    (x : InCallC s s.heap.objs.size (bindL (envOfC qual scope s.heap.objs.size f cd).kindOf (ps.zip us) fun _ => none) (cellsFrom (s.heap.objs.size + 1) scope.names []) (bindC (envOfC qual scope s.heap.objs.size f cd).kindOf (ps.zip us) fun _ => none) s1) :
    Inv (cxOf CX P w K mg base N qual scope f cd A outer s H E) [] (start N vs) H s1 := by
  have hpl : ps.length ≤ N.length := by have := congrArg List.length S.pre; rw [List.length_take] at this; omega
  obtain ⟨h1, tk, rfl, hk⟩ := x.done
  have noA : ∀ b : Addr, b ∉ (cxOf CX P w K mg base N qual scope f cd A outer s H E).ex := fun b z => absurd (show b ∈ ([] : List Addr) from z) (by simp)
  refine ⟨⟨e0.mod, S.kind, rfl, rfl, Nat.le_refl _, fun y z c h1 h2 => ?_, fun y hy => ?_, fun y c _ h => ?_, fun _ => hd, Around.frames_deeper e0.frames, .inr ⟨rfl, rfl⟩, fun b z => absurd z (noA b), e0.bs, e0.bsz, fun b _ _ => noA b, fun b z => absurd z (noA b), e0.funs, e0.frf⟩,
    rfl, e0.bare, Un.kept hk, ⟨_, x.toInCall.ns, fun i y v h1 h2 h3 => ?_⟩, fun y c h => ⟨_, x.cell y c h⟩, e0.hok.fresh (Nat.le_refl _), fun y c h => ?_, fun p hp => absurd (show p ∈ ([] : List (Addr × Obj)) from hp) (by simp), e0.hok.kept hk, ?_⟩
  · exact name_of_addr x.apart (PySem.mem_of_lookup h1) (PySem.mem_of_lookup h2)
  · have hy : scope.names.lookup y = some .cell ∨ scope.names.lookup y = some .free := hy
    rcases hy with hy | hy
    · exact cell_has hy
    · exact absurd rfl (S.nofree _ (PySem.mem_of_lookup hy))
  · exact Nat.le_of_lt (x.above y c (PySem.mem_of_lookup h))
  · have hi : i < vs.length := by
      unfold start at h2
      by_cases hi : i < vs.length
      · exact hi
      · rw [List.getElem?_append_right (by simpa using hi)] at h2
        rw [List.getElem?_replicate] at h2
        split at h2 <;> cases h2
    have ha : vs[i]? = some v := by
      unfold start at h2
      rw [List.getElem?_append_left (by simpa using hi), List.getElem?_map] at h2
      cases e : vs[i]? with
      | none => rw [e] at h2; cases h2
      | some a => rw [e] at h2; cases h2; rfl
    obtain ⟨u, hu, rv⟩ := r.get ha
    have hp : ps[i]? = some y := by
      rw [← S.pre, List.getElem?_take_of_lt (by omega)]; exact h1
    have ndP : ps.Nodup := by rw [← S.pre]; exact S.nd.sublist (List.take_sublist _ _)
    refine ⟨u, rv, ?_⟩
    rcases S.par y (List.mem_of_getElem? hp) with k | k
    · exact .inl ⟨k, bindL_get ndP hp hu k⟩
    · obtain ⟨c, e⟩ := cell_has (n := s.heap.objs.size + 1) k
      refine .inr ⟨.inl k, c, e, ?_⟩
      have q := x.cell y c e
      rw [bindC_get ndP hp hu (by show scope.names.lookup y ≠ _; rw [k]; decide)] at q
      exact q
  · exact e0.hok.fresh (Nat.le_of_lt (x.above y c (PySem.mem_of_lookup h)))
  · unfold start
    show _ = N.length
    rw [List.length_append, List.length_map, List.length_replicate]
    omega

/-- THE RULE: a def (or a method) of the text, by its body. The body's reading t is chosen for each entry; it is run at the parameters' values -/
theorem fn_of {CX : CXT} {P : Program} {w : World} {K : PySem.W.Frag} {mg : Str → Option Value} {base : Heap} {k : Nat} {f : Addr} {name qual : Str} {params : Arguments} {body : List Stmt} {scope : Scope} {dV kV doc pm cdv ct oc : Value} {an od : Option Addr}
    {osl : Array (Option Value)} {N ps : List Str} {sp : Sp} (lk : K.lookup f = some ⟨oc, od, .func (PySem.W.fnOf name qual params body scope dV kV doc pm an cdv ct), osl⟩) (hcd : PySem.W.codeIn K cdv qual = true) (S : FnScope N ps scope)
    (len : ∀ vs H Q E, sp vs H Q E → vs.length = ps.length)
    (hbody : ∀ (A : Around) (outer : List Env) (s : Shared) (H : Hp) (vs : List V) (Q : VK) (E : XK), Room k (A.deeper (envOfC qual scope s.heap.objs.size f cdv)) → sp vs H Q E →
      ∃ t, PSs (cxOf CX P w K mg base N qual scope f cdv A outer s H E) body t ∧ t { nx := fun _ H' => Q .non H', rt := Q } (start N vs) H) :
    FnOk P w K mg base CX (k + 1) f (PySem.W.fnOf name qual params body scope dV kV doc pm an cdv ct) ps sp := by
  refine ⟨len, fun A outer s H args us vs Q E hr e0 hb r hsp => ?_⟩
  have hl := len _ _ _ _ hsp
  have KX : K.In s.heap := e0.mod.kin.keeps fun b o e => (e0.bs b o e).1
  have lim : s.heap.NoLimit := e0.mod.nolimit.keeps fun b o e => (e0.bs b o e).1
  have hkind : ∀ y ∈ ps.zip us, scope.names.lookup y.1 = some .local ∨ (scope.names.lookup y.1 = some .cell ∧ ((cellsFrom (s.heap.objs.size + 1) scope.names []).lookup y.1).isSome = true) := fun ⟨n, v⟩ hy => by
    rcases S.par n (List.of_mem_zip hy).1 with q | q
    · exact .inl q
    · exact .inr ⟨q, PySem.W.cellsFrom_some _ _ _ (.inl q)⟩
  refine codeAny_call_function hr.depth (KX _ _ lk) rfl S.co S.gen rfl (PySem.W.codeRec_of KX hcd) (hb _ _ _ _ ?_)
  refine wpAny_newFunctionEnv_cells S.kind hkind fun env he s1 x => ?_
  subst he
  refine ⟨lim.keeps x.toInCall.keep, codeAny_func ?_⟩
  obtain ⟨t, ht, hq⟩ := hbody A outer s H vs Q E (hr.deeper _) hsp
  have I : Inv (cxOf CX P w K mg base N qual scope f cdv A outer s H E) [] (start N vs) H s1 := inv_start S hr.hd e0 hl r x
  refine wpAny_mono (ht [] s1 (start N vs) H _ I hq) (fun fl s' hs => ?_) fun e s' hs => hs
  have fin : ∀ {σ' : St} {H' : Hp} {v : V} {u : Value}, Inv (cxOf CX P w K mg base N qual scope f cdv A outer s H E) [] σ' H' s' → RelV v u → Q v H' → CE outer P w H s Q u s' :=
    fun {σ' H' v u} J rv q => ⟨v, H', J.os, J.bare, J.base, J.hok, rv, q⟩
  cases fl with
  | ret u =>
    obtain ⟨v, σ', H', J, rv, q⟩ := hs
    exact fin J rv q
  | next =>
    obtain ⟨σ', H', J, q⟩ := hs
    exact fin (v := V.non) (u := Value.none) J rfl q
  | brk =>
    obtain ⟨_, _, _, q⟩ := hs
    exact False.elim q
  | cont =>
    obtain ⟨_, _, _, q⟩ := hs
    exact False.elim q
end L2

namespace L2
open PySem PySem.Spec PyProof.Rows
section
variable {X : Cx} {x : Str} {p pos : Pos} {e : Expr} {es : List Expr} {t : TA} {id T : String} {r : List V → Hp → VK → Prop}

noncomputable def tCB (r : List V → Hp → VK → Prop) (t : TA) : TE := fun σ H Q => t σ H fun vs H1 => r vs H1 Q
/-- f(e, ..), f a built-in function -/
theorem pe_callB (hc : CallR X (.builtin id) r) (hg : Gl X x) (hm : X.mg x = none) (hv : bootBuiltins x = some (.builtin id)) (ha : PA X (e :: es) t) (hn : x ≠ "__name__" := by decide) (hdb : (x == ("__debug__" : Str)) = false := by decide)
    (he : starEach (e :: es) X.env = (false, eval e X.env) :: starEach es X.env := by rfl) (hpl : (backTo pos (starEach es X.env)).any (·.1) = false := by rfl) : PE X (.Call (.Name x p) (e :: es) [] pos) (tCB r t) := by
  intro pins s σ H Q I h
  refine wpAny_Call_Name_kw (ld_blt I hg hm hv ?_ hn hdb)
  exact PyProof.Rows.callWith_builtin1 (thn (ha pos pins s σ H _ I h) fun us s1 ⟨vs, H1, I1, r1, q1⟩ => hc pins s1 σ H1 vs us Q I1 r1 q1) he hpl
/-- T(e, ..), T a built-in type -/
theorem pe_callTy (hc : CallR X (.type T) r) (hg : Gl X x) (hm : X.mg x = none) (hv : bootBuiltins x = some (.type T)) (ha : PA X (e :: es) t) (hn : x ≠ "__name__" := by decide) (hdb : (x == ("__debug__" : Str)) = false := by decide)
    (he : starEach (e :: es) X.env = (false, eval e X.env) :: starEach es X.env := by rfl) (hpl : (backTo pos (starEach es X.env)).any (·.1) = false := by rfl) : PE X (.Call (.Name x p) (e :: es) [] pos) (tCB r t) := by
  intro pins s σ H Q I h
  refine wpAny_Call_Name_kw (ld_blt I hg hm hv ?_ hn hdb)
  exact PyProof.Rows.callWith_type1 (thn (ha pos pins s σ H _ I h) fun us s1 ⟨vs, H1, I1, r1, q1⟩ => hc pins s1 σ H1 vs us Q I1 r1 q1) he hpl
end
end L2

namespace HT
open PySem PyProof.Rows

theorem rcLt_int (A : Around) (s : Shared) (a : Int) (t : Tok) (c : Int) (u : Tok) (prog : Program) (w : World) (E : Value → Shared → Prop) (Q : Value → Shared → Prop) (h : Q (.bool (decide (a < c))) s) :
    wpAny (model prog w) A (richCompare .Lt (.int a t) (.int c u)) Q E s :=
  (PyProof.Rows.lt_int h : wpAny (model prog w) A (compareOp .Lt (.int a t) (.int c u)) Q E s)

section
open PySem.SeqAt
open PySem.AutoSeq1 (wpAny_loadPart')
open PySem.MeetsSeq PySem.MeetsSeq2 PySem.MeetsSeq3

end

section
variable {prog : Program} {w : World} {A : Around} {E : Value → Shared → Prop} {s : Shared}

/-- t + u, t not empty -/
theorem cat_tup {t b : Addr} {vs ws : List Value} {Q : Value → Shared → Prop} (ht : IsTup s.heap t vs.toArray) (hb : IsTup s.heap b ws.toArray) (hv : vs ≠ [])
    (h1 : ws = [] → Q (.ref t) s) (h2 : ws ≠ [] → Q (.ref s.heap.objs.size) { s with heap := s.heap.push { cls := .type "tuple", data := .seq (vs ++ ws).toArray } })
    (hsz : vs.length + ws.length ≤ sizeLine) : wpAny (model prog w) A (binaryOp .Add (.ref t) (.ref b)) Q E s := by
  obtain ⟨⟨cls, dd, data, sl⟩, ho, hc, n, hd⟩ := id ht
  obtain ⟨⟨cls2, dd2, data2, sl2⟩, ho2, hc2, n2, hd2⟩ := id hb
  simp only at hc hd hc2 hd2
  subst hc hd hc2 hd2
  have e : vs.toArray ++ ws.toArray = (vs ++ ws).toArray := by simp
  by_cases hw : ws = []
  · exact concat_meets ⟨_, ho, rfl⟩ ⟨_, ho2, rfl⟩ noFill_tuple_add seq_tuple_add PySem.F.slot_tuple_add PySem.F.entry_tuple_add (PySem.F.args_tuple_add_2 _ _)
      (tuple_addW1 t b vs.toArray ws.toArray n n2 dd dd2 sl sl2 (by simpa using hv) (by simp [hw])) ⟨ho, ho2, h1 hw⟩
  · refine concat_meets ⟨_, ho, rfl⟩ ⟨_, ho2, rfl⟩ noFill_tuple_add seq_tuple_add PySem.F.slot_tuple_add PySem.F.entry_tuple_add (PySem.F.args_tuple_add_2 _ _)
      (tuple_addW2 t b vs.toArray ws.toArray n n2 dd dd2 sl sl2 (by simpa using hv) (by simpa using hw) (by rw [List.size_toArray, List.size_toArray]; exact hsz)) ⟨ho, ho2, ?_⟩
    rw [e]
    exact h2 hw

/-! ### t[a:b], not the whole -/
/-- a slice's bound as a place among n (d where it is left out) -/
noncomputable def sIx (n d : Nat) : Option Int → Nat
  | none => d
  | some v => if v < 0 then (v + (n : Int)).toNat else min v.toNat n
theorem sIx_le (n d : Nat) (hd : d ≤ n) (o : Option Int) : sIx n d o ≤ n := by
  cases o with
  | none => exact hd
  | some v =>
    show (if v < 0 then (v + (n : Int)).toNat else min v.toNat n) ≤ n
    by_cases hv : v < 0
    · rw [if_pos hv]; omega
    · rw [if_neg hv]; exact Nat.min_le_right _ _
theorem clip_eq (v : Int) (n d : Nat) : (if v < 0 then max (v + (n : Int)) 0 else min v (n : Int)) = ((sIx n d (some v) : Nat) : Int) := by
  show (if v < 0 then max (v + (n : Int)) 0 else min v (n : Int)) = (((if v < 0 then (v + (n : Int)).toNat else min v.toNat n) : Nat) : Int)
  by_cases hv : v < 0
  · simp only [if_pos hv]; omega
  · simp only [if_neg hv]; omega
theorem adjust_gen (lo hi : Option Int) (n : Nat) : Builtin.Slice.sliceAdjust lo hi 1 (n : Int) = (((sIx n 0 lo : Nat) : Int), ((sIx n n hi : Nat) : Int)) := by
  have h1 : ¬ ((1 : Int) < 0) := by omega
  unfold Builtin.Slice.sliceAdjust
  simp only [h1, if_false]
  refine Prod.ext ?_ ?_
  · cases lo with
    | none => rfl
    | some v => exact clip_eq v n 0
  · cases hi with
    | none => rfl
    | some v => exact clip_eq v n n
theorem places_gen (i j : Nat) : Builtin.Slice.slicePlaces (i : Int) (j : Int) 1 = j - i := by
  unfold Builtin.Slice.slicePlaces
  have h1 : (1 : Int) > 0 := by omega
  simp only [h1, if_true, Int.ediv_one]
  split <;> omega
theorem slicePart_ {v : Value} {o : Option Int} {Q : Option Int → Shared → Prop} (p : IsPart v o) (h : Q o s) : wpAny (model prog w) A (Builtin.Slice.slicePartIndex v) Q E s := by
  cases p with
  | none => exact slicePart_none h
  | int i t => exact slicePart_int h
theorem sliceApplied_gen {sl : Addr} {vl vu : Value} {lo hi : Option Int} {n : Nat} {Q : Int × Int × Nat → Shared → Prop} (hs : s.heap.IsSliceOf sl vl vu .none) (pl : IsPart vl lo) (pu : IsPart vu hi)
    (h : Q (((sIx n 0 lo : Nat) : Int), 1, sIx n n hi - sIx n 0 lo) s) : wpAny (model prog w) A (Builtin.Slice.sliceApplied (.ref sl) (pure (n : Int))) Q E s := by
  obtain ⟨os, hos, hcs, hds⟩ := id hs
  unfold Builtin.Slice.sliceApplied Builtin.Slice.sliceFields
  refine wpAny_bind (wpAny_bind (wpAny_field hos hds (x := vl) rfl (wpAny_bind (wpAny_field hos hds (x := vu) rfl (wpAny_bind (wpAny_field hos hds (x := .none) rfl (wpAny_pure ?_)))))))
  refine wpAny_bind (slicePart_none ?_)
  show wpAny _ _ (if ((1 : Int) == 0) = true then _ else _) _ _ s
  rw [if_neg (by decide)]
  refine wpAny_bind (slicePart_ pl (wpAny_bind (slicePart_ pu (wpAny_bind (wpAny_pure ?_)))))
  show wpAny _ _ (match Builtin.Slice.sliceAdjust lo hi 1 (n : Int) with | (lo, hi) => pure (lo, (1 : Int), Builtin.Slice.slicePlaces lo hi 1)) _ _ s
  rw [adjust_gen lo hi n]
  show wpAny _ _ (pure (((sIx n 0 lo : Nat) : Int), (1 : Int), Builtin.Slice.slicePlaces ((sIx n 0 lo : Nat) : Int) ((sIx n n hi : Nat) : Int) 1)) _ _ s
  rw [places_gen]
  exact wpAny_pure h
theorem pick_gen (xs : Array Value) (i k : Nat) : ((List.range k).filterMap fun (m : Nat) => xs[((i : Int) + (m : Int) * 1).toNat]?).toArray = ((xs.toList.drop i).take k).toArray := by
  have e : (fun (m : Nat) => xs[((i : Int) + (m : Int) * 1).toNat]?) = fun m => xs[i + m]? := by
    funext m
    have : ((i : Int) + (m : Int) * 1).toNat = i + m := by omega
    rw [this]
  rw [e]
  have := pick_run xs i k
  rw [List.filterMap_map] at this
  have e2 : ((fun x => xs[x]?) ∘ fun x => i + x) = fun m => xs[i + m]? := rfl
  rw [e2] at this
  rw [this]

theorem getItem_tuple_cut {t sl : Addr} {items : Array Value} {vl vu : Value} {lo hi : Option Int} {Q : Value → Shared → Prop} (ht : IsTup s.heap t items) (hs : s.heap.IsSliceOf sl vl vu .none) (pl : IsPart vl lo) (pu : IsPart vu hi)
    (hw : ¬ (sIx items.size 0 lo = 0 ∧ sIx items.size items.size hi = items.size))
    (h : Q (.ref s.heap.objs.size) { s with heap := s.heap.push { cls := .type "tuple", data := .seq ((items.toList.drop (sIx items.size 0 lo)).take (sIx items.size items.size hi - sIx items.size 0 lo)).toArray } })
    (hsz : items.size ≤ sizeLine) : wpAny (model prog w) A (getItem (.ref t) (.ref sl)) Q E s := by
  have htake : sizeOk (.seq ((items.toList.drop (sIx items.size 0 lo)).take (sIx items.size items.size hi - sIx items.size 0 lo)).toArray) := by
    show ((items.toList.drop (sIx items.size 0 lo)).take (sIx items.size items.size hi - sIx items.size 0 lo)).toArray.size ≤ sizeLine
    rw [List.size_toArray, List.length_take, List.length_drop, Array.length_toList]
    omega
  have hj : sIx items.size items.size hi ≤ items.size := sIx_le _ _ (Nat.le_refl _) hi
  obtain ⟨os, hos, hcs, hds⟩ := id hs
  have hTs : s.TypeIs (.ref sl) "slice" := ⟨os, hos, hcs⟩
  unfold getItem
  try with_reducible refine wpAny_holding ?_
  first | refine wpAny_bind (wpAny_pure ?_) | skip
  refine wpAny_bind (wpAny_sequenceKey ht.typeIs (by decide) ?_)
  refine wpAny_bind (wpAny_callSpecial?_slot (name := Str.ofString "__getitem__") ht.typeIs PyProof.Rows.slot_tuple_getitem
    (wpAny_call_entry PyProof.Rows.slot_tuple_getitem ht.typeIs entry_tuple_getitem ?_ (args_tuple_getitem _ _)))
  show wpAny _ _ (Builtin.Tuple.tupleItemsOf (.ref t) >>= _) _ _ s
  refine wpAny_bind (tupleItemsOf_ ht ?_)
  refine wpAny_bind (wpAny_typeOf hTs ?_)
  rw [if_pos (by decide)]
  refine wpAny_bind (sliceApplied_gen hs pl pu ?_)
  have hno : ¬ ((((sIx items.size 0 lo : Nat) : Int) == 0 && (1 : Int) == 1 && (sIx items.size items.size hi - sIx items.size 0 lo) == items.size) = true) := by
    intro q
    rw [Bool.and_eq_true, Bool.and_eq_true] at q
    have q1 : ((sIx items.size 0 lo : Nat) : Int) = 0 := eq_of_beq q.1.1
    have q2 : sIx items.size items.size hi - sIx items.size 0 lo = items.size := eq_of_beq q.2
    exact hw ⟨by omega, by omega⟩
  show wpAny _ _ (if (((sIx items.size 0 lo : Nat) : Int) == 0 && (1 : Int) == 1 && (sIx items.size items.size hi - sIx items.size 0 lo) == items.size) = true then _ else _) _ _ s
  rw [if_neg hno, pick_gen]
  first
    | exact wpAny_bind (m := Builtin.Tuple.tupleExact _) (wpAny_newObj_type (wpAny_pure ⟨_, rfl, wpAny_pure h⟩) htake)
    | exact wpAny_bind (m := Builtin.Tuple.tupleExact _) (wpAny_newObj_type (wpAny_bind (wpAny_pure (wpAny_pure ⟨_, rfl, wpAny_pure h⟩))) htake)
    | exact wpAny_bind (wpAny_bind (m := Builtin.Tuple.tupleExact _) (wpAny_newObj_type (wpAny_pure (wpAny_pure ⟨_, rfl, wpAny_pure h⟩)) htake))
    | exact wpAny_bind (wpAny_bind (m := Builtin.Tuple.tupleExact _) (wpAny_newObj_type (wpAny_pure ⟨_, rfl, wpAny_pure h⟩) htake))
end
end HT

namespace L2
open PySem PySem.Spec PyProof.Rows

/-! ### the parts of a slice -/
noncomputable abbrev TO := St → Hp → (Option Int → Hp → Prop) → Prop
/-- a slice's part (left out, or an int) -/
noncomputable def PO (X : Cx) (e : Option Expr) (t : TO) : Prop :=
  ∀ (pins : List (Addr × Obj)) (s : Shared) (σ : St) (H : Hp) (Q : Option Int → Hp → Prop), Inv X pins σ H s → t σ H Q →
    wpAny (model X.prog X.w) X.A (evalPart e X.env) (fun u s' => ∃ o H', Inv X pins σ H' s' ∧ IsPart u o ∧ Q o H') X.xe s
noncomputable def tNoPart : TO := fun _ H Q => Q none H
noncomputable def tPart (t : TE) : TO := fun σ H Q => t σ H fun x H1 => ∃ i, x = .int i ∧ Q (some i) H1

section
variable {X : Cx} {e : Expr} {te : TE} {lo hi : Option Expr} {tl th : TO} {pos p2 : Pos}

theorem po_none : PO X none tNoPart := by
  intro pins s σ H Q I h
  rw [evalPart_none]
  exact wpAny_pure ⟨none, H, I, .none, h⟩
theorem po_some (h : PE X e te) : PO X (some e) (tPart te) := by
  intro pins s σ H Q I hw
  rw [evalPart_some]
  refine thn (h pins s σ H _ I hw) fun u s1 ⟨x, H1, I1, r1, q1⟩ => ?_
  obtain ⟨i, rfl, q⟩ := q1
  obtain ⟨t, rfl⟩ := r1
  exact ⟨some i, H1, I1, .int i t, q⟩

/-- what a slice of a value is, by values: the slice object stands at sl -/
noncomputable def SlR (X : Cx) (r : V → Option Int → Option Int → Hp → VK → Prop) : Prop :=
  ∀ (pins : List (Addr × Obj)) (s : Shared) (σ : St) (H : Hp) (x : V) (v vl vu : Value) (lo hi : Option Int) (sl : Addr) (Q : VK), Inv X pins σ H s → RelV x v → s.heap.IsSliceOf sl vl vu .none → IsPart vl lo → IsPart vu hi → r x lo hi H Q →
    ∃ T id, typeLookup (.type T) "__getitem__" = pure (some (.builtin id)) ∧ s.TypeIs v T ∧ wpAny (model X.prog X.w) X.A (getItem v (.ref sl)) (EP X pins σ Q) X.xe s
noncomputable def tSl (r : V → Option Int → Option Int → Hp → VK → Prop) (te : TE) (tl th : TO) : TE := fun σ H Q => te σ H fun x H1 => tl σ H1 fun l H2 => th σ H2 fun u H3 => r x l u H3 Q
/-- a[lo:hi], any a -/
theorem pe_slice {r : V → Option Int → Option Int → Hp → VK → Prop} (hr : SlR X r) (he : PE X e te) (hl : PO X lo tl) (hu : PO X hi th) : PE X (.Subscript e (.Slice lo hi none p2) pos) (tSl r te tl th) := by
  intro pins s σ H Q I h
  refine Subscript_ (thn (he pins s σ H _ I h) fun v s1 ⟨x, H1, I1, r1, q1⟩ => ?_)
  refine wpAny_Slice (thn (hl pins s1 σ H1 _ I1 q1) fun vl s2 ⟨l, H2, I2, pl, q2⟩ => thn (hu pins s2 σ H2 _ I2 q2) fun vu s3 ⟨u, H3, I3, pu, q3⟩ => ?_)
  rw [evalPart_none]
  refine wpAny_pure ?_
  have I4 : Inv X pins σ H3 { s3 with heap := s3.heap.push { cls := .type "slice", data := .fields #[vl, vu, .none] } } := I3.kept (t' := s3.toks) fun b ob q => Heap.get?_push_of_some _ q
  obtain ⟨T, id, hT, ht, hg⟩ := hr pins { s3 with heap := s3.heap.push { cls := .type "slice", data := .fields #[vl, vu, .none] } } σ H3 x v vl vu l u s3.heap.objs.size Q I4 r1 (Heap.IsSliceOf.new ..) pl pu q3
  show wpAny (model X.prog X.w) X.A (subscriptTail e (.Slice lo hi none p2) v (.ref s3.heap.objs.size)) (EP X pins σ Q) X.xe { s3 with heap := s3.heap.push { cls := .type "slice", data := .fields #[vl, vu, .none] } }
  exact tail_any (ops := [.ref s3.heap.objs.size, v]) ht hT hg (by with_unfolding_all rfl)

/-- the items of xs[lo:hi] -/
noncomputable def cutV (xs : List V) (lo hi : Option Int) : List V := (xs.drop (HT.sIx xs.length 0 lo)).take (HT.sIx xs.length xs.length hi - HT.sIx xs.length 0 lo)
theorem cutV_length (xs : List V) (lo hi : Option Int) : (cutV xs lo hi).length ≤ xs.length := by
  unfold cutV
  rw [List.length_take, List.length_drop]
  omega
/-- t[lo:hi], not the whole of it (the whole would be t itself) -/
noncomputable def rSlT (K : PySem.W.Frag) : V → Option Int → Option Int → Hp → VK → Prop := fun x lo hi H Q => ∃ a xs, x = .ref a ∧ SqT K H a xs ∧
  ¬ (HT.sIx xs.length 0 lo = 0 ∧ HT.sIx xs.length xs.length hi = xs.length) ∧ ∀ p, H p = none → Q (.ref p) (upd H p (.tup (cutV xs lo hi)))
theorem sl_tup : SlR X (rSlT X.K) := by
  intro pins s σ H x v vl vu lo hi sl Q I rx hs pl pu h
  obtain ⟨a, xs, rfl, hx, hw, q⟩ := h
  cases rx
  obtain ⟨its, r, ht, hz⟩ := I.tuple hx
  have hlen : its.toArray.size = xs.length := by rw [List.size_toArray]; exact r.length.symm
  refine ⟨"tuple", _, PyProof.Rows.slot_tuple_getitem.lookup, ht.typeIs, ?_⟩
  refine HT.getItem_tuple_cut ht hs pl pu (by rw [hlen]; exact hw) ?_ (by rw [hlen]; exact hz)
  rw [hlen]
  refine ⟨.ref s.heap.objs.size, _, I.laid (t' := s.toks) (o := .tup (cutV xs lo hi)) (fun b ob q => Heap.get?_push_of_some _ q) (Nat.le_refl _) ?_, rfl, q _ (I.hok.fresh (Nat.le_refl _))⟩
  exact ⟨Nat.le_trans (cutV_length xs lo hi) hz, _, (r.drop (HT.sIx xs.length 0 lo)).take (HT.sIx xs.length xs.length hi - HT.sIx xs.length 0 lo), IsTup.new _ _⟩

/-! ### t < u, t + u -/
/-- t + u, t not empty: u empty gives t itself -/
noncomputable def rCatT (K : PySem.W.Frag) : R2 := fun x y H Q => ∃ a b xs ys, x = .ref a ∧ y = .ref b ∧ SqT K H a xs ∧ SqT K H b ys ∧ xs ≠ [] ∧ xs.length + ys.length ≤ sizeLine ∧
  (ys = [] → Q (.ref a) H) ∧ (ys ≠ [] → ∀ p, H p = none → Q (.ref p) (upd H p (.tup (xs ++ ys))))
theorem Vals.nil_iff {xs : List V} {us : List Value} (r : Vals xs us) : us = [] ↔ xs = [] := by
  cases r with
  | nil => simp
  | cons _ _ => simp
theorem op_catT : OpR X (binaryOp .Add) (rCatT X.K) := by
  intro pins s σ H x y v u Q I rx ry h
  obtain ⟨a, b, xs, ys, rfl, rfl, ha, hb, hx, hz, q1, q2⟩ := h
  cases rx
  cases ry
  obtain ⟨its, r1, p1, _⟩ := I.tuple ha
  obtain ⟨its2, r2, p2, _⟩ := I.tuple hb
  refine HT.cat_tup p1 p2 (fun z => hx (r1.nil_iff.mp z)) (fun z => ⟨.ref a, H, I, rfl, q1 (r2.nil_iff.mp z)⟩) (fun z => ?_) (by rw [← r1.length, ← r2.length]; exact hz)
  refine ⟨.ref s.heap.objs.size, _, I.laid (t' := s.toks) (o := .tup (xs ++ ys)) (fun b ob q => Heap.get?_push_of_some _ q) (Nat.le_refl _) ?_, rfl, q2 (fun w => z (r2.nil_iff.mpr w)) _ (I.hok.fresh (Nat.le_refl _))⟩
  exact ⟨by rw [List.length_append]; exact hz, _, r1.append r2, IsTup.new _ _⟩
end
end L2

namespace L2
open PySem PySem.Spec PyProof.Rows

/-! ### places -/
/-- the place that an index of any sign means -/
noncomputable def ixN (n : Nat) (i : Int) : Option Nat := if 0 ≤ i then (if i < n then some i.toNat else none) else if -(n : Int) ≤ i then some (i + n).toNat else none
noncomputable def atI {α : Type} (xs : List α) (i : Int) : Option α := (ixN xs.length i).bind fun j => xs[j]?
theorem ixN_seq {n : Nat} {i : Int} {j : Nat} (h : ixN n i = some j) : seqIndex? i n = some j ∧ j < n ∧ -(n : Int) ≤ i ∧ i < n := by
  unfold ixN at h
  by_cases h0 : 0 ≤ i
  · rw [if_pos h0] at h
    by_cases h1 : i < n
    · rw [if_pos h1] at h
      have e : i.toNat = j := Option.some.inj h
      exact ⟨by rw [seqIndex_of h0 h1, e], by omega, by omega, h1⟩
    · rw [if_neg h1] at h; cases h
  · rw [if_neg h0] at h
    by_cases h1 : -(n : Int) ≤ i
    · rw [if_pos h1] at h
      have e : (i + n).toNat = j := Option.some.inj h
      exact ⟨by rw [seqIndex_neg (by omega) h1, e], by omega, h1, by omega⟩
    · rw [if_neg h1] at h; cases h
theorem atI_get {α : Type} {xs : List α} {i : Int} {v : α} (h : atI xs i = some v) : ∃ j, seqIndex? i xs.length = some j ∧ xs[j]? = some v ∧ j < xs.length ∧ -(xs.length : Int) ≤ i ∧ i < xs.length := by
  unfold atI at h
  cases e : ixN xs.length i with
  | none => rw [e] at h; cases h
  | some j =>
    rw [e] at h
    obtain ⟨h1, h2, h3, h4⟩ := ixN_seq e
    exact ⟨j, h1, h, h2, h3, h4⟩
theorem atI_nat {α : Type} {xs : List α} {j : Nat} {v : α} (h : xs[j]? = some v) : atI xs (j : Int) = some v := by
  have hj : j < xs.length := (List.getElem?_eq_some_iff.mp h).1
  have e : ixN xs.length (j : Int) = some j := by
    unfold ixN
    rw [if_pos (by omega), if_pos (by omega)]; simp
  unfold atI; rw [e]; exact h
/-! ### what may be subscripted -/
/-- what stands as an index of a plain subscript -/
noncomputable def PlainIx (b : Expr) : Prop := ∀ o i, subscripted b false o i = operate [o, i] (getItem o i)
/-- a subscript by values -/
noncomputable def IxR (X : Cx) (r : R2) : Prop :=
  ∀ (value slice : Expr) (pins : List (Addr × Obj)) (s : Shared) (σ : St) (H : Hp) (x y : V) (v u : Value) (Q : VK), Inv X pins σ H s → RelV x v → RelV y u → r x y H Q →
    subscripted slice false v u = operate [v, u] (getItem v u) → wpAny (model X.prog X.w) X.A (subscriptTail value slice v u) (EP X pins σ Q) X.xe s
/-- a call of a builtin's method by values: the receiver, the arguments -/
noncomputable def MtR (X : Cx) (id : String) (r : V → List V → Hp → VK → Prop) : Prop :=
  ∀ (pins : List (Addr × Obj)) (s : Shared) (σ : St) (H : Hp) (x : V) (xs : List V) (v : Value) (us : List Value) (Q : VK), Inv X pins σ H s → RelV x v → Vals xs us → r x xs H Q →
    wpAny (model X.prog X.w) X.A (call (.builtin id) (v :: us)) (EP X pins σ Q) X.xe s
section
variable {X : Cx} {a b : Expr} {ta tb : TE} {pos : Pos}
theorem IxR.or {r r' : R2} (h : IxR X r) (h' : IxR X r') : IxR X (fun x y H Q => r x y H Q ∨ r' x y H Q) := by
  intro value slice pins s σ H x y v u Q I rx ry q hs
  rcases q with q | q
  · exact h value slice pins s σ H x y v u Q I rx ry q hs
  · exact h' value slice pins s σ H x y v u Q I rx ry q hs
/-- a[b] -/
theorem pe_ix {r : R2} (hr : IxR X r) (ha : PE X a ta) (hb : PE X b tb) (hs : PlainIx b) : PE X (.Subscript a b pos) (tOp r ta tb) := by
  intro pins s σ H Q I h
  exact Subscript_ (binT ha hb I h fun v u s2 x y H2 I2 rx ry q => hr a b pins s2 σ H2 x y v u Q I2 rx ry q (hs _ _))

noncomputable def rIxL (K : PySem.W.Frag) : R2 := fun x y H Q => ∃ p xs i v, x = .ref p ∧ y = .int i ∧ SqL K H p xs ∧ atI xs i = some v ∧ Q v H
noncomputable def rIxT (K : PySem.W.Frag) : R2 := fun x y H Q => ∃ p xs i v, x = .ref p ∧ y = .int i ∧ SqT K H p xs ∧ atI xs i = some v ∧ Q v H
noncomputable def rIxS : R2 := fun x y H Q => ∃ z i c, x = .str z ∧ y = .int i ∧ z.length ≤ sizeLine ∧ atI z.cps.toList i = some c ∧ Q (.str ⟨#[c]⟩) H
theorem ix_list : IxR X (rIxL X.K) := by
  intro value slice pins s σ H x y v u Q I rx ry h hs
  obtain ⟨p, xs, i, z, rfl, rfl, hq, he, q⟩ := h
  cases rx
  obtain ⟨t, rfl⟩ := ry
  obtain ⟨its, r, pl, hz⟩ := I.list hq
  obtain ⟨j, h1, h2, h3, h4, h5⟩ := atI_get he
  obtain ⟨w, ew, rw'⟩ := r.get h2
  have hl := r.length
  have hn := line63
  have fin : EP X pins σ Q w s := ⟨z, H, I, rw', q⟩
  by_cases h0 : 0 ≤ i
  · have hj : i.toNat = j := by
      rw [seqIndex_of h0 h5] at h1
      exact Option.some.inj h1
    exact item_listR pl.isList h0 (by omega) (by rw [hj]; simpa using ew) fin hs
  · have hj : (i + (its.toArray.size : Int)).toNat = j := by
      rw [seqIndex_neg (by omega) h4] at h1
      rw [List.size_toArray, ← hl]
      exact Option.some.inj h1
    exact subscriptTail_builtinR (x := w) pl.isList.typeIs slot_list_getitem.lookup
      (wpAny_getItem_list_neg (Q := fun r s' => r = w ∧ EP X pins σ Q r s') pl.isList (by omega) (by rw [List.size_toArray] <;> omega) (by omega) (by rw [hj]; simpa using ew) ⟨rfl, fin⟩) hs
theorem ix_tup : IxR X (rIxT X.K) := by
  intro value slice pins s σ H x y v u Q I rx ry h hs
  obtain ⟨p, xs, i, z, rfl, rfl, hq, he, q⟩ := h
  cases rx
  obtain ⟨t, rfl⟩ := ry
  obtain ⟨its, r, pl, hz⟩ := I.tuple hq
  obtain ⟨j, h1, h2, h3, h4, h5⟩ := atI_get he
  obtain ⟨w, ew, rw'⟩ := r.get h2
  have hl := r.length
  have hn := line63
  have fin : EP X pins σ Q w s := ⟨z, H, I, rw', q⟩
  exact subscriptTail_builtinR (x := w) pl.typeIs slot_tuple_getitem.lookup
    (getItem_tuple (j := j) (Q := fun r s' => r = w ∧ EP X pins σ Q r s') pl (by omega) (by omega) (by rw [List.size_toArray, ← hl]; exact h1) (by simpa using ew) ⟨rfl, fin⟩) hs
theorem ix_str : IxR X rIxS := by
  intro value slice pins s σ H x y v u Q I rx ry h hs
  obtain ⟨z, i, c, rfl, rfl, hz, he, q⟩ := h
  obtain ⟨t, rfl⟩ := rx
  obtain ⟨t', rfl⟩ := ry
  obtain ⟨j, h1, h2, h3, h4, h5⟩ := atI_get he
  have hl : z.cps.toList.length = z.length := by simp [Str.length]
  rw [hl] at h1 h4 h5
  have hn := line63
  exact tail_any (typeIs_str s z t) slot_str_getitem.lookup (getItem_str (c := c) (by
    have e1 : decide (i < -(2 ^ 63 : Int)) = false := decide_eq_false (by omega)
    have e2 : decide (i ≥ 2 ^ 63) = false := decide_eq_false (by omega)
    rw [e1, e2, Bool.or_false]) (by rw [h1]; simpa using h2) ⟨.str ⟨#[c]⟩, H, I.tok _, ⟨_, rfl⟩, q⟩) hs
/-- list, tuple or str -/
noncomputable def rIx (K : PySem.W.Frag) : R2 := fun x y H Q => rIxL K x y H Q ∨ rIxT K x y H Q ∨ rIxS x y H Q
theorem ix_seq : IxR X (rIx X.K) := ix_list.or (ix_tup.or ix_str)

/-! ### xs[i] = v, any sign -/
/-- the list's object behind a store -/
theorem mapSeq_set (its : List Value) (n j : Nat) (u : Value) : Obj.mapSeq (·.setIfInBounds j u) { cls := .type "list", data := .seq its.toArray n } = { cls := .type "list", data := .seq (its.set j u).toArray n } := by
  simp [Obj.mapSeq]
theorem Inv.lst {pins : List (Addr × Obj)} {σ : St} {H : Hp} {s : Shared} {p : Addr} {xs : List V} (I : Inv X pins σ H s) (h : H p = some (.lst xs)) :
    ∃ (its : List Value) (n : Nat), Vals xs its ∧ s.heap.get? p = some { cls := .type "list", data := .seq its.toArray n } ∧ xs.length ≤ sizeLine := by
  obtain ⟨z, its, n, r, e⟩ := I.hok p _ h
  exact ⟨its, n, r, e, z⟩
/-- the list at p is written by an update of its object -/
theorem Inv.lstUpd {pins : List (Addr × Obj)} {σ : St} {H : Hp} {s : Shared} {p : Addr} {xs ys : List V} {its its' : List Value} {n n' : Nat} {f : Obj → Obj} (I : Inv X pins σ H s) (h : H p = some (.lst xs))
    (ho : s.heap.get? p = some { cls := .type "list", data := .seq its.toArray n }) (hf : f { cls := .type "list", data := .seq its.toArray n } = { cls := .type "list", data := .seq its'.toArray n' }) (r : Vals ys its') (hz : ys.length ≤ sizeLine) (t : Nat) :
    Inv X pins σ (upd H p (.lst ys)) { s with heap := s.heap.update p f, toks := t } := by
  have e : (s.heap.update p f).get? p = some { cls := .type "list", data := .seq its'.toArray n' } := by
    rw [Heap.get?_update_self f ho (by rw [hf] <;> rfl), hf]
  refine I.write (x := p) (e := p) (by rw [h]; trivial) (.inl rfl) (fun b u hb q => (Heap.get?_update_other _ _ (Ne.symm hb)).trans q) ⟨_, e⟩ ?_
  exact ⟨hz, its', n', r, e⟩
noncomputable def rSetL : V → V → V → Hp → (Hp → Prop) → Prop := fun o i v H Q => ∃ p xs k j, o = .ref p ∧ i = .int k ∧ H p = some (.lst xs) ∧ ixN xs.length k = some j ∧ Q (upd H p (.lst (xs.set j v)))
theorem set_list : PSet X rSetL := by
  intro pins s σ H o i v ov iv u Q I ro ri rv h
  obtain ⟨p, xs, k, j, rfl, rfl, hp, hj, q⟩ := h
  cases ro
  obtain ⟨t, rfl⟩ := ri
  obtain ⟨its, n, r, ho, hz⟩ := I.lst hp
  obtain ⟨h1, h2, h3, h4⟩ := ixN_seq hj
  have hl := r.length
  have hn := line63
  have I' : Inv X pins σ (upd H p (.lst (xs.set j v))) { s with heap := s.heap.update p (Obj.mapSeq (·.setIfInBounds j u)) } :=
    I.lstUpd hp ho (mapSeq_set its n j u) (r.set rv j) (by rw [List.length_set]; exact hz) s.toks
  by_cases h0 : 0 ≤ k
  · have hk : k.toNat = j := by
      rw [seqIndex_of h0 h4] at h1
      exact Option.some.inj h1
    exact PySem.W.ki_setAt ho h0 (by omega) (by rw [List.size_toArray, ← hl]; exact h4) (by rw [hk]; exact ⟨_, I', q⟩)
  · have hk : (k + (its.toArray.size : Int)).toNat = j := by
      rw [seqIndex_neg (by omega) h3] at h1
      rw [List.size_toArray, ← hl]
      exact Option.some.inj h1
    exact PySem.W.ki_setBack ho (by omega) (by rw [List.size_toArray, ← hl]; exact h3) (by omega) (by rw [hk]; exact ⟨_, I', q⟩)

/-! ### slices -/
theorem slice_bounds (lo hi : Option Int) (n : Nat) : (sliceBounds lo hi none n).1 = ((HT.sIx n 0 lo : Nat) : Int) ∧ (sliceBounds lo hi none n).2.1 = ((HT.sIx n n hi : Nat) : Int) ∧ (sliceBounds lo hi none n).2.2 = 1 := by
  refine ⟨?_, ?_, rfl⟩
  · cases lo with
    | none => simp [sliceBounds, HT.sIx]
    | some i =>
      simp only [sliceBounds, HT.sIx, Option.getD_none, show (1 : Int) > 0 by decide, if_true]
      by_cases h : i < 0
      · simp only [h, if_true] <;> omega
      · simp only [h, if_false] <;> omega
  · cases hi with
    | none => simp [sliceBounds, HT.sIx]
    | some i =>
      simp only [sliceBounds, HT.sIx, Option.getD_none, show (1 : Int) > 0 by decide, if_true]
      by_cases h : i < 0
      · simp only [h, if_true] <;> omega
      · simp only [h, if_false] <;> omega
theorem slicePick_cut (its : List Value) (lo hi : Option Int) : slicePick its.toArray lo hi none = ((its.drop (HT.sIx its.length 0 lo)).take (HT.sIx its.length its.length hi - HT.sIx its.length 0 lo)).toArray := by
  obtain ⟨h1, h2, h3⟩ := slice_bounds lo hi its.toArray.size
  unfold slicePick
  rw [h1, h2, h3]
  simp only [sliceRange_one, pick_run, List.size_toArray] <;> rfl
/-- xs[lo:hi] of a list: a new list -/
noncomputable def rSlL (K : PySem.W.Frag) : V → Option Int → Option Int → Hp → VK → Prop := fun x lo hi H Q => ∃ a xs, x = .ref a ∧ SqL K H a xs ∧ ∀ p, H p = none → Q (.ref p) (upd H p (.lst (cutV xs lo hi)))
theorem sl_list : SlR X (rSlL X.K) := by
  intro pins s σ H x v vl vu lo hi sl Q I rx hs pl pu h
  obtain ⟨a, xs, rfl, hx, q⟩ := h
  cases rx
  obtain ⟨its, r, ht, hz⟩ := I.list hx
  have hlen := r.length
  refine ⟨"list", _, slot_list_getitem.lookup, ht.isList.typeIs, ?_⟩
  refine wpAny_getItem_list_slice ht.isList hs pl pu .none (by simp) ?_ (by rw [List.size_toArray] <;> omega)
  rw [slicePick_cut, ← hlen]
  refine ⟨.ref s.heap.objs.size, _, I.laid (t' := s.toks) (o := .lst (cutV xs lo hi)) (fun b ob q => Heap.get?_push_of_some _ q) (Nat.le_refl _) ?_, rfl, q _ (I.hok.fresh (Nat.le_refl _))⟩
  exact ⟨Nat.le_trans (cutV_length xs lo hi) hz, _, 0, (r.drop (HT.sIx xs.length 0 lo)).take (HT.sIx xs.length xs.length hi - HT.sIx xs.length 0 lo), Heap.get?_push_size _ rfl⟩

/-! ### in, not in: flat items -/
noncomputable def flatV : V → Bool
  | .non => true
  | .bl _ => true
  | .int _ => true
  | .str _ => true
  | _ => false
/-- == of flat values -/
noncomputable def eqV : V → V → Bool
  | .non, .non => true
  | .bl a, .bl b => a == b
  | .bl a, .int b => (if a then 1 else 0) == b
  | .int a, .bl b => a == (if b then 1 else 0)
  | .int a, .int b => a == b
  | .str a, .str b => a == b
  | _, _ => false
theorem eqAt_V {A : Around} {s : Shared} {y x : V} {u v : Value} (ry : RelV y u) (rx : RelV x v) (fy : flatV y = true) (fx : flatV x = true) : SeqAt.EqAt A s u v (eqV y x) := by
  cases y with
  | non =>
    cases ry
    cases x with
    | non => cases rx; exact SeqAt.EqAt.same _
    | bl b => cases rx; exact SeqAt.EqAt.none_bool b
    | int b => obtain ⟨t, rfl⟩ := rx; exact SeqAt.EqAt.none_int b t
    | str b => obtain ⟨t, rfl⟩ := rx; exact SeqAt.EqAt.none_str b t
    | _ => exact absurd (show false = true from fx) Bool.false_ne_true
  | bl a =>
    cases ry
    cases x with
    | non => cases rx; exact SeqAt.EqAt.bool_none a
    | bl b => cases rx; exact SeqAt.EqAt.bool_bool a b
    | int b => obtain ⟨t, rfl⟩ := rx; exact SeqAt.EqAt.bool_int a b t
    | str b => obtain ⟨t, rfl⟩ := rx; exact SeqAt.EqAt.bool_str a b t
    | _ => exact absurd (show false = true from fx) Bool.false_ne_true
  | int a =>
    obtain ⟨t', rfl⟩ := ry
    cases x with
    | non => cases rx; exact SeqAt.EqAt.int_none a t'
    | bl b => cases rx; exact SeqAt.EqAt.int_bool a t' b
    | int b => obtain ⟨t, rfl⟩ := rx; exact SeqAt.EqAt.int_int a t' b t
    | str b => obtain ⟨t, rfl⟩ := rx; exact SeqAt.EqAt.int_str a t' b t
    | _ => exact absurd (show false = true from fx) Bool.false_ne_true
  | str a =>
    obtain ⟨t', rfl⟩ := ry
    cases x with
    | non => cases rx; exact SeqAt.EqAt.str_none a t'
    | bl b => cases rx; exact SeqAt.EqAt.str_bool a t' b
    | int b => obtain ⟨t, rfl⟩ := rx; exact SeqAt.EqAt.str_int a t' b t
    | str b => obtain ⟨t, rfl⟩ := rx; exact SeqAt.EqAt.str_str a t' b t
    | _ => exact absurd (show false = true from fx) Bool.false_ne_true
  | _ => exact absurd (show false = true from fy) Bool.false_ne_true
/-- the items' answers, read off the values (a value's own answer does not lean on its token) -/
noncomputable def eqU (x : V) (u : Value) : Bool := match u with
  | .none => eqV .non x
  | .bool b => eqV (.bl b) x
  | .int i _ => eqV (.int i) x
  | .str z _ => eqV (.str z) x
  | _ => false
theorem eqU_of {x y : V} {u : Value} (r : RelV y u) (f : flatV y = true) : eqU x u = eqV y x := by
  cases y with
  | non => cases r; rfl
  | bl b => cases r; rfl
  | int i => obtain ⟨t, rfl⟩ := r; rfl
  | str z => obtain ⟨t, rfl⟩ := r; rfl
  | _ => exact absurd (show false = true from f) Bool.false_ne_true
theorem any_eqU {x : V} : ∀ {xs : List V} {us : List Value}, Vals xs us → xs.all flatV = true → us.any (eqU x) = xs.any fun y => eqV y x
  | _, _, .nil, _ => rfl
  | y :: xs, u :: us, .cons r t, f => by
    rw [List.all_cons, Bool.and_eq_true] at f
    rw [List.any_cons, List.any_cons, eqU_of r f.1, any_eqU t f.2]
theorem mem_eqAt {A : Around} {s : Shared} {x : V} {v : Value} (rx : RelV x v) (fx : flatV x = true) : ∀ {xs : List V} {us : List Value}, Vals xs us → xs.all flatV = true → ∀ u ∈ us, SeqAt.EqAt A s u v (eqU x u)
  | _, _, .nil, _ => fun u hu => by cases hu
  | y :: xs, u :: us, .cons r t, f => fun u' hu => by
    rw [List.all_cons, Bool.and_eq_true] at f
    rcases List.mem_cons.mp hu with rfl | hu
    · rw [eqU_of r f.1]; exact eqAt_V r rx f.1 fx
    · exact mem_eqAt rx fx t f.2 u' hu
noncomputable def inV (x : V) (xs : List V) : Bool := xs.any fun y => eqV y x
/-- x in a list or tuple of flat items -/
noncomputable def rIn (K : PySem.W.Frag) (neg : Bool) : R2 := fun x y H Q => ∃ p xs, y = .ref p ∧ (SqL K H p xs ∨ SqT K H p xs) ∧ flatV x = true ∧ xs.all flatV = true ∧ Q (.bl (if neg then !inV x xs else inV x xs)) H
theorem op_in_seq : OpR X (compareOp .In) (rIn X.K false) := by
  intro pins s σ H x y v u Q I rx ry h
  obtain ⟨p, xs, rfl, hq, fx, fs, q⟩ := h
  cases ry
  rcases hq with hq | hq
  · obtain ⟨its, r, pl, hz⟩ := I.list hq
    refine SeqAt.in_listAt (eqU x) pl.isList (fun w hw => mem_eqAt rx fx r fs w (by simpa using hw)) ⟨.bl _, H, I, rfl, ?_⟩
    rw [show its.toArray.any (eqU x) = its.any (eqU x) by simp, any_eqU r fs]
    exact q
  · obtain ⟨its, r, pl, hz⟩ := I.tuple hq
    refine SeqAt.in_tupleAt (eqU x) pl (fun w hw => mem_eqAt rx fx r fs w (by simpa using hw)) ⟨.bl _, H, I, rfl, ?_⟩
    rw [show its.toArray.any (eqU x) = its.any (eqU x) by simp, any_eqU r fs]
    exact q
theorem op_notIn_seq : OpR X (compareOp .NotIn) (rIn X.K true) := by
  intro pins s σ H x y v u Q I rx ry h
  obtain ⟨p, xs, rfl, hq, fx, fs, q⟩ := h
  cases ry
  rcases hq with hq | hq
  · obtain ⟨its, r, pl, hz⟩ := I.list hq
    refine SeqAt.notIn_listAt (eqU x) pl.isList (fun w hw => mem_eqAt rx fx r fs w (by simpa using hw)) ⟨.bl _, H, I, rfl, ?_⟩
    rw [show its.toArray.any (eqU x) = its.any (eqU x) by simp, any_eqU r fs]
    exact q
  · obtain ⟨its, r, pl, hz⟩ := I.tuple hq
    refine SeqAt.notIn_tupleAt (eqU x) pl (fun w hw => mem_eqAt rx fx r fs w (by simpa using hw)) ⟨.bl _, H, I, rfl, ?_⟩
    rw [show its.toArray.any (eqU x) = its.any (eqU x) by simp, any_eqU r fs]
    exact q
/-! ### len, list(x), tuple(x) of any list or tuple that is read -/
theorem call_len_seq : CallR X (.builtin "len") (fun xs H Q => ∃ p ys, xs = [.ref p] ∧ (SqL X.K H p ys ∨ SqT X.K H p ys) ∧ Q (.int ys.length) H) := by
  intro pins s σ H xs us Q I r h
  obtain ⟨p, ys, rfl, hq, q⟩ := h
  obtain ⟨u, rfl, rx⟩ := vals1 r
  cases rx
  have hn := line63
  rcases hq with hq | hq
  · obtain ⟨its, r', pl, hz⟩ := I.list hq
    have hlen := r'.length
    exact Calls.call_len_list pl.isList (by simp only [List.size_toArray] <;> omega) ⟨.int ys.length, H, I.tok _, ⟨s.toks + 1, by rw [List.size_toArray, hlen]⟩, q⟩
  · obtain ⟨its, r', pl, hz⟩ := I.tuple hq
    have hlen := r'.length
    exact len_tuple pl (by simp only [List.size_toArray] <;> omega) ⟨.int ys.length, H, I.tok _, ⟨s.toks + 1, by rw [List.size_toArray, hlen]⟩, q⟩
theorem call_len_str : CallR X (.builtin "len") (fun xs H Q => ∃ z, xs = [.str z] ∧ z.length ≤ sizeLine ∧ Q (.int z.length) H) := by
  intro pins s σ H xs us Q I r h
  obtain ⟨z, rfl, hz, q⟩ := h
  obtain ⟨u, rfl, t, rfl⟩ := vals1 r
  have hn := line63
  exact len_str (by omega) ⟨.int z.length, H, I.tok _, ⟨_, rfl⟩, q⟩
theorem call_list_of : CallR X (.type "list") (fun xs H Q => ∃ p ys, xs = [.ref p] ∧ (SqL X.K H p ys ∨ SqT X.K H p ys) ∧ ∀ l, H l = none → Q (.ref l) (upd H l (.lst ys))) := by
  intro pins s σ H xs us Q I r h
  obtain ⟨p, ys, rfl, hq, q⟩ := h
  obtain ⟨u, rfl, rx⟩ := vals1 r
  cases rx
  have fin : ∀ (its : List Value), Vals ys its → ys.length ≤ sizeLine → ∀ (h' : Heap) (c' : Nat), (∀ b o', s.heap.get? b = some o' → h'.get? b = some o') →
      h'.get? s.heap.objs.size = some { cls := .type "list", dict := none, data := .seq its.toArray c', slots := #[] } → EP X pins σ Q (.ref s.heap.objs.size) { s with heap := h' } := fun its r' hz h' c' kp e =>
    ⟨.ref s.heap.objs.size, _, I.laid (t' := s.toks) kp (Nat.le_refl _) (show ObjOk X.prog X.w _ h' _ (.lst ys) from ⟨hz, its, c', r', e⟩), rfl, q _ (I.hok.fresh (Nat.le_refl _))⟩
  rcases hq with hq | hq
  · obtain ⟨its, r', pl, hz⟩ := I.list hq
    have hlen := r'.length
    obtain ⟨o, ho, hc, n, hd⟩ := pl.isList
    exact call_list_seq p (.inl rfl) ho hc hd (fun h' c' kp e => fin its r' hz h' c' kp e) (by simp only [List.size_toArray] <;> omega)
  · obtain ⟨its, r', pl, hz⟩ := I.tuple hq
    have hlen := r'.length
    obtain ⟨o, ho, hc, n, hd⟩ := pl
    exact call_list_seq p (.inr rfl) ho hc hd (fun h' c' kp e => fin its r' hz h' c' kp e) (by simp only [List.size_toArray] <;> omega)
theorem call_tuple_of : CallR X (.type "tuple") (fun xs H Q => ∃ p ys, xs = [.ref p] ∧ ((SqL X.K H p ys ∧ ∀ l, H l = none → Q (.ref l) (upd H l (.tup ys))) ∨ (SqT X.K H p ys ∧ Q (.ref p) H))) := by
  intro pins s σ H xs us Q I r h
  obtain ⟨p, ys, rfl, h⟩ := h
  obtain ⟨u, rfl, rx⟩ := vals1 r
  cases rx
  rcases h with ⟨hq, q⟩ | ⟨hq, q⟩
  · obtain ⟨its, r', pl, hz⟩ := I.list hq
    have hlen := r'.length
    refine call_tuple_list pl.isList (fun h' kp => ?_) (by simp only [List.size_toArray] <;> omega)
    have I1 : Inv X pins σ H { s with heap := h' } := I.kept (t' := s.toks) kp
    have I2 : Inv X pins σ (upd H h'.objs.size (.tup ys)) { s with heap := h'.push { cls := .type "tuple", data := .seq its.toArray } } :=
      I1.laid (t' := s.toks) (fun b o e => Heap.get?_push_of_some _ e) (Nat.le_refl _) (show ObjOk X.prog X.w _ _ _ (.tup ys) from ⟨hz, its, r', IsTup.new _ _⟩)
    exact ⟨.ref h'.objs.size, _, I2, rfl, q _ (I1.hok.fresh (Nat.le_refl _))⟩
  · obtain ⟨its, r', pl, hz⟩ := I.tuple hq
    exact call_tuple_same pl ⟨.ref p, H, I, rfl, q⟩

/-! ### the call of a builtin's method: o.m(..) -/
/-- the value is of that builtin type -/
noncomputable def tyV (K : PySem.W.Frag) (T : String) (x : V) (H : Hp) : Prop := match x with
  | .str _ => T = "str"
  | .int _ => T = "int"
  | .ref p => (T = "list" ∧ ∃ xs, SqL K H p xs) ∨ (T = "tuple" ∧ ∃ o, K.lookup p = some o ∧ o.cls = .type "tuple" ∧ o.dict = none) ∨
      (T = "dict" ∧ ((∃ kvs, H p = some (.dK kvs)) ∨ ∃ kvs, H p = some (.dT kvs))) ∨ (T = "set" ∧ ∃ S n, H p = some (.set S n))
  | _ => False
theorem tyV_is {pins : List (Addr × Obj)} {σ : St} {H : Hp} {s : Shared} {T : String} {x : V} {v : Value} (I : Inv X pins σ H s) (r : RelV x v) (ty : tyV X.K T x H) :
    s.TypeIs v T ∧ ∀ a, v = .ref a → ∃ ob, s.heap.get? a = some ob ∧ ob.dict = none := by
  cases x with
  | str z =>
    obtain ⟨t, rfl⟩ := r
    cases (show T = "str" from ty)
    exact ⟨typeIs_str s z t, fun _ e => nomatch e⟩
  | int i =>
    obtain ⟨t, rfl⟩ := r
    cases (show T = "int" from ty)
    exact ⟨typeIs_int s i t, fun _ e => nomatch e⟩
  | ref p =>
    cases r
    rcases ty with ⟨rfl, xs, hq⟩ | ⟨rfl, o, hk, hc, hd⟩ | ⟨rfl, hk⟩ | ⟨rfl, S, n, hk⟩
    · obtain ⟨its, _, pl, _⟩ := I.list hq
      refine ⟨pl.isList.typeIs, fun a e => ?_⟩
      cases e
      obtain ⟨o, n, e, c, hd, _⟩ := pl
      exact ⟨o, e, hd⟩
    · refine ⟨⟨o, I.kIn p o hk, hc⟩, fun a e => ?_⟩
      cases e
      exact ⟨o, I.kIn _ o hk, hd⟩
    · have z : ∃ o, s.heap.get? p = some o ∧ o.ExactDict := by
        rcases hk with ⟨kvs, hk⟩ | ⟨kvs, hk⟩
        · obtain ⟨_, _, _, _, o, _, _, e, ex, _⟩ := I.hok p _ hk
          exact ⟨o, e, ex⟩
        · obtain ⟨_, _, _, _, o, _, _, e, ex, _⟩ := I.hok p _ hk
          exact ⟨o, e, ex⟩
      obtain ⟨o, e, ex⟩ := z
      refine ⟨⟨o, e, ex.1⟩, fun a e2 => ?_⟩
      cases e2
      exact ⟨o, e, ex.2.1⟩
    · obtain ⟨o, _, _, _, e, ex, _⟩ := I.hok p _ hk
      refine ⟨⟨o, e, ex.1⟩, fun a e2 => ?_⟩
      cases e2
      exact ⟨o, e, ex.2.1⟩
  | _ => exact False.elim ty
noncomputable def tBM (K : PySem.W.Frag) (T : String) (r : V → List V → Hp → VK → Prop) (to : TE) (t : TA) : TE := fun σ H Q => to σ H fun x H1 => tyV K T x H1 ∧ t σ H1 fun xs H2 => r x xs H2 Q
variable {o e : Expr} {es : List Expr} {to : TE} {t : TA} {name : Str} {apos cpos : Pos} {T id : String} {r : V → List V → Hp → VK → Prop}
theorem pe_bm (pa : PlainAttrs T) (slot : Slot T name id) (hty : typeOf (.builtin id) = pure (.type "method_descriptor")) (hm : MtR X id r) (ho : PE X o to) (ha : PA X (e :: es) t)
    (hbase : attributeBase o name X.env (eval o X.env) = eval o X.env := by rfl)
    (hfew : ((backTo cpos (starEach (e :: es) X.env)).all (fun x => !x.1) && (backToKw cpos (keywordEach [] X.env)).all (fun x => x.1.isSome)
      && decide ((e :: es).length + ([] : List Keyword).length + (if ([] : List Keyword).isEmpty then 0 else 1) < 30)) = true := by rfl)
    (hline : (apos.endLine == cpos.line) = true := by rfl) (hs : starEach (e :: es) X.env = (false, eval e X.env) :: starEach es X.env := by rfl) (hplain : (backTo cpos (starEach es X.env)).any (·.1) = false := by rfl) :
    PE X (.Call (.Attribute o name apos) (e :: es) [] cpos) (tBM X.K T r to t) := by
  intro pins s σ H Q I h
  refine wpAny_Call_method_late hbase hfew hline rfl (thn (ho pins s σ H _ I h) fun v s1 ⟨x, H1, I1, r1, ty, q1⟩ => ?_)
  obtain ⟨h1, h2⟩ := tyV_is I1 r1 ty
  refine ⟨T, id, pa, slot, hty, h1, h2, ?_⟩
  have hA := ha cpos pins s1 σ H1 _ I1 q1
  rw [hs] at hA ⊢
  refine Calls.callWith_builtin (by show (false || (backTo cpos (starEach es X.env)).any (·.1)) = false; rw [hplain] <;> rfl) (Calls.evalArgs_plain ?_)
  exact thn hA fun us s2 ⟨vs, H2, I2, r2, q2⟩ => hm pins s2 σ H2 x vs v us Q I2 r1 r2 q2
/- xs.append(e), list.index on a module's tuple .. are MtR facts of 06m -/
end
end L2

namespace L2
open PySem PySem.Spec PyProof.Rows

noncomputable def MtM (X : Cx) (id : String) (r : V → List V → Hp → VK → Prop) : Prop :=
  ∀ (pins : List (Addr × Obj)) (s : Shared) (σ : St) (H : Hp) (x : V) (xs : List V) (v : Value) (us : List Value) (Q : VK), Inv X pins σ H s → RelV x v → Vals xs us → r x xs H Q →
    wpAny (model X.prog X.w) X.A (call (.builtin id) (v :: us)) (EP X pins σ Q) X.xe s

/-! ### lists of values -/
theorem Vals.one : ∀ {x : V} {us : List Value}, Vals [x] us → ∃ u, us = [u] ∧ RelV x u
  | _, _, .cons r .nil => ⟨_, rfl, r⟩
theorem Vals.reverse {xs : List V} {us : List Value} (h : Vals xs us) : Vals xs.reverse us.reverse := by
  induction h with
  | nil => exact .nil
  | cons r t ih => rw [List.reverse_cons, List.reverse_cons]; exact Vals.append ih (.cons r .nil)
theorem Vals.rep {xs : List V} {us : List Value} (h : Vals xs us) : ∀ k : Nat, Vals (List.replicate k xs).flatten (List.replicate k us).flatten
  | 0 => .nil
  | k + 1 => by
    rw [List.replicate_succ, List.replicate_succ, List.flatten_cons, List.flatten_cons]
    exact Vals.append h (Vals.rep h k)
theorem foldl_rep (its : List Value) : ∀ (k : Nat) (acc : List Value),
    List.foldl (fun x1 x2 => x1 ++ x2) acc.toArray (List.replicate k its.toArray) = (acc ++ (List.replicate k its).flatten).toArray
  | 0, acc => by simp
  | k + 1, acc => by
    have e : acc.toArray ++ its.toArray = (acc ++ its).toArray := by simp
    have e2 : (acc ++ its) ++ (List.replicate k its).flatten = acc ++ (List.replicate (k + 1) its).flatten := by
      rw [List.replicate_succ, List.flatten_cons, List.append_assoc]
    rw [← e2, ← foldl_rep its k (acc ++ its), ← e, List.replicate_succ, List.foldl_cons]

section
variable {X : Cx} {pins : List (Addr × Obj)} {σ : St} {H : Hp} {s : Shared} {l b : Addr} {xs ys zs : List V}

/-! ### the two steps: a tracked list is rewritten, a new list is laid -/
theorem Inv.lset {its its' : List Value} {n : Nat} {f : Array Value → Array Value} {t' : Nat} (I : Inv X pins σ H s) (hH : H l = some (.lst xs))
    (e : s.heap.get? l = some { cls := .type "list", data := .seq its.toArray n }) (hf : f its.toArray = its'.toArray) (hv : Vals ys its') (hz : ys.length ≤ sizeLine) :
    Inv X pins σ (upd H l (.lst ys)) { s with heap := s.heap.update l (Obj.mapSeq f), toks := t' } := by
  have q := PySem.IsL.update e f
  rw [hf] at q
  refine I.write (x := l) (e := l) (by rw [hH]; exact trivial) (.inl rfl) (fun b' u hb hu => (Heap.get?_update_other s.heap (Obj.mapSeq f) (Ne.symm hb)).trans hu) ⟨_, q⟩ ?_
  exact ⟨hz, its', _, hv, q⟩
theorem Inv.lnew {its : List Value} {t' : Nat} (I : Inv X pins σ H s) (hv : Vals ys its) (hz : ys.length ≤ sizeLine) :
    Inv X pins σ (upd H s.heap.objs.size (.lst ys)) { s with heap := s.heap.push { cls := .type "list", data := .seq its.toArray }, toks := t' } :=
  I.laid (fun _ _ q => Heap.get?_push_of_some _ q) (Nat.le_refl _) ⟨hz, its, 0, hv, Heap.get?_push_size _ rfl⟩
theorem Inv.fresh (I : Inv X pins σ H s) : H s.heap.objs.size = none := I.hok.fresh (Nat.le_refl _)
theorem Inv.lstM (I : Inv X pins σ H s) (hH : H l = some (.lst xs)) : xs.length ≤ sizeLine ∧ ∃ (its : List Value) (n : Nat), Vals xs its ∧ xs.length = its.length ∧ s.heap.get? l = some { cls := .type "list", data := .seq its.toArray n } := by
  obtain ⟨z, its, n, r, e⟩ := I.hok l _ hH
  exact ⟨z, its, n, r, r.length, e⟩

theorem notLongL {n : Nat} (h : n ≤ sizeLine) : Builtin.List.listTooLong n = false := by
  unfold Builtin.List.listTooLong
  exact decide_eq_false (by omega)
end

section
variable {X : Cx}

/-! ### methods -/
noncomputable def rAppend : V → List V → Hp → VK → Prop := fun x vs H Q => ∃ l xs y, x = .ref l ∧ vs = [y] ∧ H l = some (.lst xs) ∧ xs.length < sizeLine ∧ Q .non (upd H l (.lst (xs ++ [y])))
theorem mt_append : MtM X "list.append" rAppend := by
  intro pins s σ H x vs v us Q I rx rv h
  obtain ⟨l, xs, y, rfl, rfl, hH, hz, q⟩ := h
  cases rx
  obtain ⟨u, rfl, ru⟩ := rv.one
  obtain ⟨z, its, n, r, hl, e⟩ := I.lstM hH
  refine call_meets F.slot_list_append ⟨_, e, rfl⟩ F.entry_list_append (F.args_list_append_2 _ _) (PySem.list_append l its.toArray n u (by rw [List.size_toArray]; omega)) ⟨e, ?_⟩
  refine ⟨.non, _, I.lset (its' := its ++ [u]) hH e (by simp) (r.append (.cons ru .nil)) ?_, rfl, q⟩
  rw [List.length_append, List.length_singleton]
  omega

noncomputable def rExtend : V → List V → Hp → VK → Prop := fun x vs H Q => ∃ l b xs zs, x = .ref l ∧ vs = [.ref b] ∧ H l = some (.lst xs) ∧ H b = some (.lst zs) ∧ xs.length + zs.length ≤ sizeLine ∧ Q .non (upd H l (.lst (xs ++ zs)))
theorem mt_extend : MtM X "list.extend" rExtend := by
  intro pins s σ H x vs v us Q I rx rv h
  obtain ⟨l, b, xs, zs, rfl, rfl, hH, hB, hz, q⟩ := h
  cases rx
  obtain ⟨u, rfl, ru⟩ := rv.one
  cases ru
  obtain ⟨z, its, n, r, hl, e⟩ := I.lstM hH
  obtain ⟨z2, its2, n2, r2, hl2, e2⟩ := I.lstM hB
  have hsz : its.toArray.size + its2.toArray.size ≤ sizeLine := by rw [List.size_toArray, List.size_toArray]; omega
  have hlong : ¬ (!its.toArray.isEmpty && Builtin.List.listTooLong (its.toArray.size + its2.toArray.size)) = true := by
    rw [notLongL hsz, Bool.and_false]
    exact Bool.false_ne_true
  refine call_meets F.slot_list_extend ⟨_, e, rfl⟩ F.entry_list_extend (F.args_list_extend_2 _ _)
    (AutoSeq1.list_extend_list_list_0 l its.toArray n b its2.toArray n2 hlong (by rw [List.size_toArray]; omega) (by omega)) ⟨e, e2, ?_⟩
  refine ⟨.non, _, I.lset (its' := its ++ its2) hH e (by simp) (r.append r2) ?_, rfl, q⟩
  rw [List.length_append]
  omega

/-! ### list + list, list += list, list * int -/
noncomputable def rCat : R2 := fun x y H Q => ∃ l b xs zs, x = .ref l ∧ y = .ref b ∧ H l = some (.lst xs) ∧ H b = some (.lst zs) ∧ xs.length + zs.length ≤ sizeLine ∧ ∀ p, H p = none → Q (.ref p) (upd H p (.lst (xs ++ zs)))
theorem op_cat : OpR X (binaryOp .Add) rCat := by
  intro pins s σ H x y v u Q I rx ry h
  obtain ⟨l, b, xs, zs, rfl, rfl, hH, hB, hz, q⟩ := h
  cases rx
  cases ry
  obtain ⟨z, its, n, r, hl, e⟩ := I.lstM hH
  obtain ⟨z2, its2, n2, r2, hl2, e2⟩ := I.lstM hB
  refine PySem.P.add_list e e2 ?_ (by rw [List.size_toArray, List.size_toArray]; omega)
  have ea : its.toArray ++ its2.toArray = (its ++ its2).toArray := by simp
  rw [ea]
  exact ⟨.ref _, _, I.lnew (t' := s.toks) (r.append r2) (by rw [List.length_append]; omega), rfl, q _ I.fresh⟩
theorem len_rep {α : Type} (xs : List α) (k : Nat) : (List.replicate k xs).flatten.length = k * xs.length := by
  induction k with
  | zero => simp
  | succ k ih => rw [List.replicate_succ, List.flatten_cons, List.length_append, ih, Nat.succ_mul, Nat.add_comm]
/-! ### del xs[i] -/
end

/-! ### xs[a:b] = ys -/
section
variable {prog : Program} {w : World} {A : Around} {E : Value → Shared → Prop} {s : Shared}
end

section
variable {X : Cx}
end
end L2

namespace Att
open PySem PySem.W PySem.Calls PyProof.Rows

/-! ### the script -/
theorem ints_of_wellAll {P : Params} {h : Heap} : ∀ (ns : List Int) (vs : List Value), WellAll P h vs (ns.map WData.int) → IntsAre vs ns := by
  intro ns
  induction ns with
  | nil =>
    intro vs w
    rw [List.map_nil] at w
    cases w
    exact .nil
  | cons n ns ih =>
    intro vs w
    rw [List.map_cons] at w
    cases w with
    | cons a b =>
      cases a
      exact .cons _ _ (ih _ b)

theorem script_of {l : OpenLaw} {n : Nat} (hn : l.most = some n) {P : Params} {h : Heap} {args : List WData} {vals : List Value}
    (hpre : l.row.toRowW.claim.pre args = true) (hwl : WellAll P h vals args) :
    ∃ a vs ns, vals = [Value.ref a] ∧ args = [WData.list (ns.map WData.int)] ∧ h.get? a = some { cls := .type "list", data := .seq vs.toArray } ∧ IntsAre vs ns ∧ ns.length ≤ n := by
  have hsh : WShape.hasAll [] args [.list .int] = true := (pre_splitW hpre).1
  have hc : l.pre.holds [] { args := args } = true := (pre_splitW hpre).2
  obtain ⟨d, r, rfl, h1, h2⟩ := hasAllW_cons hsh
  obtain rfl := hasAllW_nil h2
  obtain ⟨xs, rfl, h3⟩ := hasW_list h1
  obtain ⟨ns, rfl⟩ := items_int h3
  have hlen : ns.length ≤ n := by
    unfold OpenLaw.pre at hc
    have h4 : (WTm.not (.lt (.lit (.int (n : Int))) (.len (.arg 0)))).holds [] { args := [.list (ns.map .int)] } = true := by
      have h4 := (holds_andW hc).1
      rw [hn] at h4
      exact h4
    have h5 := condW_of h4 (w_not (w_lt w_lit (w_len_list (w_arg rfl))))
    rw [List.length_map] at h5
    refine Nat.le_of_not_lt fun q => ?_
    have q' : (n : Int) < ((ns.length : Nat) : Int) := by omega
    first
      | (rw [decide_eq_true q'] at h5; exact absurd h5 (by decide))
      | (simp at h5; omega)
  cases hwl with
  | cons w1 w2 =>
    cases w2
    cases w1 with
    | list ho hall => exact ⟨_, _, ns, rfl, rfl, ho, ints_of_wellAll ns _ hall, hlen⟩

theorem post_true (l : OpenLaw) (args : List WData) : l.row.toRowW.claim.post args (.bool true) args = true :=
  postW_of (r := l.row.toRowW) (X := (true == true))
    (show WShape.has [] (.bool true) .bool = true by first | rfl | decide | simp [WShape.has, WShape.arms, WShape.armsAll])
    (show (WTm.eq .res (.lit (.bool true))).value [] { args := args, res := some (.bool true), after := args } = some (.bool (true == true)) from w_eq_bool (w_res rfl) w_lit) rfl

/-! ### the attachment: holds_open's last premise (the goal 'hc' behind k_head) from a wpAny of the law's body -/
/-- the same from a codeAny of the CALL (for a layer whose function contracts speak of calls) -/
theorem attach_call {l : OpenLaw} {n : Nat} {q : Program} {loose : List Str} {XP : (Str → Option Value) → Heap → Prop} {YP : World → Heap → Prop} {d : DefRec}
    (hn : l.most = some n) (hdf : d.params.defaults = [])
    (call : ∀ (w : World) (s₀ s₁ : Shared) (mg mb : Str → Option Value) (fa : Addr) (o : Obj) (pm cd doc : Value) (a : Addr) (vs : List Value) (ns : List Int),
      Ground q loose [] XP w s₀ mg mb s₁.heap → YP w s₁.heap →
      s₁.heap.get? fa = some o → o.data = .func (docDef d.name d.params d.body d.scope pm cd doc) → s₁.heap.CodeRec cd d.name → mg d.name = some (.ref fa) →
      s₁.heap.get? a = some { cls := .type "list", data := .seq vs.toArray } → IntsAre vs ns → ns.length ≤ n → s₁.gens = #[] →
      codeAny (model l.prog w) callerA (.call (.ref fa) ⟨[.ref a], []⟩) (fun r s' => r = .ok (.ret (.bool true)) ∧ OldK s₁.heap s'.heap ∧ s'.os = s₁.os ∧ AllBare s'.gens) s₁) :
    WalkO q loose XP YP l.row.toRowW d [] (fun f vs => PySem.call f vs) := by
  intro w s₀ s₁ mg mb G Y fa o pm cd doc dV kV ho hd hcd hD hmg hg args vals as hpre hlay hrd hwl hlo
  obtain rfl : dV = .none := Dflts.none hD hdf
  obtain rfl : kV = .none := Dflts.noKw hD
  obtain ⟨a, vs, ns, rfl, rfl, hobj, hints, hlen⟩ := script_of hn hpre hwl
  refine enter_call (codeAny_mono (call w s₀ s₁ mg mb fa o pm cd doc a vs ns G Y ho (fd_plain hd) hcd hmg hobj hints hlen hg) fun r s' hq => ?_)
  obtain ⟨rfl, h2, h3, h4⟩ := hq
  exact ⟨.inl ⟨.bool true, .bool true, [], rfl, fun _ => rfl, .bool true, post_true l _, fun _ => ⟨List.Pairwise.nil, fun _ hm => (nomatch hm)⟩⟩, h2, h3, h4⟩

/-! ### rules over ANY heap (no ledger) from facts about the written part K: the library's own take a ledger (News) for what they write -/
section
variable {prog : Program} {w : World} {A : Around} {E : Value → Shared → Prop} {s : Shared} {K : Frag}

/-! the whole heap as the ledger: makes every rule that writes through a ledger a rule over any heap -/
end
end Att

namespace L2
open PySem PySem.Spec PyProof.Rows

theorem vals_ints : ∀ {vs : List Value} {ns : List Int}, IntsAre vs ns → Vals (ns.map V.int) vs
  | _, _, .nil => .nil
  | _, _, .cons n t h => .cons ⟨t, rfl⟩ (vals_ints h)

/-- nothing is tracked but the script, known to the object (or it is an object of the module) -/
noncomputable def Only (H : Hp) : Prop := ∀ b, H b = none ∨ ∃ o xs, H b = some (.frz o (.lst xs))

/-- THE HEAD: the law's promise, at the heap behind the top. F, the promise of the law's def, may use that base is part of the heap (so K.In base, base.Ns mainGlobals mg stand in Mod) -/
theorem law_call {P : Program} {w : World} {K : PySem.W.Frag} {mg mb : Str → Option Value} {CX : CXT} {k : Nat} {fa a : Addr} {fd : FuncData} {x : Str} {sp : Sp} {s₁ : Shared} {vs : List Value} {ns : List Int}
    (KX : K.In s₁.heap) (hns : s₁.heap.Ns mainGlobals mg) (hb : s₁.heap.Ns builtinsNs mb) (hbb : ∀ x : Str, x ≠ "__name__" → mb x = bootBuiltins x) (hlim : s₁.heap.NoLimit) (hg : s₁.gens = #[])
    (ha : s₁.heap.get? a = some { cls := .type "list", data := .seq vs.toArray }) (hi : IntsAre vs ns) (hl : ns.length ≤ sizeLine) (hr : Room k callerA)
    (F : ∀ base : Heap, K.In base → base.Ns mainGlobals mg → FnOk P w K mg base CX k fa fd [x] sp) (hbind : ∀ (s : Shared) (u : Value), BindsTo s fd ⟨[u], []⟩ [(x, u)])
    (hsp : ∀ H : Hp, Only H → SqL K H a (ns.map V.int) → sp [.ref a] H (fun v _ => v = .bl true) fun _ _ _ => False)
    (hCX : ∀ H e s', CX [] H s₁ (fun _ _ _ => False) e s' → False) :
    codeAny (model P w) callerA (.call (.ref fa) ⟨[.ref a], []⟩) (fun r s' => r = .ok (.ret (.bool true)) ∧ OldK s₁.heap s'.heap ∧ s'.os = s₁.os ∧ AllBare s'.gens) s₁ := by
  have rv := vals_ints hi
  have lenV := hi.length
  -- from an abstract heap in which nothing but the script may be tracked
  have core : ∀ H : Hp, Only H → SqL K H a (ns.map V.int) → HOk P w H s₁.heap → (∀ b, H b ≠ none → b = a) → (H a ≠ none → K.lookup a = none) →
      codeAny (model P w) callerA (.call (.ref fa) ⟨[.ref a], []⟩) (fun r s' => r = .ok (.ret (.bool true)) ∧ OldK s₁.heap s'.heap ∧ s'.os = s₁.os ∧ AllBare s'.gens) s₁ := by
    intro H hO hS hok hA hK
    have base_of : ∀ {b : Addr} {o : Obj}, s₁.heap.get? b = some o → H b = none → (hidT s₁.heap H).get? b = some o := fun e n => hidT_get e n
    have noA : ∀ {b : Addr} {o : Obj} {es : Array DictEntry} {ep : Nat}, s₁.heap.get? b = some o → o.data = .dict es ep → H b = none := fun {b o es ep} e d => by
      cases q : H b with
      | none => rfl
      | some u =>
        have e' : b = a := hA b (by rw [q]; simp)
        subst e'
        rw [ha] at e; cases e
        have d' : Data.seq vs.toArray _ = Data.dict es ep := d
        cases d'
    have nsK : ∀ {b : Addr} {m : Str → Option Value}, s₁.heap.Ns b m → (hidT s₁.heap H).Ns b m := fun {b m} ⟨o, es, ep, e, d, r⟩ => ⟨o, es, ep, base_of e (noA e d), d, r⟩
    have hKb : K.In (hidT s₁.heap H) := fun b o e => base_of (KX b o e) (by
      cases q : H b with
      | none => rfl
      | some u =>
        have e' : b = a := hA b (by rw [q]; simp)
        subst e'
        rw [hK (by rw [q]; simp)] at e; cases e)
    have hM : Mod K mg (hidT s₁.heap H) := ⟨hKb, nsK hns, ⟨mb, nsK hb, hbb⟩, let ⟨mc, h1, h2⟩ := hlim; ⟨mc, nsK h1, h2⟩⟩
    have e0 : Env0 P w K mg (hidT s₁.heap H) callerA [] s₁ H := ⟨rfl, hM, fun b o e => of_hidT e, Nat.le_of_eq (hidT_size _ _), trivial, fun b hb => absurd (show b ∈ ([] : List Addr) from hb) (by simp), hok, .of_eq hg⟩
    refine codeAny_mono ((F _ hKb (nsK hns)).run callerA [] s₁ H ⟨[.ref a], []⟩ [.ref a] [.ref a] _ _ hr e0 (hbind s₁ (.ref a)) (.cons rfl .nil) (hsp H hO hS)) fun r s' h => ?_
    cases r with
    | error e => exact (hCX H e s' h).elim
    | ok fl =>
      cases fl with
      | next => exact False.elim h
      | brk => exact False.elim h
      | cont => exact False.elim h
      | ret u =>
        obtain ⟨v, H', os, bare, un, hok', r', q⟩ := h
        have q' : v = .bl true := q
        subst q'
        obtain rfl : u = Value.bool true := r'
        refine ⟨rfl, OldK.of_keep fun b o e => ?_, os, bare⟩
        cases q : H b with
        | none => exact un.keep b o e q (by intro z; exact absurd (show b ∈ ([] : List Addr) from z) (by simp)) (by simp)
        | some u =>
          rcases hO b with z | ⟨ob, xs, z⟩
          · rw [q] at z; cases z
          · have z2 := un.frzs b ob _ z
            obtain ⟨e1, _⟩ := hok b _ z
            obtain ⟨e2, _⟩ := hok' b _ z2
            rw [e] at e1; cases e1
            exact e2
  cases hk : K.lookup a with
  | some o =>
    -- the script is one of the module's own objects
    have e := KX a o hk
    rw [ha] at e
    cases e
    refine core (fun _ => none) (fun _ => .inl rfl) (.inr ⟨_, vs.toArray, _, hk, rfl, rfl, rfl, by rw [List.size_toArray, lenV]; exact hl, by simpa using rv⟩) (fun b u z => by have z' : (none : Option HO) = some u := z; cases z') (fun b z => absurd rfl z) fun z => absurd rfl z
  | none =>
    refine core (fun b => if b = a then some (.frz { cls := .type "list", data := .seq vs.toArray } (.lst (ns.map V.int))) else none) (fun b => ?_) (.inl (.inr ⟨{ cls := .type "list", data := .seq vs.toArray }, if_pos rfl⟩)) (fun b u z => ?_) (fun b z => ?_) fun _ => hk
    · by_cases hb : b = a
      · exact .inr ⟨_, _, if_pos hb⟩
      · exact .inl (if_neg hb)
    · by_cases hb : b = a
      · have z' := (if_pos hb).symm.trans z
        cases z'
        subst hb
        exact ⟨ha, by rw [List.length_map]; exact hl, vs, _, rv, ha⟩
      · have z' := (if_neg hb).symm.trans z
        cases z'
    · by_cases hb : b = a
      · exact hb
      · exact absurd (if_neg hb) z
end L2

namespace L2
open PySem PySem.Spec PyProof.Rows

/-- the goal that k_head leaves (case hc), from the law's promise. F gives the function object fd (K's own) once, then the promise over every base -/
theorem walk_of {l : PySem.W.OpenLaw} {n k : Nat} {q : Program} {loose : List Str} {XP : (Str → Option Value) → Heap → Prop} {YP : World → Heap → Prop} {d : DefRec} {K : Params → PySem.W.Frag} {CX : World → CXT} {sp : World → Sp} {x : Str}
    (hn : l.most = some n) (hn2 : n ≤ sizeLine) (hdf : d.params.defaults = []) (hr : Room k callerA)
    (hY : ∀ (w : World) (h : Heap), YP w h → (K w.params).In h)
    (F : ∀ (w : World) (mg : Str → Option Value) (fa : Addr) (h : Heap), (K w.params).In h → h.Ns mainGlobals mg → mg d.name = some (.ref fa) →
      ∃ fd : FuncData, (∀ (s : Shared) (u : Value), BindsTo s fd ⟨[u], []⟩ [(x, u)]) ∧
        ∀ base : Heap, (K w.params).In base → base.Ns mainGlobals mg → FnOk l.prog w (K w.params) mg base (CX w) k fa fd [x] (sp w))
    (hsp : ∀ (w : World) (H : Hp) (a : Addr) (ns : List Int), ns.length ≤ n → Only H → SqL (K w.params) H a (ns.map V.int) → sp w [.ref a] H (fun v _ => v = .bl true) fun _ _ _ => False)
    (hCX : ∀ (w : World) (H : Hp) (s : Shared) (e : Value) (s' : Shared), CX w [] H s (fun _ _ _ => False) e s' → False) :
    PySem.W.WalkO q loose XP YP l.row.toRowW d [] (fun f vs => PySem.call f vs) := by
  refine Att.attach_call hn hdf fun w s₀ s₁ mg mb fa o pm cd doc a vs ns G Y ho hd hcd hmg hobj hints hlen hg => ?_
  have KX := hY w _ Y
  obtain ⟨fd, hb, hF⟩ := F w mg fa _ KX G.T.g hmg
  exact law_call KX G.T.g G.T.b G.T.builtins G.T.nolimit hg hobj hints (Nat.le_trans hlen hn2) hr hF hb (fun H hO hS => hsp w H a ns hlen hO hS) fun H e s' => hCX w H s₁ e s'
end L2

/- THE LAST THEOREM (shape; LID, My.* are yours):
   My.Adr: a structure of the addresses that your layer names (classes, functions); My.Txt K t: a structure (Prop) of the equations over K;
   My.txt_mk : {K} {implicit addresses ..} (e1 : nsIn K mainGlobals "law" = some (some (.ref f))) (e2 : K.lookup f = some ⟨oc, od, .func (fnOf "law" "law" params body scope dV kV doc pm an cdv ct), sl⟩) (e3 : codeIn K cdv "law" = true) .. : ∃ t, My.Txt K t

set_option maxRecDepth 100000 in
set_option maxHeartbeats 0 in
theorem PySem.Challenge.cw_LID_holds : PySem.Challenge.rw_LID.Holds := by
  w_on; o_law; k_head; (case hw => w_witness2)
  k_fill
  refine L2.walk_of (l := PySem.Challenge.rw_LID) (n := 63) (k := 40) (x := "script") (CX := fun w => ..) (sp := fun _ => My.sp_law) rfl (by decide) rfl ⟨rfl, by decide, by decide⟩ (fun w h Y => PySem.W.kIn_of Y) ?F ?S ?C
  case F =>
    intro w mg fa h KX G hmg
    have T : ∃ t, My.Txt (L2.KOf KX) t := by
      dsimp only [L2.KOf]                          -- K must stand as «<heap const> w.params» for k_is
      refine' My.txt_mk ?e1 ?e2 ?e3 ..
      (case e1 => PySem.W.k_is)                    -- in the order: a name -> its address -> its object -> its parts
      (case e2 => PySem.W.k_is)
      ..
    obtain ⟨t, T⟩ := T
    have e0 := hmg.symm.trans (PySem.W.mg_of KX G T.law)
    cases e0                                       -- fa is the law's own address
    exact ⟨_, fun s u => .of_eq rfl, fun base kb nb => My.law_fn T kb nb⟩     -- if «.of_eq rfl» comes too early: refine' ⟨_, ?b, fun base kb nb => My.law_fn T kb nb⟩; exact fun s u => .of_eq rfl
  case S => exact fun w H a ns hl hO hS => ..
  case C => exact ..
(the tactic k_is has no namespace: write k_is) -/

/-! SHORT WORDS over the layer: a def of the text, its body, what a loop and a test want. -/
namespace L2
open PySem PySem.Spec PyProof.Rows

/-! ### the text by places -/
noncomputable def defArgs (s : Stmt) : Arguments := match s with
  | .FunctionDef _ a _ _ _ _ _ _ _ _ => a
  | _ => { posonlyargs := [], args := [], vararg := none, kwonlyargs := [], kw_defaults := [], kwarg := none, defaults := [] }
noncomputable def defBody (s : Stmt) : List Stmt := match s with
  | .FunctionDef _ _ b _ _ _ _ _ _ _ => b
  | _ => []
noncomputable def defScope (s : Stmt) : Scope := match s with
  | .FunctionDef _ _ _ _ _ _ sc _ _ _ => sc
  | _ => { kind := .function, names := [], isGenerator := false, isCoroutine := false }

/-! ### no exception leaves a def -/
noncomputable abbrev CX0 : CXT := fun _ _ _ _ _ _ => False
noncomputable abbrev E0 : XK := fun _ _ _ => False
theorem pass0 {X : Cx} : Passes CX0 X E0 := fun _ _ _ _ _ _ _ h => h.elim

/-! ### a def (or method) of the text as it stands behind the top -/
structure Fun (K : PySem.W.Frag) (x qual : Str) (st : Stmt) (f : Addr) (fd : FuncData) : Prop where
  ex : ∃ (oc : Value) (od : Option Addr) (kV doc pm : Value) (an : Option Addr) (cdv ct : Value) (osl : Array (Option Value)),
    fd = PySem.W.fnOf x qual (defArgs st) (defBody st) (defScope st) .none kV doc pm an cdv ct ∧ K.lookup f = some ⟨oc, od, .func fd, osl⟩ ∧ PySem.W.codeIn K cdv qual = true
  kp : PySem.W.keepIn K (.ref f) = true
section
variable {P : Program} {w : World} {K : PySem.W.Frag} {mg : Str → Option Value} {base : Heap}
/-- THE RULE for a def: its body as a term of rules, and the reading of that term -/
theorem Fun.ok {x qual : Str} {st : Stmt} {f : Addr} {fd : FuncData} {N ps : List Str} {k : Nat} {sp : Sp} (F : Fun K x qual st f fd) (S : FnScope N ps (defScope st)) (len : ∀ vs H Q E, sp vs H Q E → vs.length = ps.length)
    (hbody : ∀ (cdv : Value) (A : Around) (outer : List Env) (s : Shared) (H : Hp) (vs : List V) (Q : VK) (E : XK), Room k (A.deeper (envOfC qual (defScope st) s.heap.objs.size f cdv)) → sp vs H Q E →
      ∃ t, PSs (cxOf CX0 P w K mg base N qual (defScope st) f cdv A outer s H E).nox (defBody st) t ∧ t { nx := fun _ H' => Q .non H', rt := Q } (start N vs) H) : FnOk P w K mg base CX0 (k + 1) f fd ps sp := by
  obtain ⟨oc, od, kV, doc, pm, an, cdv, ct, osl, rfl, lk, hcd⟩ := F.ex
  refine fn_of lk hcd S len fun A outer s H vs Q E hr hsp => ?_
  obtain ⟨t, h, q⟩ := hbody cdv A outer s H vs Q E hr hsp
  exact ⟨t, h.nox, q⟩
/-- how its arguments bind (no defaults): h is «fun _ _ _ _ _ _ us hl => match us, hl with | [_, _], _ => rfl», one _ a parameter -/
theorem Fun.binds {x qual : Str} {st : Stmt} {f : Addr} {fd : FuncData} {ps : List Str} (F : Fun K x qual st f fd)
    (h : ∀ (kV doc pm : Value) (an : Option Addr) (cdv ct : Value) (us : List Value), us.length = ps.length → bindArgs (PySem.W.fnOf x qual (defArgs st) (defBody st) (defScope st) .none kV doc pm an cdv ct) ⟨us, []⟩ = pure (ps.zip us)) : Binds K fd ps [] := by
  obtain ⟨oc, od, kV, doc, pm, an, cdv, ct, osl, rfl, lk, hcd⟩ := F.ex
  exact .all (h kV doc pm an cdv ct)
theorem fun_mk {x qual : Str} {st : Stmt} {f : Addr} {oc : Value} {od an : Option Addr} {osl : Array (Option Value)} {kV doc pm cdv ct : Value} (l : K.lookup f = some ⟨oc, od, .func (PySem.W.fnOf x qual (defArgs st) (defBody st) (defScope st) .none kV doc pm an cdv ct), osl⟩)
    (c : PySem.W.codeIn K cdv qual = true) (k : PySem.W.keepIn K (.ref f) = true) : Fun K x qual st f (PySem.W.fnOf x qual (defArgs st) (defBody st) (defScope st) .none kV doc pm an cdv ct) := ⟨⟨oc, od, kV, doc, pm, an, cdv, ct, osl, rfl, l, c⟩, k⟩
end
theorem small1000 {n : Nat} (h : n ≤ 1000) : n < sizeLine := Nat.lt_of_le_of_lt h (by decide)

/-! ### expressions in short: the name that stands in the i-th slot -/
section
variable {X : Cx}
theorem pv (i : Nat) {x : Str} {pos : Pos} (hN : X.N[i]? = some x := by rfl) (hv : Vis X.env.scope x := by first | exact Or.inl rfl | exact Or.inr (Or.inl rfl) | exact Or.inr (Or.inr rfl)) (hd : (x == ("__debug__" : Str)) = false := by decide)
    (hcd : (x == ("__classdict__" : Str)) = false := by decide) : PE X (.Name x pos) (tVar i) := pe_var hN hv hd hcd
end

/-! ### tests -/
theorem iteF {A B : Prop} (h : B) : if false = true then A else B := by
  rw [if_neg Bool.false_ne_true]
  exact h
theorem iteT {A B : Prop} (h : A) : if true = true then A else B := by
  rw [if_pos rfl]
  exact h
theorem ite2 {c A B : Prop} [Decidable c] (h1 : c → A) (h2 : ¬ c → B) : if c then A else B := by
  by_cases h : c
  · rw [if_pos h]
    exact h1 h
  · rw [if_neg h]
    exact h2 h
theorem iteNS {c A B : Prop} [Decidable c] (hc : c) (h : B) : if (!decide c) = true then A else B := by
  rw [decide_eq_true hc]
  exact iteF h

/-! ### heaps -/
/-- all that was tracked is as it was -/
noncomputable def Same (H H' : Hp) : Prop := ∀ b o, H b = some o → H' b = some o
theorem Same.refl (H : Hp) : Same H H := fun _ _ h => h
theorem Same.trans {H H1 H2 : Hp} (a : Same H H1) (b : Same H1 H2) : Same H H2 := fun c o h => b c o (a c o h)
theorem Same.free {H H' : Hp} (e : Same H H') {l : Addr} (h : H' l = Option.none) : H l = Option.none := by
  cases q : H l with
  | none => rfl
  | some o =>
    rw [e l o q] at h
    cases h
theorem Same.seq {K : PySem.W.Frag} {H H' : Hp} {a : Addr} {xs : List V} (e : Same H H') (h : SqL K H a xs) : SqL K H' a xs := by
  rcases h with (h | ⟨o, h⟩) | h
  · exact .inl (.inl (e _ _ h))
  · exact .inl (.inr ⟨o, e _ _ h⟩)
  · exact .inr h

end L2

set_option Elab.async false
set_option linter.all false
set_option maxRecDepth 100000
namespace L2
open PySem PySem.Spec PyProof.Rows

/-! ### a list comprehension of one clause over the layer -/
/-- the cells that the block closes over -/
noncomputable def clOf (env : Env) : List (Str × NameKind) → List (Str × Addr) → List (Str × Addr)
  | [], acc => acc
  | (x, k) :: r, acc => if (k == NameKind.free) = true then (match env.cells.lookup x with | some c => clOf env r ((x, c) :: acc) | none => clOf env r acc) else clOf env r acc
theorem clOf_from (env : Env) : ∀ (ns : List (Str × NameKind)) (acc : List (Str × Addr)) (x : Str) (c : Addr), (x, c) ∈ clOf env ns acc → (x, c) ∈ acc ∨ env.cells.lookup x = some c
  | [], acc, x, c, h => .inl h
  | (y, k) :: r, acc, x, c, h => by
    unfold clOf at h
    split at h
    · split at h
      · next d e =>
        rcases clOf_from env r _ x c h with z | z
        · rcases List.mem_cons.mp z with q | q
          · cases q; exact .inr e
          · exact .inl q
        · exact .inr z
      · exact clOf_from env r acc x c h
    · exact clOf_from env r acc x c h
theorem clOf_acc (env : Env) : ∀ (ns : List (Str × NameKind)) (acc : List (Str × Addr)) (p : Str × Addr), p ∈ acc → p ∈ clOf env ns acc
  | [], acc, p, h => h
  | (y, k) :: r, acc, p, h => by
    unfold clOf
    split
    · split
      · exact clOf_acc env r _ p (List.mem_cons_of_mem _ h)
      · exact clOf_acc env r _ p h
    · exact clOf_acc env r _ p h
theorem clOf_has (env : Env) : ∀ (ns : List (Str × NameKind)) (acc : List (Str × Addr)) (x : Str) (c : Addr), (x, NameKind.free) ∈ ns → env.cells.lookup x = some c → (x, c) ∈ clOf env ns acc
  | [], acc, x, c, h, _ => nomatch h
  | (y, k) :: r, acc, x, c, h, e => by
    unfold clOf
    rcases List.mem_cons.mp h with q | q
    · cases q
      rw [if_pos (show (NameKind.free == NameKind.free) = true from rfl), e]
      exact clOf_acc env r _ _ List.mem_cons_self
    · split
      · split
        · exact clOf_has env r _ x c q e
        · exact clOf_has env r _ x c q e
      · exact clOf_has env r _ x c q e
theorem look_mem {l : List (Str × Addr)} {x : Str} {c : Addr} (h : (x, c) ∈ l) : ∃ d, l.lookup x = some d := by
  induction l with
  | nil => cases h
  | cons p r ih =>
    obtain ⟨y, d⟩ := p
    rw [List.lookup_cons]
    cases hx : x == y with
    | true => exact ⟨d, rfl⟩
    | false =>
      rcases List.mem_cons.mp h with q | q
      · cases q
        rw [beq_self_eq_true] at hx
        cases hx
      · exact ih q
theorem clOf_look {env : Env} {ns : List (Str × NameKind)} {x : Str} {c : Addr} (h : (clOf env ns []).lookup x = some c) : env.cells.lookup x = some c := by
  rcases clOf_from env ns [] x c (PySem.mem_of_lookup h) with z | z
  · cases z
  · exact z
theorem clOf_got {env : Env} {ns : List (Str × NameKind)} {x : Str} {c : Addr} (h : (x, NameKind.free) ∈ ns) (e : env.cells.lookup x = some c) : (clOf env ns []).lookup x = some c := by
  obtain ⟨d, q⟩ := look_mem (clOf_has env ns [] x c h e)
  rw [q, ← clOf_look q, e]
theorem closure_is {env : Env} {scope : Scope} (h : ∀ x ∈ scope.names, x.2 = NameKind.free → ∃ c, env.cells.lookup x.1 = some c) : closureFor scope env = pure (clOf env scope.names []) := by
  have go : ∀ (ns : List (Str × NameKind)) (acc : List (Str × Addr)), (∀ x ∈ ns, x.2 = NameKind.free → ∃ c, env.cells.lookup x.1 = some c) →
      (forIn ns acc (fun x cs => match x with | (name, kind) => if (kind == NameKind.free) = true then (do let c ← cellOf env name; pure (ForInStep.yield ((name, c) :: cs))) else pure (ForInStep.yield cs)) : Sem (List (Str × Addr))) = pure (clOf env ns acc) := by
    intro ns
    induction ns with
    | nil => intro acc _; rfl
    | cons p r ih =>
      intro acc hh
      obtain ⟨y, k⟩ := p
      rw [List.forIn_cons]
      unfold clOf
      by_cases hk : (k == NameKind.free) = true
      · rw [if_pos hk]
        obtain ⟨c, e⟩ := hh (y, k) List.mem_cons_self (by cases k <;> first | rfl | cases hk)
        dsimp only at e ⊢
        rw [if_pos hk]
        unfold cellOf
        rw [e]
        exact ih _ fun x hx => hh x (List.mem_cons_of_mem _ hx)
      · rw [if_neg hk]
        dsimp only
        rw [if_neg hk]
        exact ih _ fun x hx => hh x (List.mem_cons_of_mem _ hx)
  unfold closureFor
  have q := go scope.names [] h
  simp only [bind_pure]
  exact q

/-- the block's context -/
noncomputable def cxLc (X : Cx) (scope : Scope) (N : List Str) (C : Addr) (s0 : Shared) (H0 : Hp) (fp : List Addr) : Cx :=
  { X with N := N, s₀ := s0, H₀ := H0, env := compEnvC scope (clOf X.env scope.names []) C X.env, outer := X.stack, stack := X.stack, ex := fp, fn := fun _ => false, pn := [], xe := fun _ _ => False }
/-- the block's names: which of them are the outer ones -/
noncomputable def emb (ix : List (Option Nat)) (σ : St) : St := ix.map fun o => match o with | none => none | some j => (σ[j]?).join
noncomputable def embOk (No : List Str) (out : Str → Option NameKind) (scope : Scope) (N : List Str) (ix : List (Option Nat)) : Bool :=
  (N.length == ix.length) && (N.zip ix).all fun p => match p.2 with | none => true | some j => (No[j]? == some p.1) && (scope.names.lookup p.1 == some NameKind.free) && ((out p.1 == some .cell) || (out p.1 == some .free))
structure LcOk (X : Cx) (scope : Scope) (N : List Str) (ix : List (Option Nat)) : Prop where
  kind : scope.kind = .function
  names : scope.names.all (fun x => (x.2 != .cell) && ((x.2 != .local) || (scope.names.lookup x.1 == some .local)) && ((x.2 != .free) || (X.env.kindOf x.1 == some .cell) || (X.env.kindOf x.1 == some .free))) = true
  em : embOk X.N X.env.kindOf scope N ix = true
  nd : N.Nodup

theorem relab {scope : Scope} {env : Env} {x : Str} {k : NameKind} : ∀ {ns : List (Str × NameKind)}, (ns.map fun (n, k) => if (k == NameKind.free && env.scope.kind == .function && env.kindOf n == some .cell) = true then (n, NameKind.cell) else (n, k)).lookup x = some k →
    (k = .cell ∨ k = .free) → (∀ y ∈ ns, y.2 ≠ .cell) → (x, NameKind.free) ∈ ns
  | [], h, _, _ => by cases h
  | (n, k') :: r, h, hk, hc => by
    have ih := fun h' => relab (scope := scope) (env := env) (x := x) (k := k) (ns := r) h' hk fun y hy => hc y (List.mem_cons_of_mem _ hy)
    have key : ∀ k'' : NameKind, List.lookup x ((n, k'') :: (r.map fun (n, k) => if (k == NameKind.free && env.scope.kind == .function && env.kindOf n == some .cell) = true then (n, NameKind.cell) else (n, k))) = some k →
        (k'' = k' ∨ (k'' = .cell ∧ k' = .free)) → (x, NameKind.free) ∈ (n, k') :: r := fun k'' h hq => by
      rw [List.lookup_cons] at h
      cases hx : x == n with
      | true =>
        rw [hx] at h
        cases h
        have e : x = n := eq_of_beq hx
        subst e
        rcases hq with q | ⟨_, q⟩
        · rcases hk with z | z
          · exact absurd (q.symm.trans z) (hc (x, k') List.mem_cons_self)
          · rw [← q, z]; exact List.mem_cons_self
        · rw [q]; exact List.mem_cons_self
      | false =>
        rw [hx] at h
        exact List.mem_cons_of_mem _ (ih h)
    rw [List.map_cons] at h
    dsimp only at h
    split at h
    · next hh =>
      refine key _ h (.inr ⟨rfl, ?_⟩)
      cases k' <;> first | rfl | (simp at hh)
    · exact key _ h (.inl rfl)

theorem relab2 {env : Env} {x : Str} : ∀ {ns : List (Str × NameKind)}, ns.lookup x = some NameKind.free → ∃ k, (k = NameKind.cell ∨ k = NameKind.free) ∧
    (ns.map fun (n, k) => if (k == NameKind.free && env.scope.kind == .function && env.kindOf n == some .cell) = true then (n, NameKind.cell) else (n, k)).lookup x = some k
  | [], h => by cases h
  | (n, k') :: r, h => by
    rw [List.lookup_cons] at h
    rw [List.map_cons]
    dsimp only
    cases hx : x == n with
    | true =>
      rw [hx] at h
      cases h
      split
      · exact ⟨_, .inl rfl, by rw [List.lookup_cons, hx]⟩
      · exact ⟨_, .inr rfl, by rw [List.lookup_cons, hx]⟩
    | false =>
      rw [hx] at h
      obtain ⟨k, hk, e⟩ := relab2 (env := env) (ns := r) h
      refine ⟨k, hk, ?_⟩
      split <;> (rw [List.lookup_cons, hx]; exact e)

section
variable {X : Cx} {scope : Scope} {N : List Str} {ix : List (Option Nat)}
theorem LcOk.nocell (L : LcOk X scope N ix) : ∀ x ∈ scope.names, x.2 ≠ .cell := fun x hx z => by
  have q := List.all_eq_true.mp L.names x hx
  rw [z] at q
  simp at q
theorem LcOk.locals (L : LcOk X scope N ix) : ∀ x ∈ scope.names, x.2 = .local → scope.names.lookup x.1 = some .local := fun x hx z => by
  have q := List.all_eq_true.mp L.names x hx
  rw [z] at q
  simpa using q
theorem LcOk.frees (L : LcOk X scope N ix) : ∀ x ∈ scope.names, x.2 = .free → X.env.kindOf x.1 = some .cell ∨ X.env.kindOf x.1 = some .free := fun x hx z => by
  have q := List.all_eq_true.mp L.names x hx
  rw [z] at q
  simpa using q
theorem LcOk.clos (L : LcOk X scope N ix) (ok : X.Ok) : closureFor scope X.env = pure (clOf X.env scope.names []) :=
  closure_is fun x hx z => ok.has _ (L.frees x hx z)
theorem LcOk.len (L : LcOk X scope N ix) : N.length = ix.length := by
  have q := L.em
  unfold embOk at q
  rw [Bool.and_eq_true] at q
  exact eq_of_beq q.1
theorem LcOk.out (L : LcOk X scope N ix) {i j : Nat} {x : Str} (h1 : N[i]? = some x) (h2 : ix[i]? = some (some j)) : X.N[j]? = some x ∧ scope.names.lookup x = some NameKind.free ∧ (X.env.kindOf x = some .cell ∨ X.env.kindOf x = some .free) := by
  have q := L.em
  unfold embOk at q
  rw [Bool.and_eq_true] at q
  have hz : (N.zip ix)[i]? = some (x, some j) := by
    rw [List.getElem?_zip_eq_some]
    exact ⟨h1, h2⟩
  have r := List.all_eq_true.mp q.2 _ (List.mem_of_getElem? hz)
  simp only [Bool.and_eq_true, Bool.or_eq_true, beq_iff_eq] at r
  exact ⟨r.1.1, r.1.2, r.2⟩
/-- the block's context is in order -/
theorem lc_ok (L : LcOk X scope N ix) {pins : List (Addr × Obj)} {σ : St} {H2 : Hp} {s2 : Shared} {C : Addr} {fp : List Addr} (I2 : Inv X pins σ H2 s2) (hC : s2.heap.objs.size ≤ C) (hf : ∀ b ∈ fp, FpOk X pins H2 b) (hb : ∀ b ∈ fp, b < s2.heap.objs.size) :
    (cxLc X scope N C s2 H2 fp).Ok where
  mod := I2.ok.mod
  kind := L.kind
  glob := I2.ok.glob
  blt := I2.ok.blt
  above := hC
  inj := fun x y c h1 h2 => I2.ok.inj x y c (clOf_look h1) (clOf_look h2)
  has := fun x hx => by
    have hm : (x, NameKind.free) ∈ scope.names := by
      rcases hx with hx | hx
      · exact relab (scope := scope) (env := X.env) hx (.inl rfl) L.nocell
      · exact relab (scope := scope) (env := X.env) hx (.inr rfl) L.nocell
    obtain ⟨c, e⟩ := I2.ok.has x (L.frees _ hm rfl)
    exact ⟨c, clOf_got hm e⟩
  cab := fun x c h _ => Bool.noConfusion h
  hd := I2.ok.hd
  frames := I2.ok.frames
  stk := .inl rfl
  exf := fun b h => ⟨Nat.ne_of_lt (Nat.lt_of_lt_of_le (hb b h) hC), fun x c e => (hf b h).2.2.2.2.1 x c (clOf_look e)⟩
  bs := fun b o e => I2.bs b o e
  bsz := Nat.le_trans I2.ok.bsz I2.sz
  noex := fun b o e h => by
    rcases (hf b h).2.2.2.1 with z | z
    · exact I2.ok.noex b o e z
    · exact absurd (Nat.lt_of_lt_of_le (Heap.lt_size e) (Nat.le_trans I2.ok.bsz z)) (Nat.lt_irrefl _)
  exfs := fun b h z => (List.mem_cons.mp (I2.stkSub b z)).elim (hf b h).2.1 (hf b h).2.2.1
  funs := I2.stack
  frf := fun b h => I2.stkFree b h
end
end L2

set_option Elab.async false
set_option linter.all false
set_option maxRecDepth 100000
namespace L2
open PySem PySem.Spec PyProof.Rows

/-- the tests of a clause -/
noncomputable def PTs (X : Cx) (ifs : List Expr) (t : TT) : Prop :=
  ∀ (pins : List (Addr × Obj)) (s : Shared) (σ : St) (H : Hp) (Q : Bool → Hp → Prop), Inv X pins σ H s → t σ H Q →
    wpAny (model X.prog X.w) X.A (forIn ifs true fun c r => if r = true then do let ok ← isTrue c X.env (eval c X.env); pure (ForInStep.yield ok) else pure (ForInStep.yield r)) (TP X pins σ Q) X.xe s
noncomputable def tYes : TT := fun _ H Q => Q true H
theorem pts_nil {X : Cx} : PTs X [] tYes := fun _ _ _ H _ I h => wpAny_tests_nil ⟨H, I, h⟩
theorem pts_one {X : Cx} {c : Expr} {t : TT} (h : PT X c t) : PTs X [c] t := fun pins s σ H Q I q => wpAny_tests_one (h pins s σ H Q I q)

section
variable {prog : Program} {w : World} {A : Around} {R : Result → Shared → Prop} {s : Shared}
theorem lc_loop {elt tg iter : Expr} {ifs : List Expr} {scope : Scope} {pos : Pos} {it acc : Value} {env : Env} (J : Nat → Shared → Prop)
    (turn : ∀ n s, J n s → wpAny (model prog w) A (pyNext it) (fun r s1 => match r with
      | none => R (.ok .next) s1
      | some v => wpAny (model prog w) A (letOwnedTupleGo tg it v) (fun _ s2 => wpAny (model prog w) A (assign tg env v) (fun _ s3 =>
          wpAny (model prog w) A (forIn ifs true fun c r => if r = true then do let ok ← isTrue c env (eval c env); pure (ForInStep.yield ok) else pure (ForInStep.yield r)) (fun ok s4 =>
            if ok = true then wpAny (model prog w) A (eval elt env) (fun x s5 => wpAny (model prog w) A (call (.builtin "list.append") [acc, x]) (fun _ s6 => ∃ m, m < n ∧ J m s6) (fun _ _ => False) s5) (fun _ _ => False) s4
            else ∃ m, m < n ∧ J m s4) (fun _ _ => False) s3) (fun _ _ => False) s2) (fun _ _ => False) s1) (fun _ _ => False) s)
    (n : Nat) (h : J n s) : codeAny (model prog w) A (.compLoop (.ListComp elt [⟨tg, iter, ifs, 0⟩] scope pos) 0 it acc env) R s := by
  refine codeAny_loop rfl J (fun k t hJ => ?_) n h
  show wpAny _ A ((compTurn (.ListComp elt [⟨tg, iter, ifs, 0⟩] scope pos) 0 it acc env).onRaise (fun x => do noteFrame x env; theTreesLotGoes x)) _ _ t
  refine wpAny_noted (wpAny_mono (E := fun _ _ => False) ?_ (fun _ _ q => q) fun _ _ f => f.elim)
  rw [compTurn_list]
  refine wpAny_bind (wpAny_standAt (wpAny_bind (thn (turn k t hJ) fun r s1 h1 => ?_)))
  cases r with
  | none => exact wpAny_pure h1
  | some v =>
    refine wpAny_bind (thn h1 fun _ s2 h2 => wpAny_bind (thn h2 fun _ s3 h3 => wpAny_bind (thn h3 fun ok s4 h4 => ?_)))
    cases ok with
    | false => exact wpAny_pure ⟨rfl, h4⟩
    | true => exact wpAny_bind (wpAny_bind (thn h4 fun x s5 h5 => wpAny_bind (thn h5 fun _ s6 h6 => wpAny_pure (wpAny_pure ⟨rfl, h6⟩))))
end

/-- what the block is to show: W by the turn, a measure, the list so far, the block's names, the heap -/
noncomputable def LcW (J : It) (g : TG) (tt : TT) (te : TE) (σ' : St) (fin : List V → Hp → Prop) (H1 : Hp) : Prop :=
  ∃ W : Nat → Nat → List V → St → Hp → Prop, (∃ m, W 0 m [] σ' H1) ∧ ∀ i m ys σ H, W i m ys σ H →
    (J.stop i H ∧ ys.length ≤ sizeLine ∧ fin ys H) ∨ (J.go i H ∧ ys.length < sizeLine ∧ ∃ Nx : List V → St → Hp → Prop, (∀ ys' σ' H', Nx ys' σ' H' → ∃ m', m' < m ∧ W (i + 1) m' ys' σ' H') ∧
      ∀ x H', J.yld i H x H' → g x σ H' fun σ2 H2 => tt σ2 H2 fun b H3 => if b = true then te σ2 H3 (fun v H4 => Nx (ys ++ [v]) σ2 H4) else Nx ys σ2 H3)
noncomputable def tLc (wi : TI) (g : TG) (tt : TT) (te : TE) (ix : List (Option Nat)) : TE := fun σ H Q => wi σ H fun J H1 => LcW J g tt te (emb ix σ) (fun ys H' => ∀ p, H' p = none → Q (.ref p) (upd H' p (.lst ys))) H1

section
variable {X : Cx} {scope : Scope} {N : List Str} {ix : List (Option Nat)}
/-- the outer context behind the block -/
theorem lc_fin {pins pins' : List (Addr × Obj)} {σ σ' : St} {H2 H' : Hp} {s2 s' : Shared} {C D : Addr} {fp : List Addr} {ys : List V} {its : List Value} {k : Nat} {h' : Heap} (I2 : Inv X pins σ H2 s2) (hf : ∀ b ∈ fp, FpOk X pins H2 b)
    (I' : Inv (cxLc X scope N C s2 H2 fp) pins' σ' H' s') (hC : s2.heap.objs.size ≤ C) (hD : s2.heap.objs.size ≤ D) (hDC : D ≠ C) (hn : H' D = none) (ho : s'.heap.get? D = some { cls := .type "list", data := .seq its.toArray k }) (rv : Vals ys its) (hz : ys.length ≤ sizeLine)
    (hs : ∀ b o, b ≠ C → s'.heap.get? b = some o → h'.get? b = some o) : Inv X pins σ (upd H' D (.lst ys)) { s' with heap := h' } := by
  have B : Un (frs X.stack) fp H2 H' s2.heap s'.heap := I'.base
  have neC : ∀ b o, s2.heap.get? b = some o → b ≠ C := fun b o e => Nat.ne_of_lt (Nat.lt_of_lt_of_le (Heap.lt_size e) hC)
  have neD : ∀ b o, s2.heap.get? b = some o → b ≠ D := fun b o e => Nat.ne_of_lt (Nat.lt_of_lt_of_le (Heap.lt_size e) hD)
  have hCn : H' C = none := I'.free
  have tD : ∀ b u, H' b = some u → b ≠ D := fun b u e => ne_of_none e hn
  have tC : ∀ b u, H' b = some u → b ≠ C := fun b u e => ne_of_none e hCn
  refine I2.call' (s' := { s' with heap := h' }) (ch := fp) I'.os ⟨fun b o e n hb hx => ?_, fun b o e n hb hx => ?_, fun b o e n hx => ?_, fun b o e hx => ?_, fun b xs e => ?_, fun b o u e => ?_, fun b ps e => ?_⟩ (fun b u e => ?_) I'.bare fun b hb => ⟨(hf b hb).2.2.2.1, (hf b hb).2.1, (hf b hb).2.2.2.2.1, (hf b hb).2.2.2.2.2⟩
  · exact hs b o (neC b o e) (B.keep b o e n hb hx)
  · obtain ⟨sl, q⟩ := B.slot b o e n hb hx
    exact ⟨sl, hs b _ (neC b o e) q⟩
  · rw [upd_ne (neD b o e)]; exact B.free b o e n hx
  · obtain ⟨o', q⟩ := B.there b o e hx
    exact ⟨o', hs b o' (neC b o e) q⟩
  · rw [upd_ne (tD b _ (B.tups b xs e))]; exact B.tups b xs e
  · rw [upd_ne (tD b _ (B.frzs b o u e))]; exact B.frzs b o u e
  · obtain ⟨m, q⟩ := B.tbls b ps e
    exact ⟨m, by rw [upd_ne (tD b _ q)]; exact q⟩
  · by_cases hb : b = D
    · subst hb
      rw [upd_same] at e
      cases e
      exact ⟨hz, its, k, rv, hs b _ hDC ho⟩
    · rw [upd_ne hb] at e
      refine (I'.hok b u e).stay (fun c v hc q => hs c v ?_ q) (fun c q => by rw [upd_ne (tD c _ q)]; exact q) fun c xs q => by rw [upd_ne (tD c _ q)]; exact q
      rcases hc with z | z
      · rw [z]; exact tC b u e
      · exact tC c _ z

/-- the block at its start -/
theorem lc_in (L : LcOk X scope N ix) {pins : List (Addr × Obj)} {σ : St} {H2 : Hp} {s2 : Shared} {C : Addr} {fp : List Addr} {h1 : Heap} {tk : Nat} {m : Str → Option Value} (I2 : Inv X pins σ H2 s2) (hC : s2.heap.objs.size ≤ C) (hf : ∀ b ∈ fp, FpOk X pins H2 b) (hb : ∀ b ∈ fp, b < s2.heap.objs.size)
    (kp : ∀ b o, s2.heap.get? b = some o → h1.get? b = some o) (hn : h1.Ns C m) : Inv (cxLc X scope N C s2 H2 fp) [] (emb ix σ) H2 { s2 with heap := h1, toks := tk } := by
  refine ⟨lc_ok L I2 hC hf hb, rfl, I2.bare, Un.kept kp, ⟨m, hn, fun i x v e1 e2 e3 => ?_⟩, fun x c e => ?_, I2.hok.fresh hC, fun x c e => I2.freeC x c (clOf_look e), fun p hp => absurd (show p ∈ ([] : List (Addr × Obj)) from hp) (by simp), I2.hok.kept kp, ?_⟩
  · unfold emb at e2
    rw [List.getElem?_map] at e2
    cases q : ix[i]? with
    | none => rw [q] at e2; cases e2
    | some o =>
      rw [q] at e2
      cases o with
      | none => cases e2
      | some j =>
        have e2' : (σ[j]?).join = some v := Option.some.inj e2
        have e4 : σ[j]? = some (some v) := by
          cases z : σ[j]? with
          | none => rw [z] at e2'; cases e2'
          | some y => rw [z] at e2'; exact congrArg some e2'
        obtain ⟨a1, a2, a3⟩ := L.out e1 q
        obtain ⟨mo, _, hl⟩ := I2.loc
        obtain ⟨u, r, lk⟩ := hl j x v a1 e4 (.inr a3)
        refine ⟨u, r, ?_⟩
        rcases lk with ⟨k, _⟩ | ⟨k, c, e, o, ho, hd⟩
        · rcases a3 with z | z
          · rw [z] at k; cases k
          · rw [z] at k; cases k
        · obtain ⟨k', hk', e'⟩ := relab2 (env := X.env) a2
          refine .inr ⟨?_, c, clOf_got (PySem.mem_of_lookup a2) e, o, kp _ _ ho, hd⟩
          rcases hk' with z | z
          · subst z; exact .inl e'
          · subst z; exact .inr e'
  · obtain ⟨v, o, ho, hd⟩ := I2.cell x c (clOf_look e)
    exact ⟨v, o, kp _ _ ho, hd⟩
  · unfold emb
    rw [List.length_map]
    exact L.len.symm

variable {tg iter elt : Expr} {ifs : List Expr} {pos : Pos} {g : TG} {tt : TT} {te : TE}
theorem lc_run (L : LcOk X scope N ix) (hc : X.calm = true) (hg : ∀ C s0 H0 fp, PG (cxLc X scope N C s0 H0 fp) tg g) (ht : ∀ C s0 H0 fp, PTs (cxLc X scope N C s0 H0 fp) ifs tt) (he : ∀ C s0 H0 fp, PE (cxLc X scope N C s0 H0 fp) elt te)
    {pins : List (Addr × Obj)} {σ : St} {H2 : Hp} {s2 : Shared} {it : Addr} {fp : List Addr} {tn : Nat → Heap → Prop} {J : It} {fin : List V → Hp → Prop} {E : Value → Shared → Prop} {RR : Value → Addr → Result → Shared → Prop}
    (I2 : Inv X pins σ H2 s2) (T : Turn X.prog X.w X.K tg J fp it tn) (st : tn 0 s2.heap) (f2 : ∀ b ∈ fp, FpOk X pins H2 b) (hW : LcW J g tt te (emb ix σ) fin H2)
    (hRR : ∀ D C s' m ys H', s'.heap.Ns C m → s'.os = s2.os → D ≠ C → FpOk X pins (upd H' D (.lst ys)) C → (∀ h', Heap.SameBut C s'.heap h' → Inv X pins σ (upd H' D (.lst ys)) { s' with heap := h' }) → H' D = none → fin ys H' → RR (.ref D) C (.ok .next) s') :
    wpAny (model X.prog X.w) X.A (newList []) (fun acc s3 => wpAny (model X.prog X.w) X.A (newFunctionEnv scope X.env.globals (clOf X.env scope.names []) [] X.env.qual none .none (some X.env)) (fun cenv s4 =>
      codeAny (model X.prog X.w) X.A (.compStart (.ListComp elt [⟨tg, iter, ifs, 0⟩] scope pos) 0 (.ref it) acc { cenv with scope := relabel scope X.env }) (RR acc cenv.locals) s4) E s3) E s2 := by
  obtain ⟨W, ⟨m0, w0⟩, turn⟩ := hW
  have hb2 : ∀ b ∈ fp, b < s2.heap.objs.size := fun b hb => by
    obtain ⟨o, e, _⟩ := T.obj _ _ st b hb
    exact Heap.lt_size e
  refine wpAny_newObj_type (wpAny_newFunctionEnv L.nocell (by intro y hy; simp at hy) (fun h1 hns hsb => ?_) L.kind)
  dsimp only at hns hsb ⊢
  generalize hG : s2.heap.push { cls := .type "list", dict := none, data := .seq ([] : List Value).toArray } = G at hns hsb ⊢
  have hGs : G.objs.size = s2.heap.objs.size + 1 := by rw [← hG, Heap.size_push]
  generalize hDe : s2.heap.objs.size = D at hGs hb2
  generalize hCe : G.objs.size = C at hGs hns hsb ⊢
  have hDC : D ≠ C := by omega
  have nq : ∀ b : Nat, b < s2.heap.objs.size → b ≠ C ∧ b ≠ D := fun b h => ⟨by omega, by omega⟩
  have nq2 : ∀ b ∈ fp, b ≠ C ∧ b ≠ D := fun b hb => nq b (by rw [hDe]; exact hb2 b hb)
  have kG : ∀ b o, s2.heap.get? b = some o → G.get? b = some o := fun b o e => by rw [← hG]; exact Heap.get?_push_of_some _ e
  have kp : ∀ b o, s2.heap.get? b = some o → h1.get? b = some o := fun b o e => hsb.extBut b o (nq b (Heap.lt_size e)).1 (Heap.get?_push_of_some _ (kG b o e))
  have oD : ∃ n, h1.get? D = some { cls := .type "list", data := .seq ([] : List Value).toArray n } := ⟨_, hsb.extBut _ _ hDC (Heap.get?_push_of_some _ (by rw [← hG, ← hDe]; exact Heap.get?_push_size _ rfl))⟩
  have I4 := lc_in L (tk := s2.toks + ([] : List (Str × Value)).length) I2 (C := C) (by omega) f2 (by rw [hDe]; exact hb2) kp hns
  have st4 : tn 0 h1 := T.keep _ _ _ st fun b _ o e => kp b o e
  have hDf : D ∉ (cxLc X scope N C s2 H2 fp).fs := fun z => by
    have z' : D ∈ frs X.stack := z
    rcases List.mem_cons.mp (I2.stkSub D z') with q | q
    · exact (nq _ I2.lt).2 q.symm
    · exact I2.nofs (a := D) (by omega) q
  have cellD : ∀ x c, (cxLc X scope N C s2 H2 fp).env.cells.lookup x = some c → c ≠ D := fun x c e z => by
    obtain ⟨v, o, ho, _⟩ := I2.cell x c (clOf_look e)
    exact (nq c (Heap.lt_size ho)).2 z
  have stat : ∀ {H' : Hp} {pl : List (Addr × Obj)}, (∀ b ∈ fp, H' b = none) → (∀ p ∈ pl, p.1 = D) → ∀ b ∈ fp, FpOk (cxLc X scope N C s2 H2 fp) pl H' b := fun {H' pl} hn hp b hb => by
    have hlt := hb2 b hb
    refine ⟨hn b hb, (nq2 b hb).1, fun z => ?_, .inl hb, fun x c e => (f2 b hb).2.2.2.2.1 x c (clOf_look e), fun p hq z => ?_⟩
    · exact (List.mem_cons.mp (I2.stkSub b z)).elim (f2 b hb).2.1 (f2 b hb).2.2.1
    · have hq' : p ∈ pl := by simpa [cxLc] using hq
      exact (nq2 b hb).2 (z.symm.trans (hp p hq'))
  have pinD : ∀ {pl : List (Addr × Obj)} {σ' : St} {H' : Hp} {s' : Shared} {o : Obj}, Inv (cxLc X scope N C s2 H2 fp) pl σ' H' s' → s'.heap.get? D = some o → H' D = none → (∀ v, o.data ≠ .cell v) → Inv (cxLc X scope N C s2 H2 fp) [(D, o)] σ' H' s' :=
    fun {pl σ' H' s' o} I' ho hn hd => I'.pins_of fun p hp => by
      have e : p = (D, o) := by simpa using hp
      subst e
      exact ⟨ho, hn, hDC, hDf, hd⟩
  have loop : ∀ s4 : Shared, s4 = { s2 with heap := h1, toks := s2.toks + ([] : List (Str × Value)).length } →
      codeAny (model X.prog X.w) X.A (.compLoop (.ListComp elt [⟨tg, iter, ifs, 0⟩] scope pos) 0 (.ref it) (.ref D) (cxLc X scope N C s2 H2 fp).env) (RR (.ref D) C) s4 := by
    rintro s4 rfl
    refine lc_loop (fun n s' => ∃ i σ' H' ys its k, Inv (cxLc X scope N C s2 H2 fp) [(D, { cls := .type "list", data := .seq its.toArray k })] σ' H' s' ∧ tn i s'.heap ∧ (∀ b ∈ fp, H' b = none) ∧ Vals ys its ∧ W i n ys σ' H') ?_ m0 ?_
    · rintro n s' ⟨i, σ', H', ys, its, k, I', st', fr', rv, w'⟩
      have hD' := I'.pin _ (List.mem_append_right _ List.mem_cons_self)
      rcases turn i n ys σ' H' w' with ⟨stop, hz, qf⟩ | ⟨go, hz, Nx, hN, step⟩
      · refine thn (T.done (cxLc X scope N C s2 H2 fp) rfl rfl rfl hc i _ s' σ' H' _ I' (stat fr' (by simp)) st' stop) fun r s5 ⟨hr, I5⟩ => ?_
        subst hr
        have hD5 := I5.pin _ (List.mem_append_right _ List.mem_cons_self)
        obtain ⟨m5, hn5, _⟩ := I5.loc
        refine hRR D C s5 m5 ys H' hn5 I5.os hDC (I2.fpOk (by omega) (by rw [upd_ne (Ne.symm hDC)]; exact I5.free)) (fun h' hs' => ?_) hD5.2.1 qf
        exact lc_fin I2 f2 I5 (by omega) (by omega) hDC hD5.2.1 hD5.1 rv hz fun b o hb e => hs'.extBut b o hb e
      · refine thn (T.item (cxLc X scope N C s2 H2 fp) rfl rfl rfl hc i _ s' σ' H' _ I' (stat fr' (by simp)) st' go) fun r s5 ⟨u, hr, h5⟩ => ?_
        subst hr
        refine thn h5 fun _ s6 ⟨x, H6, I6, r6, y6, st6, fr6⟩ => ?_
        have I6' := I6.pinned (stat fr6 (by simp)) (T.obj _ _ st6)
        refine thn (hg C s2 H2 fp _ s6 σ' H6 x u _ I6' r6 (step x H6 y6)) fun _ s7 ⟨σ7, H7, I7, q7⟩ => ?_
        refine thn (ht C s2 H2 fp _ s7 σ7 H7 _ I7 q7) fun ok s8 ⟨H8, I8, q8⟩ => ?_
        have back : ∀ {H9 : Hp} {s9 : Shared}, Inv (cxLc X scope N C s2 H2 fp) ([(D, { cls := .type "list", data := .seq its.toArray k })] ++ pinsAt fp s6.heap) σ7 H9 s9 → tn (i + 1) s9.heap ∧ ∀ b ∈ fp, H9 b = none := fun {H9 s9} I9 => by
          refine ⟨T.keep _ _ _ st6 fun b hb o e => (I9.pin (b, o) (List.mem_append_right _ (List.mem_append_right _ (mem_pinsAt hb e)))).1, fun b hb => ?_⟩
          obtain ⟨o, e, d⟩ := T.obj _ _ st6 b hb
          exact (I9.pin (b, o) (List.mem_append_right _ (List.mem_append_right _ (mem_pinsAt hb e)))).2.1
        cases ok with
        | false =>
          rw [if_neg Bool.false_ne_true] at q8 ⊢
          obtain ⟨m', hm, w8⟩ := hN _ _ _ q8
          obtain ⟨st8, fr8⟩ := back I8
          exact ⟨m', hm, i + 1, σ7, H8, ys, its, k, I8.unpinned, st8, fr8, rv, w8⟩
        | true =>
          rw [if_pos rfl] at q8 ⊢
          refine thn (he C s2 H2 fp _ s8 σ7 H8 _ I8 q8) fun y s9 ⟨v, H9, I9, r9, q9⟩ => ?_
          have hD9 := I9.pin _ (List.mem_append_right _ (List.mem_append_left _ List.mem_cons_self))
          obtain ⟨st9, fr9⟩ := back I9
          refine wpAny_list_append_plain (hsz := by have := rv.length; rw [List.size_toArray]; omega) ⟨k, hD9.1⟩ fun h' hl' hs' => ?_
          obtain ⟨m', hm, w9⟩ := hN _ _ _ q9
          obtain ⟨k', ho'⟩ := hl'
          have I10 : Inv (cxLc X scope N C s2 H2 fp) [] σ7 H9 { s9 with heap := h' } := (I9.pins_of (pins' := []) fun p hp => absurd hp (by simp)).turned (t' := s9.toks) (it := D) (fun b o hb e => hs'.extBut b o hb e) hD9.2.1 hDC (.inr (by show s2.heap.objs.size ≤ D; omega)) cellD (fun p hp => absurd hp (by simp [cxLc]))
          refine ⟨m', hm, i + 1, σ7, H9, ys ++ [v], its ++ [y], k', pinD I10 (by rw [ho']; simp) hD9.2.1 (fun v z => by cases z), ?_, fr9, rv.append (.cons r9 .nil), w9⟩
          exact T.keep _ _ _ st9 fun b hb o e => hs'.extBut b o (nq2 b hb).2 e
    · obtain ⟨n, e⟩ := oD
      exact ⟨0, emb ix σ, H2, [], [], n, pinD I4 e (I2.hok.fresh (by omega)) (fun v z => by cases z), st4, fun b hb => (f2 b hb).1, .nil, w0⟩
  have q := loop _ rfl
  exact codeAny_compStart_list q (T.self _ 0 _ _ _ st4 q)
end
end L2

set_option Elab.async false
set_option linter.all false
set_option maxRecDepth 100000
namespace L2
open PySem PySem.Spec PyProof.Rows

theorem strsAre_of {ss : List Str} : ∀ {us : List Value}, Vals (ss.map V.str) us → StrsAre us ss := by
  induction ss with
  | nil => intro us r; rw [List.map_nil] at r; cases r; exact .nil
  | cons n ns ih =>
    intro us r
    rw [List.map_cons] at r
    cases r with
    | cons r1 r2 =>
      obtain ⟨t, e⟩ := r1
      subst e
      exact .cons n t (ih r2)
theorem vals_strs : ∀ {vs : List Value} {ss : List Str}, StrsAre vs ss → Vals (ss.map V.str) vs
  | _, _, .nil => .nil
  | _, _, .cons n t h => .cons ⟨t, rfl⟩ (vals_strs h)

section
variable {X : Cx}
/-! ### comprehensions as values and as what a name is given -/
variable {scope : Scope} {N : List Str} {ix : List (Option Nat)} {tg iter elt : Expr} {ifs : List Expr} {pos : Pos} {g : TG} {tt : TT} {te : TE} {wi : TI}
theorem pe_lc (L : LcOk X scope N ix) (hc : X.calm = true) (hi : PI X tg iter wi) (hg : ∀ C s0 H0 fp, PG (cxLc X scope N C s0 H0 fp) tg g) (ht : ∀ C s0 H0 fp, PTs (cxLc X scope N C s0 H0 fp) ifs tt) (he : ∀ C s0 H0 fp, PE (cxLc X scope N C s0 H0 fp) elt te)
    (hs : ∀ x, foldedSetIterable iter X.env x = pure x := by intro _; rfl) : PE X (.ListComp elt [⟨tg, iter, ifs, 0⟩] scope pos) (tLc wi g tt te ix) := by
  intro pins s σ H Q I h
  rw [eval_ListComp]
  refine wpAny_comprehension_free (use := none) rfl hs (L.clos I.ok) L.kind L.locals (thn (hi pins s σ H _ I h) fun v s1 h1 => thn h1 fun itv s2 h2 => ?_)
  obtain ⟨it, fp, tn, J, H2, rfl, I2, T, st2, f2, hW⟩ := h2
  refine lc_run (RR := fun acc C => compPost (model X.prog X.w) X.A X.xe none (EP X pins σ Q) acc C) L hc hg ht he I2 T st2 f2 hW ?_
  intro D C s' m ys H' hn ho hDC hC hI hD fin
  exact ⟨m, hn, fun h' hs' => ⟨.ref D, _, hI h' hs', rfl, fin D hD⟩⟩
/-- name = [..] -/
noncomputable def tSetLc (i : Nat) (wi : TI) (g : TG) (tt : TT) (te : TE) (ix : List (Option Nat)) : TS := fun D σ H => wi σ H fun J H1 => LcW J g tt te (emb ix σ) (fun ys H' => ∀ p, H' p = none → D.nx (σ.set i (some (.ref p))) (upd H' p (.lst ys))) H1
theorem ps_setLc {i : Nat} {y : Str} {py spos : Pos} (hN : X.N.Nodup) (hi' : X.N[i]? = some y) (hx : Loc X.env.scope y) (L : LcOk X scope N ix) (hc : X.calm = true) (hi : PI X tg iter wi) (hg : ∀ C s0 H0 fp, PG (cxLc X scope N C s0 H0 fp) tg g)
    (ht : ∀ C s0 H0 fp, PTs (cxLc X scope N C s0 H0 fp) ifs tt) (he : ∀ C s0 H0 fp, PE (cxLc X scope N C s0 H0 fp) elt te)
    (hsw : swapsWith (.ListComp elt [⟨tg, iter, ifs, 0⟩] scope pos) (some (.Name y py)) spos.line X.env = pure true := by rfl) (hs : ∀ x, foldedSetIterable iter X.env x = pure x := by intro _; rfl)
    (hf : X.fn y = true ∨ X.env.scope.names.lookup y = some .local := by first | exact .inl rfl | exact .inr rfl | assumption) :
    PS X (.Assign [.Name y py] (.ListComp elt [⟨tg, iter, ifs, 0⟩] scope pos) spos) (tSetLc i wi g tt te ix) := by
  intro pins s σ H D I h
  rw [exec_Assign_Name_used _ _ _ _ hsw]
  refine wpAny_bind (wpAny_standAt (wpAny_bind ?_))
  show wpAny _ X.A (do let _ ← comprehension (.ListComp elt [⟨tg, iter, ifs, 0⟩] scope pos) scope X.env _ (newList []) false (eval iter X.env) (some (assign (.Name y py) X.env))) _ _ s
  refine wpAny_bind (thn (wpAny_comprehension_free (use := some (assign (.Name y py) X.env)) (Q := fun _ s' => SP X pins D .next s') rfl hs (L.clos I.ok) L.kind L.locals
    (thn (hi pins s σ H _ I h) fun v s1 h1 => thn h1 fun itv s2 h2 => ?_)) fun _ s' hq => wpAny_pure (wpAny_pure hq))
  obtain ⟨it, fp, tn, J, H2, rfl, I2, T, st2, f2, hW⟩ := h2
  refine lc_run (RR := fun acc C => compPost (model X.prog X.w) X.A X.xe (some (assign (.Name y py) X.env)) (fun _ s' => SP X pins D .next s') acc C) L hc hg ht he I2 T st2 f2 hW ?_
  intro Da C s' m ys H' hn ho hDC hC hI hD fin
  have I' := hI s'.heap (Heap.SameBut.refl _ _)
  show wpAny _ X.A (assign (.Name y py) X.env (.ref Da)) _ _ s'
  refine wpAny_assign_Name (store_ok2 (v := .ref Da) I' hN hi' hx rfl (fun s'' I'' ch => ?_) hf)
  obtain ⟨a, hsa, hwa⟩ := ch
  obtain ⟨c1, c2, c3, c4, c5, c6⟩ := hC
  have hCa : C ≠ a := by
    rcases hwa with z | z
    · rw [z]; exact c2
    · exact fun w => c5 y a z w.symm
  refine ⟨m, hn.sameBut hsa hCa, fun h' hs' => ⟨_, _, I''.turned (t' := s''.toks) (it := C) (fun b o hb e => hs'.extBut b o hb e) c1 c2 c4 c5 c6, fin Da hD⟩⟩
end
end L2

set_option Elab.async false
set_option linter.all false
set_option maxRecDepth 100000
namespace L2
open PySem PySem.Spec PyProof.Rows

/-! ### data that is read: nested tuples and lists over the abstract heap -/
mutual
inductive DV (H : Hp) : V → PyData → Prop
  | non : DV H .non .none
  | bl (b : Bool) : DV H (.bl b) (.bool b)
  | int (i : Int) : DV H (.int i) (.int i)
  | str (x : Str) : DV H (.str x) (.str x)
  | tup {a : Addr} {xs : List V} {ds : List PyData} : H a = some (.tup xs) → DVs H xs ds → DV H (.ref a) (.tuple ds)
  | lst {a : Addr} {xs : List V} {ds : List PyData} : H a = some (.lst xs) → DVs H xs ds → DV H (.ref a) (.list ds)
inductive DVs (H : Hp) : List V → List PyData → Prop
  | nil : DVs H [] []
  | cons {x : V} {d : PyData} {xs : List V} {ds : List PyData} : DV H x d → DVs H xs ds → DVs H (x :: xs) (d :: ds)
end
section
variable {P : Program} {w : World} {H : Hp} {h : Heap}
mutual
theorem DV.reads (ok : HOk P w H h) : ∀ {x : V} {d : PyData} {u : Value}, DV H x d → RelV x u → ∃ as, Reads h u d as
  | _, _, u, .non, r => by cases (show u = Value.none from r); exact ⟨_, Reads.none⟩
  | _, _, u, .bl b, r => by cases (show u = Value.bool b from r); exact ⟨_, Reads.bool b⟩
  | _, _, u, .int i, r => by obtain ⟨t, e⟩ := (show ∃ t, u = Value.int i t from r); cases e; exact ⟨_, Reads.int i t⟩
  | _, _, u, .str x, r => by obtain ⟨t, e⟩ := (show ∃ t, u = Value.str x t from r); cases e; exact ⟨_, Reads.str x t⟩
  | _, _, u, .tup (a := a) (xs := xs) e q, r => by
    cases (show u = Value.ref a from r)
    obtain ⟨_, its, rv, o, ho, hc, n, hd⟩ := (show ObjOk P w H h a (.tup xs) from ok a _ e)
    obtain ⟨as, z⟩ := DVs.reads ok q rv
    exact ⟨as, Reads.tuple ho hc hd (by simpa using z)⟩
  | _, _, u, .lst (a := a) (xs := xs) e q, r => by
    cases (show u = Value.ref a from r)
    obtain ⟨_, its, n, rv, ho⟩ := (show ObjOk P w H h a (.lst xs) from ok a _ e)
    obtain ⟨as, z⟩ := DVs.reads ok q rv
    exact ⟨_, Reads.list ho rfl rfl (by simpa using z)⟩
theorem DVs.reads (ok : HOk P w H h) : ∀ {xs : List V} {ds : List PyData} {us : List Value}, DVs H xs ds → Vals xs us → ∃ as, ReadsAll h us ds as
  | _, _, _, .nil, .nil => ⟨_, ReadsAll.nil⟩
  | _, _, _, .cons a b, .cons r rs => by
    obtain ⟨as, p⟩ := DV.reads ok a r
    obtain ⟨bs, q⟩ := DVs.reads ok b rs
    exact ⟨_, ReadsAll.cons p q⟩
end
end
theorem DVs.strs {H : Hp} : ∀ ss : List Str, DVs H (ss.map V.str) (ss.map PyData.str)
  | [] => .nil
  | x :: r => .cons (.str x) (DVs.strs r)

section
variable {X : Cx}
open SeqAt in
theorem op_neD {k : Nat} (hr : Room k X.A) : OpR X (compareOp .NotEq) (fun x y H Q => ∃ d e, DV H x d ∧ DV H y e ∧ shaped d = true ∧ shaped e = true ∧ Q (.bl (!PyData.eqv d e)) H) := by
  intro pins s σ H x y v u Q I rx ry h
  obtain ⟨d, e, dx, dy, sd, se, q⟩ := h
  obtain ⟨as, r1⟩ := dx.reads I.hok rx
  obtain ⟨bs, r2⟩ := dy.reads I.hok ry
  exact ne_dataH r1 r2 sd se hr.units ⟨.bl (!PyData.eqv d e), H, I, rfl, q⟩
theorem range_all' (bs : List Bool) : ((List.range bs.length).all fun i => (bs[i]?).getD true) = bs.all id := by
  rw [Bool.eq_iff_iff, List.all_eq_true, List.all_eq_true]
  constructor
  · intro h b hb
    obtain ⟨i, hi, e⟩ := List.mem_iff_getElem.mp hb
    have := h i (List.mem_range.mpr hi)
    rw [List.getElem?_eq_getElem hi, e] at this
    simpa using this
  · intro h i hi
    have hi := List.mem_range.mp hi
    rw [List.getElem?_eq_getElem hi]
    simpa using h _ (List.getElem_mem hi)
/-- all of a list of bools -/
theorem call_allB (hc : X.calm = true) : CallR X (.builtin "all") (fun xs H Q => ∃ (p : Addr) (bs : List Bool), xs = [.ref p] ∧ SqL X.K H p (bs.map V.bl) ∧ Q (.bl (bs.all id)) H) := by
  intro pins s σ H xs us Q I r h
  obtain ⟨p, bs, rfl, hq, q⟩ := h
  obtain ⟨u, rfl, rx⟩ := vals1 r
  cases rx
  obtain ⟨its, r', pl, hz⟩ := I.list hq
  have hlt : p < s.heap.objs.size := by obtain ⟨o, n, e, _⟩ := pl; exact Heap.lt_size e
  have hlen := r'.length
  rw [List.length_map] at hlen
  refine call_all_walk (wpAny_pyIter_list pl.isList ?_)
  refine ⟨s.heap.objs.size, [s.heap.objs.size, p], [s.heap.objs.size], its.toArray.size, _, _, fun i => (bs[i]?).getD true, rfl, Walks.list (A := X.A.in1) (I.ok.hd hc) _ p (Nat.ne_of_lt hlt) its.toArray,
    ⟨⟨_, Heap.get?_push_size _ rfl, rfl, rfl⟩, pl.isList.push _⟩, fun i v s' Q' E' hP hQ => ?_, fun h' tk hk => ?_⟩
  · have hP' : its[i]? = some v := by simpa using hP
    have hb : ∃ b, bs[i]? = some b ∧ v = Value.bool b := by
      have hi : i < bs.length := by rw [hlen]; exact (List.getElem?_eq_some_iff.mp hP').1
      have e1 : (bs.map V.bl)[i]? = some (V.bl bs[i]) := by rw [List.getElem?_map, List.getElem?_eq_getElem hi]; rfl
      obtain ⟨w', e2, rw'⟩ := r'.get e1
      rw [hP'] at e2
      cases e2
      exact ⟨bs[i], List.getElem?_eq_getElem hi, rw'⟩
    obtain ⟨b, e, rfl⟩ := hb
    simp only [e, Option.getD_some] at hQ
    exact wpAny_truthy_bool hQ
  · have e : ((List.range its.toArray.size).all fun i => (bs[i]?).getD true) = bs.all id := by
      rw [List.size_toArray, ← hlen]; exact range_all' bs
    rw [e]
    refine ⟨.bl (bs.all id), H, I.kept (t' := tk) fun b x e => hk b x (fun hm => ?_) (Heap.get?_push_of_some _ e), rfl, q⟩
    rw [List.mem_singleton.mp hm] at e
    exact Nat.lt_irrefl _ (Heap.lt_size e)

theorem call_isinst {T : String} : CallR X (.builtin "isinstance") (fun xs H Q => ∃ x t b, xs = [x, .ty T] ∧ TyOf X.K H x t ∧ PySem.W.kitOne X.K t (.type T) = some b ∧ Q (.bl b) H) := by
  intro pins s σ H xs us Q I r h
  obtain ⟨x, t, b, rfl, ty, e, q⟩ := h
  obtain ⟨u, w', rfl, rx, ry⟩ := vals2 r
  cases (show w' = Value.type T from ry)
  exact isinst_ok I rx ty e fun tk => ⟨.bl b, H, I.tok tk, rfl, q⟩

/-! ### texts -/
theorem op_le_str : OpR X (compareOp .LtE) (fun x y H Q => ∃ i j, x = .str i ∧ y = .str j ∧ Q (.bl (!decide (j.cps.toList < i.cps.toList))) H) := by
  intro pins s σ H x y v u Q I rx ry h
  obtain ⟨i, j, rfl, rfl, q⟩ := h
  obtain ⟨t, rfl⟩ := rx
  obtain ⟨t', rfl⟩ := ry
  exact PySem.P.le_str ⟨.bl (!decide (j.cps.toList < i.cps.toList)), H, I, rfl, q⟩
theorem mt_join : MtR X "str.join" (fun x xs H Q => ∃ (z : Str) (p : Addr) (ss : List Str), x = .str z ∧ xs = [.ref p] ∧ SqL X.K H p (ss.map V.str) ∧ (ss.map (·.length)).sum + ss.length * z.length ≤ 16777216 ∧ Q (.str (Txt.join z ss)) H) := by
  intro pins s σ H x xs v us Q I rx rs h
  obtain ⟨z, p, ss, rfl, rfl, hq, hz, q⟩ := h
  obtain ⟨t, rfl⟩ := rx
  obtain ⟨u, rfl, ru⟩ := vals1 rs
  cases ru
  obtain ⟨its, r', pl, _⟩ := I.list hq
  exact join_list pl.isList (strsAre_of r') hz fun t' k => ⟨.str (Txt.join z ss), H, I.tok k, ⟨_, rfl⟩, q⟩

/-- sorted of a list of texts -/
theorem call_sortedS : CallR X (.builtin "sorted") (fun xs H Q => ∃ (p : Addr) (ss : List Str), xs = [.ref p] ∧ SqL X.K H p (ss.map V.str) ∧ ss.length < 64 ∧ ∀ (ss' : List Str) (q : Addr), ss'.Perm ss → sortedS ss' = true → H q = none → Q (.ref q) (upd H q (.lst (ss'.map V.str)))) := by
  intro pins s σ H xs us Q I r h
  obtain ⟨p, ss, rfl, hq, h64, q⟩ := h
  obtain ⟨u, rfl, rx⟩ := vals1 r
  cases rx
  obtain ⟨its, r', pl, hz⟩ := I.list hq
  have hlen := r'.length
  rw [List.length_map] at hlen
  refine sorted_strs pl.isList (strsAre_of r') (by omega) fun out ss' a1 a2 a3 => ?_
  obtain ⟨e, he⟩ := sortedAll_at s.heap its out
  have hv : Vals (ss'.map V.str) out.toList := vals_strs a1
  have hfr : H (s.heap.objs.size + 1) = none := I.hok.fresh (Nat.le_succ _)
  refine ⟨.ref (s.heap.objs.size + 1), _, I.laid (t' := s.toks) (o := .lst (ss'.map V.str)) (fun b o z => sortedAll_old z) (Nat.le_succ _) ⟨?_, out.toList, e, hv, ?_⟩, rfl, q ss' _ a2 a3 hfr⟩
  · rw [List.length_map, a2.length_eq, sizeLine_eq]; omega
  · simpa [seqObj] using he
end
end L2

set_option Elab.async false
set_option linter.all false
set_option maxHeartbeats 4000000
namespace L2
open PySem PySem.W PyProof.Rows

/-! ### the sort's tree of questions, over a strict total order of the places -/
noncomputable abbrev gp (p : Array Nat) (i : Nat) : Nat := p.getD i 0
structure Ord (N : Nat) (lt : Nat → Nat → Bool) : Prop where
  tr : ∀ i j k, lt i j = true → lt j k = true → lt i k = true
  irr : ∀ i, lt i i = false
  tot : ∀ i j, i < N → j < N → i ≠ j → lt i j = true ∨ lt j i = true
noncomputable def Pm (N : Nat) (p : Array Nat) : Prop := p.Perm (List.toArray (List.range N))
theorem Pm.size {N : Nat} {p : Array Nat} (h : Pm N p) : p.size = N := by
  have := Array.Perm.size_eq h
  simpa using this
theorem gp_eq {p : Array Nat} {i : Nat} (h : i < p.size) : gp p i = p[i] := by simp [gp, Array.getD, h]
theorem gp_congr {p q : Array Nat} {i j : Nat} (h : p[i]? = q[j]?) : gp p i = gp q j := by simp [gp, Array.getD_eq_getD_getElem?, h]
theorem Pm.lt {N : Nat} {p : Array Nat} (h : Pm N p) {i : Nat} (hi : i < N) : gp p i < N := by
  have hs : i < p.size := by rw [h.size]; exact hi
  rw [gp_eq hs]
  have hm : p[i] ∈ (List.toArray (List.range N)) := h.mem_iff.mp (Array.getElem_mem hs)
  simpa using hm
theorem Pm.nd {N : Nat} {p : Array Nat} (h : Pm N p) : p.toList.Nodup := by
  have hp : p.toList.Perm (List.range N) := by simpa using Array.perm_iff_toList_perm.mp h
  exact hp.nodup_iff.mpr List.nodup_range
theorem Pm.inj {N : Nat} {p : Array Nat} (h : Pm N p) {i j : Nat} (hi : i < N) (hj : j < N) (hij : i ≠ j) : gp p i ≠ gp p j := by
  have hsi : i < p.size := by rw [h.size]; exact hi
  have hsj : j < p.size := by rw [h.size]; exact hj
  rw [gp_eq hsi, gp_eq hsj]
  intro e
  have nd := h.nd
  rcases Nat.lt_or_gt_of_ne hij with z | z
  · exact List.pairwise_iff_getElem.mp nd i j (by simpa using hsi) (by simpa using hsj) z (by simpa using e)
  · exact List.pairwise_iff_getElem.mp nd j i (by simpa using hsj) (by simpa using hsi) z (by simpa using e.symm)

section
variable {N : Nat} {lt : Nat → Nat → Bool} {cmp : Nat → Nat → (Bool → Shared → Prop) → Shared → Prop} {s : Shared}
noncomputable def Asc (lt : Nat → Nat → Bool) (p : Array Nat) (b : Nat) : Prop := ∀ i j, i < j → j < b → lt (gp p i) (gp p j) = true
noncomputable def Dsc (lt : Nat → Nat → Bool) (p : Array Nat) (b : Nat) : Prop := ∀ i j, i < j → j < b → lt (gp p j) (gp p i) = true
theorem Asc.more (O : Ord N lt) {p : Array Nat} {n : Nat} (h : Asc lt p n) (h1 : 1 ≤ n) (e : lt (gp p (n - 1)) (gp p n) = true) : Asc lt p (n + 1) := fun i j hij hj => by
  by_cases q : j < n
  · exact h i j hij q
  · have : j = n := by omega
    subst this
    by_cases z : i = j - 1
    · rw [z]; exact e
    · exact O.tr _ _ _ (h i (j - 1) (by omega) (by omega)) e
theorem Dsc.more (O : Ord N lt) {p : Array Nat} {n : Nat} (h : Dsc lt p n) (h1 : 1 ≤ n) (e : lt (gp p n) (gp p (n - 1)) = true) : Dsc lt p (n + 1) := fun i j hij hj => by
  by_cases q : j < n
  · exact h i j hij q
  · have : j = n := by omega
    subst this
    by_cases z : i = j - 1
    · rw [z]; exact e
    · exact O.tr _ _ _ e (h i (j - 1) (by omega) (by omega))
theorem Ord.other (O : Ord N lt) {p : Array Nat} (hp : Pm N p) {i j : Nat} (hi : i < N) (hj : j < N) (hij : i ≠ j) (e : lt (gp p i) (gp p j) ≠ true) : lt (gp p j) (gp p i) = true :=
  (O.tot _ _ (hp.lt hi) (hp.lt hj) (hp.inj hi hj hij)).resolve_left e

variable (O : Ord N lt) (hc : ∀ (i j : Nat) (C : Bool → Shared → Prop), i < N → j < N → i ≠ j → C (lt i j) s → cmp i j C s)
include O hc
theorem asc_ok {p : Array Nat} (hp : Pm N p) {Q : Nat → Shared → Prop} : ∀ (f n : Nat), 1 ≤ n → n + f ≤ N → Asc lt p n → (∀ m, n ≤ m → m ≤ n + f → Asc lt p m → (m = n + f ∨ lt (gp p m) (gp p (m - 1)) = true) → Q m s) → (kas_asc p f n).kasWp cmp Q s
  | 0, n, h1, hn, ha, k => k n (Nat.le_refl _) (Nat.le_refl _) ha (.inl rfl)
  | f + 1, n, h1, hn, ha, k => by
    unfold kas_asc
    refine hc _ _ _ (hp.lt (by omega)) (hp.lt (by omega)) (hp.inj (by omega) (by omega) (by omega)) ?_
    by_cases e : lt (gp p n) (gp p (n - 1)) = true
    · show KasT.kasWp cmp (if lt (gp p n) (gp p (n - 1)) = true then _ else _) Q s
      rw [if_pos e]
      exact k n (Nat.le_refl _) (by omega) ha (.inr e)
    · show KasT.kasWp cmp (if lt (gp p n) (gp p (n - 1)) = true then _ else _) Q s
      rw [if_neg e]
      exact asc_ok hp f (n + 1) (by omega) (by omega) (ha.more O h1 (O.other hp (by omega) (by omega) (by omega) e)) fun m a b c d => k m (by omega) (by omega) c (d.imp (fun z => by omega) id)
theorem desc_ok {p : Array Nat} (hp : Pm N p) {Q : Array Nat × Nat × Nat → Shared → Prop} : ∀ (f n : Nat), 1 ≤ n → n + f ≤ N → Dsc lt p n → (∀ m, n ≤ m → m ≤ n + f → Dsc lt p m → Q (p, m, 0) s) → (kas_desc f p n 0).kasWp cmp Q s
  | 0, n, h1, hn, ha, k => k n (Nat.le_refl _) (Nat.le_refl _) ha
  | f + 1, n, h1, hn, ha, k => by
    unfold kas_desc
    refine hc _ _ _ (hp.lt (by omega)) (hp.lt (by omega)) (hp.inj (by omega) (by omega) (by omega)) ?_
    by_cases e : lt (gp p n) (gp p (n - 1)) = true
    · show KasT.kasWp cmp (if lt (gp p n) (gp p (n - 1)) = true then _ else _) Q s
      rw [if_pos e, if_neg (by omega)]
      exact desc_ok hp f (n + 1) (by omega) (by omega) (ha.more O h1 e) fun m a b c => k m (by omega) (by omega) c
    · show KasT.kasWp cmp (if lt (gp p n) (gp p (n - 1)) = true then _ else _) Q s
      rw [if_neg e]
      refine hc _ _ _ (hp.lt (by omega)) (hp.lt (by omega)) (hp.inj (by omega) (by omega) (by omega)) ?_
      have e2 := O.other hp (show n < N by omega) (show n - 1 < N by omega) (by omega) e
      show KasT.kasWp cmp (if lt (gp p (n - 1)) (gp p n) = true then _ else _) Q s
      rw [if_pos e2]
      exact k n (Nat.le_refl _) (by omega) ha
theorem rev_ok {p : Array Nat} (hp : Pm N p) {m : Nat} (hm : m ≤ N) (h : Dsc lt p m) : Pm N (kas_rev p 0 m) ∧ Asc lt (kas_rev p 0 m) m := by
  have hz : m ≤ p.size := by rw [hp.size]; exact hm
  refine ⟨(mirror_perm p 0 m _).trans hp, fun i j hij hj => ?_⟩
  have g : ∀ k, k < m → gp (kas_rev p 0 m) k = gp p (0 + m - 1 - k) := fun k hk => gp_congr (by
    unfold kas_rev
    rw [getElem?_mirror_all hz, if_pos ⟨Nat.zero_le _, hk⟩])
  rw [g i (by omega), g j hj]
  exact h _ _ (by omega) (by omega)
theorem count_ok {p : Array Nat} (hp : Pm N p) (h2 : 2 ≤ N) {Q : Nat × Array Nat → Shared → Prop} (h0 : ∀ m q, 1 ≤ m → m ≤ N → Pm N q → Asc lt q m → Q (m, q) s) : (kas_count N p).kasWp cmp Q s := by
  unfold kas_count
  rw [KasT.kasWp_bind]
  refine asc_ok O hc hp (N - 1) 1 (Nat.le_refl _) (by omega) (fun i j a b => by omega) fun m a b c d => ?_
  by_cases e : (m == N) = true
  · rw [if_pos e]
    exact h0 m p a (by omega) hp c
  · rw [if_neg e]
    have hm : m ≠ N := fun z => e (beq_iff_eq.mpr z)
    by_cases e1 : m > 1
    · rw [if_pos e1]
      refine hc _ _ _ (hp.lt (by omega)) (hp.lt (by omega)) (hp.inj (by omega) (by omega) (by omega)) ?_
      show KasT.kasWp cmp (if lt (gp p 0) (gp p (m - 1)) = true then _ else _) Q s
      rw [if_pos (c 0 (m - 1) (by omega) (by omega))]
      exact h0 m p a (by omega) hp c
    · rw [if_neg e1]
      have : m = 1 := by omega
      subst this
      have e2 : lt (gp p 1) (gp p (1 - 1)) = true := d.resolve_left (by omega)
      unfold kas_descPart
      rw [KasT.kasWp_bind]
      refine desc_ok O hc hp (N - (1 + 1)) (1 + 1) (by omega) (by omega) (fun i j x y => by
        have : i = 0 := by omega
        have : j = 1 := by omega
        subst i j
        exact e2) fun m' a' b' c' => ?_
      show KasT.kasWp cmp (if (0 : Nat) > 0 then _ else _) Q s
      rw [if_neg (by omega)]
      show KasT.kasWp cmp (kas_tail3 m' N p) Q s
      unfold kas_tail3
      rw [KasT.kasWp_bind]
      obtain ⟨r1, r2⟩ := rev_ok O hc hp (show m' ≤ N by omega) c'
      exact asc_ok O hc r1 (N - m') m' (by omega) (by omega) r2 fun m'' x y z w => h0 m'' _ (by omega) (by omega) r1 z
theorem place_ok {p : Array Nat} (hp : Pm N p) {k : Nat} (hk : k < N) (ha : Asc lt p k) {Q : Nat → Shared → Prop} : ∀ (f l r : Nat), l ≤ r → r ≤ k → r - l ≤ f → (∀ i, i < l → lt (gp p i) (gp p k) = true) → (∀ i, r ≤ i → i < k → lt (gp p k) (gp p i) = true) →
    (∀ l, l ≤ k → (∀ i, i < l → lt (gp p i) (gp p k) = true) → (∀ i, l ≤ i → i < k → lt (gp p k) (gp p i) = true) → Q l s) → (kas_place p k f l r).kasWp cmp Q s
  | 0, l, r, h1, h2, h3, hl, hr, q => by
    have : l = r := by omega
    subst this
    exact q l h2 hl hr
  | f + 1, l, r, h1, h2, h3, hl, hr, q => by
    unfold kas_place
    by_cases e : l ≥ r
    · rw [if_pos e]
      have : l = r := by omega
      subst this
      exact q l h2 hl hr
    · rw [if_neg e]
      refine hc _ _ _ (hp.lt hk) (hp.lt (by omega)) (hp.inj hk (by omega) (by omega)) ?_
      by_cases c : lt (gp p k) (gp p ((l + r) / 2)) = true
      · show KasT.kasWp cmp (if lt (gp p k) (gp p ((l + r) / 2)) = true then _ else _) Q s
        rw [if_pos c]
        refine place_ok hp hk ha f l ((l + r) / 2) (by omega) (by omega) (by omega) hl (fun i a b => ?_) q
        by_cases z : i = (l + r) / 2
        · rw [z]; exact c
        · exact O.tr _ _ _ c (ha _ _ (by omega) b)
      · show KasT.kasWp cmp (if lt (gp p k) (gp p ((l + r) / 2)) = true then _ else _) Q s
        rw [if_neg c]
        have c' := O.other hp hk (show (l + r) / 2 < N by omega) (by omega) c
        refine place_ok hp hk ha f ((l + r) / 2 + 1) r (by omega) h2 (by omega) (fun i a => ?_) hr q
        by_cases z : i = (l + r) / 2
        · rw [z]; exact c'
        · exact O.tr _ _ _ (ha i ((l + r) / 2) (by omega) (by omega)) c'
theorem bin_ok {Q : Array Nat → Shared → Prop} (h0 : ∀ q, Pm N q → Asc lt q N → Q q s) : ∀ (f : Nat) (p : Array Nat) (k : Nat), k + f = N → Pm N p → Asc lt p k → (kas_bin f p k).kasWp cmp Q s
  | 0, p, k, hk, hp, ha => h0 p hp (by rw [← hk]; exact ha)
  | f + 1, p, k, hk, hp, ha => by
    unfold kas_bin
    rw [KasT.kasWp_bind]
    refine place_ok O hc hp (show k < N by omega) ha k 0 k (by omega) (Nat.le_refl _) (by omega) (fun i z => by omega) (fun i a b => by omega) fun l hl h1 h2 => ?_
    refine bin_ok h0 f _ (k + 1) (by omega) ((bubble_perm p k _).trans hp) fun i j hij hj => ?_
    have hs : k < p.size := by rw [hp.size]; omega
    have g : ∀ i, gp (bubble p k (k - l)) i = if i = l then gp p k else if l < i ∧ i ≤ k then gp p (i - 1) else gp p i := fun i => by
      have e := getElem?_bubble hs (k - l) (by omega) i
      have e1 : k - (k - l) = l := by omega
      rw [e1] at e
      by_cases z1 : i = l
      · rw [if_pos z1] at e ⊢; exact gp_congr e
      · rw [if_neg z1] at e ⊢
        by_cases z2 : l < i ∧ i ≤ k
        · rw [if_pos z2] at e ⊢; exact gp_congr e
        · rw [if_neg z2] at e ⊢; exact gp_congr e
    rw [g i, g j]
    by_cases a1 : i = l
    · rw [if_pos a1, if_neg (by omega), if_pos (by omega)]
      exact h2 _ (by omega) (by omega)
    · rw [if_neg a1]
      by_cases a2 : l < i ∧ i ≤ k
      · rw [if_pos a2, if_neg (by omega), if_pos (by omega)]
        exact ha _ _ (by omega) (by omega)
      · rw [if_neg a2]
        by_cases b1 : j = l
        · rw [if_pos b1]; exact h1 i (by omega)
        · rw [if_neg b1]
          by_cases b2 : l < j ∧ j ≤ k
          · rw [if_pos b2]
            exact ha _ _ (by omega) (by omega)
          · rw [if_neg b2]
            exact ha _ _ hij (by omega)
theorem sort_ok (h2 : 2 ≤ N) {Q : Array Nat → Shared → Prop} (h0 : ∀ q, Pm N q → Asc lt q N → Q q s) : (kas_sort N).kasWp cmp Q s := by
  unfold kas_sort
  rw [KasT.kasWp_bind]
  refine count_ok O hc (Array.Perm.refl _) h2 fun m q a b hp ha => ?_
  show KasT.kasWp cmp (if m < N then _ else _) Q s
  by_cases e : m < N
  · rw [if_pos e]
    have em : max m 1 = m := by omega
    show KasT.kasWp cmp (kas_bin (N - max m 1) q (max m 1)) Q s
    rw [em]
    exact bin_ok O hc h0 (N - m) q m (by omega) hp ha
  · rw [if_neg e]
    have : m = N := by omega
    subst this
    exact h0 q hp ha
end
end L2

set_option Elab.async false
set_option linter.all false
set_option maxRecDepth 100000
set_option maxHeartbeats 4000000
namespace L2
open PySem PySem.Spec PyProof.Rows PySem.W PySem.Calls

section
variable {prog : Program} {w : World} {A : Around} {E : Value → Shared → Prop} {s : Shared}
/-- what a sort of values asks: the kind of its keys, and each question answered by lt, nothing changed -/
noncomputable def Asked (prog : Program) (w : World) (A : Around) (vs : List Value) (lt : Nat → Nat → Bool) (s : Shared) : Prop :=
  ∃ κ : SortKind, (∀ Q : SortKind → Shared → Prop, Q κ s → wpAny (model prog w) A (keyKind' vs.toArray) Q (fun _ _ => False) s) ∧
    ∀ (i j : Nat) (C : Bool → Shared → Prop), i < vs.length → j < vs.length → i ≠ j → C (lt i j) s → kas_ask prog w A κ vs i j C s
noncomputable def outOf (vs : List Value) (p : Array Nat) : List Value := p.toList.map fun i => vs.getD i Value.none
theorem rsort_tree {lt : Nat → Nat → Bool} {a : Addr} {vs : List Value} {n : Nat} {P : PySem.Fin → Shared → Prop} (ho : s.heap.get? a = some (seqObj "list" vs.toArray n)) (h64 : vs.length < 64) (O : Ord vs.length lt)
    (hk : 2 ≤ vs.length → ∀ s' : Shared, (∀ b o, b ≠ a → s.heap.get? b = some o → s'.heap.get? b = some o) → Asked prog w A vs lt s')
    (h : ∀ p, Pm vs.length p → Asc lt p vs.length → P (.done (.ret .none)) { s with heap := sortedHeap s.heap a vs (outOf vs p).toArray }) :
    wpAny (model prog w) A (Builtin.«list.sort» ⟨[.ref a], []⟩) P E s := by
  rw [list_sort_plain]
  have hlt : a < s.heap.objs.size := Heap.lt_size ho
  have hfit : vs.length ≤ sizeLine := by rw [sizeLine_eq]; omega
  refine wpAny_bind (listItems_at ho rfl (wpAny_bind (listUpdate_at ho rfl ?_ (by rw [List.size_toArray]; exact hfit) (Nat.zero_le _))))
  obtain ⟨e1, ho1⟩ : ∃ e1, (s.heap.update a (Obj.mapSeq fun _ => (#[] : Array Value))).get? a = some (seqObj "list" #[] e1) := ⟨_, get?_update_seq ho fun _ => #[]⟩
  refine wpAny_bind (seqEpoch_at ho1 rfl (wpAny_bind (wpAny_newTuple (wpAny_bind (wpAny_newList (wpAny_holding ?_) (Nat.zero_le _))) (by show vs.length ≤ _; exact hfit))))
  have ho2 : (((s.heap.update a (Obj.mapSeq fun _ => (#[] : Array Value))).push (seqObj "tuple" vs.toArray 0)).push (seqObj "list" #[] 0)).get? a = some (seqObj "list" #[] e1) := Heap.get?_push_of_some _ (Heap.get?_push_of_some _ ho1)
  show wpAny (model prog w) A _ P E { s with heap := ((s.heap.update a (Obj.mapSeq fun _ => (#[] : Array Value))).push (seqObj "tuple" vs.toArray 0)).push (seqObj "list" #[] 0) }
  dsimp only
  by_cases h2 : vs.toArray.size < 2
  · rw [if_pos h2, if_pos h2]
    refine wpAny_bind (wpAny_pure ?_)
    rw [StateT.run_pure]
    refine wpAny_bind (wpAny_pure ?_)
    dsimp only
    have hz : ((vs.toArray.zip vs.toArray).map (·.2)) = (outOf vs (List.toArray (List.range vs.length))).toArray := by
      unfold outOf
      apply Array.ext
      · simp
      · intro i h1 h2
        simp only [Array.size_map, Array.size_zip, List.size_toArray, Nat.min_self] at h1
        simp [h1]
    have es : vs.toArray.size = vs.length := by simp
    refine wpAny_bind (seqEpoch_at ho2 rfl (wpAny_bind (listUpdate_at ho2 rfl ?_ (Nat.zero_le _) ?_)))
    · simp only [bne_self_eq_false, Bool.false_eq_true, if_false]
      have q := h (List.toArray (List.range vs.length)) (Array.Perm.refl _) (fun i j hij hj => by omega)
      unfold sortedHeap at q
      rw [← hz] at q
      exact wpAny_pure q
    · show ((vs.toArray.zip vs.toArray).map (·.2)).size ≤ sizeLine + 1
      simp only [Array.size_map, Array.size_zip, List.size_toArray, Nat.min_self]
      omega
  · have h2' : 2 ≤ vs.length := by rw [List.size_toArray] at h2; omega
    rw [if_neg h2, if_neg h2]
    obtain ⟨κ, kd, ask⟩ := hk h2' { s with heap := ((s.heap.update a (Obj.mapSeq fun _ => (#[] : Array Value))).push (seqObj "tuple" vs.toArray 0)).push (seqObj "list" #[] 0) } fun b o hb e =>
      Heap.get?_push_of_some _ (Heap.get?_push_of_some _ (by rw [Heap.get?_update_ne _ _ _ _ hb]; exact e))
    refine wpAny_bind (wpAny_mono (E := fun _ _ => False) (Q := fun k s' => k = κ ∧ s' = { s with heap := ((s.heap.update a (Obj.mapSeq fun _ => (#[] : Array Value))).push (seqObj "tuple" vs.toArray 0)).push (seqObj "list" #[] 0) }) (kd _ ⟨rfl, rfl⟩) ?_ fun _ _ f => f.elim)
    rintro k s' ⟨rfl, rfl⟩
    refine wpAny_bind (wpAny_mono (kat_run (ks := vs) (G := fun p s' => (Pm vs.length p ∧ Asc lt p vs.length) ∧ s' = { s with heap := ((s.heap.update a (Obj.mapSeq fun _ => (#[] : Array Value))).push (seqObj "tuple" vs.toArray 0)).push (seqObj "list" #[] 0) })
      (Q := fun st' s' => ∃ p : Array Nat, arrOf st' = p.map (kas_item (vs.toArray.zip vs.toArray)) ∧ failedOf st' = none ∧ (Pm vs.length p ∧ Asc lt p vs.length) ∧ s' = { s with heap := ((s.heap.update a (Obj.mapSeq fun _ => (#[] : Array Value))).push (seqObj "tuple" vs.toArray 0)).push (seqObj "list" #[] 0) })
      rfl h2' h64 (fun p st' s' _ a2 a3 a4 => ⟨p, a2, a3, a4⟩) (sort_ok O ask h2' fun q hq ha => ⟨⟨hq, ha⟩, rfl⟩)) ?_ fun _ _ e => e)
    rintro ⟨⟨⟩, st'⟩ s' ⟨p, har, hf, ⟨hp, ha⟩, rfl⟩
    dsimp only
    rw [kat_snds rfl har]
    have hsz : (List.toArray (p.toList.map fun i => vs.getD i Value.none)).size ≤ sizeLine + 1 := by
      rw [List.size_toArray, List.length_map, Array.length_toList, hp.size]; omega
    refine wpAny_bind (seqEpoch_at ho2 rfl (wpAny_bind (listUpdate_at ho2 rfl ?_ (Nat.zero_le _) hsz)))
    rw [hf]
    simp only [bne_self_eq_false, Bool.false_eq_true, if_false]
    exact wpAny_pure (h p hp ha)

/-- a list or a tuple, gathered -/
theorem collect_any {l : Addr} {o : Obj} {vs : List Value} {n : Nat} {T : String} {Q : List Value → Shared → Prop} (hT : T = "list" ∨ T = "tuple") (ho : s.heap.get? l = some o) (hc : o.cls = .type T) (hd : o.data = .seq vs.toArray n)
    (h : Q vs { s with heap := (s.heap.push (seqObj "list" #[] 0)).update s.heap.objs.size (Obj.mapSeq (· ++ vs.toArray)) }) (hsz : vs.length ≤ sizeLine) : wpAny (model prog w) A (collect (.ref l)) Q E s := by
  rcases hT with rfl | rfl
  · exact collect_list ⟨o, ho, hc, n, hd⟩ h hsz
  · unfold collect
    refine wpAny_bind (wpAny_runValue (codeAny_builtin entry_proto_collect' ?_))
    show wpAny _ _ (do again (.builtin "list.__iadd__" ⟨[← newList [], .ref l], []⟩)) _ _ s
    refine wpAny_bind (wpAny_newList (wpAny_pure ⟨Code.quiet_builtin _ (by decide +kernel), codeAny_builtin entry_list_iadd' ?_⟩))
    show wpAny _ _ (Builtin.List.listExtendWith (.ref s.heap.objs.size) (.ref l) (.ref s.heap.objs.size)) _ _ { s with heap := s.heap.push (seqObj "list" #[] 0) }
    unfold Builtin.List.listExtendWith
    have ho' : (s.heap.push (seqObj "list" #[] 0)).get? l = some o := Heap.get?_push_of_some _ ho
    refine wpAny_bind (wpAny_typeOf (T := "tuple") ⟨o, ho', hc⟩ ?_)
    rw [if_pos (by rw [show (Value.type "tuple" == Value.type "tuple") = true from rfl]; simp)]
    refine wpAny_bind (listItems_at ho' hd (wpAny_bind (listItems_at (xs := #[]) (n := 0) (Heap.get?_push_size _ rfl) rfl ?_)))
    rw [if_neg (by simp)]
    refine wpAny_bind (listUpdate_at (xs := #[]) (n := 0) (Heap.get?_push_size _ rfl) rfl (wpAny_pure ?_) (Nat.zero_le _) (by show (#[] ++ vs.toArray).size ≤ sizeLine + 1; simp only [Array.size_append, List.size_toArray, List.length_nil]; omega))
    show wpAny (model prog w) A (do
        let o ← load s.heap.objs.size
        match o.data with
        | .seq xs _ => pure xs.toList
        | _ => unsupported "internal:collect") Q E { s with heap := (s.heap.push (seqObj "list" #[] 0)).update s.heap.objs.size (Obj.mapSeq (· ++ vs.toArray)) }
    refine wpAny_bind (wpAny_load (get?_update_seq (Heap.get?_push_size _ rfl) _) ?_)
    show wpAny _ _ (pure ((#[] : Array Value) ++ vs.toArray).toList) Q E _
    rw [show ((#[] : Array Value) ++ vs.toArray).toList = vs by simp]
    exact wpAny_pure h

theorem rsorted {lt : Nat → Nat → Bool} {l : Addr} {o : Obj} {vs : List Value} {n : Nat} {T : String} {Q : Value → Shared → Prop} (hT : T = "list" ∨ T = "tuple") (ho : s.heap.get? l = some o) (hc : o.cls = .type T) (hd : o.data = .seq vs.toArray n) (h64 : vs.length < 64) (O : Ord vs.length lt)
    (hk : 2 ≤ vs.length → ∀ s' : Shared, (∀ b o, s.heap.get? b = some o → s'.heap.get? b = some o) → Asked prog w A.in1.in1 vs lt s')
    (h : ∀ p, Pm vs.length p → Asc lt p vs.length → Q (.ref (s.heap.objs.size + 1)) { s with heap := sortedAll s.heap vs (outOf vs p).toArray }) : wpAny (model prog w) A (call (.builtin "sorted") [.ref l]) Q E s := by
  refine Calls.call_function_entry kind_sorted plain_sorted entry_sorted (args_sorted1 _) ?_
  unfold Builtin.«sorted»
  refine wpAny_bind (m := checkCount "sorted" 1 1 _) (wpAny_pure (wpAny_bind (collect_any hT ho hc hd (wpAny_bind (wpAny_newList ?_ (by rw [sizeLine_eq]; omega))) (by rw [sizeLine_eq]; omega))))
  have hsz : ((s.heap.push (seqObj "list" #[] 0)).update s.heap.objs.size (Obj.mapSeq (· ++ vs.toArray))).objs.size = s.heap.objs.size + 1 := by rw [Heap.size_update, size_push']
  have hoL : (((s.heap.push (seqObj "list" #[] 0)).update s.heap.objs.size (Obj.mapSeq (· ++ vs.toArray))).push (seqObj "list" vs.toArray 0)).get? (s.heap.objs.size + 1) = some (seqObj "list" vs.toArray 0) := by
    rw [← hsz]
    exact Heap.get?_push_size _ rfl
  show wpAny _ _ _ _ _ { s with heap := ((s.heap.push (seqObj "list" #[] 0)).update s.heap.objs.size (Obj.mapSeq (· ++ vs.toArray))).push (seqObj "list" vs.toArray 0) }
  rw [hsz]
  have kp : ∀ b o, s.heap.get? b = some o → (((s.heap.push (seqObj "list" #[] 0)).update s.heap.objs.size (Obj.mapSeq (· ++ vs.toArray))).push (seqObj "list" vs.toArray 0)).get? b = some o := fun b ob e => by
    have hb := Heap.lt_size e
    refine Heap.get?_push_of_some _ ?_
    rw [Heap.get?_update_ne _ _ _ _ (Nat.ne_of_lt hb)]
    exact Heap.get?_push_of_some _ e
  refine wpAny_bind (wpAny_holding (wpAny_call_entry slot_list_sort ⟨_, hoL, rfl⟩ entry_list_sort (rsort_tree hoL h64 O (fun z s' hs' => hk z s' fun b ob e => hs' b ob (by have := Heap.lt_size e; exact Nat.ne_of_lt (Nat.lt_succ_of_lt this)) (kp b ob e)) fun p hp ha => ⟨_, rfl, ?_⟩) (args_list_sort _)))
  exact wpAny_pure ⟨_, rfl, h p hp ha⟩
end

/-! ### rows: tuples whose first thing is a text -/
theorem katGet {h : Heap} : ∀ {vs fs : List Value}, KatTups h vs fs → ∀ (i : Nat), i < vs.length → ∃ a o xs n f, vs.getD i Value.none = .ref a ∧ h.get? a = some o ∧ o.data = .seq xs n ∧ xs[0]? = some f ∧ fs[i]? = some f
  | [], [], _, i, hi => absurd hi (Nat.not_lt_zero _)
  | [], _ :: _, t, _, _ => t.elim
  | _ :: _, [], t, _, _ => t.elim
  | v :: vs, f :: fs, t, 0, _ => by
    obtain ⟨⟨a, o, xs, n, rfl, ho, hc, hd, hf⟩, _⟩ := t
    exact ⟨a, o, xs, n, f, rfl, ho, hd, hf, rfl⟩
  | v :: vs, f :: fs, t, i + 1, hi => by
    obtain ⟨_, t⟩ := t
    obtain ⟨a, o, xs, n, g, e1, e2, e3, e4, e5⟩ := katGet t i (by simpa using hi)
    exact ⟨a, o, xs, n, g, by simpa using e1, e2, e3, e4, by simpa using e5⟩
theorem strGet : ∀ {fs : List Value} {ss : List Str}, StrsAre fs ss → ∀ (i : Nat) (f : Value), fs[i]? = some f → ∃ t, f = .str (ss.getD i Str.empty) t ∧ i < ss.length
  | _, _, .nil, i, f, h => by simp at h
  | _, _, .cons y t r, 0, f, h => by simp at h; exact ⟨t, h.symm, by simp⟩
  | _, _, .cons y t r, i + 1, f, h => by
    obtain ⟨t', e1, e2⟩ := strGet r i f (by simpa using h)
    exact ⟨t', by simpa using e1, by simpa using e2⟩
theorem rowAsk {prog : Program} {w : World} {A : Around} {s : Shared} {vs fs : List Value} {ss : List Str} (t : KatTups s.heap vs fs) (hS : StrsAre fs ss) (hne : 0 < fs.length) (hnd : ss.Nodup) :
    Asked prog w A vs (fun i j => decide ((ss.getD i Str.empty).cps.toList < (ss.getD j Str.empty).cps.toList)) s := by
  refine ⟨tuples' (Value.type "str" != Value.type "tuple"), fun Q q => kat_kind (T := Value.type "str") t hne (fun v hv => ?_) (by decide) q, fun i j C hi hj hij q => ?_⟩
  · obtain ⟨x, u, rfl⟩ := hS.all v hv
    exact Looks.now
  · obtain ⟨a, o, xs, n, f, e1, e2, e3, e4, e5⟩ := katGet t i hi
    obtain ⟨b, o', ys, n', g, g1, g2, g3, g4, g5⟩ := katGet t j hj
    obtain ⟨tf, rfl, hil⟩ := strGet hS i f e5
    obtain ⟨tg, rfl, hjl⟩ := strGet hS j g g5
    unfold kas_ask
    rw [e1, g1]
    refine kat_lt e2 e3 g2 g3 ?_
    obtain ⟨xr, hx⟩ : ∃ xr, xs.toList = .str (ss.getD i Str.empty) tf :: xr := by
      cases hq : xs.toList with
      | nil => rw [← Array.getElem?_toList, hq] at e4; simp at e4
      | cons z zr => rw [← Array.getElem?_toList, hq] at e4; simp at e4; rw [e4]; exact ⟨zr, rfl⟩
    obtain ⟨yr, hy⟩ : ∃ yr, ys.toList = .str (ss.getD j Str.empty) tg :: yr := by
      cases hq : ys.toList with
      | nil => rw [← Array.getElem?_toList, hq] at g4; simp at g4
      | cons z zr => rw [← Array.getElem?_toList, hq] at g4; simp at g4; rw [g4]; exact ⟨zr, rfl⟩
    rw [hx, hy]
    have hnE : ss.getD i Str.empty ≠ ss.getD j Str.empty := by
      rw [List.getD_eq_getElem?_getD, List.getD_eq_getElem?_getD, List.getElem?_eq_getElem hil, List.getElem?_eq_getElem hjl]
      intro z
      have z' : ss[i] = ss[j] := z
      rcases Nat.lt_or_gt_of_ne hij with y | y
      · exact List.pairwise_iff_getElem.mp hnd i j hil hjl y z'
      · exact List.pairwise_iff_getElem.mp hnd j i hjl hil y z'.symm
    show KatLex prog w A _ _ C ((Value.str (ss.getD i Str.empty) tf, Value.str (ss.getD j Str.empty) tg) :: xr.zip yr) 0 s
    refine kat_cons (wpAny_eqBool_str ?_)
    rw [decide_eq_false hnE]
    refine kat_no ?_
    show wpAny _ A (oneLt' true _ _) C _ s
    exact strKind_oneLt prog w A _ s _ _ _ _ rfl rfl q

theorem str_tri {x y : Str} (h : x ≠ y) : x.cps.toList < y.cps.toList ∨ y.cps.toList < x.cps.toList := by
  by_cases c : x.cps.toList < y.cps.toList
  · exact .inl c
  · rcases List.le_iff_lt_or_eq.mp (List.not_lt.mp c) with z | z
    · exact .inr z
    · refine absurd ?_ h
      obtain ⟨a⟩ := x
      obtain ⟨b⟩ := y
      have e : b = a := Array.toList_inj.mp z
      rw [e]
/-- a list of rows: places and the texts that stand first in them -/
noncomputable def RowsIn (H : Hp) (rs : List (Addr × Str)) : Prop := ∀ r ∈ rs, ∃ rest, H r.1 = some (.tup (.str r.2 :: rest))
noncomputable abbrev refs (rs : List (Addr × Str)) : List V := rs.map fun r => V.ref r.1
noncomputable def nlt (x y : Str) : Prop := x.cps.toList < y.cps.toList
theorem katTups_of {P : Program} {w : World} {H : Hp} {h : Heap} (ok : HOk P w H h) : ∀ {rs : List (Addr × Str)} {us : List Value}, RowsIn H rs → Vals (refs rs) us → ∃ fs, KatTups h us fs ∧ StrsAre fs (rs.map (·.2))
  | [], us, _, r => by cases r; exact ⟨[], trivial, .nil⟩
  | x :: rs, us, hr, r => by
    cases r with
    | @cons _ u _ us' r1 r2 =>
      obtain ⟨fs, t, q⟩ := katTups_of ok (rs := rs) (fun y hy => hr y (List.mem_cons_of_mem _ hy)) r2
      obtain ⟨rest, e⟩ := hr x List.mem_cons_self
      cases (show u = Value.ref x.1 from r1)
      obtain ⟨_, its, rv, o, ho, hc, n, hd⟩ := (show ObjOk P w H h x.1 (.tup (.str x.2 :: rest)) from ok x.1 _ e)
      cases rv with
      | @cons _ f _ its' rf _ =>
        obtain ⟨tk, rfl⟩ := rf
        exact ⟨.str x.2 tk :: fs, KatTups.cons ho hc hd (by simp) t, .cons _ _ q⟩
theorem vals_pick {xs : List V} {us : List Value} (r : Vals xs us) : ∀ {ps : List Nat}, (∀ i ∈ ps, i < xs.length) → Vals (ps.map fun i => xs.getD i .non) (ps.map fun i => us.getD i Value.none)
  | [], _ => .nil
  | i :: ps, h => by
    have hi := h i List.mem_cons_self
    obtain ⟨u, e, ru⟩ := r.get (List.getElem?_eq_getElem hi)
    refine .cons ?_ (vals_pick r fun j hj => h j (List.mem_cons_of_mem _ hj))
    show RelV (xs.getD i .non) (us.getD i Value.none)
    rw [List.getD_eq_getElem?_getD, List.getD_eq_getElem?_getD, List.getElem?_eq_getElem hi, e]
    exact ru
theorem pick_perm {α : Type} (d : α) (xs : List α) {p : Array Nat} (h : Pm xs.length p) : (p.toList.map fun i => xs.getD i d).Perm xs := by
  have hp : p.toList.Perm (List.range xs.length) := by simpa using Array.perm_iff_toList_perm.mp h
  have e : (List.range xs.length).map (fun i => xs.getD i d) = xs := by
    apply List.ext_getElem
    · simp
    · intro i h1 h2
      simp [h2]
  exact (hp.map _).trans (by rw [e])
section
variable {X : Cx}
/-- sorted of a list or a tuple of rows with unlike names -/
theorem call_sortedR : CallR X (.builtin "sorted") (fun xs H Q => ∃ (p : Addr) (rs : List (Addr × Str)), xs = [.ref p] ∧ (SqL X.K H p (refs rs) ∨ SqT X.K H p (refs rs)) ∧ RowsIn H rs ∧ rs.length < 64 ∧ (rs.map (·.2)).Nodup ∧
    ∀ (rs' : List (Addr × Str)) (q : Addr), rs'.Perm rs → (rs'.map (·.2)).Pairwise nlt → H q = none → Q (.ref q) (upd H q (.lst (refs rs')))) := by
  intro pins s σ H xs us Q I r h
  obtain ⟨p, rs, rfl, hq, hR, h64, hnd, q⟩ := h
  obtain ⟨u, rfl, rx⟩ := vals1 r
  cases rx
  have core : ∀ (T : String) (o : Obj) (its : List Value) (n : Nat), (T = "list" ∨ T = "tuple") → s.heap.get? p = some o → o.cls = .type T → o.data = .seq its.toArray n → Vals (refs rs) its →
      wpAny (model X.prog X.w) X.A (call (.builtin "sorted") [.ref p]) (EP X pins σ Q) X.xe s := fun T o its n hT ho hc hd r' => by
    have hl := r'.length
    have hl' : its.length = rs.length := by rw [← hl]; simp
    have O : Ord its.length (fun i j => decide (((rs.map (·.2)).getD i Str.empty).cps.toList < ((rs.map (·.2)).getD j Str.empty).cps.toList)) := by
      refine ⟨fun i j k h1 h2 => ?_, fun i => ?_, fun i j hi hj hij => ?_⟩
      · exact decide_eq_true (List.lt_trans (of_decide_eq_true h1) (of_decide_eq_true h2))
      · exact decide_eq_false (List.lt_irrefl _)
      · have hil : i < (rs.map (·.2)).length := by simpa [← hl'] using hi
        have hjl : j < (rs.map (·.2)).length := by simpa [← hl'] using hj
        rw [List.getD_eq_getElem?_getD, List.getD_eq_getElem?_getD, List.getElem?_eq_getElem hil, List.getElem?_eq_getElem hjl]
        have ne : (rs.map (·.2))[i] ≠ (rs.map (·.2))[j] := by
          rcases Nat.lt_or_gt_of_ne hij with y | y
          · exact List.pairwise_iff_getElem.mp hnd i j hil hjl y
          · exact fun z => List.pairwise_iff_getElem.mp hnd j i hjl hil y z.symm
        exact (str_tri ne).imp decide_eq_true decide_eq_true
    refine rsorted hT ho hc hd (by omega) O (fun h2 s' hs' => ?_) fun pm hp ha => ?_
    · obtain ⟨fs, t, hS⟩ := katTups_of (I.hok.kept hs') hR r'
      have hfl : 0 < fs.length := by
        have := hS.length
        simp at this
        omega
      exact rowAsk t hS hfl hnd
    · obtain ⟨e, he⟩ := sortedAll_at s.heap its (outOf its pm).toArray
      have hpm : Pm rs.length pm := by rw [← hl']; exact hp
      have hlt : ∀ i ∈ pm.toList, i < rs.length := fun i hi => by
        have : i ∈ (List.toArray (List.range rs.length)) := hpm.mem_iff.mp (by simpa using hi)
        simpa using this
      have hv : Vals ((pm.toList.map fun i => (refs rs).getD i .non)) (outOf its pm) := vals_pick r' fun i hi => by simpa using hlt i hi
      have he2 : (pm.toList.map fun i => (refs rs).getD i .non) = refs (pm.toList.map fun i => rs.getD i (0, Str.empty)) := by
        unfold refs
        rw [List.map_map]
        exact List.map_congr_left fun i hi => by simp [hlt i hi]
      rw [he2] at hv
      have hfr : H (s.heap.objs.size + 1) = none := I.hok.fresh (Nat.le_succ _)
      have hpe := pick_perm (0, Str.empty) rs hpm
      refine ⟨.ref (s.heap.objs.size + 1), _, I.laid (t' := s.toks) (o := .lst (refs (pm.toList.map fun i => rs.getD i (0, Str.empty)))) (fun b o z => sortedAll_old z) (Nat.le_succ _) ⟨?_, outOf its pm, e, hv, ?_⟩, rfl, q _ _ hpe ?_ hfr⟩
      · unfold refs
        rw [List.length_map, hpe.length_eq, sizeLine_eq]; omega
      · simpa [seqObj] using he
      · rw [List.map_map, List.pairwise_map]
        refine List.pairwise_iff_getElem.mpr fun i j hi hj hij => ?_
        have hps := hp.size
        have hi' : i < pm.size := by simpa using hi
        have hj' : j < pm.size := by simpa using hj
        have z := of_decide_eq_true (ha i j hij (by omega))
        rw [gp_eq hi', gp_eq hj'] at z
        show ((rs.getD pm.toList[i] (0, Str.empty)).2).cps.toList < ((rs.getD pm.toList[j] (0, Str.empty)).2).cps.toList
        have b1 := hlt pm.toList[i] (List.getElem_mem _)
        have b2 := hlt pm.toList[j] (List.getElem_mem _)
        simp only [Array.getElem_toList] at b1 b2 ⊢
        simpa [b1, b2] using z
  rcases hq with hq | hq
  · obtain ⟨its, r', pl, hz⟩ := I.list hq
    obtain ⟨o, ho, hc, n, hd⟩ := pl.isList
    exact core "list" o its n (.inl rfl) ho hc hd r'
  · obtain ⟨its, r', pl, hz⟩ := I.tuple hq
    obtain ⟨o, ho, hc, n, hd⟩ := pl
    exact core "tuple" o its n (.inr rfl) ho hc hd r'
end
end L2

set_option Elab.async false
set_option linter.all false
set_option maxRecDepth 100000
set_option maxHeartbeats 4000000
namespace L2
open PySem PySem.Spec PyProof.Rows

/-! ### the signs of a plain text -/
noncomputable def Its (x : Str) : It := ⟨fun i _ => i < x.length, fun i H v H' => H' = H ∧ ∃ c, x.cps[i]? = some c ∧ v = .str ⟨#[c]⟩, fun i _ => x.length ≤ i⟩
theorem turn_str {P : Program} {w : World} {K : PySem.W.Frag} {tg : Expr} (x : Str) (t : Tok) (it : Addr) : Turn P w K tg (Its x) [it] it (fun i h => h.IsStrIter it "str_ascii_iterator" x t i) where
  mem := by simp
  obj := fun i h st b hb => by
    have e : b = it := by simpa using hb
    subst e
    obtain ⟨o, e, c, d⟩ := st
    exact ⟨o, e, fun v z => by rw [d] at z; cases z⟩
  keep := fun i h h' st k => by
    obtain ⟨o, e, r⟩ := st
    exact ⟨o, k it (by simp) o e, r⟩
  item := by
    intro X hP hw hK hc i pins s σ H E I hf st hg
    subst hP hw hK
    have hg' : i < x.cps.size := hg
    obtain ⟨f0, f1, f2, f3, f4, f5⟩ := hf it (by simp)
    refine wpAny_pyNext_ascii_item st (Array.getElem?_eq_getElem hg') fun h' st' sb => ?_
    have I1 : Inv X pins σ H { s with heap := h', toks := s.toks + 1 } := I.turned (fun b o hb e => (sb.2 b hb).trans e) f0 f1 f3 f4 f5
    obtain ⟨o, e, c, d⟩ := id st'
    exact ⟨_, rfl, go_of (s := { s with heap := h', toks := s.toks + 1 }) e c d (by decide) ⟨.str ⟨#[x.cps[i]]⟩, H, I1, ⟨_, rfl⟩, ⟨rfl, _, Array.getElem?_eq_getElem hg', rfl⟩, st', fun b hb => (hf b hb).1⟩⟩
  done := by
    intro X hP hw hK hc i pins s σ H E I hf st hg
    subst hP hw hK
    have hg' : x.cps.size ≤ i := hg
    obtain ⟨f0, f1, f2, f3, f4, f5⟩ := hf it (by simp)
    exact wpAny_pyNext_ascii_end (I.ok.hd hc) st (Array.getElem?_eq_none hg') fun h' eb => ⟨rfl, I.turned (t' := s.toks) (fun b o hb e => eb b o hb e) f0 f1 f3 f4 f5⟩
  self := fun A i s Q E st h => wpAny_pyIter_striter_ascii st h
section
variable {X : Cx} {tg : Expr}
noncomputable def iStr (tl : TE) : TI := fun σ H R => tl σ H fun v H1 => ∃ x : Str, v = .str x ∧ x.cps.all (· < 128) = true ∧ R (Its x) H1
theorem pi_str {l : Expr} {tl : TE} (hl : PE X l tl) : PI X tg l (iStr tl) := by
  intro pins s σ H R I h
  refine thn (hl pins s σ H _ I h) fun v s1 ⟨x, H1, I1, r1, q1⟩ => ?_
  obtain ⟨y, rfl, ha, q⟩ := q1
  obtain ⟨t, rfl⟩ := r1
  refine wpAny_pyIter_ascii ha ?_
  refine ⟨s1.heap.objs.size, [s1.heap.objs.size], _, _, H1, rfl, I1.kept (t' := s1.toks) fun b o e => Heap.get?_push_of_some _ e, turn_str y t _, ⟨_, Heap.get?_push_size _ rfl, rfl, rfl⟩, fun b hb => ?_, q⟩
  have e : b = s1.heap.objs.size := by simpa using hb
  subst e
  exact I1.fpOk (Nat.le_refl _) (I1.hok.fresh (Nat.le_refl _))

/-! ### slices -/
theorem sl_str : SlR X (fun x lo hi H Q => ∃ z, x = .str z ∧ z.length ≤ sizeLine ∧ Q (.str (Txt.slice z lo hi)) H) := by
  intro pins s σ H x v vl vu lo hi sl Q I rx hs pl pu h
  obtain ⟨z, rfl, hz, q⟩ := h
  obtain ⟨t, rfl⟩ := rx
  have fin : ∀ (t' : Tok) (k : Nat), EP X pins σ Q (.str (Txt.slice z lo hi) t') { s with toks := k } := fun t' k => ⟨.str (Txt.slice z lo hi), H, I.tok k, ⟨_, rfl⟩, q⟩
  refine ⟨"str", _, F.slot_str_getitem.lookup, typeIs_str _ _ _, ?_⟩
  obtain ⟨o, ho, hc, hd⟩ := hs
  cases pl with
  | none =>
    cases pu with
    | none => exact wpAny_getItem_str_slice (l := none) (u := none) (st := none) ⟨o, ho, hc, hd⟩ rfl (post_val_or_str ⟨Nat.le_trans (Txt.slice_le z _ _) hz, fun t' k => fin t' k⟩)
    | int j uj => exact wpAny_getItem_str_slice (l := none) (u := some (j, uj)) (st := none) ⟨o, ho, hc, hd⟩ rfl (post_val_or_str ⟨Nat.le_trans (Txt.slice_le z _ _) hz, fun t' k => fin t' k⟩)
  | int i ui =>
    cases pu with
    | none => exact wpAny_getItem_str_slice (l := some (i, ui)) (u := none) (st := none) ⟨o, ho, hc, hd⟩ rfl (post_val_or_str ⟨Nat.le_trans (Txt.slice_le z _ _) hz, fun t' k => fin t' k⟩)
    | int j uj => exact wpAny_getItem_str_slice (l := some (i, ui)) (u := some (j, uj)) (st := none) ⟨o, ho, hc, hd⟩ rfl (post_val_or_str ⟨Nat.le_trans (Txt.slice_le z _ _) hz, fun t' k => fin t' k⟩)

/-- the whole of a tuple is the tuple -/
theorem tup_whole {prog : Program} {w : World} {A : Around} {E : Value → Shared → Prop} {s : Shared} {t sl : Addr} {items : Array Value} {vl vu : Value} {lo hi : Option Int} {Q : Value → Shared → Prop} (ht : IsTup s.heap t items) (hs : s.heap.IsSliceOf sl vl vu .none) (pl : IsPart vl lo) (pu : IsPart vu hi)
    (h0 : HT.sIx items.size 0 lo = 0) (h1 : HT.sIx items.size items.size hi = items.size) (h : Q (.ref t) s) : wpAny (model prog w) A (getItem (.ref t) (.ref sl)) Q E s := by
  obtain ⟨os, hos, hcs, hds⟩ := id hs
  have hTs : s.TypeIs (.ref sl) "slice" := ⟨os, hos, hcs⟩
  unfold getItem
  try with_reducible refine wpAny_holding ?_
  first | refine wpAny_bind (wpAny_pure ?_) | skip
  refine wpAny_bind (wpAny_sequenceKey ht.typeIs (by decide) (wpAny_bind (wpAny_callSpecial?_slot (name := Str.ofString "__getitem__") ht.typeIs PyProof.Rows.slot_tuple_getitem
    (wpAny_call_entry PyProof.Rows.slot_tuple_getitem ht.typeIs entry_tuple_getitem ?_ (args_tuple_getitem _ _)))))
  show wpAny _ _ (Builtin.Tuple.tupleItemsOf (.ref t) >>= _) _ _ s
  refine wpAny_bind (tupleItemsOf_ ht (wpAny_bind (wpAny_typeOf hTs ?_)))
  rw [if_pos (by decide)]
  refine wpAny_bind (HT.sliceApplied_gen hs pl pu ?_)
  show wpAny _ _ (if (((HT.sIx items.size 0 lo : Nat) : Int) == 0 && (1 : Int) == 1 && (HT.sIx items.size items.size hi - HT.sIx items.size 0 lo) == items.size) = true then _ else _) _ _ s
  rw [h0, h1, if_pos (by simp)]
  refine wpAny_bind (wpAny_bind (wpAny_typeOf ht.typeIs (wpAny_pure ?_)))
  rw [if_pos (by rfl)]
  exact wpAny_bind (wpAny_rule (wpAny_pure ⟨_, rfl, wpAny_pure h⟩))
/-- t[lo:hi] of any tuple -/
noncomputable def rSlA (K : PySem.W.Frag) : V → Option Int → Option Int → Hp → VK → Prop := fun x lo hi H Q => ∃ a xs, x = .ref a ∧ SqT K H a xs ∧
  (cutV xs lo hi = xs → Q (.ref a) H) ∧ ∀ p, H p = none → Q (.ref p) (upd H p (.tup (cutV xs lo hi)))
theorem sl_tupA : SlR X (rSlA X.K) := by
  intro pins s σ H x v vl vu lo hi sl Q I rx hs pl pu h
  obtain ⟨a, xs, rfl, hx, q1, q2⟩ := h
  by_cases hw : HT.sIx xs.length 0 lo = 0 ∧ HT.sIx xs.length xs.length hi = xs.length
  · cases rx
    obtain ⟨its, r, ht, hz⟩ := I.tuple hx
    have hlen : its.toArray.size = xs.length := by rw [List.size_toArray]; exact r.length.symm
    refine ⟨"tuple", _, PyProof.Rows.slot_tuple_getitem.lookup, ht.typeIs, tup_whole ht hs pl pu (by rw [hlen]; exact hw.1) (by rw [hlen]; exact hw.2) ⟨.ref a, H, I, rfl, q1 ?_⟩⟩
    unfold cutV
    rw [hw.1, hw.2]
    simp
  · exact sl_tup pins s σ H (.ref a) v vl vu lo hi sl Q I rx hs pl pu ⟨a, xs, rfl, hx, hw, q2⟩

/-- t + u of any tuples -/
noncomputable def rCatA (K : PySem.W.Frag) : R2 := fun x y H Q => ∃ a b xs ys, x = .ref a ∧ y = .ref b ∧ SqT K H a xs ∧ SqT K H b ys ∧ xs.length + ys.length ≤ sizeLine ∧
  (xs = [] → Q (.ref b) H) ∧ (ys = [] → Q (.ref a) H) ∧ ∀ p, H p = none → Q (.ref p) (upd H p (.tup (xs ++ ys)))
theorem op_catA : OpR X (binaryOp .Add) (rCatA X.K) := by
  intro pins s σ H x y v u Q I rx ry h
  obtain ⟨a, b, xs, ys, rfl, rfl, ha, hb, hz, q0, q1, q2⟩ := h
  by_cases hx : xs = []
  · subst hx
    cases rx
    cases ry
    obtain ⟨its, r1, p1, _⟩ := I.tuple ha
    obtain ⟨its2, r2, p2, _⟩ := I.tuple hb
    cases r1
    obtain ⟨⟨cls, dd, data, sl⟩, ho, hc, n, hd⟩ := id p1
    obtain ⟨⟨cls2, dd2, data2, sl2⟩, ho2, hc2, n2, hd2⟩ := id p2
    simp only at hc hd hc2 hd2
    subst hc hd hc2 hd2
    exact concat_meets ⟨_, ho, rfl⟩ ⟨_, ho2, rfl⟩ noFill_tuple_add seq_tuple_add PySem.F.slot_tuple_add PySem.F.entry_tuple_add (PySem.F.args_tuple_add_2 _ _)
      (tuple_addW0 a b _ its2.toArray n n2 dd dd2 sl sl2 (by simp)) ⟨ho, ho2, ⟨.ref b, H, I, rfl, q0 rfl⟩⟩
  · exact op_catT pins s σ H (.ref a) (.ref b) v u Q I rx ry ⟨a, b, xs, ys, rfl, rfl, ha, hb, hx, hz, q1, fun _ => q2⟩

end
/-! ### what a comprehension's block shows, by an invariant over the turns -/
section
variable {K : PySem.W.Frag} {g : TG} {tt : TT} {te : TE} {σ' : St} {fin : List V → Hp → Prop} {H1 : Hp}
theorem lcw_gen {J : It} {n : Nat} (hn : n < sizeLine) (Pv : Nat → List V → St → Hp → Prop) (Yd : Nat → V → Prop) (h0 : Pv 0 [] σ' H1) (hl : ∀ i ys σ H, i ≤ n → Pv i ys σ H → ys.length ≤ i)
    (hgo : ∀ i ys σ H, i < n → Pv i ys σ H → J.go i H) (hst : ∀ ys σ H, Pv n ys σ H → J.stop n H) (hy : ∀ i ys σ H x H', i < n → Pv i ys σ H → J.yld i H x H' → H' = H ∧ Yd i x)
    (hs : ∀ i x ys σ H, i < n → Yd i x → Pv i ys σ H → g x σ H fun σ2 H2 => tt σ2 H2 fun b H3 => if b = true then te σ2 H3 (fun v H4 => Pv (i + 1) (ys ++ [v]) σ2 H4) else Pv (i + 1) ys σ2 H3) (hd : ∀ ys σ H, Pv n ys σ H → fin ys H) :
    LcW J g tt te σ' fin H1 := by
  refine ⟨fun i m ys σ H => m = n - i ∧ i ≤ n ∧ Pv i ys σ H, ⟨n, by simp, Nat.zero_le _, h0⟩, ?_⟩
  rintro i m ys σ H ⟨rfl, hi, p⟩
  have hly := hl i ys σ H hi p
  by_cases hlt : i < n
  · refine .inr ⟨hgo i ys σ H hlt p, by omega, fun ys' σ2 H2 => Pv (i + 1) ys' σ2 H2, fun ys' σ2 H2 q => ⟨n - (i + 1), by omega, rfl, hlt, q⟩, fun x H' y => ?_⟩
    obtain ⟨e, yd⟩ := hy i ys σ H x H' hlt p y
    subst e
    exact hs i x ys σ H' hlt yd p
  · have e : i = n := by omega
    subst e
    exact .inl ⟨hst ys σ H p, by omega, hd ys σ H p⟩
theorem lcw_tup {a : Addr} {xs : List V} (hn : xs.length < sizeLine) (Pv : Nat → List V → St → Hp → Prop) (h0 : Pv 0 [] σ' H1) (hl : ∀ i ys σ H, i ≤ xs.length → Pv i ys σ H → ys.length ≤ i ∧ SqT K H a xs)
    (hs : ∀ i x ys σ H, xs[i]? = some x → Pv i ys σ H → g x σ H fun σ2 H2 => tt σ2 H2 fun b H3 => if b = true then te σ2 H3 (fun v H4 => Pv (i + 1) (ys ++ [v]) σ2 H4) else Pv (i + 1) ys σ2 H3) (hd : ∀ ys σ H, Pv xs.length ys σ H → fin ys H) :
    LcW (Itt K a) g tt te σ' fin H1 :=
  lcw_gen hn Pv (fun i x => xs[i]? = some x) h0 (fun i ys σ H hi p => (hl i ys σ H hi p).1) (fun i ys σ H hi p => ⟨xs, xs[i], (hl i ys σ H (Nat.le_of_lt hi) p).2, by simp [hi]⟩) (fun ys σ H p => ⟨xs, (hl _ ys σ H (Nat.le_refl _) p).2, Nat.le_refl _⟩)
    (fun i ys σ H x H' hi p y => ⟨y.1, y.2 xs (hl i ys σ H (Nat.le_of_lt hi) p).2⟩) (fun i x ys σ H _ yd p => hs i x ys σ H yd p) hd
theorem lcw_list {a : Addr} {xs : List V} (hn : xs.length < sizeLine) (Pv : Nat → List V → St → Hp → Prop) (h0 : Pv 0 [] σ' H1) (hl : ∀ i ys σ H, i ≤ xs.length → Pv i ys σ H → ys.length ≤ i ∧ SqL K H a xs)
    (hs : ∀ i x ys σ H, xs[i]? = some x → Pv i ys σ H → g x σ H fun σ2 H2 => tt σ2 H2 fun b H3 => if b = true then te σ2 H3 (fun v H4 => Pv (i + 1) (ys ++ [v]) σ2 H4) else Pv (i + 1) ys σ2 H3) (hd : ∀ ys σ H, Pv xs.length ys σ H → fin ys H) :
    LcW (Itl K a) g tt te σ' fin H1 :=
  lcw_gen hn Pv (fun i x => xs[i]? = some x) h0 (fun i ys σ H hi p => (hl i ys σ H hi p).1) (fun i ys σ H hi p => ⟨xs, xs[i], (hl i ys σ H (Nat.le_of_lt hi) p).2, by simp [hi]⟩) (fun ys σ H p => ⟨xs, (hl _ ys σ H (Nat.le_refl _) p).2, Nat.le_refl _⟩)
    (fun i ys σ H x H' hi p y => ⟨y.1, y.2 xs (hl i ys σ H (Nat.le_of_lt hi) p).2⟩) (fun i x ys σ H _ yd p => hs i x ys σ H yd p) hd
theorem lcw_range {lo : Int} {n : Nat} (hn : n < sizeLine) (Pv : Nat → List V → St → Hp → Prop) (h0 : Pv 0 [] σ' H1) (hl : ∀ i ys σ H, i ≤ n → Pv i ys σ H → ys.length ≤ i)
    (hs : ∀ i ys σ H, i < n → Pv i ys σ H → g (.int (lo + i)) σ H fun σ2 H2 => tt σ2 H2 fun b H3 => if b = true then te σ2 H3 (fun v H4 => Pv (i + 1) (ys ++ [v]) σ2 H4) else Pv (i + 1) ys σ2 H3) (hd : ∀ ys σ H, Pv n ys σ H → fin ys H) :
    LcW (Itr lo n) g tt te σ' fin H1 :=
  lcw_gen hn Pv (fun i x => x = .int (lo + i)) h0 hl (fun i ys σ H hi p => hi) (fun ys σ H p => Nat.le_refl _) (fun i ys σ H x H' hi p y => y) (fun i x ys σ H hi yd p => by subst yd; exact hs i ys σ H hi p) hd
theorem lcw_str {x : Str} (hn : x.length < sizeLine) (Pv : Nat → List V → St → Hp → Prop) (h0 : Pv 0 [] σ' H1) (hl : ∀ i ys σ H, i ≤ x.length → Pv i ys σ H → ys.length ≤ i)
    (hs : ∀ i c ys σ H, x.cps[i]? = some c → Pv i ys σ H → g (.str ⟨#[c]⟩) σ H fun σ2 H2 => tt σ2 H2 fun b H3 => if b = true then te σ2 H3 (fun v H4 => Pv (i + 1) (ys ++ [v]) σ2 H4) else Pv (i + 1) ys σ2 H3) (hd : ∀ ys σ H, Pv x.length ys σ H → fin ys H) :
    LcW (Its x) g tt te σ' fin H1 :=
  lcw_gen hn Pv (fun i v => ∃ c, x.cps[i]? = some c ∧ v = .str ⟨#[c]⟩) h0 hl (fun i ys σ H hi p => hi) (fun ys σ H p => Nat.le_refl _) (fun i ys σ H v H' hi p y => y) (fun i v ys σ H hi yd p => by obtain ⟨c, e, rfl⟩ := yd; exact hs i c ys σ H e p) hd
end
end L2

set_option Elab.async false
set_option linter.all false
set_option maxRecDepth 100000
set_option maxHeartbeats 4000000
namespace L2
open PySem PySem.Spec PyProof.Rows
section
variable {K : PySem.W.Frag} {tt : TT} {te : TE} {σ' : St} {fin : List V → Hp → Prop} {H1 : Hp} {j : Nat}
theorem lcw_tup0 {a : Addr} {xs : List V} (hn : xs.length < sizeLine) (Pv : Nat → List V → St → Hp → Prop) (h0 : Pv 0 [] σ' H1) (hl : ∀ i ys σ H, i ≤ xs.length → Pv i ys σ H → ys.length ≤ i ∧ SqT K H a xs)
    (hs : ∀ i x ys σ H, xs[i]? = some x → Pv i ys σ H → te (σ.set j (some x)) H fun v H4 => Pv (i + 1) (ys ++ [v]) (σ.set j (some x)) H4) (hd : ∀ ys σ H, Pv xs.length ys σ H → fin ys H) : LcW (Itt K a) (gName j) tYes te σ' fin H1 :=
  lcw_tup hn Pv h0 hl (fun i x ys σ H hx p => by unfold gName tYes; exact iteT (hs i x ys σ H hx p)) hd
theorem lcw_list0 {a : Addr} {xs : List V} (hn : xs.length < sizeLine) (Pv : Nat → List V → St → Hp → Prop) (h0 : Pv 0 [] σ' H1) (hl : ∀ i ys σ H, i ≤ xs.length → Pv i ys σ H → ys.length ≤ i ∧ SqL K H a xs)
    (hs : ∀ i x ys σ H, xs[i]? = some x → Pv i ys σ H → te (σ.set j (some x)) H fun v H4 => Pv (i + 1) (ys ++ [v]) (σ.set j (some x)) H4) (hd : ∀ ys σ H, Pv xs.length ys σ H → fin ys H) : LcW (Itl K a) (gName j) tYes te σ' fin H1 :=
  lcw_list hn Pv h0 hl (fun i x ys σ H hx p => by unfold gName tYes; exact iteT (hs i x ys σ H hx p)) hd
theorem lcw_range0 {lo : Int} {n : Nat} (hn : n < sizeLine) (Pv : Nat → List V → St → Hp → Prop) (h0 : Pv 0 [] σ' H1) (hl : ∀ i ys σ H, i ≤ n → Pv i ys σ H → ys.length ≤ i)
    (hs : ∀ i ys σ H, i < n → Pv i ys σ H → te (σ.set j (some (.int (lo + i)))) H fun v H4 => Pv (i + 1) (ys ++ [v]) (σ.set j (some (.int (lo + i)))) H4) (hd : ∀ ys σ H, Pv n ys σ H → fin ys H) : LcW (Itr lo n) (gName j) tYes te σ' fin H1 :=
  lcw_range hn Pv h0 hl (fun i ys σ H hx p => by unfold gName tYes; exact iteT (hs i ys σ H hx p)) hd
theorem lcw_str0 {x : Str} (hn : x.length < sizeLine) (Pv : Nat → List V → St → Hp → Prop) (h0 : Pv 0 [] σ' H1) (hl : ∀ i ys σ H, i ≤ x.length → Pv i ys σ H → ys.length ≤ i)
    (hs : ∀ i c ys σ H, x.cps[i]? = some c → Pv i ys σ H → te (σ.set j (some (.str ⟨#[c]⟩))) H fun v H4 => Pv (i + 1) (ys ++ [v]) (σ.set j (some (.str ⟨#[c]⟩))) H4) (hd : ∀ ys σ H, Pv x.length ys σ H → fin ys H) : LcW (Its x) (gName j) tYes te σ' fin H1 :=
  lcw_str hn Pv h0 hl (fun i c ys σ H hx p => by unfold gName tYes; exact iteT (hs i c ys σ H hx p)) hd
theorem lcw_tup1 {a : Addr} {xs : List V} (hn : xs.length < sizeLine) (Pv : Nat → List V → St → Hp → Prop) (h0 : Pv 0 [] σ' H1) (hl : ∀ i ys σ H, i ≤ xs.length → Pv i ys σ H → ys.length ≤ i ∧ SqT K H a xs)
    (hs : ∀ i x ys σ H, xs[i]? = some x → Pv i ys σ H → tt (σ.set j (some x)) H fun b H3 => if b = true then te (σ.set j (some x)) H3 (fun v H4 => Pv (i + 1) (ys ++ [v]) (σ.set j (some x)) H4) else Pv (i + 1) ys (σ.set j (some x)) H3)
    (hd : ∀ ys σ H, Pv xs.length ys σ H → fin ys H) : LcW (Itt K a) (gName j) tt te σ' fin H1 := lcw_tup hn Pv h0 hl hs hd
end
end L2

set_option Elab.async false
set_option linter.all false
set_option maxRecDepth 100000
set_option maxHeartbeats 4000000
namespace L2
open PySem PySem.Spec PyProof.Rows
section
variable {X : Cx} {pos : Pos}
/-- a, b, c = x, y, z with plain local names -/
noncomputable def tPar3 (i j k : Nat) (ta : TA) : TS := fun D σ H => ta σ H fun vs H1 => ∃ v w z, vs = [v, w, z] ∧ D.nx (((σ.set i (some v)).set j (some w)).set k (some z)) H1
theorem ps_par3 {i j k : Nat} {x y z : Str} {a b c : Expr} {ta : TA} {px py pz pt : Pos} {kt k2 pt2} (hc : X.calm = true) (hN : X.N.Nodup) (hi : X.N[i]? = some x) (hj : X.N[j]? = some y) (hk : X.N[k]? = some z) (hij : i ≠ j) (hik : i ≠ k) (hjk : j ≠ k)
    (hx : X.env.scope.names.lookup x = some .local) (hy : X.env.scope.names.lookup y = some .local) (hz : X.env.scope.names.lookup z = some .local) (ha : PA X [a, b, c] ta)
    (hw : swappedStores [.Tuple [.Name x px, .Name y py, .Name z pz] kt pt] (.Tuple [a, b, c] k2 pt2) X.env = pure (some [x, y, z]))
    (hs : swapsWithSole [.Tuple [.Name x px, .Name y py, .Name z pz] kt pt] (.Tuple [a, b, c] k2 pt2) pos.line X.env = pure false := by rfl) :
    PS X (.Assign [.Tuple [.Name x px, .Name y py, .Name z pz] kt pt] (.Tuple [a, b, c] k2 pt2) pos) (tPar3 i j k ta) := by
  intro pins s σ H D I h
  rw [exec_Assign_arm]
  refine wpAny_bind (wpAny_standAt ?_)
  rw [hs]
  refine wpAny_bind (wpAny_pure ?_)
  rw [if_neg (by decide)]
  refine wpAny_bind (Tuple_ (thn (ha _ pins s σ H _ I h) fun us s1 ⟨vs, H1, I1, r1, q1⟩ => ?_))
  obtain ⟨v, w, t, e1, q1⟩ := q1
  subst e1
  obtain ⟨u1, u2, u3, rfl, rv, rw', rt⟩ : ∃ u1 u2 u3, us = [u1, u2, u3] ∧ RelV v u1 ∧ RelV w u2 ∧ RelV t u3 := by
    cases r1 with
    | cons p q =>
      cases q with
      | cons p' q' =>
        cases q' with
        | cons p'' q'' =>
          cases q''
          exact ⟨_, _, _, rfl, p, p', p''⟩
  refine wpAny_newObj_type ?_ (by show 3 ≤ sizeLine; decide)
  have I2 : Inv X pins σ H1 { s1 with heap := s1.heap.push { cls := .type "tuple", data := .seq [u1, u2, u3].toArray } } := I1.kept (t' := s1.toks) fun b o e => Heap.get?_push_of_some _ e
  rw [hw]
  refine wpAny_bind (wpAny_pure ?_)
  show wpAny (model X.prog X.w) X.A (do rule "assign.swapped-stores"; let items ← unpackItems (.ref s1.heap.objs.size) 3 none; assignInOrder [fun v => bindName X.env z v, fun v => bindName X.env y v, fun v => bindName X.env x v] items.reverse; pure Flow.next) _ _ _
  refine wpAny_bind (wpAny_rule (wpAny_bind (unpackItems_tuple (items := #[u1, u2, u3]) (I.ok.hd hc) (IsTup.new s1.heap _) fun h' hx' => ?_)))
  have I3 := I2.kept (h' := h') (t' := s1.toks) fun b o e => hx' b o (Nat.ne_of_lt (Heap.lt_size e)) e
  show wpAny _ _ (assignInOrder [fun v => bindName X.env z v, fun v => bindName X.env y v, fun v => bindName X.env x v] [u3, u2, u1] >>= fun _ => pure Flow.next) _ _ _
  refine wpAny_bind (assignInOrder_cons (wpAny_bindName (store_ok I3 hN hk (.inl hz) rt (fun s2 I4 => ?_) (.inr hz))))
  refine assignInOrder_cons (wpAny_bindName (store_ok I4 hN hj (.inl hy) rw' (fun s3 I5 => ?_) (.inr hy)))
  refine assignInOrder_cons (wpAny_bindName (store_ok I5 hN hi (.inl hx) rv (fun s4 I6 => assignInOrder_nil (wpAny_pure ?_)) (.inr hx)))
  have e : ((σ.set k (some t)).set j (some w)).set i (some v) = ((σ.set i (some v)).set j (some w)).set k (some t) := by
    rw [List.set_comm _ _ hjk, List.set_comm _ _ hik, List.set_comm _ _ hij]
  rw [e] at I6
  exact ⟨_, H1, I6, q1⟩
end
end L2

set_option Elab.async false
set_option linter.all false
set_option maxRecDepth 100000
set_option maxHeartbeats 4000000
namespace L2
open PySem PySem.Spec PyProof.Rows

/-! ### zip of two lists -/
section
variable {X : Cx} {pins : List (Addr × Obj)} {σ : St} {H : Hp} {s : Shared} {h' : Heap}
/-- several untracked records of ours have turned -/
theorem Inv.turnedS {t' : Nat} {ch : List Addr} (I : Inv X pins σ H s) (k : ∀ b o, b ∉ ch → s.heap.get? b = some o → h'.get? b = some o) (hf : ∀ b ∈ ch, FpOk X pins H b) : Inv X pins σ H { s with heap := h', toks := t' } := by
  have nit : ∀ b u, H b = some u → b ∉ ch := fun b u e z => by rw [(hf b z).1] at e; cases e
  have hL : X.env.locals ∉ ch := fun z => (hf _ z).2.1 rfl
  refine I.step (g' := s.gens) (d' := s.drawn) (ch := ch) (fun b hb => ⟨(hf b hb).2.2.2.1, (hf b hb).2.1, (hf b hb).2.2.2.2.1, (hf b hb).2.2.2.2.2⟩) (fun b o _ _ hc e _ => k b o hc e) (fun b o _ _ hc e _ => ⟨o.slots, k b o hc e⟩) (fun _ _ _ _ n => n)
    (fun b o hc e => ⟨o, k b o hc e⟩) (fun _ _ e => e) (fun _ _ _ e => e) (fun b ps e => ⟨#[], by rw [e]; simp⟩) (fun m hm => ?_) (fun b u e => ?_) I.bare
  · obtain ⟨o, es, ep, ho, r⟩ := hm
    exact ⟨o, es, ep, k _ o hL ho, r⟩
  · refine (I.hok b u e).stay (fun c v hc q => k c v ?_ q) (fun _ q => q) fun _ _ q => q
    rcases hc with z | z
    · rw [z]; exact nit b u e
    · exact nit c _ z
end
/-- the lists at a and b, side by side -/
noncomputable def Itz (K : PySem.W.Frag) (a b : Addr) : It :=
  ⟨fun i H => ∃ xs ys x y, SqL K H a xs ∧ SqL K H b ys ∧ xs[i]? = some x ∧ ys[i]? = some y,
   fun i H v H' => ∃ T x y, v = .ref T ∧ H T = none ∧ H' = upd H T (.tup [x, y]) ∧ (∀ xs, SqL K H a xs → xs[i]? = some x) ∧ ∀ ys, SqL K H b ys → ys[i]? = some y,
   fun i H => ∃ xs ys, SqL K H a xs ∧ SqL K H b ys ∧ (xs.length ≤ i ∨ ys.length ≤ i)⟩
noncomputable def ZipAt (z TI TO i1 i2 l1 l2 : Addr) (i : Nat) (h : Heap) : Prop := IsZip h z TI TO .none ∧ IsPair h TI (.ref i1) (.ref i2) ∧ (∃ a b, IsPair h TO a b) ∧ h.IsListIter i1 l1 i ∧ h.IsListIter i2 l2 i
theorem turn_zip {P : Program} {w : World} {K : PySem.W.Frag} {elts : List Expr} {x1} {pos : Pos} (z TI TO i1 i2 l1 l2 : Addr) (D : ZipApart z TI TO i1 i2 l1 l2) :
    Turn P w K (.Tuple elts x1 pos) (Itz K l1 l2) [z, TI, TO, i1, i2] z (ZipAt z TI TO i1 i2 l1 l2) where
  mem := by simp
  obj := fun i h st b hb => by
    obtain ⟨hz, hTI, ⟨a, c, hTO⟩, ⟨o1, e1, c1, d1⟩, ⟨o2, e2, c2, d2⟩⟩ := st
    simp only [List.mem_cons, List.not_mem_nil, or_false] at hb
    rcases hb with rfl | rfl | rfl | rfl | rfl
    · exact ⟨_, hz, fun v q => by cases q⟩
    · exact ⟨_, hTI, fun v q => by cases q⟩
    · exact ⟨_, hTO, fun v q => by cases q⟩
    · exact ⟨_, e1, fun v q => by rw [d1] at q; cases q⟩
    · exact ⟨_, e2, fun v q => by rw [d2] at q; cases q⟩
  keep := fun i h h' st k => by
    obtain ⟨hz, hTI, ⟨a, c, hTO⟩, h1, h2⟩ := st
    exact ⟨k z (by simp) _ hz, k TI (by simp) _ hTI, ⟨a, c, k TO (by simp) _ hTO⟩, h1.at fun o e => k i1 (by simp) o e, h2.at fun o e => k i2 (by simp) o e⟩
  item := by
    intro X hP hw hK hc i pins s σ H E I hf st hg
    subst hP hw hK
    obtain ⟨xs, ys, x, y, hq1, hq2, hx, hy⟩ := hg
    obtain ⟨hz, hTI, ⟨a, c, hTO⟩, h1, h2⟩ := id st
    obtain ⟨its1, rv1, p1, hz1⟩ := I.list hq1
    obtain ⟨its2, rv2, p2, hz2⟩ := I.list hq2
    obtain ⟨u1, hu1, ru1⟩ := rv1.get hx
    obtain ⟨u2, hu2, ru2⟩ := rv2.get hy
    refine wpAny_pyNext_zip_item D hz hTI hTO h1 h2 p1.isList p2.isList (x := u1) (y := u2) (by simpa using hu1) (by simpa using hu2) fun h' a1 a2 a3 a4 a5 a6 a7 => ?_
    refine ⟨_, rfl, wpAny_letOwnedTupleGo_zip (s := { s with heap := h' }) a1 fun h'' z2 sb => ?_⟩
    have sb' := sb.extBut
    generalize hT : s.heap.objs.size = T at *
    have lt : ∀ {b : Addr} {o : Obj}, s.heap.get? b = some o → b ≠ T := fun {b o} e => by rw [← hT]; exact Nat.ne_of_lt (Heap.lt_size e)
    have fresh : H T = none := by rw [← hT]; exact I.hok.fresh (Nat.le_refl _)
    have hne : ∀ b ∈ [z, TI, TO, i1, i2], b ≠ T := fun b hb => by
      obtain ⟨o1, e1, _⟩ := h1
      obtain ⟨o2, e2, _⟩ := h2
      simp only [List.mem_cons, List.not_mem_nil, or_false] at hb
      rcases hb with rfl | rfl | rfl | rfl | rfl
      · exact lt hz
      · exact lt hTI
      · exact lt hTO
      · exact lt e1
      · exact lt e2
    have I0 : Inv X pins σ (upd H T (.tup [x, y])) { s with heap := s.heap.push { cls := .type "tuple", data := .seq #[u1, u2] }, toks := s.toks } := by
      subst hT
      exact I.laid (t' := s.toks) (fun b o q => Heap.get?_push_of_some _ q) (Nat.le_refl _) ⟨by show 2 ≤ sizeLine; decide, [u1, u2], .cons ru1 (.cons ru2 .nil), _, Heap.get?_push_size _ rfl, rfl, 0, rfl⟩
    have up : ∀ b o, b ∉ [z, TI, TO, i1, i2] → (s.heap.push { cls := .type "tuple", data := .seq #[u1, u2] }).get? b = some o → h''.get? b = some o := fun b o hb e => by
      simp only [List.mem_cons, List.not_mem_nil, or_false, not_or] at hb
      rcases Heap.get?_push_cases e with ⟨e1, e2⟩ | e1
      · subst e2
        rw [e1, hT]
        exact sb' _ _ (hne z (by simp)).symm a5
      · exact sb' _ _ hb.1 (a7 b o hb.1 hb.2.2.1 hb.2.2.2.1 hb.2.2.2.2 e1)
    have I2 : Inv X pins σ (upd H T (.tup [x, y])) { s with heap := h'', toks := s.toks } := Inv.turnedS (s := { s with heap := s.heap.push { cls := .type "tuple", data := .seq #[u1, u2] }, toks := s.toks }) (t' := s.toks) (ch := [z, TI, TO, i1, i2]) I0 up fun b hb => by
      obtain ⟨f0, f1⟩ := hf b hb
      exact ⟨by rw [upd_ne (hne b hb)]; exact f0, f1⟩
    exact ⟨.ref T, upd H T (.tup [x, y]), I2, rfl, ⟨T, x, y, rfl, fresh, rfl, fun ws hw => by rw [I.list_inj hw hq1]; exact hx, fun ws hw => by rw [I.list_inj hw hq2]; exact hy⟩,
      ⟨z2, sb' _ _ D.TIz (a7 _ _ D.TIz D.TITO D.TIi1 D.TIi2 hTI), ⟨_, _, sb' _ _ D.TOz a2⟩, a3.at fun o e => sb' _ _ D.i1z e, a4.at fun o e => sb' _ _ D.i2z e⟩, fun b hb => by rw [upd_ne (hne b hb)]; exact (hf b hb).1⟩
  done := by
    intro X hP hw hK hc i pins s σ H E I hf st hg
    subst hP hw hK
    obtain ⟨xs, ys, hq1, hq2, hx⟩ := hg
    obtain ⟨hz, hTI, ⟨a, c, hTO⟩, h1, h2⟩ := id st
    obtain ⟨its1, rv1, p1, hz1⟩ := I.list hq1
    obtain ⟨its2, rv2, p2, hz2⟩ := I.list hq2
    have hl1 := rv1.length
    have hl2 := rv2.length
    refine wpAny_pyNext_zip_end (I.ok.hd hc) D hz hTI hTO h1 h2 p1.isList p2.isList ?_ fun h' hk => ⟨rfl, I.turnedS (t' := s.toks) (ch := [z, TI, TO, i1, i2]) (fun b o hb e => ?_) hf⟩
    · rcases hx with q | q
      · exact .inl (by simp; omega)
      · exact .inr (by simp; omega)
    · simp only [List.mem_cons, List.not_mem_nil, or_false, not_or] at hb
      exact hk b o hb.1 hb.2.2.1 hb.2.2.2.1 hb.2.2.2.2 e
  self := fun _ _ _ _ _ st h => wpAny_pyIter_zip st.1 h
theorem boot_zip : bootBuiltins "zip" = some (.type "zip") := by decide +kernel
section
variable {X : Cx}
noncomputable def iZip (K : PySem.W.Frag) (ta : TA) : TI := fun σ H R => ta σ H fun vs H1 => ∃ a b xs ys, vs = [.ref a, .ref b] ∧ SqL K H1 a xs ∧ SqL K H1 b ys ∧ R (Itz K a b) H1
theorem pi_zip {a b : Expr} {elts : List Expr} {x1} {tpos : Pos} {ta : TA} {p pos : Pos} (hg : Gl X "zip") (hm : X.mg "zip" = none) (ha : PA X [a, b] ta) (hs : starEach [a, b] X.env = [(false, eval a X.env), (false, eval b X.env)] := by rfl) (hs2 : starEach [b] X.env = [(false, eval b X.env)] := by rfl) :
    PI X (.Tuple elts x1 tpos) (.Call (.Name "zip" p) [a, b] [] pos) (iZip X.K ta) := by
  intro pins s σ H R I h
  refine Call_ (ld_blt I hg hm boot_zip (PyProof.Rows.callWith_type1 (thn (ha pos pins s σ H _ I h) fun us s1 ⟨vs, H1, I1, r1, q1⟩ => ?_) (by rw [hs, hs2]) (by rw [hs2]; rfl)))
  obtain ⟨a', b', xs, ys, rfl, hq1, hq2, q⟩ := q1
  obtain ⟨u1, u2, rfl, ra, rb⟩ := vals2 r1
  cases ra
  cases rb
  obtain ⟨its1, rv1, p1, hz1⟩ := I1.list hq1
  obtain ⟨its2, rv2, p2, hz2⟩ := I1.list hq2
  have l1 : a' < s1.heap.objs.size := by obtain ⟨o, n, e, _⟩ := p1; exact Heap.lt_size e
  have l2 : b' < s1.heap.objs.size := by obtain ⟨o, n, e, _⟩ := p2; exact Heap.lt_size e
  refine call_zip_2 p1.isList p2.isList fun h' hz hTI hTO hi1 hi2 hsz hk => ?_
  refine wpAny_pyIter_zip hz ?_
  refine ⟨_, [s1.heap.objs.size + 4, s1.heap.objs.size + 2, s1.heap.objs.size + 3, s1.heap.objs.size, s1.heap.objs.size + 1], _, _, H1, rfl, I1.kept (t' := s1.toks) hk, turn_zip _ _ _ _ _ _ _ (zipApart_new l1 l2), ⟨hz, hTI, ⟨_, _, hTO⟩, hi1, hi2⟩, fun b hb => ?_, q⟩
  have hle : s1.heap.objs.size ≤ b := by
    simp only [List.mem_cons, List.not_mem_nil, or_false] at hb
    rcases hb with rfl | rfl | rfl | rfl | rfl
    · exact Nat.le_add_right _ _
    · exact Nat.le_add_right _ _
    · exact Nat.le_add_right _ _
    · exact Nat.le_refl _
    · exact Nat.le_add_right _ _
  exact I1.fpOk hle (I1.hok.fresh hle)
end
end L2

set_option Elab.async false
set_option linter.all false
set_option maxRecDepth 100000
set_option maxHeartbeats 4000000
namespace L2
open PySem PySem.Spec PyProof.Rows
theorem rev_pick (l : List Value) : ((List.range l.length).filterMap fun (k : Nat) => l.toArray[(((l.length : Int) - 1) + (k : Int) * -1).toNat]?) = l.reverse := by
  have e : (fun (k : Nat) => l.toArray[(((l.length : Int) - 1) + (k : Int) * -1).toNat]?) = (fun i => l.toArray[i]?) ∘ (fun k => l.length - 1 - k) := by
    funext k
    have : (((l.length : Int) - 1) + (k : Int) * -1).toNat = l.length - 1 - k := by omega
    rw [this]
    rfl
  have q := PySem.W.krv_all l.toArray
  rw [List.size_toArray] at q
  rw [e, ← List.filterMap_map, PySem.W.krv_range, List.filterMap_reverse, q]
section
variable {prog : Program} {w : World} {A : Around} {E : Value → Shared → Prop} {s : Shared}
theorem applied_rev {sl : Addr} {vk : Value} {n : Nat} {Q : Int × Int × Nat → Shared → Prop} (hs : s.heap.IsSliceOf sl .none .none vk) (pk : IsPart vk (some (-1))) (h : Q ((n : Int) - 1, -1, n) s) :
    wpAny (model prog w) A (Builtin.Slice.sliceApplied (.ref sl) (pure (n : Int))) Q E s := by
  obtain ⟨os, hos, hcs, hds⟩ := id hs
  unfold Builtin.Slice.sliceApplied Builtin.Slice.sliceFields
  refine wpAny_bind (wpAny_bind (wpAny_field hos hds (x := .none) rfl (wpAny_bind (wpAny_field hos hds (x := .none) rfl (wpAny_bind (wpAny_field hos hds (x := vk) rfl (wpAny_pure ?_)))))))
  refine wpAny_bind (HT.slicePart_ pk ?_)
  show wpAny _ _ (if ((-1 : Int) == 0) = true then _ else _) _ _ s
  rw [if_neg (by decide)]
  refine wpAny_bind (slicePart_none (wpAny_bind (slicePart_none (wpAny_bind (wpAny_pure ?_)))))
  have e1 : Builtin.Slice.sliceAdjust none none (-1) (n : Int) = ((n : Int) - 1, -1) := by
    unfold Builtin.Slice.sliceAdjust
    simp
  have e2 : Builtin.Slice.slicePlaces ((n : Int) - 1) (-1) (-1) = n := by
    unfold Builtin.Slice.slicePlaces
    rw [if_neg (by decide)]
    split
    · simp only [Int.neg_neg, Int.ediv_one]; omega
    · omega
  show wpAny _ _ (match Builtin.Slice.sliceAdjust none none (-1) (n : Int) with | (lo, hi) => pure (lo, (-1 : Int), Builtin.Slice.slicePlaces lo hi (-1))) _ _ s
  rw [e1]
  show wpAny _ _ (pure ((n : Int) - 1, (-1 : Int), Builtin.Slice.slicePlaces ((n : Int) - 1) (-1) (-1))) _ _ s
  rw [e2]
  exact wpAny_pure h
theorem tup_rev {t sl : Addr} {its : List Value} {vk : Value} {Q : Value → Shared → Prop} (ht : IsTup s.heap t its.toArray) (hs : s.heap.IsSliceOf sl .none .none vk) (pk : IsPart vk (some (-1))) (hz : its.length ≤ sizeLine)
    (h : Q (.ref s.heap.objs.size) { s with heap := s.heap.push { cls := .type "tuple", data := .seq its.reverse.toArray } }) : wpAny (model prog w) A (getItem (.ref t) (.ref sl)) Q E s := by
  obtain ⟨os, hos, hcs, hds⟩ := id hs
  have hTs : s.TypeIs (.ref sl) "slice" := ⟨os, hos, hcs⟩
  have hzz : sizeOk (.seq its.reverse.toArray) := by
    show its.reverse.toArray.size ≤ sizeLine
    rw [List.size_toArray, List.length_reverse]; exact hz
  unfold getItem
  try with_reducible refine wpAny_holding ?_
  first | refine wpAny_bind (wpAny_pure ?_) | skip
  refine wpAny_bind (wpAny_sequenceKey ht.typeIs (by decide) (wpAny_bind (wpAny_callSpecial?_slot (name := Str.ofString "__getitem__") ht.typeIs PyProof.Rows.slot_tuple_getitem
    (wpAny_call_entry PyProof.Rows.slot_tuple_getitem ht.typeIs entry_tuple_getitem ?_ (args_tuple_getitem _ _)))))
  show wpAny _ _ (Builtin.Tuple.tupleItemsOf (.ref t) >>= _) _ _ s
  refine wpAny_bind (tupleItemsOf_ ht (wpAny_bind (wpAny_typeOf hTs ?_)))
  rw [if_pos (by decide)]
  have hsz : its.toArray.size = its.length := by simp
  rw [hsz]
  refine wpAny_bind (applied_rev hs pk ?_)
  show wpAny _ _ (if ((((its.length : Nat) : Int) - 1 == 0) && ((-1 : Int) == 1) && (its.length == its.length)) = true then _ else _) _ _ s
  rw [if_neg (by simp), rev_pick]
  first
    | exact wpAny_bind (m := Builtin.Tuple.tupleExact _) (wpAny_newObj_type (wpAny_pure ⟨_, rfl, wpAny_pure h⟩) hzz)
    | exact wpAny_bind (m := Builtin.Tuple.tupleExact _) (wpAny_newObj_type (wpAny_bind (wpAny_pure (wpAny_pure ⟨_, rfl, wpAny_pure h⟩))) hzz)
    | exact wpAny_bind (wpAny_bind (m := Builtin.Tuple.tupleExact _) (wpAny_newObj_type (wpAny_pure (wpAny_pure ⟨_, rfl, wpAny_pure h⟩)) hzz))
    | exact wpAny_bind (wpAny_bind (m := Builtin.Tuple.tupleExact _) (wpAny_newObj_type (wpAny_pure ⟨_, rfl, wpAny_pure h⟩) hzz))
end
section
variable {X : Cx}
/-- t[::-1] of a tuple -/
noncomputable def tRevT (K : PySem.W.Frag) (te : TE) (tk : TO) : TE := fun σ H Q => te σ H fun x H1 => tk σ H1 fun o H2 => o = some (-1) ∧ ∃ a xs, x = .ref a ∧ SqT K H2 a xs ∧ ∀ p, H2 p = none → Q (.ref p) (upd H2 p (.tup xs.reverse))
theorem pe_revT {e st : Expr} {te : TE} {tk : TO} {p2 pos : Pos} (ops : Value → Value → List Value) (he : PE X e te) (hk : PO X (some st) tk) (hs : ∀ o i, subscripted (.Slice none none (some st) p2) false o i = operate (ops o i) (getItem o i)) : PE X (.Subscript e (.Slice none none (some st) p2) pos) (tRevT X.K te tk) := by
  intro pins s σ H Q I h
  refine Subscript_ (thn (he pins s σ H _ I h) fun v s1 ⟨x, H1, I1, r1, q1⟩ => ?_)
  refine wpAny_Slice ?_
  rw [evalPart_none]
  refine wpAny_pure (wpAny_pure (thn (hk pins s1 σ H1 _ I1 q1) fun vk s2 ⟨o, H2, I2, pk, q2⟩ => ?_))
  obtain ⟨rfl, a, xs, rfl, hx, q⟩ := q2
  cases r1
  have I4 : Inv X pins σ H2 { s2 with heap := s2.heap.push { cls := .type "slice", data := .fields #[.none, .none, vk] } } := I2.kept (t' := s2.toks) fun b ob q => Heap.get?_push_of_some _ q
  obtain ⟨its, r, ht, hz⟩ := I4.tuple hx
  have hlen := r.length
  show wpAny (model X.prog X.w) X.A (subscriptTail e (.Slice none none (some st) p2) (.ref a) (.ref s2.heap.objs.size)) (EP X pins σ Q) X.xe { s2 with heap := s2.heap.push { cls := .type "slice", data := .fields #[.none, .none, vk] } }
  refine tail_any (ops := ops _ _) ht.typeIs slot_tuple_getitem.lookup ?_ (hs _ _)
  refine tup_rev ht (Heap.IsSliceOf.new ..) pk (by omega) ?_
  refine ⟨.ref _, _, I4.laid (t' := s2.toks) (o := .tup xs.reverse) (fun b ob q => Heap.get?_push_of_some _ q) (Nat.le_refl _) ⟨by rw [List.length_reverse]; exact hz, its.reverse, r.reverse, _, Heap.get?_push_size _ rfl, rfl, 0, rfl⟩, rfl, q _ (I4.hok.fresh (Nat.le_refl _))⟩
/-- a comprehension over two lists side by side -/
theorem lcw_zip {K : PySem.W.Frag} {g : TG} {tt : TT} {te : TE} {σ' : St} {fin : List V → Hp → Prop} {H1 : Hp} {a b : Addr} {xs ys : List V} (hn : min xs.length ys.length < sizeLine) (Pv : Nat → List V → St → Hp → Prop) (h0 : Pv 0 [] σ' H1)
    (hl : ∀ i zs σ H, i ≤ min xs.length ys.length → Pv i zs σ H → zs.length ≤ i ∧ SqL K H a xs ∧ SqL K H b ys)
    (hs : ∀ i x y zs σ H T, xs[i]? = some x → ys[i]? = some y → Pv i zs σ H → H T = none → g (.ref T) σ (upd H T (.tup [x, y])) fun σ2 H2 => tt σ2 H2 fun b H3 => if b = true then te σ2 H3 (fun v H4 => Pv (i + 1) (zs ++ [v]) σ2 H4) else Pv (i + 1) zs σ2 H3)
    (hd : ∀ zs σ H, Pv (min xs.length ys.length) zs σ H → fin zs H) : LcW (Itz K a b) g tt te σ' fin H1 := by
  refine ⟨fun i m zs σ H => m = min xs.length ys.length - i ∧ i ≤ min xs.length ys.length ∧ Pv i zs σ H, ⟨min xs.length ys.length, by simp, Nat.zero_le _, h0⟩, ?_⟩
  rintro i m zs σ H ⟨rfl, hi, p⟩
  obtain ⟨q0, q1, q2⟩ := hl i zs σ H hi p
  by_cases hlt : i < min xs.length ys.length
  · have h1 : i < xs.length := by omega
    have h2 : i < ys.length := by omega
    refine .inr ⟨⟨xs, ys, xs[i], ys[i], q1, q2, by simp [h1], by simp [h2]⟩, by omega, fun zs' σ2 H2 => Pv (i + 1) zs' σ2 H2, fun zs' σ2 H2 q => ⟨min xs.length ys.length - (i + 1), by omega, rfl, hlt, q⟩, fun v H' y => ?_⟩
    obtain ⟨T, x, y, rfl, hT, rfl, e1, e2⟩ := y
    exact hs i x y zs σ H T (e1 xs q1) (e2 ys q2) p hT
  · have e : i = min xs.length ys.length := by omega
    subst e
    refine .inl ⟨⟨xs, ys, q1, q2, ?_⟩, by omega, hd zs σ H p⟩
    rcases Nat.le_total xs.length ys.length with z | z
    · exact .inl (by omega)
    · exact .inr (by omega)
end
end L2

set_option Elab.async false
set_option linter.all false
set_option maxRecDepth 100000
set_option maxHeartbeats 4000000
namespace L2
open PySem PySem.Spec PyProof.Rows

/-! ### lists of pairs as tables -/
section
variable {κ : Type} [DecidableEq κ]
noncomputable def valV (kvs : List (κ × V)) (k : κ) : Option V := (kvs.find? fun kv => decide (kv.1 = k)).map (·.2)
/-- in its place, or at the end -/
noncomputable def putK (kvs : List (κ × V)) (k : κ) (v : V) : List (κ × V) :=
  if (kvs.any fun kv => decide (kv.1 = k)) = true then kvs.map (fun kv => if kv.1 = k then (kv.1, v) else kv) else kvs ++ [(k, v)]
noncomputable def dropK (kvs : List (κ × V)) (k : κ) : List (κ × V) := kvs.filter fun kv => decide (kv.1 ≠ k)

theorem valV_pos {p : κ × V} {r : List (κ × V)} {k : κ} (e : p.1 = k) : valV (p :: r) k = some p.2 := by simp [valV, List.find?_cons, e]
theorem valV_neg {p : κ × V} {r : List (κ × V)} {k : κ} (e : ¬ p.1 = k) : valV (p :: r) k = valV r k := by simp [valV, List.find?_cons, e]
theorem valV_any (k : κ) : ∀ kvs : List (κ × V), (kvs.any fun kv => decide (kv.1 = k)) = (valV kvs k).isSome
  | [] => rfl
  | p :: r => by
    rw [List.any_cons]
    by_cases e : p.1 = k
    · simp only [valV_pos e, decide_eq_true e, Bool.true_or, Option.isSome_some]
    · rw [valV_neg e, decide_eq_false e, Bool.false_or]; exact valV_any k r
theorem valV_map (k j : κ) (y : V) : ∀ kvs : List (κ × V), valV (kvs.map fun kv => if kv.1 = k then (kv.1, y) else kv) j = (valV kvs j).map fun x => if j = k then y else x
  | [] => rfl
  | p :: r => by
    have ih := valV_map k j y r
    rw [List.map_cons]
    by_cases h : p.1 = k
    · rw [if_pos h]
      by_cases e : p.1 = j
      · rw [valV_pos (p := (p.1, y)) e, valV_pos e, Option.map_some, if_pos (e.symm.trans h)]
      · rw [valV_neg (p := (p.1, y)) e, valV_neg e, ih]
    · rw [if_neg h]
      by_cases e : p.1 = j
      · rw [valV_pos (p := p) e, valV_pos e, Option.map_some, if_neg (fun z => h (e.trans z))]
      · rw [valV_neg (p := p) e, valV_neg e, ih]
theorem valV_snoc (k j : κ) (y : V) : ∀ kvs : List (κ × V), valV kvs k = none → valV (kvs ++ [(k, y)]) j = if j = k then some y else valV kvs j
  | [], _ => by
    by_cases e : k = j
    · rw [if_pos e.symm]; exact valV_pos (p := (k, y)) e
    · rw [if_neg (fun z => e z.symm)]; exact valV_neg (p := (k, y)) e
  | p :: r, hn => by
    rw [List.cons_append]
    have hk : ¬ p.1 = k := fun z => by rw [valV_pos z] at hn; cases hn
    rw [valV_neg hk] at hn
    have ih := valV_snoc k j y r hn
    by_cases e : p.1 = j
    · rw [valV_pos e, valV_pos e, if_neg (fun z => hk (e.trans z))]
    · rw [valV_neg e, valV_neg e, ih]
theorem valV_put (kvs : List (κ × V)) (k j : κ) (y : V) : valV (putK kvs k y) j = if j = k then some y else valV kvs j := by
  unfold putK
  by_cases a : (kvs.any fun kv => decide (kv.1 = k)) = true
  · rw [if_pos a, valV_map]
    rw [valV_any] at a
    by_cases e : j = k
    · obtain ⟨x, hx⟩ := Option.isSome_iff_exists.mp a
      rw [if_pos e, e, hx, Option.map_some, if_pos rfl]
    · rw [if_neg e]
      cases valV kvs j with
      | none => rfl
      | some x => rw [Option.map_some, if_neg e]
  · rw [if_neg a]
    refine valV_snoc k j y kvs ?_
    rw [valV_any] at a
    cases q : valV kvs k with
    | none => rfl
    | some x => rw [q] at a; exact (a rfl).elim
theorem length_putK (kvs : List (κ × V)) (k : κ) (v : V) : (putK kvs k v).length ≤ kvs.length + 1 := by
  unfold putK
  split
  · rw [List.length_map]; omega
  · rw [List.length_append, List.length_cons, List.length_nil]; omega
theorem putK_new {kvs : List (κ × V)} {k : κ} (v : V) (h : valV kvs k = none) : putK kvs k v = kvs ++ [(k, v)] := by
  unfold putK
  rw [valV_any, h]
  exact if_neg (by decide)

theorem RelO.isSome_eq {o : Option V} {u : Option Value} (r : RelO o u) : o.isSome = u.isSome := by
  cases o with
  | none => cases u with
    | none => rfl
    | some _ => exact (show False from r).elim
  | some _ => cases u with
    | none => exact (show False from r).elim
    | some _ => rfl
/-- raw tables of the same keys -/
theorem KV.val {kvs : List (κ × V)} {vs : List (κ × Value)} (r : KV kvs vs) (k : κ) : RelO (valV kvs k) (valueAt vs k) := by
  unfold KV at r
  induction r with
  | nil => exact True.intro
  | @cons p q ps qs h t ih =>
    obtain ⟨h1, h2⟩ := h
    by_cases e : p.1 = k
    · have e' : q.1 = k := h1.symm.trans e
      have b : valueAt (q :: qs) k = some q.2 := by simp [valueAt, List.find?_cons, e']
      rw [valV_pos e, b]; exact h2
    · have e' : ¬ q.1 = k := fun z => e (h1.trans z)
      have b : valueAt (q :: qs) k = valueAt qs k := by simp [valueAt, List.find?_cons, e']
      rw [valV_neg e, b]; exact ih
theorem KV.any {kvs : List (κ × V)} {vs : List (κ × Value)} (r : KV kvs vs) (k : κ) : (kvs.any fun kv => decide (kv.1 = k)) = vs.any fun kv => decide (kv.1 = k) := by
  unfold KV at r
  induction r with
  | nil => rfl
  | cons h t ih => rw [List.any_cons, List.any_cons, ih, h.1]
theorem KV.repl {kvs : List (κ × V)} {vs : List (κ × Value)} (r : KV kvs vs) (k : κ) {y : V} {u : Value} (ry : RelV y u) :
    KV (kvs.map fun kv => if kv.1 = k then (kv.1, y) else kv) (vs.map fun kv => if kv.1 = k then (kv.1, u) else kv) := by
  unfold KV at r ⊢
  induction r with
  | nil => exact .nil
  | @cons p q ps qs h t ih =>
    rw [List.map_cons, List.map_cons]
    refine .cons ?_ ih
    obtain ⟨h1, h2⟩ := h
    by_cases e : p.1 = k
    · rw [if_pos e, if_pos (h1.symm.trans e)]; exact ⟨h1, ry⟩
    · rw [if_neg e, if_neg (fun z => e (h1.trans z))]; exact ⟨h1, h2⟩
theorem KV.put {kvs : List (κ × V)} {vs : List (κ × Value)} (r : KV kvs vs) (k : κ) {y : V} {u : Value} (ry : RelV y u) : KV (putK kvs k y) (stored vs k u) := by
  unfold putK stored
  rw [r.any k]
  by_cases e : (vs.any fun kv => decide (kv.1 = k)) = true
  · rw [if_pos e, if_pos e]; exact r.repl k ry
  · rw [if_neg e, if_neg e]; exact Paired.snoc r ⟨rfl, ry⟩
theorem KV.length {kvs : List (κ × V)} {vs : List (κ × Value)} (r : KV kvs vs) : kvs.length = vs.length := Paired.length r
end


/-! ### a tracked dict, its keys ints and texts or tuples of these -/
theorem kV_is {P : Program} {w : World} {k : Key} {u : Value} (r : RelV (kV k) u) : (mixKind P w).is k u = true := by
  cases k with
  | inl i => obtain ⟨t, e⟩ := (show ∃ t, u = Value.int i t from r); subst e; exact mixKind_int P w i t
  | inr x => obtain ⟨t, e⟩ := (show ∃ t, u = Value.str x t from r); subst e; exact mixKind_str P w x t
theorem items_are {P : Program} {w : World} : ∀ {ks : List Key} {us : List Value}, Vals (ks.map kV) us → ItemsAre (mixKind P w) ks us
  | [], _, r => by rw [List.map_nil] at r; cases r; exact .nil
  | k :: ks, _, r => by
    rw [List.map_cons] at r
    cases r with
    | cons h t => exact .cons (kV_is h) (items_are t)

/-- raw entries of a dict with tuple keys -/
noncomputable abbrev KT (H : Hp) : List (List Key × V) → List (List Key × Addr × Value) → Prop := Paired fun p q => p.1 = q.1 ∧ H q.2.1 = some (.tup (p.1.map kV)) ∧ RelV p.2 q.2.2
theorem KT.val {H : Hp} {kvs : List (List Key × V)} {xs : List (List Key × Addr × Value)} (r : KT H kvs xs) (k : List Key) : RelO (valV kvs k) ((atKey xs k).map (·.2)) := by
  induction r with
  | nil => exact True.intro
  | @cons p q ps qs h t ih =>
    obtain ⟨h1, _, h2⟩ := h
    by_cases e : p.1 = k
    · have e' : q.1 = k := h1.symm.trans e
      have b : atKey (q :: qs) k = some q.2 := by simp [atKey, List.find?_cons, e']
      rw [valV_pos e, b]; exact h2
    · have e' : ¬ q.1 = k := fun z => e (h1.trans z)
      have b : atKey (q :: qs) k = atKey qs k := by simp [atKey, List.find?_cons, e']
      rw [valV_neg e, b]; exact ih
theorem KT.repl {H : Hp} {kvs : List (List Key × V)} {xs : List (List Key × Addr × Value)} (r : KT H kvs xs) (k : List Key) {y : V} {u : Value} (ry : RelV y u) :
    KT H (kvs.map fun kv => if kv.1 = k then (kv.1, y) else kv) (xs.map (putAt k u)) := by
  induction r with
  | nil => exact .nil
  | @cons p q ps qs h t ih =>
    rw [List.map_cons, List.map_cons]
    refine .cons ?_ ih
    obtain ⟨h1, h2, h3⟩ := h
    unfold putAt
    by_cases e : p.1 = k
    · rw [if_pos e, if_pos (h1.symm.trans e)]; exact ⟨h1, h2, ry⟩
    · rw [if_neg e, if_neg (fun z => e (h1.trans z))]; exact ⟨h1, h2, h3⟩
theorem KT.put {H : Hp} {kvs : List (List Key × V)} {xs : List (List Key × Addr × Value)} (r : KT H kvs xs) (k : List Key) {b : Addr} {y : V} {u : Value} (hb : H b = some (.tup (k.map kV))) (ry : RelV y u) :
    KT H (putK kvs k y) (storedH xs k b u) := by
  have e : (kvs.any fun kv => decide (kv.1 = k)) = (atKey xs k).isSome := by
    rw [valV_any, (r.val k).isSome_eq, Option.isSome_map]
  unfold putK storedH
  rw [e]
  by_cases q : (atKey xs k).isSome = true
  · rw [if_pos q, if_pos q]; exact r.repl k ry
  · rw [if_neg q, if_neg q]; exact Paired.snoc r ⟨rfl, hb, ry⟩
theorem KT.keeps {H H' : Hp} {kvs : List (List Key × V)} {xs : List (List Key × Addr × Value)} (r : KT H kvs xs) (ht : ∀ b ys, H b = some (.tup ys) → H' b = some (.tup ys)) : KT H' kvs xs :=
  Paired.mapP r fun _ _ z => ⟨z.1, ht _ _ z.2.1, z.2.2⟩

section
variable {P : Program} {w : World} {H : Hp} {h : Heap} {a : Addr}
theorem rd_of {u : HO} (ok : HOk P w H h) (e : Rd H a u) : ObjOk P w H h a u := e.ok ok
theorem dk_rd {kvs : List (Key × V)} (ok : HOk P w H h) (e : Rd H a (.dK kvs)) : kvs.length ≤ sizeLine ∧ (a == sysModules) = false ∧ ∃ vs, KV kvs vs ∧ h.DictOf (mixKind P w) a vs :=
  show ObjOk P w H h a (.dK kvs) from rd_of ok e
theorem dk_of {kvs : List (Key × V)} (ok : HOk P w H h) (e : H a = some (.dK kvs)) : kvs.length ≤ sizeLine ∧ (a == sysModules) = false ∧ ∃ vs, KV kvs vs ∧ h.DictOf (mixKind P w) a vs := dk_rd ok (.inl e)
/-- a tracked tuple of ints and texts is a key -/
theorem key_of {ks : List Key} (ok : HOk P w H h) (e : H a = some (.tup (ks.map kV))) : (tupleKind (mixKind P w)).is h ks a := by
  obtain ⟨_, its, r, o, h1, h2, n, h3⟩ := (show ObjOk P w H h a (.tup (ks.map kV)) from ok a _ e)
  exact ⟨o, its.toArray, n, h1, h2, h3, by simpa using items_are r⟩
theorem dt_rd {kvs : List (List Key × V)} (ok : HOk P w H h) (e : Rd H a (.dT kvs)) : kvs.length ≤ sizeLine ∧ (a == sysModules) = false ∧
    ∃ xs, KT H kvs xs ∧ h.DictOfH (tupleKind (mixKind P w)) a xs := by
  obtain ⟨z, y, xs, r, o, es, ep, h1, h2, h3, h4, h5⟩ := (show ObjOk P w H h a (.dT kvs) from rd_of ok e)
  refine ⟨z, y, xs, r, o, es, ep, h1, h2, h3, h4, fun x hx => ?_, h5⟩
  have all : ∀ {l : List (List Key × V)} {m : List (List Key × Addr × Value)}, KT H l m → ∀ x ∈ m, (tupleKind (mixKind P w)).is h x.1 x.2.1 := by
    intro l m q
    induction q with
    | nil => intro x hx; exact nomatch hx
    | @cons p q ps qs hq t ih =>
      intro x hx
      rcases List.mem_cons.mp hx with e | hx
      · subst e
        exact key_of ok (by rw [← hq.1]; exact hq.2.1)
      · exact ih x hx
  exact all r x hx
theorem dt_of {kvs : List (List Key × V)} (ok : HOk P w H h) (e : H a = some (.dT kvs)) : kvs.length ≤ sizeLine ∧ (a == sysModules) = false ∧
    ∃ xs, KT H kvs xs ∧ h.DictOfH (tupleKind (mixKind P w)) a xs := dt_rd ok (.inl e)
end

/-- what the dict at a holds at the key y -/
noncomputable def DGet (H : Hp) (a : Addr) (y : V) (r : Option V) : Prop :=
  (∃ kvs k, Rd H a (.dK kvs) ∧ y = kV k ∧ r = valV kvs k) ∨ ∃ kvs k b, Rd H a (.dT kvs) ∧ y = .ref b ∧ H b = some (.tup (k.map kV)) ∧ r = valV kvs k
/-- the heap behind a[y] = v -/
noncomputable def DPut (H : Hp) (a : Addr) (y v : V) (H' : Hp) : Prop :=
  (∃ kvs k, H a = some (.dK kvs) ∧ y = kV k ∧ kvs.length < sizeLine ∧ H' = upd H a (.dK (putK kvs k v))) ∨
  ∃ kvs k b, H a = some (.dT kvs) ∧ y = .ref b ∧ H b = some (.tup (k.map kV)) ∧ kvs.length < sizeLine ∧ H' = upd H a (.dT (putK kvs k v))
theorem DGet.t {H : Hp} {a b : Addr} {kvs : List (List Key × V)} {k : List Key} (e : H a = some (.dT kvs)) (eb : H b = some (.tup (k.map kV))) : DGet H a (.ref b) (valV kvs k) := .inr ⟨kvs, k, b, .inl e, rfl, eb, rfl⟩
theorem DPut.t {H : Hp} {a b : Addr} {kvs : List (List Key × V)} {k : List Key} {v : V} (e : H a = some (.dT kvs)) (eb : H b = some (.tup (k.map kV))) (hl : kvs.length < sizeLine) :
    DPut H a (.ref b) v (upd H a (.dT (putK kvs k v))) := .inr ⟨kvs, k, b, e, rfl, eb, hl, rfl⟩


section
variable {X : Cx} {pins : List (Addr × Obj)} {σ : St} {H : Hp} {s : Shared} {a : Addr} {y v : V} {u r : Value} {o : Option V} {A : Around} {E : Value → Shared → Prop}

theorem Inv.big (I : Inv X pins σ H s) : sysModules < s.heap.objs.size := by
  have h : mainGlobals < s.heap.objs.size := (I.mod.glob.keeps I.bk).lt
  exact Nat.lt_trans (by decide) h

/-- d[y], there -/
theorem d_getItem {Q : Value → Shared → Prop} (hu : A.units + 1 < cLine) (I : Inv X pins σ H s) (g : DGet H a y (some v)) (ry : RelV y u) (h : ∀ w' s', Inv X pins σ H s' → RelV v w' → Q w' s') :
    wpAny (model X.prog X.w) A (getItem (.ref a) u) Q E s := by
  rcases g with ⟨kvs, k, e, ey, l⟩ | ⟨kvs, k, b, e, ey, eb, l⟩
  · subst ey
    obtain ⟨z, hd, vs, rel, dd⟩ := dk_rd I.hok e
    obtain ⟨w', hw, rw'⟩ := RelO.some_of (v := v) (o := valueAt vs k) (by rw [l]; exact rel.val k)
    exact wpAny_getItem_of (kV_is ry) dd.mapOf hw (h w' _ (I.tok _) rw')
  · subst ey
    cases (show u = Value.ref b from ry)
    obtain ⟨z, hd, xs, rel, dd⟩ := dt_rd I.hok e
    obtain ⟨w', hw, rw'⟩ := RelO.some_of (v := v) (o := (atKey xs k).map (·.2)) (by rw [l]; exact rel.val k)
    obtain ⟨p, hp, hp2⟩ := Option.map_eq_some_iff.mp hw
    refine wpAny_getItem_heap (tupleKind_room_in1 hu) (key_of I.hok eb) dd hp ?_
    rw [hp2]
    exact h w' _ (I.tok _) rw'
/-- a dict's object is replaced -/
theorem d_write {h' : Heap} {t' : Nat} {ob : HO} (I : Inv X pins σ H s) (mu : Mut (H a)) (hs : Heap.SameBut a s.heap h') (he : ∃ q, h'.get? a = some q) (new : ObjOk X.prog X.w (upd H a ob) h' a ob) :
    Inv X pins σ (upd H a ob) { s with heap := h', toks := t' } :=
  I.write (x := a) (e := a) mu (.inl rfl) (fun b q hb z => (hs.2 b hb).trans z) he new
theorem dk_new {P : Program} {w : World} {H' : Hp} {h' : Heap} {kvs : List (Key × V)} {vs : List (Key × Value)} (z : kvs.length ≤ sizeLine) (hd : (a == sysModules) = false) (rel : KV kvs vs) (dd : h'.DictOf (mixKind P w) a vs) :
    ObjOk P w H' h' a (.dK kvs) := ⟨z, hd, vs, rel, dd⟩
/-- d[y] = v -/
theorem d_setItem {H' : Hp} {Q : Unit → Shared → Prop} (hu : A.units + 1 < cLine) (I : Inv X pins σ H s) (g : DPut H a y v H') (ry : RelV y u) (rv : RelV v r) (h : ∀ s', Inv X pins σ H' s' → Q () s') :
    wpAny (model X.prog X.w) A (setItem (.ref a) u r) Q E s := by
  rcases g with ⟨kvs, k, e, ey, l, eH⟩ | ⟨kvs, k, b, e, ey, eb, l, eH⟩
  · subst ey eH
    obtain ⟨z, hd, vs, rel, dd⟩ := dk_of I.hok e
    have hz : vs.length ≤ sizeLine := by rw [← rel.length]; exact z
    have hl : (putK kvs k v).length ≤ sizeLine := by have := length_putK kvs k v; omega
    refine wpAny_setItem_pairs (hsz := hz) (kV_is ry) dd fun h' dd' hs => h _ ?_
    have he : ∃ q, h'.get? a = some q := let ⟨q, _, _, hq, _⟩ := dd'; ⟨q, hq⟩
    exact d_write I (by rw [e]; exact True.intro) hs he (dk_new hl hd (rel.put k rv) dd')
  · subst ey eH
    cases (show u = Value.ref b from ry)
    obtain ⟨z, hd, xs, rel, dd⟩ := dt_of I.hok e
    have hz : xs.length ≤ sizeLine := by rw [← Paired.length rel]; exact z
    have hl : (putK kvs k v).length ≤ sizeLine := by have := length_putK kvs k v; omega
    refine wpAny_setItem_heap (hsz := hz) (tupleKind_room_in1 hu) (key_of I.hok eb) dd fun h' dd' hs => h _ ?_
    obtain ⟨q, es, ep, hq, h2, h3, h4, _, h5⟩ := dd'
    refine d_write I (by rw [e]; exact True.intro) hs ⟨q, hq⟩ ⟨hl, hd, _, (rel.put k eb rv).keeps fun c ys ec => ?_, q, es, ep, hq, h2, h3, h4, h5⟩
    rw [upd_ne (ne_of ec e (fun z => nomatch z))]
    exact ec
end

section
variable {X : Cx} {pins : List (Addr × Obj)} {σ : St} {H : Hp} {s : Shared} {a : Addr} {kvs : List (Key × V)} {k : Key} {u : Value} {A : Around} {E : Value → Shared → Prop}
end


/-! ### readings and rules -/
/-- the element of a subscription, not a slice -/
noncomputable def NoSl (i : Expr) : Prop := ∀ ov iv, subscripted i false ov iv = operate [ov, iv] (getItem ov iv)
theorem subD_of {prog : Program} {w : World} {A : Around} {E : Value → Shared → Prop} {s : Shared} {env : Env} {value slice : Expr} {pos : Pos} {T id : String} {Q : Value → Shared → Prop}
    (hl : typeLookup (.type T) "__getitem__" = pure (some (.builtin id))) (hs : NoSl slice)
    (h : wpAny (model prog w) A (eval value env) (fun o s₁ => wpAny (model prog w) A (eval slice env) (fun i s₂ => s₂.TypeIs o T ∧ wpAny (model prog w) A (getItem o i) Q E s₂) E s₁) E s) :
    wpAny (model prog w) A (eval (.Subscript value slice pos) env) Q E s := by
  refine Subscript_ (wpAny_mono h (fun o s₁ h₁ => wpAny_mono h₁ (fun i s₂ h₂ => ?_) fun _ _ x => x) fun _ _ x => x)
  obtain ⟨hT, h₂⟩ := h₂
  unfold subscriptTail
  refine wpAny_bind ?_
  rw [getitemInPython_of_ne hT.not_modules]
  refine wpAny_bind (wpAny_specialOf hT hl ?_)
  have fin : wpAny (model prog w) A (subscripted slice false o i) (fun r s₃ => wpAny (model prog w) A (letTemporaryGo value o r >>= fun _ => pure r) Q E s₃) E s₂ := by
    rw [hs o i]
    exact wpAny_operating (wpAny_mono h₂ (fun r s₃ h₃ => wpAny_bind (wpAny_letTemporaryGo (wpAny_pure h₃))) fun _ _ x => x)
  first
    | exact wpAny_pure (wpAny_bind fin)
    | exact wpAny_bind (wpAny_pure (wpAny_bind fin))
    | exact wpAny_bind fin

theorem dict_typeIs {X : Cx} {pins : List (Addr × Obj)} {σ : St} {H : Hp} {s : Shared} {a : Addr} {y : V} {o : Option V} (I : Inv X pins σ H s) (g : DGet H a y o) : s.TypeIs (.ref a) "dict" := by
  rcases g with ⟨kvs, k, e, _, _⟩ | ⟨kvs, k, b, e, _, _, _⟩
  · obtain ⟨_, _, vs, _, dd⟩ := dk_rd I.hok e
    exact dd.typeIs
  · obtain ⟨_, _, xs, _, dd⟩ := dt_rd I.hok e
    exact dd.typeIs
/-- d[y] -/
noncomputable def tDGet (td ty : TE) : TE := fun σ H Q => td σ H fun x H1 => ty σ H1 fun y H2 => ∃ a v, x = .ref a ∧ DGet H2 a y (some v) ∧ Q v H2
/-- d[y] op= v -/
noncomputable def sDAug (td ty tv : TE) (rd : V → V → Hp → VK → Prop) : TS := fun D σ H => td σ H fun x H1 => ty σ H1 fun y H2 => ∃ a v, x = .ref a ∧ DGet H2 a y (some v) ∧
  tv σ H2 fun y2 H3 => rd v y2 H3 fun z H4 => ∃ H5, DPut H4 a y z H5 ∧ D.nx σ H5
section
variable {X : Cx} {o i e value : Expr} {pos pos' tpos : Pos} {td ty tv : TE}
theorem pe_dget (hu : X.A.units + 1 < cLine) (ho : PE X o td) (hi : PE X i ty) (hs : NoSl i) : PE X (.Subscript o i pos) (tDGet td ty) := by
  intro pins s σ H Q I h
  refine subD_of PySem.F.slot_dict_getitem.lookup hs (thn (ho pins s σ H _ I h) fun u s1 ⟨x, H1, I1, rx, q1⟩ => thn (hi pins s1 σ H1 _ I1 q1) fun iv s2 ⟨y, H2, I2, ry, a, v, ex, g, q2⟩ => ?_)
  subst ex
  obtain rfl : u = Value.ref a := rx
  exact ⟨dict_typeIs I2 g, d_getItem hu I2 g ry fun w' s3 I3 rw' => ⟨v, H2, I3, rw', q2⟩⟩
theorem ps_daug {op : Operator} {rd : V → V → Hp → VK → Prop} (hu : X.A.units + 1 < cLine) (ho : PE X o td) (hi : PE X i ty) (hv : PE X value tv) (hop : InOp X op rd)
    (ha : ∀ ov iv new, augStore i ov iv new = (do holding [new, ov, iv] (setItem ov iv new); release [new, ov, iv] []; pure .next)) : PS X (.AugAssign (.Subscript o i tpos) op value pos) (sDAug td ty tv rd) := by
  intro pins s σ H D I h
  refine wpAny_AugAssign_SubscriptAny (thn (ho pins s σ H _ I h) fun u s1 ⟨x, H1, I1, rx, q1⟩ => thn (hi pins s1 σ H1 _ I1 q1) fun iv s2 ⟨y, H2, I2, ry, a, v, ex, g, q2⟩ => ?_) ha
  subst ex
  obtain rfl : u = Value.ref a := rx
  refine d_getItem hu I2 g ry fun w' s3 I3 rw' => thn (hv pins s3 σ H2 _ I3 q2) fun w2 s4 ⟨y2, H3, I4, ry2, q3⟩ => thn (hop pins s4 σ H3 v y2 w' w2 _ I4 rw' ry2 q3) fun w3 s5 ⟨z, H4, I5, rz, H5, g5, q4⟩ => ?_
  exact d_setItem hu I5 g5 ry rz fun s6 I6 => ⟨σ, H5, I6, q4⟩
end


/-! ### displays -/
theorem dk_empty {P : Program} {w : World} {H : Hp} (h : Heap) (hb : sysModules < h.objs.size) : ObjOk P w H (h.push { cls := .type "dict", data := .dict #[] }) h.objs.size (.dK []) :=
  ⟨Nat.zero_le _, beq_eq_false_iff_ne.mpr (Ne.symm (Nat.ne_of_lt hb)), [], .nil, Heap.DictOf.new h⟩
theorem dt_empty {P : Program} {w : World} {H : Hp} (h : Heap) (hb : sysModules < h.objs.size) : ObjOk P w H (h.push { cls := .type "dict", data := .dict #[] }) h.objs.size (.dT []) :=
  ⟨Nat.zero_le _, beq_eq_false_iff_ne.mpr (Ne.symm (Nat.ne_of_lt hb)), [], .nil, _, #[], 0, Heap.get?_push_size _ rfl, ⟨rfl, rfl, rfl⟩, rfl, rfl, List.nodup_nil⟩
/-- {}, to be a dict of the kind that is wanted -/
noncomputable def tDNewK : TE := fun _ H Q => ∀ p, H p = none → Q (.ref p) (upd H p (.dK []))
section
variable {X : Cx} {pos : Pos}
theorem pe_dnewK : PE X (.Dict [] [] pos) tDNewK := fun pins s σ H Q I h =>
  wpAny_Dict_empty ⟨.ref s.heap.objs.size, _, I.laid (a := s.heap.objs.size) (o := .dK []) (t' := s.toks) (fun _ _ q => Heap.get?_push_of_some _ q) (Nat.le_refl _) (dk_empty s.heap I.big), rfl, h _ (I.hok.fresh (Nat.le_refl _))⟩
end

end L2

set_option Elab.async false
set_option linter.all false
set_option maxRecDepth 100000
set_option maxHeartbeats 4000000
namespace L2
open PySem PySem.Spec PyProof.Rows

/-! ### a dict comprehension of one clause, keys tuples -/
section
variable {prog : Program} {w : World} {A : Around} {R : Result → Shared → Prop} {s : Shared}
theorem dc_loop {kx vx tg iter : Expr} {ifs : List Expr} {scope : Scope} {pos : Pos} {it : Value} {D : Addr} {env : Env} (J : Nat → Shared → Prop)
    (turn : ∀ n s, J n s → wpAny (model prog w) A (pyNext it) (fun r s1 => match r with
      | none => R (.ok .next) s1
      | some v => wpAny (model prog w) A (letOwnedTupleGo tg it v) (fun _ s2 => wpAny (model prog w) A (assign tg env v) (fun _ s3 =>
          wpAny (model prog w) A (forIn ifs true fun c r => if r = true then do let ok ← isTrue c env (eval c env); pure (ForInStep.yield ok) else pure (ForInStep.yield r)) (fun ok s4 =>
            if ok = true then wpAny (model prog w) A (eval kx env) (fun y s5 => wpAny (model prog w) A (eval vx env) (fun x s6 => wpAny (model prog w) A (dictSet D y x) (fun _ s7 => ∃ m, m < n ∧ J m s7) (fun _ _ => False) s6) (fun _ _ => False) s5) (fun _ _ => False) s4
            else ∃ m, m < n ∧ J m s4) (fun _ _ => False) s3) (fun _ _ => False) s2) (fun _ _ => False) s1) (fun _ _ => False) s)
    (n : Nat) (h : J n s) : codeAny (model prog w) A (.compLoop (.DictComp kx vx [⟨tg, iter, ifs, 0⟩] scope pos) 0 it (.ref D) env) R s := by
  refine codeAny_loop rfl J (fun k t hJ => ?_) n h
  show wpAny _ A ((compTurn (.DictComp kx vx [⟨tg, iter, ifs, 0⟩] scope pos) 0 it (.ref D) env).onRaise (fun x => do noteFrame x env; theTreesLotGoes x)) _ _ t
  refine wpAny_noted (wpAny_mono (E := fun _ _ => False) ?_ (fun _ _ q => q) fun _ _ f => f.elim)
  rw [compTurn_dict]
  refine wpAny_bind (wpAny_standAt (wpAny_bind (thn (turn k t hJ) fun r s1 h1 => ?_)))
  cases r with
  | none => exact wpAny_pure h1
  | some v =>
    refine wpAny_bind (thn h1 fun _ s2 h2 => wpAny_bind (thn h2 fun _ s3 h3 => wpAny_bind (thn h3 fun ok s4 h4 => ?_)))
    cases ok with
    | false => exact wpAny_pure ⟨rfl, h4⟩
    | true => exact wpAny_bind (wpAny_bind (thn h4 fun y s5 h5 => wpAny_bind (wpAny_holding (thn h5 fun x s6 h6 => wpAny_bind (wpAny_standAt (wpAny_holding (thn h6 fun _ s7 h7 => wpAny_pure ⟨rfl, h7⟩)))))))
end
/-- D[y] = v, y a tuple -/
noncomputable def DPutT (H : Hp) (a : Addr) (y v : V) (H' : Hp) : Prop := ∃ kvs k b, H a = some (.dT kvs) ∧ y = .ref b ∧ H b = some (.tup (k.map kV)) ∧ kvs.length < sizeLine ∧ H' = upd H a (.dT (putK kvs k v))
theorem d_dictSet {X : Cx} {pins : List (Addr × Obj)} {σ : St} {H H' : Hp} {s : Shared} {a : Addr} {y v : V} {u r : Value} {A : Around} {E : Value → Shared → Prop} {Q : Unit → Shared → Prop} (hu : A.units < cLine) (I : Inv X pins σ H s) (g : DPutT H a y v H') (ry : RelV y u) (rv : RelV v r) (h : ∀ s', Inv X pins σ H' s' → Q () s') :
    wpAny (model X.prog X.w) A (dictSet a u r) Q E s := by
  obtain ⟨kvs, k, b, e, ey, eb, l, eH⟩ := g
  subst ey eH
  cases (show u = Value.ref b from ry)
  obtain ⟨z, hd, xs, rel, dd⟩ := dt_of I.hok e
  have hz : xs.length ≤ sizeLine := by rw [← Paired.length rel]; exact z
  have hl : (putK kvs k v).length ≤ sizeLine := by have := length_putK kvs k v; omega
  refine wpAny_dictSet_heap (hsz := hz) (show (tupleKind (mixKind X.prog X.w)).room A from hu) (key_of I.hok eb) dd (fun h' dd' hs => h _ ?_)
  obtain ⟨q, es, ep, hq, h2, h3, h4, _, h5⟩ := dd'
  refine d_write I (by rw [e]; exact True.intro) hs ⟨q, hq⟩ ⟨hl, hd, _, (rel.put k eb rv).keeps fun c ys ec => ?_, q, es, ep, hq, h2, h3, h4, h5⟩
  rw [upd_ne (ne_of ec e (fun z => nomatch z))]
  exact ec
noncomputable def DcW (D : Addr) (J : It) (g : TG) (tt : TT) (tk tv : TE) (σ' : St) (fin : Hp → Prop) (H1 : Hp) : Prop :=
  ∃ W : Nat → Nat → St → Hp → Prop, (∃ m, W 0 m σ' H1) ∧ ∀ i m σ H, W i m σ H →
    (J.stop i H ∧ fin H) ∨ (J.go i H ∧ ∃ Nx : St → Hp → Prop, (∀ σ' H', Nx σ' H' → ∃ m', m' < m ∧ W (i + 1) m' σ' H') ∧
      ∀ x H', J.yld i H x H' → g x σ H' fun σ2 H2 => tt σ2 H2 fun b H3 => if b = true then tk σ2 H3 (fun y H4 => tv σ2 H4 fun v H5 => ∃ H6, DPutT H5 D y v H6 ∧ Nx σ2 H6) else Nx σ2 H3)
/-- name = {..} -/
noncomputable def tSetDc (i : Nat) (wi : TI) (g : TG) (tt : TT) (tk tv : TE) (ix : List (Option Nat)) : TS := fun E σ H => wi σ H fun J H1 => ∀ D, H1 D = none → DcW D J g tt tk tv (emb ix σ) (fun H' => E.nx (σ.set i (some (.ref D))) H') (upd H1 D (.dT []))

theorem nlt_aux {b D C : Nat} (h : b < D) (e : C = D + 1) (z : b = C) : False := by omega
section
variable {X : Cx} {scope : Scope} {N : List Str} {ix : List (Option Nat)}
theorem dc_fin {pins pins' : List (Addr × Obj)} {σ σ' : St} {H2 H' : Hp} {s2 s' : Shared} {C : Addr} {fp : List Addr} {h' : Heap} (I2 : Inv X pins σ H2 s2) (hf : ∀ b ∈ fp, FpOk X pins H2 b)
    (I' : Inv (cxLc X scope N C s2 H2 fp) pins' σ' H' s') (hC : s2.heap.objs.size ≤ C) (hs : ∀ b o, b ≠ C → s'.heap.get? b = some o → h'.get? b = some o) : Inv X pins σ H' { s' with heap := h' } := by
  have B : Un (frs X.stack) fp H2 H' s2.heap s'.heap := I'.base
  have neC : ∀ b o, s2.heap.get? b = some o → b ≠ C := fun b o e => Nat.ne_of_lt (Nat.lt_of_lt_of_le (Heap.lt_size e) hC)
  have hCn : H' C = none := I'.free
  have tC : ∀ b u, H' b = some u → b ≠ C := fun b u e => ne_of_none e hCn
  refine I2.call' (s' := { s' with heap := h' }) (ch := fp) I'.os ⟨fun b o e n hb hx => ?_, fun b o e n hb hx => ?_, fun b o e n hx => ?_, fun b o e hx => ?_, fun b xs e => ?_, fun b o u e => ?_, fun b ps e => ?_⟩ (fun b u e => ?_) I'.bare fun b hb => ⟨(hf b hb).2.2.2.1, (hf b hb).2.1, (hf b hb).2.2.2.2.1, (hf b hb).2.2.2.2.2⟩
  · exact hs b o (neC b o e) (B.keep b o e n hb hx)
  · obtain ⟨sl, q⟩ := B.slot b o e n hb hx
    exact ⟨sl, hs b _ (neC b o e) q⟩
  · exact B.free b o e n hx
  · obtain ⟨o', q⟩ := B.there b o e hx
    exact ⟨o', hs b o' (neC b o e) q⟩
  · exact B.tups b xs e
  · exact B.frzs b o u e
  · exact B.tbls b ps e
  · refine (I'.hok b u e).stay (fun c v hc q => hs c v ?_ q) (fun c q => q) fun c xs q => q
    rcases hc with z | z
    · rw [z]; exact tC b u e
    · exact tC c _ z

variable {tg iter kx vx : Expr} {ifs : List Expr} {pos : Pos} {g : TG} {tt : TT} {tk tv : TE}
theorem dc_run (L : LcOk X scope N ix) (hc : X.calm = true) (hu : X.A.units < cLine) (hg : ∀ C s0 H0 fp, PG (cxLc X scope N C s0 H0 fp) tg g) (ht : ∀ C s0 H0 fp, PTs (cxLc X scope N C s0 H0 fp) ifs tt) (hk : ∀ C s0 H0 fp, PE (cxLc X scope N C s0 H0 fp) kx tk) (hv : ∀ C s0 H0 fp, PE (cxLc X scope N C s0 H0 fp) vx tv)
    {pins : List (Addr × Obj)} {σ : St} {H1 : Hp} {s1 : Shared} {it : Addr} {fp : List Addr} {tn : Nat → Heap → Prop} {J : It} {fin : Addr → Hp → Prop} {E : Value → Shared → Prop} {RR : Value → Addr → Result → Shared → Prop}
    (I1 : Inv X pins σ H1 s1) (T : Turn X.prog X.w X.K tg J fp it tn) (st : tn 0 s1.heap) (f1 : ∀ b ∈ fp, FpOk X pins H1 b) (hW : ∀ D, H1 D = none → DcW D J g tt tk tv (emb ix σ) (fin D) (upd H1 D (.dT [])))
    (hRR : ∀ D C s' m H', s'.heap.Ns C m → s'.os = s1.os → FpOk X pins H' C → (∀ h', Heap.SameBut C s'.heap h' → Inv X pins σ H' { s' with heap := h' }) → fin D H' → RR (.ref D) C (.ok .next) s') :
    wpAny (model X.prog X.w) X.A newDict (fun acc s3 => wpAny (model X.prog X.w) X.A (newFunctionEnv scope X.env.globals (clOf X.env scope.names []) [] X.env.qual none .none (some X.env)) (fun cenv s4 =>
      codeAny (model X.prog X.w) X.A (.compStart (.DictComp kx vx [⟨tg, iter, ifs, 0⟩] scope pos) 0 (.ref it) acc { cenv with scope := relabel scope X.env }) (RR acc cenv.locals) s4) E s3) E s1 := by
  have hb1 : ∀ b ∈ fp, b < s1.heap.objs.size := fun b hb => by
    obtain ⟨o, e, _⟩ := T.obj _ _ st b hb
    exact Heap.lt_size e
  have hDn : H1 s1.heap.objs.size = none := I1.hok.fresh (Nat.le_refl _)
  obtain ⟨W, ⟨m0, w0⟩, turn⟩ := hW s1.heap.objs.size hDn
  refine wpAny_newObj_type (wpAny_newFunctionEnv L.nocell (by intro y hy; simp at hy) (fun h1 hns hsb => ?_) L.kind)
  dsimp only at hns hsb ⊢
  have I2 : Inv X pins σ (upd H1 s1.heap.objs.size (.dT [])) { s1 with heap := s1.heap.push { cls := .type "dict", data := .dict #[] }, toks := s1.toks } :=
    I1.laid (t' := s1.toks) (a := s1.heap.objs.size) (o := .dT []) (fun _ _ q => Heap.get?_push_of_some _ q) (Nat.le_refl _) (dt_empty s1.heap I1.big)
  have f2 : ∀ b ∈ fp, FpOk X pins (upd H1 s1.heap.objs.size (.dT [])) b := fun b hb => by
    obtain ⟨q0, q1⟩ := f1 b hb
    exact ⟨by rw [upd_ne (Nat.ne_of_lt (hb1 b hb))]; exact q0, q1⟩
  have st2 : tn 0 (s1.heap.push { cls := .type "dict", data := .dict #[] }) := T.keep _ _ _ st fun b _ o e => Heap.get?_push_of_some _ e
  generalize hD : s1.heap.objs.size = D at *
  generalize hH2 : upd H1 D (.dT []) = H2 at *
  generalize hG : s1.heap.push { cls := .type "dict", data := .dict #[] } = G at *
  have hGs : G.objs.size = D + 1 := by rw [← hG, Heap.size_push, hD]
  generalize hCe : G.objs.size = C at *
  have kp : ∀ b o, G.get? b = some o → h1.get? b = some o := fun b o e => hsb.extBut b o (fun z => by have := Heap.lt_size e; rw [hCe] at this; exact absurd (z ▸ this) (Nat.lt_irrefl _)) (Heap.get?_push_of_some _ e)
  have I4 := lc_in L (tk := s1.toks + ([] : List (Str × Value)).length) I2 (C := C) (by show G.objs.size ≤ C; rw [hCe]; exact Nat.le_refl _) f2 (fun b hb => by show b < G.objs.size; rw [hCe, hGs]; exact Nat.lt_succ_of_lt (hb1 b hb)) kp hns
  have st4 : tn 0 h1 := T.keep _ _ _ st2 fun b _ o e => kp b o e
  generalize hs2 : ({ s1 with heap := G, toks := s1.toks } : Shared) = s2 at I2 I4
  have hs2h : s2.heap = G := by rw [← hs2]
  have hs2o : s2.os = s1.os := by rw [← hs2]
  have stat : ∀ {H' : Hp}, (∀ b ∈ fp, H' b = none) → ∀ b ∈ fp, FpOk (cxLc X scope N C s2 H2 fp) [] H' b := fun {H'} hn b hb => by
    have hlt := hb1 b hb
    refine ⟨hn b hb, fun z => ?_, fun z => ?_, .inl hb, fun x c e => (f2 b hb).2.2.2.2.1 x c (clOf_look e), fun p hq z => ?_⟩
    · exact nlt_aux hlt hGs z
    · exact (List.mem_cons.mp (I2.stkSub b z)).elim (f2 b hb).2.1 (f2 b hb).2.2.1
    · have hq' : p ∈ ([] : List (Addr × Obj)) := by simpa [cxLc] using hq
      cases hq'
  have loop : ∀ s4 : Shared, Inv (cxLc X scope N C s2 H2 fp) [] (emb ix σ) H2 s4 → tn 0 s4.heap → codeAny (model X.prog X.w) X.A (.compLoop (.DictComp kx vx [⟨tg, iter, ifs, 0⟩] scope pos) 0 (.ref it) (.ref D) (cxLc X scope N C s2 H2 fp).env) (RR (.ref D) C) s4 := by
    intro s4 I4' st4'
    refine dc_loop (fun n s' => ∃ i σ' H', Inv (cxLc X scope N C s2 H2 fp) [] σ' H' s' ∧ tn i s'.heap ∧ (∀ b ∈ fp, H' b = none) ∧ W i n σ' H') ?_ m0 ⟨0, emb ix σ, H2, I4', st4', fun b hb => (f2 b hb).1, w0⟩
    rintro n s' ⟨i, σ', H', I', st', fr', w'⟩
    rcases turn i n σ' H' w' with ⟨stop, qf⟩ | ⟨go, Nx, hN, step⟩
    · refine thn (T.done (cxLc X scope N C s2 H2 fp) rfl rfl rfl hc i _ s' σ' H' _ I' (stat fr') st' stop) fun r s5 ⟨hr, I5⟩ => ?_
      subst hr
      obtain ⟨m5, hn5, _⟩ := I5.loc
      refine hRR D C s5 m5 H' hn5 (I5.os.trans hs2o) (I2.fpOk (by rw [hs2h, hCe]; exact Nat.le_refl _) I5.free) (fun h' hs' => ?_) qf
      exact dc_fin I2 f2 I5 (by rw [hs2h, hCe]; exact Nat.le_refl _) fun b o hb e => hs'.extBut b o hb e
    · refine thn (T.item (cxLc X scope N C s2 H2 fp) rfl rfl rfl hc i _ s' σ' H' _ I' (stat fr') st' go) fun r s5 ⟨u, hr, h5⟩ => ?_
      subst hr
      refine thn h5 fun _ s6 ⟨x, H6, I6, r6, y6, st6, fr6⟩ => ?_
      have I6' := I6.pinned (stat fr6) (T.obj _ _ st6)
      refine thn (hg C s2 H2 fp _ s6 σ' H6 x u _ I6' r6 (step x H6 y6)) fun _ s7 ⟨σ7, H7, I7, q7⟩ => ?_
      refine thn (ht C s2 H2 fp _ s7 σ7 H7 _ I7 q7) fun ok s8 ⟨H8, I8, q8⟩ => ?_
      have back : ∀ {H9 : Hp} {s9 : Shared}, Inv (cxLc X scope N C s2 H2 fp) ([] ++ pinsAt fp s6.heap) σ7 H9 s9 → tn (i + 1) s9.heap ∧ ∀ b ∈ fp, H9 b = none := fun {H9 s9} I9 => by
        refine ⟨T.keep _ _ _ st6 fun b hb o e => (I9.pin (b, o) (List.mem_append_right _ (List.mem_append_right _ (mem_pinsAt hb e)))).1, fun b hb => ?_⟩
        obtain ⟨o, e, d⟩ := T.obj _ _ st6 b hb
        exact (I9.pin (b, o) (List.mem_append_right _ (List.mem_append_right _ (mem_pinsAt hb e)))).2.1
      cases ok with
      | false =>
        rw [if_neg Bool.false_ne_true] at q8 ⊢
        obtain ⟨m', hm, w8⟩ := hN _ _ q8
        obtain ⟨st8, fr8⟩ := back I8
        exact ⟨m', hm, i + 1, σ7, H8, I8.unpinned, st8, fr8, w8⟩
      | true =>
        rw [if_pos rfl] at q8 ⊢
        refine thn (hk C s2 H2 fp _ s8 σ7 H8 _ I8 q8) fun yv s9 ⟨y, H9, I9, r9, q9⟩ => ?_
        refine thn (hv C s2 H2 fp _ s9 σ7 H9 _ I9 q9) fun xv s10 ⟨v, H10, I10, r10, H11, g11, q11⟩ => ?_
        refine d_dictSet (X := cxLc X scope N C s2 H2 fp) hu I10 g11 r9 r10 fun s11 I11 => ?_
        obtain ⟨m', hm, w11⟩ := hN _ _ q11
        obtain ⟨st11, fr11⟩ := back I11
        exact ⟨m', hm, i + 1, σ7, H11, I11.unpinned, st11, fr11, w11⟩
  have q := loop _ I4 st4
  subst hs2
  exact codeAny_compStart_dict q (T.self _ 0 _ _ _ st4 q)
theorem ps_setDc {i : Nat} {y : Str} {py spos : Pos} {wi : TI} (hu : X.A.units < cLine) (hN : X.N.Nodup) (hi' : X.N[i]? = some y) (hx : Loc X.env.scope y) (L : LcOk X scope N ix) (hc : X.calm = true) (hi : PI X tg iter wi) (hg : ∀ C s0 H0 fp, PG (cxLc X scope N C s0 H0 fp) tg g)
    (ht : ∀ C s0 H0 fp, PTs (cxLc X scope N C s0 H0 fp) ifs tt) (hk : ∀ C s0 H0 fp, PE (cxLc X scope N C s0 H0 fp) kx tk) (hv : ∀ C s0 H0 fp, PE (cxLc X scope N C s0 H0 fp) vx tv)
    (hsw : swapsWith (.DictComp kx vx [⟨tg, iter, ifs, 0⟩] scope pos) (some (.Name y py)) spos.line X.env = pure true := by rfl) (hs : ∀ x, foldedSetIterable iter X.env x = pure x := by intro _; rfl)
    (hf : X.fn y = true ∨ X.env.scope.names.lookup y = some .local := by first | exact .inl rfl | exact .inr rfl | assumption) :
    PS X (.Assign [.Name y py] (.DictComp kx vx [⟨tg, iter, ifs, 0⟩] scope pos) spos) (tSetDc i wi g tt tk tv ix) := by
  intro pins s σ H D I h
  rw [exec_Assign_Name_used _ _ _ _ hsw]
  refine wpAny_bind (wpAny_standAt (wpAny_bind ?_))
  show wpAny _ X.A (do let _ ← comprehension (.DictComp kx vx [⟨tg, iter, ifs, 0⟩] scope pos) scope X.env _ newDict false (eval iter X.env) (some (assign (.Name y py) X.env))) _ _ s
  refine wpAny_bind (thn (wpAny_comprehension_free (use := some (assign (.Name y py) X.env)) (Q := fun _ s' => SP X pins D .next s') rfl hs (L.clos I.ok) L.kind L.locals
    (thn (hi pins s σ H _ I h) fun v s1 h1 => thn h1 fun itv s2 h2 => ?_)) fun _ s' hq => wpAny_pure (wpAny_pure hq))
  obtain ⟨it, fp, tn, J, H2, rfl, I2, T, st2, f2, hW⟩ := h2
  refine dc_run (RR := fun acc C => compPost (model X.prog X.w) X.A X.xe (some (assign (.Name y py) X.env)) (fun _ s' => SP X pins D .next s') acc C) L hc hu hg ht hk hv I2 T st2 f2 hW ?_
  intro Da C s' m H' hn ho hC hI fin
  have I' := hI s'.heap (Heap.SameBut.refl _ _)
  show wpAny _ X.A (assign (.Name y py) X.env (.ref Da)) _ _ s'
  refine wpAny_assign_Name (store_ok2 (v := .ref Da) I' hN hi' hx rfl (fun s'' I'' ch => ?_) hf)
  obtain ⟨a, hsa, hwa⟩ := ch
  obtain ⟨c1, c2, c3, c4, c5, c6⟩ := hC
  have hCa : C ≠ a := by
    rcases hwa with z | z
    · rw [z]; exact c2
    · exact fun w => c5 y a z w.symm
  refine ⟨m, hn.sameBut hsa hCa, fun h' hs' => ⟨_, _, I''.turned (t' := s''.toks) (it := C) (fun b o hb e => hs'.extBut b o hb e) c1 c2 c4 c5 c6, fin⟩⟩
end
end L2

set_option Elab.async false
set_option linter.all false
set_option maxRecDepth 100000
set_option maxHeartbeats 4000000
namespace L2
open PySem PySem.Spec PyProof.Rows

/-! ### t < u of any tuples, pair by pair -/
inductive CmpAll (A : Around) (s : Shared) : List (Value × Value) → List (Bool × Bool) → Prop
  | nil : CmpAll A s [] []
  | cons {v u : Value} {e b : Bool} {r : List (Value × Value)} {cs : List (Bool × Bool)} : SeqAt.EqAt A s v u e →
      (e = false → ∀ (prog : Program) (w : World) (E : Value → Shared → Prop) (Q : Value → Shared → Prop), Q (.bool b) s → wpAny (model prog w) A (richCompare .Lt v u) Q E s) → CmpAll A s r cs → CmpAll A s ((v, u) :: r) ((e, b) :: cs)
noncomputable def lexC (d : Bool) : List (Bool × Bool) → Bool
  | [] => d
  | (true, _) :: r => lexC d r
  | (false, b) :: _ => b
section
open PySem.SeqAt
open PySem.AutoSeq1 (wpAny_loadPart')
open PySem.MeetsSeq PySem.MeetsSeq2 PySem.MeetsSeq3
theorem tuple_lt_cmp (l b : Addr) (xs ys : Array Value) (n n2 : Nat) (dd dd2 : Option Addr) (sl sl2 : Array (Option Value)) :
    Meets (Builtin.«tuple.__lt__» ⟨[.ref l, .ref b], []⟩)
      (fun A R s => s.heap.get? l = some { cls := .type "tuple", dict := dd, data := .seq xs n, slots := sl } ∧ s.heap.get? b = some { cls := .type "tuple", dict := dd2, data := .seq ys n2, slots := sl2 } ∧
        ∃ cs, CmpAll A.in1 s (xs.toList.zip ys.toList) cs ∧ R (.ok (.ret (.bool (lexC (decide (xs.size < ys.size)) cs)))) s) :=
  .of_wp fun prog w A R s h => by
    obtain ⟨hp, g, d, tk, os⟩ := s; obtain ⟨hl, hb, cs, hcs, h⟩ := h
    have f2 := AutoSeq1.sub_tuple_tuple
    wp_walk using wpAny_loadPart' hl, wpAny_loadPart' hb, wpAny_forIn_list _ (fun rest b s' => b.1 = none ∧ s' = ⟨hp, g, d, tk, os⟩ ∧ ∃ cs', CmpAll A.in1 ⟨hp, g, d, tk, os⟩ rest cs' ∧ R (.ok (.ret (.bool (lexC (decide (xs.size < ys.size)) cs')))) ⟨hp, g, d, tk, os⟩) _
    case turn =>
      rintro ⟨y, x⟩ rest b s' ⟨hb', rfl, cs', hc, hR⟩
      cases hc with
      | @cons _ _ e bb _ cs'' he hlt hr =>
        refine wpAny_bind (he prog w _ _ ?_)
        cases e with
        | true =>
          wp_walk
          exact ⟨rfl, rfl, _, hr, hR⟩
        | false =>
          have hri := hlt rfl prog w
          wp_walk using hri
          exact ⟨_, rfl, by simpa [lexC] using hR⟩
    case fin =>
      rintro ⟨b1, b2⟩ s' ⟨hb', rfl, cs', hc, hR⟩
      simp only at hb'
      subst hb'
      cases hc
      wp_walk
      exact ⟨_, rfl, by simpa [Builtin.Tuple.tupleCompareSizes, lexC] using hR⟩
    case h =>
      exact ⟨rfl, rfl, cs, hcs, h⟩
end
section
variable {prog : Program} {w : World} {A : Around} {E : Value → Shared → Prop} {s : Shared}
theorem rc_lt_tup {l b : Addr} {xs ys : Array Value} {cs : List (Bool × Bool)} {Q : Value → Shared → Prop} (hl : IsTup s.heap l xs) (hb : IsTup s.heap b ys) (hu : A.units < cLine) (hc : CmpAll A.in1 s (xs.toList.zip ys.toList) cs)
    (h : Q (.bool (lexC (decide (xs.size < ys.size)) cs)) s) : wpAny (model prog w) A (richCompare .Lt (.ref l) (.ref b)) Q E s := by
  obtain ⟨⟨cls, dd, data, sl⟩, ho, hc', n, hd⟩ := id hl
  obtain ⟨⟨cls2, dd2, data2, sl2⟩, ho2, hc2, n2, hd2⟩ := id hb
  simp only at hc' hd hc2 hd2
  subst hc' hd hc2 hd2
  exact richCompare_meets_room (op := .Lt) ⟨_, ho, rfl⟩ ⟨_, ho2, rfl⟩ PySem.F.slot_tuple_lt PySem.F.entry_tuple_lt (PySem.F.args_tuple_lt_2 _ _) (tuple_lt_cmp l b xs ys n n2 dd dd2 sl sl2)
    ⟨ho, ho2, cs, hc, show Value.bool (lexC (decide (xs.size < ys.size)) cs) ≠ Value.notImplemented ∧ Q (.bool (lexC (decide (xs.size < ys.size)) cs)) s from ⟨(fun x => nomatch x), h⟩⟩ hu
end

theorem nlt2 {l I : Nat} (h : l < I) (q : I + 1 = l) : False := by omega
/-! ### min of a list of things of the heap -/
section
variable {prog : Program} {w : World} {A : Around} {R : Result → Shared → Prop} {I : Addr} {fp wr : List Addr} {n : Nat} {P : Nat → Value → Prop} {St : Nat → Heap → Prop}
noncomputable def CmpIn (prog : Program) (w : World) (A : Around) (s0 : Shared) (P : Nat → Value → Prop) (St : Nat → Heap → Prop) (bt : Nat → Nat → Bool) : Prop :=
  ∀ i j k x y (G : Heap) (tk : Nat) (Q : Value → Shared → Prop) (E : Value → Shared → Prop), St k G → P i x → P j y → Q (.bool (bt i j)) { s0 with heap := G, toks := tk } → wpAny (model prog w) A (richCompare .Lt x y) Q E { s0 with heap := G, toks := tk }
theorem min_again (W : Walks prog w A.in1 I fp wr n P St) (bt : Nat → Nat → Bool) {s0 : Shared} (cmp : CmpIn prog w A.in1 s0 P St bt) (S : Addr) (nS : S ∉ fp) :
    ∀ (k j : Nat) (G0 : Heap) (k0 : Nat) (y : Value) (c : Nat), n - (j + 1) = k → j + 1 ≤ n → St (j + 1) G0 → P (argBest bt j) y →
    G0.get? S = some { cls := .type "list", dict := none, data := .seq #[y, y] c, slots := #[] } →
    (∀ v G tk, P (argBest bt (n - 1)) v → (∀ b o, b ∉ wr → b ≠ S → G0.get? b = some o → G.get? b = some o) → R (.ok (.ret v)) { s0 with heap := G, toks := tk }) →
    codeAny (model prog w) A (.builtin "min.loop" ⟨[.ref I, .none, .ref S], []⟩) R { s0 with heap := G0, toks := k0 } := by
  have nw : S ∉ wr := fun q => nS (W.sub _ q)
  have nm : (toString "min" ++ toString ".loop" : String) = "min.loop" := by decide
  intro k
  induction k with
  | zero =>
    intro j G0 k0 y c hk hj st py hS hR
    have ej : j + 1 = n := by omega
    refine codeAny_builtin F.entry_min_loop ?_
    rw [Around.under_plainId F.plain_min_loop _]
    refine (show wpAny _ A.in1 (seqItems? (.ref S) >>= _) _ _ { s0 with heap := G0, toks := k0 } from wpAny_bind (wpAny_seqItems hS rfl ?_))
    refine (show wpAny _ A.in1 (tryCatch (pyNext (.ref I)) _ >>= _) _ _ { s0 with heap := G0, toks := k0 } from wpAny_bind (wpAny_tryCatch (W.done { s0 with heap := G0, toks := k0 } _ _ (ej ▸ st) fun G tk kp => ?_)))
    have hS2 := kp S _ nw hS
    refine (show wpAny _ A.in1 (updateSeq S (fun _ => #[]) >>= _) _ _ _ from wpAny_bind (wpAny_updateSeq hS2 rfl (wpAny_bind (wpAny_letGo (wpAny_pure ?_)))))
    exact hR y _ tk (by rw [← ej]; exact py) fun b o h1 h2 e => (Heap.get?_update_other _ _ (Ne.symm h2)).trans (kp b o h1 e)
  | succ k ih =>
    intro j G0 k0 y c hk hj st py hS hR
    have lt : j + 1 < n := by omega
    refine codeAny_builtin F.entry_min_loop ?_
    rw [Around.under_plainId F.plain_min_loop _]
    refine (show wpAny _ A.in1 (seqItems? (.ref S) >>= _) _ _ { s0 with heap := G0, toks := k0 } from wpAny_bind (wpAny_seqItems hS rfl ?_))
    refine (show wpAny _ A.in1 (tryCatch (pyNext (.ref I)) _ >>= _) _ _ { s0 with heap := G0, toks := k0 } from wpAny_bind (wpAny_tryCatch (W.item (j + 1) { s0 with heap := G0, toks := k0 } _ _ lt st fun x G tk px st2 kp => ?_)))
    have hS2 := kp S _ nw hS
    refine (show wpAny _ A.in1 (tryCatch (holding [x, x] (richCompare .Lt x y >>= _)) _ >>= _) _ _ _ from wpAny_bind (wpAny_tryCatch (wpAny_holding (wpAny_bind (cmp (j + 1) (argBest bt j) _ x y G tk _ _ st2 px py ?_)))))
    refine wpAny_bind (wpAny_holding (wpAny_truthy_bool (wpAny_bind (wpAny_letGo (wpAny_pure ?_)))))
    cases hb : bt (j + 1) (argBest bt j) with
    | true =>
      simp only [if_true]
      refine wpAny_bind (wpAny_updateSeq hS2 rfl (wpAny_bind (wpAny_letGo ?_)))
      rw [nm]
      refine wpAny_pure ⟨plainId_quiet F.plain_min_loop _, ih (j + 1) _ _ x _ (by omega) lt (W.frame _ _ _ st2 fun b hf o e => (Heap.get?_update_other _ _ (fun q : S = b => nS (by rw [q]; exact hf))).trans e) (by simp only [argBest, hb, if_true]; exact px) (Heap.get?_update_self _ hS2 rfl) fun v G2 tk2 pv kp2 => ?_⟩
      exact hR v G2 tk2 pv fun b o h1 h2 e => kp2 b o h1 h2 ((Heap.get?_update_other _ _ (Ne.symm h2)).trans (kp b o h1 e))
    | false =>
      simp only [Bool.false_eq_true, if_false]
      refine wpAny_bind (wpAny_letGo ?_)
      rw [nm]
      exact wpAny_pure ⟨plainId_quiet F.plain_min_loop _, ih (j + 1) _ _ y c (by omega) lt st2 (by simp only [argBest, hb, Bool.false_eq_true, if_false]; exact py) hS2 fun v G2 tk2 pv kp2 => hR v G2 tk2 pv fun b o h1 h2 e => kp2 b o h1 h2 (kp b o h1 e)⟩
theorem min_start (W : Walks prog w A.in1 I fp wr n P St) (bt : Nat → Nat → Bool) {s0 : Shared} (cmp : CmpIn prog w A.in1 s0 P St bt) (S : Addr) (nS : S ∉ fp) (hn : 0 < n) {G0 : Heap} {k0 : Nat} {c : Nat} (st : St 0 G0)
    (hS : G0.get? S = some { cls := .type "list", dict := none, data := .seq #[] c, slots := #[] })
    (hR : ∀ v G tk, P (argBest bt (n - 1)) v → (∀ b o, b ∉ wr → b ≠ S → G0.get? b = some o → G.get? b = some o) → R (.ok (.ret v)) { s0 with heap := G, toks := tk }) :
    codeAny (model prog w) A (.builtin "min.loop" ⟨[.ref I, .none, .ref S], []⟩) R { s0 with heap := G0, toks := k0 } := by
  have nw : S ∉ wr := fun q => nS (W.sub _ q)
  have nm : (toString "min" ++ toString ".loop" : String) = "min.loop" := by decide
  refine codeAny_builtin F.entry_min_loop ?_
  rw [Around.under_plainId F.plain_min_loop _]
  refine (show wpAny _ A.in1 (seqItems? (.ref S) >>= _) _ _ { s0 with heap := G0, toks := k0 } from wpAny_bind (wpAny_seqItems hS rfl ?_))
  refine (show wpAny _ A.in1 (tryCatch (pyNext (.ref I)) _ >>= _) _ _ { s0 with heap := G0, toks := k0 } from wpAny_bind (wpAny_tryCatch (W.item 0 { s0 with heap := G0, toks := k0 } _ _ hn st fun x G tk px st2 kp => ?_)))
  have hS2 := kp S _ nw hS
  refine (show wpAny _ A.in1 (updateSeq S (fun _ => #[x, x]) >>= _) _ _ _ from wpAny_bind (wpAny_updateSeq hS2 rfl ?_))
  rw [nm]
  refine wpAny_pure ⟨plainId_quiet F.plain_min_loop _, min_again W bt cmp S nS _ 0 _ _ x _ rfl hn (W.frame _ _ _ st2 fun b hf o e => (Heap.get?_update_other _ _ (fun q : S = b => nS (by rw [q]; exact hf))).trans e) px (Heap.get?_update_self _ hS2 rfl) fun v G2 tk2 pv kp2 => ?_⟩
  exact hR v G2 tk2 pv fun b o h1 h2 e => kp2 b o h1 h2 ((Heap.get?_update_other _ _ (Ne.symm h2)).trans (kp b o h1 e))
end
section
variable {prog : Program} {w : World} {A : Around} {E : Value → Shared → Prop} {s : Shared}
theorem min_of_list {l : Addr} {its : Array Value} {Q : Value → Shared → Prop} (bt : Nat → Nat → Bool) (hh : A.handled = none) (hl : s.heap.IsList l its) (hn : 0 < its.size)
    (cmp : ∀ i j x y (G : Heap) (tk : Nat) (Q : Value → Shared → Prop) (E : Value → Shared → Prop), (∀ b o, s.heap.get? b = some o → G.get? b = some o) → its[i]? = some x → its[j]? = some y → Q (.bool (bt i j)) { s with heap := G, toks := tk } → wpAny (model prog w) A.in1 (richCompare .Lt x y) Q E { s with heap := G, toks := tk })
    (h : ∀ v G tk, its[argBest bt (its.size - 1)]? = some v → (∀ b o, s.heap.get? b = some o → G.get? b = some o) → Q v { s with heap := G, toks := tk }) : wpAny (model prog w) A (call (.builtin "min") [.ref l]) Q E s := by
  have nm : (toString "min" ++ toString ".loop" : String) = "min.loop" := by decide
  have hll : l < s.heap.objs.size := by obtain ⟨_, e, _⟩ := hl; exact Heap.lt_size e
  refine call_function_tree F.kind_min F.plain_min F.entry_min (F.args_min1 _) ?_
  refine (show wpAny _ A.in1 (Builtin.Builtins.bindParams "min" ["key", "default"] 0 ⟨[], []⟩ >>= _) _ _ s from wpAny_bind (wpAny_of_eq (show Builtin.Builtins.bindParams "min" ["key", "default"] 0 ⟨[], []⟩ = pure [none, none] from rfl) (wpAny_bind (wpAny_pure (wpAny_bind (wpAny_pyIter_list hl (wpAny_bind (wpAny_newObj_type ?_))))))))
  generalize hG : s.heap.push { cls := .type "list_iterator", data := .fields #[.ref l, .int 0 0] } = G
  generalize hI : s.heap.objs.size = I at *
  have nl : l ≠ I := Nat.ne_of_lt hll
  have gs : G.objs.size = I + 1 := by rw [← hG, Heap.size_push, hI]
  have W0 := Walks.list (prog := prog) (w := w) (A := A.in1) hh I l nl its
  have W : Walks prog w A.in1 I ([I, l] ++ List.range I) [I] its.size (fun i v => its[i]? = some v) (fun i h => (h.IsListIter I l i ∧ h.IsList l its) ∧ ∀ b o, s.heap.get? b = some o → h.get? b = some o) := {
    sub := fun b hb => List.mem_append_left _ (W0.sub b hb)
    frame := fun i h h' st k => ⟨W0.frame i h h' st.1 fun b hb o e => k b (List.mem_append_left _ hb) o e, fun b o e => k b (List.mem_append_right _ (List.mem_range.mpr (by have := Heap.lt_size e; rw [hI] at this; exact this))) o (st.2 b o e)⟩
    item := fun i t Q E hi st hQ => W0.item i t Q E hi st.1 fun v G' tk pv st' k => hQ v G' tk pv ⟨st', fun b o e => k b o (fun z => by
      have z' : b = I := by simpa using z
      have := Heap.lt_size e
      rw [hI, z'] at this
      exact absurd this (Nat.lt_irrefl _)) (st.2 b o e)⟩ k
    done := fun t Q E st hQ => W0.done t Q E st.1 hQ
    self := fun i t Q E st hQ => W0.self i t Q E st.1 hQ }
  have nS : G.objs.size ∉ [I, l] ++ List.range I := fun z => by
    rw [gs] at z
    rcases List.mem_append.mp z with q | q
    · simp only [List.mem_cons, List.not_mem_nil, or_false] at q
      rcases q with q | q
      · exact absurd q (Nat.succ_ne_self I)
      · exact (nlt2 hll q).elim
    · exact absurd (List.mem_range.mp q) (Nat.not_lt_of_lt (Nat.lt_succ_self I))
  have kp : ∀ b o, s.heap.get? b = some o → G.get? b = some o := fun b o e => by rw [← hG]; exact Heap.get?_push_of_some _ e
  have st0 : G.IsListIter I l 0 ∧ G.IsList l its := ⟨⟨_, by rw [← hG, ← hI]; exact Heap.get?_push_size _ rfl, rfl, rfl⟩, by rw [← hG]; exact hl.push _⟩
  rw [nm]
  refine wpAny_pure ⟨plainId_quiet F.plain_min_loop _, min_start (s0 := s) W bt (fun i j k x y G' tk Q E st px py hq => cmp i j x y G' tk Q E st.2 px py hq) G.objs.size nS hn (W.frame 0 G _ ⟨st0, kp⟩ fun b _ o e => Heap.get?_push_of_some _ e) (Heap.get?_push_size _ rfl) fun v G' tk pv k => ?_⟩
  exact h v G' tk pv fun b o e => k b o (fun z => by
    have z' : b = I := by simpa using z
    have := Heap.lt_size e
    rw [hI, z'] at this
    exact absurd this (Nat.lt_irrefl _)) (fun z => by
    have := Heap.lt_size (kp b o e)
    rw [z] at this
    exact absurd this (Nat.lt_irrefl _)) (Heap.get?_push_of_some _ (kp b o e))
end
end L2

set_option Elab.async false
set_option linter.all false
set_option maxRecDepth 100000
set_option maxHeartbeats 4000000
namespace L2
open PySem PySem.Spec PyProof.Rows

/-! ### sum, abs, list.index -/
theorem preSum_of {val : Nat → Int} : ∀ (ns : List Int) (k : Nat), k ≤ ns.length → (∀ i n, ns[i]? = some n → val i = n) → preSum val k = (ns.take k).sum
  | ns, 0, _, _ => by simp [preSum]
  | ns, k + 1, h, hv => by
    have hk : ns[k]? = some ns[k] := List.getElem?_eq_getElem (by omega)
    rw [preSum, preSum_of ns k (by omega) hv, hv k _ hk, List.take_succ, hk, Option.toList_some, List.sum_append]
    simp
section
variable {X : Cx}
end
end L2

set_option Elab.async false
set_option linter.all false
set_option maxRecDepth 100000
set_option maxHeartbeats 4000000
namespace L2
open PySem PySem.Spec PyProof.Rows

/-! ### zip of two tuples -/
section
variable {prog : Program} {w : World} {A : Around} {E : Value → Shared → Prop} {s : Shared}
theorem tn_item {c t : Addr} {i : Nat} {its : Array Value} {v : Value} {Q : Value → Shared → Prop} (hi : s.heap.IsTupleIter c t i) (ht : s.heap.IsTuple t its) (hv : its[i]? = some v)
    (k : ∀ G, G.IsTupleIter c t (i + 1) → Heap.SameBut c s.heap G → Q v { s with heap := G }) : wpAny (model prog w) A (Builtin.SmallTypes.nextOf (.ref c)) Q E s := by
  obtain ⟨o, e, cl, d⟩ := id hi
  obtain ⟨o2, e2, _, n2, d2⟩ := ht
  unfold Builtin.SmallTypes.nextOf
  refine wpAny_bind (wpAny_callSpecial?_slot (name := Str.ofString "__next__") hi.typeIs F.slot_tuple_iterator_next (wpAny_call_entry F.slot_tuple_iterator_next hi.typeIs F.entry_tuple_iterator_next ?_ (F.args_tuple_iterator_next_1 _)))
  refine (show wpAny _ _ (field (.ref c) 0 >>= _) _ _ s from wpAny_bind (wpAny_field e d (x := .ref t) rfl ?_))
  refine (show wpAny _ _ (if (Value.ref t == Value.none) = true then _ else _) _ _ s from ?_); rw [if_neg (show ¬ ((Value.ref t == Value.none) = true) from Bool.false_ne_true)]
  refine (show wpAny _ _ (field (.ref c) 1 >>= _) _ _ s from wpAny_bind (wpAny_field e d (x := .int i 0) rfl ?_))
  refine (show wpAny _ _ (seqItems? (.ref t) >>= _) _ _ s from wpAny_bind (wpAny_seqItems e2 d2 ?_)); simp only [Int.toNat_natCast, hv]
  refine wpAny_bind (wpAny_setField e d (by simp) (wpAny_pure ⟨v, rfl, wpAny_pure (k _ ⟨_, Heap.get?_update_self _ e (Obj.isFreed_of_fields (Obj.data_mapFields d _)), (Obj.cls_mapFields ..).trans cl, by rw [Obj.data_mapFields d]; simp [rawInt]⟩ (Heap.SameBut.update ..))⟩))
theorem tn_end {c t : Addr} {i : Nat} {its : Array Value} {Q : Value → Shared → Prop} (hh : A.handled = none) (hi : s.heap.IsTupleIter c t i) (ht : s.heap.IsTuple t its) (hv : its[i]? = none)
    (k : ∀ G x, Heap.ExtBut c s.heap G → (∃ o, G.get? x = some o ∧ o.cls = .type "StopIteration") → E (.ref x) { s with heap := G }) : wpAny (model prog w) A (Builtin.SmallTypes.nextOf (.ref c)) Q E s := by
  obtain ⟨o, e, cl, d⟩ := id hi
  obtain ⟨o2, e2, _, n2, d2⟩ := ht
  unfold Builtin.SmallTypes.nextOf
  refine wpAny_bind (wpAny_callSpecial?_slot (name := Str.ofString "__next__") hi.typeIs F.slot_tuple_iterator_next (wpAny_call_entry F.slot_tuple_iterator_next hi.typeIs F.entry_tuple_iterator_next ?_ (F.args_tuple_iterator_next_1 _)))
  refine (show wpAny _ _ (field (.ref c) 0 >>= _) _ _ s from wpAny_bind (wpAny_field e d (x := .ref t) rfl ?_))
  refine (show wpAny _ _ (if (Value.ref t == Value.none) = true then _ else _) _ _ s from ?_); rw [if_neg (show ¬ ((Value.ref t == Value.none) = true) from Bool.false_ne_true)]
  refine (show wpAny _ _ (field (.ref c) 1 >>= _) _ _ s from wpAny_bind (wpAny_field e d (x := .int i 0) rfl ?_))
  refine (show wpAny _ _ (seqItems? (.ref t) >>= _) _ _ s from wpAny_bind (wpAny_seqItems e2 d2 ?_)); simp only [Int.toNat_natCast, hv]
  refine wpAny_bind (wpAny_rule (wpAny_bind (wpAny_setField e d (by simp) (show wpAny _ _ (newExc (.type "StopIteration") [] >>= _) _ _ _ from wpAny_bind ?_)))); simp only [newExc, newTuple]
  refine wpAny_bind (wpAny_newObj_type (wpAny_bind (m := firstArgMember _ _) (wpAny_of_eq (a := Value.none) (by first | rfl | (simp only [firstArgMember]; rfl)) (wpAny_newObj_type ?_ (by size_fits)))) (by size_fits)); simp only [raiseNew]
  refine wpAny_bind (wpAny_handled ?_); (first | rw [show A.in1.handled = none from hh] | rw [hh])
  exact wpAny_bind (wpAny_pure (wpAny_throw (k _ _ (((Heap.SameBut.update ..).extBut.push _).push _) ⟨_, Heap.get?_push_size _ rfl, rfl⟩)))
end
end L2

set_option Elab.async false
set_option linter.all false
set_option maxRecDepth 100000
set_option maxHeartbeats 4000000
namespace L2
open PySem PySem.Spec PyProof.Rows
section
variable {prog : Program} {w : World} {A : Around} {E : Value → Shared → Prop} {s : Shared}
end
section
variable {X : Cx}
end
end L2

set_option Elab.async false
set_option linter.all false
set_option maxRecDepth 100000
set_option maxHeartbeats 4000000
namespace L2
open PySem PySem.Spec PyProof.Rows

/-! ### the keys of a dict whose keys are tuples, walked -/
section
variable {prog : Program} {w : World} {A : Around} {E : Value → Shared → Prop} {s : Shared}
theorem dk_next {c d : Addr} {i ep : Nat} {o : Obj} {es : Array DictEntry} {Q : Option Value → Shared → Prop} (hi : s.heap.IsKeyIter c d i es.size ep) (ho : s.heap.get? d = some o) (hd : o.data = .dict es ep) (lt : i < es.size)
    (q : ∀ G, G.IsKeyIter c d (i + 1) es.size ep → Heap.SameBut c s.heap G → Q (some es[i].key) { s with heap := G }) : wpAny (model prog w) A (pyNext (.ref c)) Q E s := by
  obtain ⟨oc, e, cl, dc⟩ := id hi
  have own : Builtin.Dict_items.ownsTuple "dict_keyiterator" = false := by decide
  unfold pyNext
  refine wpAny_bind (wpAny_attempt (wpAny_callSpecial?_slot (name := Str.ofString "__next__") hi.typeIs F.slot_dict_keyiterator_next (wpAny_call_entry F.slot_dict_keyiterator_next hi.typeIs F.entry_dict_keyiterator_next ?_ (F.args_dict_keyiterator_next_1 _))))
  refine wpAny_bind (wpAny_pure (wpAny_bind (wpAny_bind ?_)))
  (first | refine wpAny_bind (wpAny_typeNameOfWhole_keyiter hi.typeIs (wpAny_pure (wpAny_bind (wpAny_fieldsOf e dc ?_)))) | refine wpAny_bind (wpAny_typeNameOf_keyiter hi.typeIs (wpAny_pure (wpAny_bind (wpAny_fieldsOf e dc ?_))))); simp only [own, Bool.false_eq_true, if_false]
  refine (show wpAny _ _ (if (Value.ref d == Value.none) = true then _ else _) _ _ s from ?_); rw [if_neg (show ¬ ((Value.ref d == Value.none) = true) from Bool.false_ne_true)]
  refine wpAny_bind (wpAny_pure (wpAny_bind (wpAny_dictEntries ho hd ?_))); rw [if_neg (by simp)]
  refine wpAny_bind (wpAny_pure (wpAny_bind (wpAny_dictEpoch ho hd ?_))); rw [if_neg (by simp)]
  refine wpAny_pure ?_; simp only [show ¬ ((i : Int) < 0) from by omega, if_false, Int.toNat_natCast, Array.getElem?_eq_getElem lt]
  refine wpAny_bind ?_; (first | refine wpAny_bind (wpAny_typeNameOfWhole_keyiter hi.typeIs (wpAny_pure (wpAny_bind (wpAny_isOneOf_keyiter hi.typeIs ?_)))) | refine wpAny_bind (wpAny_typeNameOf_keyiter hi.typeIs (wpAny_pure (wpAny_bind (wpAny_isOneOf_keyiter hi.typeIs ?_)))))
  refine (show wpAny _ _ (setField (.ref c) 1 (rawInt ((i : Int) + 1)) >>= _) _ _ s from wpAny_bind (wpAny_setField e dc (by simp) ?_))
  have hi2 : (s.heap.update c (Obj.mapFields (·.setIfInBounds 1 (rawInt ((i : Int) + 1))))).IsKeyIter c d (i + 1) es.size ep := ⟨_, Heap.get?_update_self _ e (Obj.isFreed_of_fields (Obj.data_mapFields dc _)), (Obj.cls_mapFields ..).trans cl, by rw [Obj.data_mapFields dc]; simp [rawInt]⟩
  refine wpAny_bind (wpAny_holding (wpAny_bind (wpAny_isOneOf_keyiter (s := { s with heap := s.heap.update c (Obj.mapFields (·.setIfInBounds 1 (rawInt ((i : Int) + 1)))) }) hi2.typeIs ?_)))
  exact (show wpAny _ _ (pure es[i].key) _ _ _ from wpAny_pure (wpAny_pure ⟨_, rfl, wpAny_pure (q _ hi2 (Heap.SameBut.update ..))⟩))
theorem dk_end {c d : Addr} {i ep : Nat} {o : Obj} {es : Array DictEntry} {Q : Option Value → Shared → Prop} (hh : A.handled = none) (hi : s.heap.IsKeyIter c d i es.size ep) (ho : s.heap.get? d = some o) (hd : o.data = .dict es ep) (ge : es.size ≤ i)
    (q : ∀ G, Heap.ExtBut c s.heap G → Q none { s with heap := G }) : wpAny (model prog w) A (pyNext (.ref c)) Q E s := by
  obtain ⟨oc, e, cl, dc⟩ := id hi
  have own : Builtin.Dict_items.ownsTuple "dict_keyiterator" = false := by decide
  unfold pyNext
  refine wpAny_bind (wpAny_attempt (wpAny_callSpecial?_slot (name := Str.ofString "__next__") hi.typeIs F.slot_dict_keyiterator_next (wpAny_call_entry F.slot_dict_keyiterator_next hi.typeIs F.entry_dict_keyiterator_next ?_ (F.args_dict_keyiterator_next_1 _))))
  refine wpAny_bind (wpAny_pure (wpAny_bind (wpAny_bind ?_)))
  (first | refine wpAny_bind (wpAny_typeNameOfWhole_keyiter hi.typeIs (wpAny_pure (wpAny_bind (wpAny_fieldsOf e dc ?_)))) | refine wpAny_bind (wpAny_typeNameOf_keyiter hi.typeIs (wpAny_pure (wpAny_bind (wpAny_fieldsOf e dc ?_))))); simp only [own, Bool.false_eq_true, if_false]
  refine (show wpAny _ _ (if (Value.ref d == Value.none) = true then _ else _) _ _ s from ?_); rw [if_neg (show ¬ ((Value.ref d == Value.none) = true) from Bool.false_ne_true)]
  refine wpAny_bind (wpAny_pure (wpAny_bind (wpAny_dictEntries ho hd ?_))); rw [if_neg (by simp)]
  refine wpAny_bind (wpAny_pure (wpAny_bind (wpAny_dictEpoch ho hd ?_))); rw [if_neg (by simp)]
  refine wpAny_pure ?_; simp only [show ¬ ((i : Int) < 0) from by omega, if_false, Int.toNat_natCast, Array.getElem?_eq_none ge]
  refine wpAny_bind ?_; (first | refine wpAny_bind (wpAny_typeNameOfWhole_keyiter hi.typeIs (wpAny_pure ?_)) | refine wpAny_bind (wpAny_typeNameOf_keyiter hi.typeIs (wpAny_pure ?_)))
  refine (show wpAny _ _ (setField (.ref c) 0 .none >>= _) _ _ s from wpAny_bind (wpAny_setField e dc (by simp) (show wpAny _ _ (newExc (.type "StopIteration") [] >>= _) _ _ _ from wpAny_bind ?_))); simp only [newExc, newTuple]
  refine wpAny_bind (wpAny_newObj_type (wpAny_bind (m := firstArgMember _ _) (wpAny_of_eq (a := Value.none) (by first | rfl | (simp only [firstArgMember]; rfl)) (wpAny_newObj_type ?_ (by size_fits)))) (by size_fits)); simp only [raiseNew]
  refine wpAny_bind (wpAny_handled ?_); rw [show A.in1.handled = none from hh]
  refine wpAny_bind (wpAny_pure (wpAny_throw ?_)); refine wpAny_bind (wpAny_isInstance (T := "StopIteration") (b := true) ⟨_, Heap.get?_push_size _ rfl, rfl⟩ isSubtype_stop (wpAny_pure (q _ (((Heap.SameBut.update ..).extBut.push _).push _))))
theorem dk_iter {d : Addr} {ep : Nat} {o : Obj} {es : Array DictEntry} {Q : Value → Shared → Prop} (nd : (d == sysModules) = false) (ho : s.heap.get? d = some o) (ex : o.ExactDict) (hd : o.data = .dict es ep)
    (q : Q (.ref s.heap.objs.size) { s with heap := s.heap.push { cls := .type "dict_keyiterator", data := .fields #[.ref d, .int 0 0, .int es.size 0, .int ep 0] } }) : wpAny (model prog w) A (pyIter (.ref d)) Q E s := by
  have ty : s.TypeIs (.ref d) "dict" := ⟨o, ho, ex.1⟩
  refine wpAny_pyIter_slot ty F.slot_dict_iter (wpAny_call_entry F.slot_dict_iter ty F.entry_dict_iter ?_ (F.args_dict_iter_1 _))
  unfold Builtin.«dict.__iter__»; refine wpAny_bind ?_; unfold Builtin.Dict.dictSlotNone
  refine wpAny_bind (wpAny_notOrdered_dict ty (show wpAny _ _ (pure (Value.ref d)) _ _ s from wpAny_pure (show wpAny _ _ (Builtin.Dict.showsAll d >>= _) _ _ s from ?_))); unfold Builtin.Dict.showsAll; rw [if_neg (by rw [nd]; exact Bool.false_ne_true)]
  refine wpAny_bind (wpAny_pure (wpAny_bind (wpAny_dictEntries ho hd (wpAny_bind (wpAny_dictEpoch ho hd (wpAny_bind (wpAny_newObj_type (wpAny_pure ⟨_, rfl, "dict_keyiterator", _, ⟨_, Heap.get?_push_size _ rfl, rfl⟩, F.slot_dict_keyiterator_next.lookup, ?_⟩))))))))
  simpa [rawInt] using q
end
/-- a dict is frozen: its record stays as it is -/
theorem Inv.freeze {X : Cx} {pins : List (Addr × Obj)} {σ : St} {H : Hp} {s : Shared} {a : Addr} {o : Obj} {kvs : List (List Key × V)} (I : Inv X pins σ H s) (e : H a = some (.dT kvs)) (ho : s.heap.get? a = some o) : Inv X pins σ (upd H a (.frz o (.dT kvs))) s := by
  have ne : ∀ b u, H b = some u → (∀ k, u ≠ .dT k) → b ≠ a := fun b u q n z => by
    rw [z, e] at q
    cases q
    exact n _ rfl
  have st : ∀ {b : Addr} {u : HO}, ObjOk X.prog X.w H s.heap b u → ObjOk X.prog X.w (upd H a (.frz o (.dT kvs))) s.heap b u := fun x => x.stay (fun _ _ _ q => q) (fun b q => by rw [upd_ne (ne b _ q (by intro k z; cases z))]; exact q) fun b xs q => by rw [upd_ne (ne b _ q (by intro k z; cases z))]; exact q
  refine I.step (h' := s.heap) (g' := s.gens) (t' := s.toks) (d' := s.drawn) (ch := []) (fun _ z => nomatch z) (fun b o _ _ _ q _ => q) (fun b o _ _ _ q _ => ⟨o.slots, q⟩) (fun b o' _ q n => ?_) (fun b o _ q => ⟨o, q⟩) (fun b xs q => ?_) (fun b o u q => ?_) (fun b ps q => ?_) (fun m h => h) (fun b u q => ?_) I.bare
  · rw [upd_ne (fun z => by rw [z, e] at n; cases n)]; exact n
  · rw [upd_ne (ne b _ q (by intro k z; cases z))]; exact q
  · rw [upd_ne (ne b _ q (by intro k z; cases z))]; exact q
  · exact ⟨#[], by rw [upd_ne (ne b _ q (by intro k z; cases z)), q]; simp⟩
  · by_cases hb : b = a
    · subst hb
      rw [upd_same] at q
      cases q
      exact ⟨ho, st (I.hok b _ e)⟩
    · rw [upd_ne hb] at q
      exact st (I.hok b u q)
noncomputable def Itd (a : Addr) (o : Obj) : It :=
  ⟨fun i H => ∃ kvs, H a = some (.frz o (.dT kvs)) ∧ i < kvs.length,
   fun i H v H' => H' = H ∧ ∀ kvs, H a = some (.frz o (.dT kvs)) → ∃ p b, kvs[i]? = some p ∧ v = .ref b ∧ H b = some (.tup (p.1.map kV)),
   fun i H => ∃ kvs, H a = some (.frz o (.dT kvs)) ∧ kvs.length ≤ i⟩
theorem Paired.at {α β : Type} {F : α → β → Prop} : ∀ {l : List α} {m : List β}, Paired F l m → ∀ {i : Nat} {x : α}, l[i]? = some x → ∃ y, m[i]? = some y ∧ F x y
  | _, _, .cons r t, 0, x, h => by simp at h; subst h; exact ⟨_, rfl, r⟩
  | _, _, .cons r t, i + 1, x, h => by simpa using Paired.at t (by simpa using h)
theorem turn_dict {P : Program} {w : World} {K : PySem.W.Frag} {tg : Expr} (a it : Addr) (o : Obj) (es : Array DictEntry) (ep : Nat) (hd : o.data = .dict es ep) : Turn P w K tg (Itd a o) [it] it (fun i h => h.IsKeyIter it a i es.size ep) where
  mem := by simp
  obj := fun i h st b hb => by
    have e : b = it := by simpa using hb
    subst e
    obtain ⟨o, e, c, d⟩ := st
    exact ⟨o, e, fun v z => by rw [d] at z; cases z⟩
  keep := fun i h h' st k => st.at fun o e => k it (by simp) o e
  item := by
    intro X hP hw hK hc i pins s σ H E I hf st hg
    subst hP hw hK
    obtain ⟨kvs, ha, lt⟩ := hg
    obtain ⟨ho, _, _, xs, rel, o2, es2, ep2, h1, _, h2, h3, _⟩ := (show ObjOk X.prog X.w H s.heap a (.frz o (.dT kvs)) from I.hok a _ ha)
    rw [ho] at h1
    cases h1
    rw [hd] at h2
    cases h2
    have hl := Paired.length rel
    have hes : es.size = xs.length := size_of_entries h3
    have lt2 : i < es.size := by omega
    obtain ⟨p, hp⟩ : ∃ p, kvs[i]? = some p := ⟨_, List.getElem?_eq_getElem lt⟩
    obtain ⟨y, hy, r1, r2, r3⟩ := Paired.at rel hp
    have ek : es[i].key = .ref y.2.1 := by
      have q := entry_at h3 i
      rw [hy, Array.getElem?_eq_getElem lt2] at q
      simp only [Option.map_some, Option.some.injEq] at q
      rw [q]; rfl
    obtain ⟨f0, f1, f2, f3, f4, f5⟩ := hf it (by simp)
    refine dk_next st ho hd lt2 fun h' st' sb => ?_
    rw [ek]
    have I1 : Inv X pins σ H { s with heap := h' } := I.turned (t' := s.toks) (fun b o hb e => (sb.2 b hb).trans e) f0 f1 f3 f4 f5
    obtain ⟨o', e, c, d⟩ := id st'
    exact ⟨_, rfl, go_of (s := { s with heap := h' }) e c d (by decide) ⟨.ref y.2.1, H, I1, rfl, ⟨rfl, fun kvs' ha' => by rw [ha] at ha'; cases ha'; exact ⟨p, _, hp, rfl, r2⟩⟩, st', fun b hb => (hf b hb).1⟩⟩
  done := by
    intro X hP hw hK hc i pins s σ H E I hf st hg
    subst hP hw hK
    obtain ⟨kvs, ha, ge⟩ := hg
    obtain ⟨ho, _, _, xs, rel, o2, es2, ep2, h1, _, h2, h3, _⟩ := (show ObjOk X.prog X.w H s.heap a (.frz o (.dT kvs)) from I.hok a _ ha)
    rw [ho] at h1
    cases h1
    rw [hd] at h2
    cases h2
    have hl := Paired.length rel
    have hes : es.size = xs.length := size_of_entries h3
    obtain ⟨f0, f1, f2, f3, f4, f5⟩ := hf it (by simp)
    exact dk_end (I.ok.hd hc) st ho hd (by omega) fun h' eb => ⟨rfl, I.turned (t' := s.toks) (fun b o hb e => eb b o hb e) f0 f1 f3 f4 f5⟩
  self := fun _ _ _ _ _ st h => wpAny_pyIter_keyiter st h
section
variable {X : Cx} {tg : Expr}
noncomputable def iDict (tl : TE) : TI := fun σ H R => tl σ H fun x H1 => ∃ a kvs, x = .ref a ∧ H1 a = some (.dT kvs) ∧ ∀ o, R (Itd a o) (upd H1 a (.frz o (.dT kvs)))
theorem pi_dict {l : Expr} {tl : TE} (hl : PE X l tl) : PI X tg l (iDict tl) := by
  intro pins s σ H R I h
  refine thn (hl pins s σ H _ I h) fun v s1 ⟨x, H1, I1, r1, q1⟩ => ?_
  obtain ⟨a, kvs, rfl, ha, q⟩ := q1
  cases r1
  obtain ⟨_, nd, xs, rel, o, es, ep, ho, ex, hd, h3, _⟩ := (show ObjOk X.prog X.w H1 s1.heap a (.dT kvs) from I1.hok a _ ha)
  refine dk_iter nd ho ex hd ?_
  have I2 := I1.freeze ha ho
  refine ⟨s1.heap.objs.size, [s1.heap.objs.size], _, _, _, rfl, I2.kept (t' := s1.toks) fun b o e => Heap.get?_push_of_some _ e, turn_dict a _ o es ep hd, ⟨_, Heap.get?_push_size _ rfl, rfl, rfl⟩, fun b hb => ?_, q o⟩
  have e : b = s1.heap.objs.size := by simpa using hb
  subst e
  exact I2.fpOk (Nat.le_refl _) (I2.hok.fresh (Nat.le_refl _))
end
end L2

set_option Elab.async false
set_option linter.all false
set_option maxRecDepth 100000
set_option maxHeartbeats 4000000
namespace L2
open PySem PySem.Spec PyProof.Rows
section
variable {X : Cx} {scope : Scope} {N : List Str} {ix : List (Option Nat)}
variable {tg iter kx vx : Expr} {ifs : List Expr} {pos : Pos} {g : TG} {tt : TT} {tk tv : TE}
end
end L2

set_option Elab.async false
set_option linter.all false
set_option maxRecDepth 100000
set_option maxHeartbeats 4000000
namespace L2
open PySem PySem.Spec PyProof.Rows

/-! ### methods -/
/-- a method call o.m(e) of a built-in, with one argument: what must be seen of the text -/
structure M1 (X : Cx) (o : Expr) (m : Str) (apos : Pos) (e : Expr) (cpos : Pos) : Prop where
  base : attributeBase o m X.env (eval o X.env) = eval o X.env
  few : ((backTo cpos (starEach [e] X.env)).all (fun x => !x.1) && (backToKw cpos (keywordEach [] X.env)).all (fun x => x.1.isSome)
    && decide (([e] : List Expr).length + ([] : List Keyword).length + (if ([] : List Keyword).isEmpty then 0 else 1) < 30)) = true
  line : (apos.endLine == cpos.line) = true
  trees : backTo cpos (starEach [e] X.env) = [(false, eval e X.env)]
structure M2 (X : Cx) (o : Expr) (m : Str) (apos : Pos) (e f : Expr) (cpos : Pos) : Prop where
  base : attributeBase o m X.env (eval o X.env) = eval o X.env
  few : ((backTo cpos (starEach [e, f] X.env)).all (fun x => !x.1) && (backToKw cpos (keywordEach [] X.env)).all (fun x => x.1.isSome)
    && decide (([e, f] : List Expr).length + ([] : List Keyword).length + (if ([] : List Keyword).isEmpty then 0 else 1) < 30)) = true
  line : (apos.endLine == cpos.line) = true
  trees : backTo cpos (starEach [e, f] X.env) = [(false, eval e X.env), (false, eval f X.env)]

section
variable {X : Cx} {pins : List (Addr × Obj)} {σ : St} {H : Hp} {s : Shared} {a : Addr} {y d : V} {u r : Value} {o : Option V} {A : Around} {E : Value → Shared → Prop}
end

section
variable {X : Cx} {o e f : Expr} {apos cpos : Pos} {td ty tx : TE}
end

/-! ### dict(d): a copy -/
section
variable {X : Cx} {pins : List (Addr × Obj)} {σ : St} {H : Hp} {s : Shared} {a : Addr} {kvs : List (Key × V)} {A : Around} {E : Value → Shared → Prop}
end


section
variable {X : Cx} {pins : List (Addr × Obj)} {σ : St} {H : Hp} {s : Shared} {a : Addr} {y : V} {u : Value} {A : Around} {E : Value → Shared → Prop}
end
section
variable {X : Cx}
end
/-! ### a dict's pairs: keys that differ -/
section
variable {κ : Type} [DecidableEq κ]
end
end L2

set_option Elab.async false
set_option linter.all false
set_option maxRecDepth 100000
set_option maxHeartbeats 4000000
namespace L2
open PySem PySem.Spec PyProof.Rows PySem.W PySem.Calls

/-! ### sorted(d): the keys of a dict by texts, sorted -/
section
variable {X : Cx}
end
end L2

set_option Elab.async false
set_option linter.all false
set_option maxRecDepth 100000
set_option maxHeartbeats 4000000
namespace L2
open PySem PySem.Spec PyProof.Rows PySem.W PySem.Calls

/-! ### dict([(k, v), ..]) -/
section
variable {prog : Program} {w : World} {A : Around} {E : Value → Shared → Prop} {s : Shared}
end
section
variable {prog : Program} {w : World} {A : Around} {R : Result → Shared → Prop} {K : Type} [DecidableEq K] {knd : PySem.KeyKind prog w K}
end
end L2

set_option Elab.async false
set_option linter.all false
set_option maxRecDepth 100000
set_option maxHeartbeats 4000000
namespace L2
open PySem PySem.Spec PyProof.Rows PySem.W PySem.Calls
section
variable {X : Cx}
end
end L2

set_option Elab.async false
set_option linter.all false
set_option maxRecDepth 100000
set_option maxHeartbeats 4000000
namespace L2
open PySem PySem.Spec PyProof.Rows

/-! ### enumerate of a list -/
theorem boot_enum : bootBuiltins "enumerate" = some (.type "enumerate") := by decide +kernel
section
variable {X : Cx}
end
end L2

set_option Elab.async false
set_option linter.all false
set_option maxRecDepth 100000
set_option maxHeartbeats 4000000
namespace L2
open PySem PySem.Spec PyProof.Rows PySem.W PySem.Calls
section
variable {X : Cx}
end
end L2

set_option Elab.async false
set_option linter.all false
set_option maxRecDepth 100000
set_option maxHeartbeats 4000000
namespace L2
open PySem PySem.Spec PyProof.Rows PySem.W PySem.Calls
/-! ### a set of texts: how it is kept -/
noncomputable def txtOf : Value → Str
  | .str x _ => x
  | _ => default
/-- a set of the texts ss, none twice, in some order; of a set of texts the order is never led by numbers -/
structure TextSet (w : World) (o : Obj) (ss : List Str) (es : Array (Int × Value)) (ep : Nat) (t : SetTable) : Prop where
  cls : o.cls = .type "set"
  dic : o.dict = none
  slo : o.slots = #[]
  dat : o.data = .set es ep t
  els : ∀ e ∈ es.toList, ∃ tk, e.2 = .str (txtOf e.2) tk ∧ e.1 = hashStr w (txtOf e.2)
  all : (es.toList.map fun e => txtOf e.2).Perm ss
  one : ss.Nodup
  few : ss.length < 4000
  fit : t.fits es.size = true
  led : t.led = !w.params.followText "set-order"
  pla : es.size = 0 ∨ t.plain = false
section
variable {prog : Program} {w : World} {A : Around} {E : Value → Shared → Prop} {s : Shared}
end
end L2

set_option Elab.async false
set_option linter.all false
set_option maxRecDepth 100000
set_option maxHeartbeats 4000000
namespace L2
open PySem PySem.Spec PyProof.Rows PySem.W PySem.Calls
section
variable {prog : Program} {w : World} {A : Around} {E : Value → Shared → Prop} {s : Shared}
end
end L2

set_option Elab.async false
set_option linter.all false
set_option maxRecDepth 100000
set_option maxHeartbeats 4000000
namespace L2
open PySem PySem.Spec PyProof.Rows PySem.W PySem.Calls
section
variable {prog : Program} {w : World} {A : Around} {E : Value → Shared → Prop} {s : Shared}
end
end L2

set_option Elab.async false
set_option linter.all false
set_option maxRecDepth 100000
set_option maxHeartbeats 8000000
namespace L2
open PySem PySem.Spec PyProof.Rows PySem.W PySem.Calls
section
variable {prog : Program} {w : World} {A : Around} {E : Value → Shared → Prop} {s : Shared}

end
end L2

set_option Elab.async false
set_option linter.all false
set_option maxRecDepth 100000
set_option maxHeartbeats 8000000
namespace L2
open PySem PySem.Spec PyProof.Rows PySem.W PySem.Calls
noncomputable def sitF (first : Value) (i : Nat) (a : Addr) (n ep : Nat) : Array Value := #[first, rawInt (i : Int), .ref a, rawInt (n : Int), rawInt (ep : Int)]
/-- an iterator of the set at a, before its i-th -/
noncomputable def IsSit (h : Heap) (I : Addr) (first : Value) (i : Nat) (a : Addr) (n ep : Nat) : Prop := ∃ o, h.get? I = some o ∧ o.cls = .type "set_iterator" ∧ o.data = .fields (sitF first i a n ep)
section
variable {prog : Program} {w : World} {A : Around} {E : Value → Shared → Prop} {s : Shared}
end
end L2

set_option Elab.async false
set_option linter.all false
set_option maxRecDepth 100000
set_option maxHeartbeats 8000000
namespace L2
open PySem PySem.Spec PyProof.Rows PySem.W PySem.Calls
section
variable {prog : Program} {w : World} {A : Around} {E : Value → Shared → Prop} {s : Shared}
end
end L2

set_option Elab.async false
set_option linter.all false
set_option maxRecDepth 100000
set_option maxHeartbeats 8000000
namespace L2
open PySem PySem.Spec PyProof.Rows PySem.W PySem.Calls
section
variable {prog : Program} {w : World} {A : Around} {E : Value → Shared → Prop} {s : Shared}
/-- a walk over a set of texts: in some order, each once -/
structure SetWalk (prog : Program) (w : World) (A : Around) (s s₁ : Shared) (a I : Addr) (ss : List Str) (fp : List Addr) (ws : List Value) (St : Nat → Heap → Prop) : Prop where
  os : s₁.os = s.os
  gens : s₁.gens = s.gens
  toks : s₁.toks = s.toks
  keep : ∀ b o, s.heap.get? b = some o → s₁.heap.get? b = some o
  new : ∀ b ∈ fp, b = a ∨ s.heap.objs.size ≤ b
  newI : s.heap.objs.size ≤ I
  wk : Walks prog w A I fp [I] ss.length (fun i v => ws[i]? = some v) St
  st : St 0 s₁.heap
  txt : ∃ ss', StrsAre ws ss' ∧ ss'.Perm ss
end
end L2

set_option Elab.async false
set_option linter.all false
set_option maxRecDepth 100000
set_option maxHeartbeats 8000000
namespace L2
open PySem PySem.Spec PyProof.Rows PySem.W PySem.Calls
section
variable {prog : Program} {w : World} {A : Around} {E : Value → Shared → Prop} {s : Shared}
end
end L2

set_option Elab.async false
set_option linter.all false
set_option maxRecDepth 100000
set_option maxHeartbeats 8000000
namespace L2
open PySem PySem.Spec PyProof.Rows PySem.W PySem.Calls
section
variable {prog : Program} {w : World} {A : Around} {E : Value → Shared → Prop} {s : Shared}
end
end L2

set_option Elab.async false
set_option linter.all false
set_option maxRecDepth 100000
set_option maxHeartbeats 8000000
namespace L2
open PySem PySem.Spec PyProof.Rows PySem.W PySem.Calls
section
variable {prog : Program} {w : World} {A : Around} {E : Value → Shared → Prop} {s : Shared}
end
end L2

set_option Elab.async false
set_option linter.all false
set_option maxRecDepth 100000
set_option maxHeartbeats 8000000
namespace L2
open PySem PySem.Spec PyProof.Rows PySem.W PySem.Calls
section
variable {X : Cx}
end
end L2

set_option Elab.async false
set_option linter.all false
set_option maxRecDepth 100000
set_option maxHeartbeats 4000000
namespace L2
open PySem PySem.Spec PyProof.Rows PySem.W PySem.Calls
/-! ### the keys of a dict by texts or numbers, walked -/
section
variable {X : Cx} {tg : Expr}
end
end L2

set_option Elab.async false
set_option linter.all false
set_option maxRecDepth 100000
set_option maxHeartbeats 4000000
namespace L2
open PySem
section
variable {X : Cx} {scope : Scope} {N : List Str} {ix : List (Option Nat)}
variable {tg iter kx vx : Expr} {ifs : List Expr} {pos : Pos} {g : TG} {tt : TT} {tk tv : TE}
/-- {..} by tuples, as a value -/
noncomputable def tDc (wi : TI) (g : TG) (tt : TT) (tk tv : TE) (ix : List (Option Nat)) : TE := fun σ H Q => wi σ H fun J H1 => ∀ D, H1 D = none → DcW D J g tt tk tv (emb ix σ) (fun H' => Q (.ref D) H') (upd H1 D (.dT []))
theorem pe_dc {wi : TI} (hu : X.A.units < cLine) (L : LcOk X scope N ix) (hc : X.calm = true) (hi : PI X tg iter wi) (hg : ∀ C s0 H0 fp, PG (cxLc X scope N C s0 H0 fp) tg g)
    (ht : ∀ C s0 H0 fp, PTs (cxLc X scope N C s0 H0 fp) ifs tt) (hk : ∀ C s0 H0 fp, PE (cxLc X scope N C s0 H0 fp) kx tk) (hv : ∀ C s0 H0 fp, PE (cxLc X scope N C s0 H0 fp) vx tv) (hs : ∀ x, foldedSetIterable iter X.env x = pure x := by intro _; rfl) :
    PE X (.DictComp kx vx [⟨tg, iter, ifs, 0⟩] scope pos) (tDc wi g tt tk tv ix) := by
  intro pins s σ H Q I h
  show wpAny _ X.A (comprehension (.DictComp kx vx [⟨tg, iter, ifs, 0⟩] scope pos) scope X.env _ newDict false (eval iter X.env)) _ _ s
  refine wpAny_comprehension_free (use := none) rfl hs (L.clos I.ok) L.kind L.locals (thn (hi pins s σ H _ I h) fun v s1 h1 => thn h1 fun itv s2 h2 => ?_)
  obtain ⟨it, fp, tn, J, H2, rfl, I2, T, st2, f2, hW⟩ := h2
  refine dc_run (RR := fun acc C => compPost (model X.prog X.w) X.A X.xe none (EP X pins σ Q) acc C) L hc hu hg ht hk hv I2 T st2 f2 hW ?_
  intro D C s' m H' hn ho hC hI fin
  exact ⟨m, hn, fun h' hs' => ⟨.ref D, _, hI h' hs', rfl, fin⟩⟩
end
/-- a list or a tuple is walked -/
noncomputable def iOr (t u : TI) : TI := fun σ H R => t σ H R ∨ u σ H R
theorem pi_or {X : Cx} {tg l : Expr} {t u : TI} (h1 : PI X tg l t) (h2 : PI X tg l u) : PI X tg l (iOr t u) := fun pins s σ H R I h =>
  h.elim (h1 pins s σ H R I) (h2 pins s σ H R I)
theorem tfor_seq {K : PySem.W.Frag} {tl : TE} {g : TG} {tb : TS} {D : Ends} {σ : St} {H Hb : Hp} {a : Addr} {xs : List V} (htl : ∀ Q : VK, Q (.ref a) H → tl σ H Q) (hb : Hb a = some (.lst xs) ∨ Hb a = some (.tup xs)) (s0 : Same Hb H) (Pv : Nat → St → Hp → Prop) (h0 : Pv 0 σ H) (hl : ∀ i σ' H', i ≤ xs.length → Pv i σ' H' → Same Hb H')
    (hs : ∀ i x σ H, xs[i]? = some x → Pv i σ H → g x σ H fun σ2 H2 => tb { D with nx := Pv (i + 1), ct := Pv (i + 1), bk := D.nx } σ2 H2) (hd : ∀ σ H, Pv xs.length σ H → D.nx σ H) : tFor (iOr (iList K tl) (iTup K tl)) g tb D σ H := by
  rcases hb with hb | hb
  · exact .inl (htl _ ⟨a, rfl, ⟨xs, SqL.of (s0 _ _ hb)⟩, for_list Pv h0 (fun i σ H' hi p => SqL.of (hl i σ H' hi p _ _ hb)) hs hd⟩)
  · exact .inr (htl _ ⟨a, rfl, ⟨xs, SqT.of (s0 _ _ hb)⟩, for_tup Pv h0 (fun i σ H' hi p => SqT.of (hl i σ H' hi p _ _ hb)) hs hd⟩)
theorem for_dict {a : Addr} {o : Obj} {kvs : List (List Key × V)} {g : TG} {tb : TS} {D : Ends} {σ : St} {H : Hp} (Pv : Nat → St → Hp → Prop) (h0 : Pv 0 σ H) (hl : ∀ i σ H, i ≤ kvs.length → Pv i σ H → H a = some (.frz o (.dT kvs)))
    (hs : ∀ i p b σ H, kvs[i]? = some p → H b = some (.tup (p.1.map kV)) → Pv i σ H → g (.ref b) σ H fun σ2 H2 => tb { D with nx := Pv (i + 1), ct := Pv (i + 1), bk := D.nx } σ2 H2) (hd : ∀ σ H, Pv kvs.length σ H → D.nx σ H) :
    ∃ W : Nat → Nat → St → Hp → Prop, (∃ m, W 0 m σ H) ∧ ∀ i m σ H, W i m σ H →
      ((Itd a o).stop i H ∧ D.nx σ H) ∨ ((Itd a o).go i H ∧ ∃ N : St → Hp → Prop, (∀ σ' H', N σ' H' → ∃ m', m' < m ∧ W (i + 1) m' σ' H') ∧ ∀ x H', (Itd a o).yld i H x H' → g x σ H' fun σ2 H2 => tb { D with nx := N, ct := N, bk := D.nx } σ2 H2) := by
  refine ⟨fun i m σ H => m = kvs.length - i ∧ i ≤ kvs.length ∧ Pv i σ H, ⟨kvs.length, by simp, Nat.zero_le _, h0⟩, ?_⟩
  rintro i m σ H ⟨rfl, hi, p⟩
  have q := hl i σ H hi p
  by_cases hlt : i < kvs.length
  · refine .inr ⟨⟨kvs, q, hlt⟩, Pv (i + 1), fun σ' H' p' => ⟨kvs.length - (i + 1), by omega, rfl, hlt, p'⟩, fun x H' y => ?_⟩
    obtain ⟨e, y⟩ := y
    subst e
    obtain ⟨p', b, e1, rfl, e2⟩ := y kvs q
    exact hs i p' b σ _ e1 e2 p
  · have e : i = kvs.length := by omega
    subst e
    exact .inl ⟨⟨kvs, q, Nat.le_refl _⟩, hd σ H p⟩
end L2

set_option Elab.async false
set_option linter.all false
set_option maxRecDepth 100000
set_option maxHeartbeats 4000000
namespace L2
open PySem PySem.Spec PyProof.Rows PySem.W PySem.Calls
open Builtin
theorem tup_mul (l : Addr) (items : Array Value) (n : Nat) (o : Obj) (x : Int) (u : Tok) (hc : o.cls = .type "tuple") (hd : o.data = .seq items n) (h1 : 0 ≤ x) (h2 : x ≤ 1000) (h0 : items.isEmpty = false) (hz : items.size ≤ 1000) :
    Meets (Builtin.«tuple.__mul__» ⟨[.ref l, .int x u], []⟩) (fun _ R s => s.heap.get? l = some o ∧ (x = 1 → R (.ok (.ret (Value.ref l))) s) ∧ (x ≠ 1 → R (.ok (.ret (Value.ref s.heap.objs.size))) { s with heap := s.heap.push { cls := Value.type "tuple", data := Data.seq (List.foldl (fun x1 x2 => x1 ++ x2) #[] (List.replicate x.toNat items)) }, toks := s.toks })) :=
  .of_wp fun prog w A R s h => by
    obtain ⟨hp, g, d, tk, os⟩ := s
    obtain ⟨hl, k1, k2⟩ := h
    have c1 : (decide (x < -(2 ^ 63)) || decide (x ≥ 2 ^ 63)) = false := by simp; omega
    have hT : (⟨hp, g, d, tk, os⟩ : Shared).TypeIs (.ref l) "tuple" := ⟨o, hl, hc⟩
    unfold Builtin.«tuple.__mul__»
    wp_walk
    rw [if_neg (by rw [c1]; exact Bool.false_ne_true)]
    have itm : ∀ {Q : Array Value → Shared → Prop} {E : Value → Shared → Prop}, Q items ⟨hp, g, d, tk, os⟩ → wpAny (model prog w) A.in1 (Tuple.tupleItemsOf (.ref l)) Q E ⟨hp, g, d, tk, os⟩ := fun q => by
      unfold Tuple.tupleItemsOf
      refine wpAny_bind ?_
      unfold seqItems?
      refine wpAny_bind (wpAny_load hl ?_)
      rw [hd]
      exact wpAny_pure (wpAny_pure q)
    refine wpAny_bind (itm ?_)
    rw [h0]
    by_cases c : x = 1
    · subst c
      rw [if_pos (by rfl)]
      wp_walk
      exact ⟨_, rfl, k1 rfl⟩
    · rw [if_neg (by simpa using c)]
      by_cases c0 : x = 0
      · subst c0
        rw [if_pos (by rfl)]
        wp_walk
        refine ⟨_, rfl, ?_⟩
        exact k2 c
      · have hp1 : ¬ ((decide (x ≤ 0) || false) = true) := by simp; omega
        have hb : (items.size : Int) * x ≤ 1000 * 1000 := Int.mul_le_mul (by omega) h2 h1 (by decide)
        rw [if_neg hp1, if_neg (by omega), if_neg (by unfold Tuple.tupleTooMany; simp; rw [sizeLine_eq]; omega)]
        unfold Tuple.tupleExact
        refine wpAny_bind (wpAny_newObj_type ?_ ?_)
        · exact wpAny_pure ⟨_, rfl, k2 c⟩
        · have e := foldl_rep items.toList x.toNat []
          rw [List.nil_append] at e
          have e' : List.foldl (fun x1 x2 : Array Value => x1 ++ x2) #[] (List.replicate x.toNat items) = (List.replicate x.toNat items.toList).flatten.toArray := by
            rw [← e]
          rw [e']
          show (List.replicate x.toNat items.toList).flatten.toArray.size ≤ sizeLine
          have hx : x.toNat ≤ 1000 := by omega
          rw [List.size_toArray, len_rep, sizeLine_eq]
          have := Nat.mul_le_mul hx (show items.toList.length ≤ 1000 by simpa using hz)
          omega
theorem noFill_tuple_mul : fillsNumberSlot (.type "tuple") "mul" = pure false :=
  PySem.fillsNumberSlot_seq (id := "tuple.__mul__") (r := some (.builtin "tuple.__rmul__")) F.slot_tuple_mul.lookup (by decide +kernel) F.slot_tuple_rmul.lookup (by decide +kernel)
theorem repeat_tuple : seqRepeat? (.type "tuple") = pure (some (.builtin "tuple.__mul__")) := by
  unfold seqRepeat?
  have e1 := PySem.seqSlot_of (T := "tuple") (name := "__mul__") (id := "tuple.__mul__") F.slot_tuple_mul.lookup (by decide +kernel)
  have e2 := PySem.seqSlot_of (T := "tuple") (name := "__rmul__") (id := "tuple.__rmul__") F.slot_tuple_rmul.lookup (by decide +kernel)
  rw [e1, e2]; rfl
theorem rmul_tuple (a : Int) (t : Tok) (l : Addr) (o : Obj) (its : Array Value) (n : Nat) (hc : o.cls = .type "tuple") (hd : o.data = .seq its n) :
    Meets (Builtin.«int.__rmul__» ⟨[.int a t, .ref l], []⟩) (fun _ R s => s.heap.get? l = some o ∧ R (.ok (.ret Value.notImplemented)) s) :=
  .of_wp fun prog w A R s h => by
    obtain ⟨hp, g, d, tk, os⟩ := s
    obtain ⟨hl, h⟩ := h
    have hT : (⟨hp, g, d, tk, os⟩ : Shared).TypeIs (.ref l) "tuple" := ⟨o, hl, hc⟩
    wp_walk
    rw [hd]
    wp_walk
    exact ⟨_, rfl, h⟩
/-- a tuple times a whole number -/
noncomputable def rRepT : R2 := fun x y H Q => ∃ l k xs, x = .ref l ∧ y = .int k ∧ H l = some (.tup xs) ∧ xs ≠ [] ∧ xs.length ≤ 1000 ∧ 0 ≤ k ∧ k ≤ 1000 ∧ (k = 1 → Q (.ref l) H) ∧ (k ≠ 1 → ∀ p, H p = none → Q (.ref p) (upd H p (.tup (List.replicate k.toNat xs).flatten)))
theorem op_repT {X : Cx} : OpR X (binaryOp .Mult) rRepT := by
  intro pins s σ H x y v u Q I rx ry h
  obtain ⟨l, k, xs, rfl, rfl, hH, hne, hz, h1, h2, q1, q2⟩ := h
  cases rx
  obtain ⟨t, rfl⟩ := ry
  obtain ⟨_, its, r, o, e, hc, n, hd⟩ := (show ObjOk X.prog X.w H s.heap l (.tup xs) from I.hok l _ hH)
  have hl := r.length
  have h0 : its.toArray.isEmpty = false := by
    cases its with
    | nil => cases xs with
      | nil => exact absurd rfl hne
      | cons _ _ => cases hl
    | cons _ _ => rfl
  have hnew : List.foldl (fun x1 x2 : Array Value => x1 ++ x2) #[] (List.replicate k.toNat its.toArray) = (List.replicate k.toNat its).flatten.toArray := by
    have := foldl_rep its k.toNat []
    rw [List.nil_append] at this
    exact this
  refine wpAny_binaryOp_repeat_ref (T := "tuple") (U := "int") (by decide) ⟨_, e, hc⟩ (fun s' => typeIs_int s' k t) noFill_tuple_mul F.fills_int_mul F.slot_int_rmul repeat_tuple F.slot_int_index.lookup
    (call_meets F.slot_int_rmul (typeIs_int s k t) F.entry_int_rmul (F.args_int_rmul_2 _ _) (rmul_tuple k t l o _ n hc hd)
      ⟨e, rfl, ⟨_, e, hc⟩, call_meets F.slot_tuple_mul ⟨_, e, hc⟩ F.entry_tuple_mul (F.args_tuple_mul_2 _ _) (tup_mul l its.toArray n o k t hc hd h1 h2 h0 (by rw [List.size_toArray]; omega)) ⟨e, fun c => ?_, fun c => ?_⟩⟩)
  · exact ⟨.ref l, H, I, rfl, q1 c⟩
  · rw [hnew]
    have hb : (List.replicate k.toNat xs).flatten.length ≤ sizeLine := by
      have hx : k.toNat ≤ 1000 := by omega
      rw [len_rep, sizeLine_eq]
      have := Nat.mul_le_mul hx hz
      omega
    refine ⟨.ref s.heap.objs.size, _, I.laid (a := s.heap.objs.size) (o := .tup (List.replicate k.toNat xs).flatten) (t' := s.toks) (fun b u q => Heap.get?_push_of_some _ q) (Nat.le_refl _) ⟨hb, _, r.rep k.toNat, ?_⟩, rfl, q2 c _ (I.hok.fresh (Nat.le_refl _))⟩
    exact ⟨_, Heap.get?_push_size _ rfl, rfl, 0, rfl⟩
/-- the same, whichever tuple it is -/
noncomputable def rRepU : R2 := fun x y H Q => ∃ l k xs, x = .ref l ∧ y = .int k ∧ H l = some (.tup xs) ∧ xs ≠ [] ∧ xs.length ≤ 1000 ∧ 0 ≤ k ∧ k ≤ 1000 ∧ ∀ p H', Same H H' → H' p = some (.tup (List.replicate k.toNat xs).flatten) → Q (.ref p) H'
theorem op_repU {X : Cx} : OpR X (binaryOp .Mult) rRepU := by
  intro pins s σ H x y v u Q I rx ry h
  obtain ⟨l, k, xs, h1, h2, hH, hne, hz, h3, h4, q⟩ := h
  refine op_repT pins s σ H x y v u Q I rx ry ⟨l, k, xs, h1, h2, hH, hne, hz, h3, h4, fun c => q l H (Same.refl H) ?_, fun c p hp => q p _ (fun b o e => by rw [upd_ne (ne_of_none e hp)]; exact e) upd_same⟩
  subst c
  rw [hH]
  simp
end L2

set_option Elab.async false
set_option linter.all false
set_option maxRecDepth 100000
set_option maxHeartbeats 4000000
namespace L2
open PySem PySem.Spec PyProof.Rows
open AutoSeq1 (wpAny_loadPart')
/-! ### enumerate of a tuple -/
section
variable {prog : Program} {w : World} {A : Around} {E : Value → Shared → Prop} {s : Shared}
theorem drawsT (hh : A.handled = none) (it t : Addr) (ne : t ≠ it) (its : Array Value) : Draws prog w A it [it, t] its.size (fun i v => its[i]? = some v) (fun i h => h.IsTupleIter it t i ∧ h.IsTuple t its) where
  live := fun _ _ st => let ⟨o, ho, _⟩ := st.1; ⟨o, ho⟩
  frame := fun _ _ _ st k => ⟨st.1.at fun o e => k it (by simp) o e, st.2.at fun o e => k t (by simp) o e⟩
  item := fun i s Q E hi st q => tn_item st.1 st.2 (v := its[i]) (by simp [hi]) fun G j b => q _ G s.toks (by simp [hi]) ⟨j, st.2.extBut b.extBut ne⟩ b
  done := fun s Q E st k => tn_end hh st.1 st.2 (by simp) k
theorem en_meets (t : Addr) (its : Array Value) : Meets (Builtin.«enumerate.__new__» ⟨[.type "enumerate", .ref t], []⟩) (fun _ R s => s.heap.IsTuple t its ∧
      R (.ok (.ret (.ref (s.heap.push { cls := .type "tuple_iterator", data := .fields #[.ref t, .int 0 0] }).objs.size)))
        { s with heap := (s.heap.push { cls := .type "tuple_iterator", data := .fields #[.ref t, .int 0 0] }).push { cls := .type "enumerate", data := .fields #[.none, .bool false, .ref s.heap.objs.size, rawInt 0, .none, .none] } }) :=
  .of_wp fun prog w A R s h => by
    obtain ⟨hp, g, d, tk, os⟩ := s; obtain ⟨hT, h⟩ := h
    have sb := sub_enumerate; obtain ⟨o, ho, _⟩ := id hT
    wp_walk using wpAny_loadPart' ho
    refine wpAny_stack_any fun st => wpAny_pure ?_
    split
    · rename_i c _ _ _ _ _
      cases (c == Value.type "enumerate") <;> (wp_walk using wpAny_loadPart' ho, wpAny_pyIter_tuple hT; exact ⟨_, rfl, h⟩)
    · wp_walk using wpAny_loadPart' ho, wpAny_pyIter_tuple hT; exact ⟨_, rfl, h⟩
theorem call_en {t : Addr} {its : Array Value} {Q : Value → Shared → Prop} (hT : s.heap.IsTuple t its)
    (q : ∀ G, IsEnum G (s.heap.objs.size + 1) s.heap.objs.size 0 .none → G.IsTupleIter s.heap.objs.size t 0 → (∀ c o, s.heap.get? c = some o → G.get? c = some o) → Q (.ref (s.heap.objs.size + 1)) { s with heap := G }) :
    wpAny (model prog w) A (call (.type "enumerate") [.ref t]) Q E s := by
  refine callType_new F.called_enumerate (by decide) (F.typeCall_enumerate_1 _) (F.newCall_enumerate_1 _) (fun obj => F.args_object_init_2 obj _) F.entry_enumerate_new (en_meets t its) ⟨hT, ?_⟩
  have z : (s.heap.push { cls := .type "tuple_iterator", data := .fields #[.ref t, .int 0 0] }).objs.size = s.heap.objs.size + 1 := Heap.size_push ..
  have g2 := Heap.get?_push_size (s.heap.push { cls := .type "tuple_iterator", data := .fields #[.ref t, .int 0 0] }) (o := { cls := .type "enumerate", data := .fields #[.none, .bool false, .ref s.heap.objs.size, rawInt 0, .none, .none] }) rfl
  show _ ∧ _
  rw [z] at g2 ⊢
  exact ⟨⟨_, g2, rfl⟩, q _ g2 ⟨_, Heap.get?_push_of_some _ (Heap.get?_push_size _ rfl), rfl, rfl⟩ fun c o e => Heap.get?_push_of_some _ (Heap.get?_push_of_some _ e)⟩
end
noncomputable def ItT (K : PySem.W.Frag) (a : Addr) : It :=
  ⟨fun i H => ∃ xs x, SqT K H a xs ∧ xs[i]? = some x,
   fun i H v H' => ∃ T x, v = .ref T ∧ H T = none ∧ H' = upd H T (.tup [.int i, x]) ∧ ∀ xs, SqT K H a xs → xs[i]? = some x,
   fun i H => ∃ xs, SqT K H a xs ∧ xs.length = i⟩
noncomputable def EnAt (e it l : Addr) (i : Nat) (h : Heap) : Prop := (∃ old, IsEnum h e it i old) ∧ h.IsTupleIter it l i
theorem turn_en {P : Program} {w : World} {K : PySem.W.Frag} {elts : List Expr} {x1} {pos : Pos} (e it l : Addr) (hei : e ≠ it) (hle : l ≠ e) (hli : l ≠ it) :
    Turn P w K (.Tuple elts x1 pos) (ItT K l) [e, it] e (EnAt e it l) where
  mem := by simp
  obj := fun i h st b hb => by
    obtain ⟨⟨old, he⟩, ⟨o1, e1, c1, d1⟩⟩ := st
    simp only [List.mem_cons, List.not_mem_nil, or_false] at hb
    rcases hb with rfl | rfl
    · exact ⟨_, he, fun v q => by cases q⟩
    · exact ⟨_, e1, fun v q => by rw [d1] at q; cases q⟩
  keep := fun i h h' st k => by
    obtain ⟨⟨old, he⟩, h1⟩ := st
    exact ⟨⟨old, k e (by simp) _ he⟩, h1.at fun o q => k it (by simp) o q⟩
  item := by
    intro X hP hw hK hc i pins s σ H E I hf st hg
    subst hP hw hK
    obtain ⟨xs, x, hq1, hx⟩ := hg
    obtain ⟨⟨old, he⟩, h1⟩ := id st
    obtain ⟨its1, rv1, p1, hz1⟩ := I.tuple hq1
    obtain ⟨u1, hu1, ru1⟩ := rv1.get hx
    have hlt : i < its1.toArray.size := by
      have := (List.getElem?_eq_some_iff.mp hu1).1
      simpa using this
    refine wpAny_pyNext_enum_itemD (drawsT (A := X.A.in1) (I.ok.hd hc) it l hli its1.toArray) he ⟨h1, p1⟩ hlt hei (by simp [hei, hle.symm]) fun x' h' tk hx' a1 a2 a3 a4 a5 => ?_
    have ex : x' = u1 := by
      have : its1.toArray[i]? = some u1 := by simpa using hu1
      exact Option.some.inj (hx'.symm.trans this)
    subst ex
    refine ⟨_, rfl, wpAny_letOwnedTupleGo_enum (s := { s with heap := h', toks := tk + 1 }) a1 fun h'' z2 sb => ?_⟩
    have sb' := sb.extBut
    generalize hT : s.heap.objs.size = T at *
    have lt : ∀ {b : Addr} {o : Obj}, s.heap.get? b = some o → b ≠ T := fun {b o} e => by rw [← hT]; exact Nat.ne_of_lt (Heap.lt_size e)
    have fresh : H T = none := by rw [← hT]; exact I.hok.fresh (Nat.le_refl _)
    have hne : ∀ b ∈ [e, it], b ≠ T := fun b hb => by
      obtain ⟨o1, e1, _⟩ := h1
      simp only [List.mem_cons, List.not_mem_nil, or_false] at hb
      rcases hb with rfl | rfl
      · exact lt he
      · exact lt e1
    have I0 : Inv X pins σ (upd H T (.tup [.int i, x])) { s with heap := s.heap.push { cls := .type "tuple", data := .seq #[.int i tk, x'] }, toks := s.toks } := by
      subst hT
      exact I.laid (t' := s.toks) (fun b o q => Heap.get?_push_of_some _ q) (Nat.le_refl _) ⟨by show 2 ≤ sizeLine; decide, [.int i tk, x'], .cons ⟨_, rfl⟩ (.cons ru1 .nil), _, Heap.get?_push_size _ rfl, rfl, 0, rfl⟩
    have up : ∀ b o, b ∉ [e, it] → (s.heap.push { cls := .type "tuple", data := .seq #[.int i tk, x'] }).get? b = some o → h''.get? b = some o := fun b o hb q => by
      simp only [List.mem_cons, List.not_mem_nil, or_false, not_or] at hb
      rcases Heap.get?_push_cases q with ⟨e1, e2⟩ | e1
      · subst e2
        rw [e1, hT]
        exact sb' _ _ (hne e (by simp)).symm a3
      · exact sb' _ _ hb.1 (a5 b o hb.1 hb.2 e1)
    have I2 : Inv X pins σ (upd H T (.tup [.int i, x])) { s with heap := h'', toks := tk + 1 } := Inv.turnedS (s := { s with heap := s.heap.push { cls := .type "tuple", data := .seq #[.int i tk, x'] }, toks := s.toks }) (t' := tk + 1) (ch := [e, it]) I0 up fun b hb => by
      obtain ⟨f0, f1⟩ := hf b hb
      exact ⟨by rw [upd_ne (hne b hb)]; exact f0, f1⟩
    exact ⟨.ref T, upd H T (.tup [.int i, x]), I2, rfl, ⟨T, x, rfl, fresh, rfl, fun ws hw => by rw [I.tuple_inj hw hq1]; exact hx⟩,
      ⟨⟨_, by simpa using z2⟩, a2.1.at fun o q => sb' _ _ hei.symm q⟩, fun b hb => by rw [upd_ne (hne b hb)]; exact (hf b hb).1⟩
  done := by
    intro X hP hw hK hc i pins s σ H E I hf st hg
    subst hP hw hK
    obtain ⟨xs, hq1, hx⟩ := hg
    obtain ⟨⟨old, he⟩, h1⟩ := id st
    obtain ⟨its1, rv1, p1, hz1⟩ := I.tuple hq1
    have hl1 := rv1.length
    have en : i = its1.toArray.size := by simp; omega
    subst en
    refine wpAny_pyNext_enum_endD (drawsT (A := X.A.in1) (I.ok.hd hc) it l hli its1.toArray) he ⟨h1, p1⟩ fun h' hk => ⟨rfl, I.turnedS (t' := s.toks) (ch := [e, it]) (fun b o hb q => ?_) hf⟩
    simp only [List.mem_cons, List.not_mem_nil, or_false, not_or] at hb
    exact hk b o hb.2 q
  self := fun _ _ _ _ _ st h => by obtain ⟨⟨old, he⟩, _⟩ := st; exact wpAny_pyIter_enum he h
section
variable {X : Cx}
noncomputable def iEnT (K : PySem.W.Frag) (ta : TA) : TI := fun σ H R => ta σ H fun vs H1 => ∃ a xs, vs = [.ref a] ∧ SqT K H1 a xs ∧ R (ItT K a) H1
theorem pi_enT {a : Expr} {elts : List Expr} {x1} {tpos : Pos} {ta : TA} {p pos : Pos} (hg : Gl X "enumerate") (hm : X.mg "enumerate" = none) (ha : PA X [a] ta) (hs : starEach [a] X.env = [(false, eval a X.env)] := by rfl) :
    PI X (.Tuple elts x1 tpos) (.Call (.Name "enumerate" p) [a] [] pos) (iEnT X.K ta) := by
  intro pins s σ H R I h
  refine Call_ (ld_blt I hg hm boot_enum (PyProof.Rows.callWith_type1 (thn (ha pos pins s σ H _ I h) fun us s1 ⟨vs, H1, I1, r1, q1⟩ => ?_) (by rw [hs]; rfl) rfl))
  obtain ⟨a', xs, rfl, hq1, q⟩ := q1
  obtain ⟨u1, rfl, ra⟩ := vals1 r1
  cases ra
  obtain ⟨its1, rv1, p1, hz1⟩ := I1.tuple hq1
  have hlt : a' < s1.heap.objs.size := by obtain ⟨o, ho, _⟩ := id p1; exact Heap.lt_size ho
  refine call_en p1 fun G he hit hk => wpAny_pyIter_enum he ?_
  refine ⟨s1.heap.objs.size + 1, [s1.heap.objs.size + 1, s1.heap.objs.size], _, _, H1, rfl, I1.kept (t' := s1.toks) hk, turn_en _ _ _ (Nat.succ_ne_self _) (Nat.ne_of_lt (Nat.lt_succ_of_lt hlt)) (Nat.ne_of_lt hlt), ⟨⟨_, he⟩, hit⟩, fun b hb => ?_, q⟩
  have hle : s1.heap.objs.size ≤ b := by
    simp only [List.mem_cons, List.not_mem_nil, or_false] at hb
    rcases hb with rfl | rfl
    · exact Nat.le_add_right _ _
    · exact Nat.le_refl _
  exact I1.fpOk hle (I1.hok.fresh hle)
end
end L2
namespace L2
open PySem
theorem for_enT {K : PySem.W.Frag} {a : Addr} {xs : List V} {g : TG} {tb : TS} {D : Ends} {σ : St} {H : Hp} (Pv : Nat → St → Hp → Prop) (h0 : Pv 0 σ H) (hl : ∀ i σ H, i ≤ xs.length → Pv i σ H → SqT K H a xs)
    (hs : ∀ i x σ H T, xs[i]? = some x → Pv i σ H → H T = none → g (.ref T) σ (upd H T (.tup [.int i, x])) fun σ2 H2 => tb { D with nx := Pv (i + 1), ct := Pv (i + 1), bk := D.nx } σ2 H2) (hd : ∀ σ H, Pv xs.length σ H → D.nx σ H) :
    ∃ W : Nat → Nat → St → Hp → Prop, (∃ m, W 0 m σ H) ∧ ∀ i m σ H, W i m σ H →
      ((ItT K a).stop i H ∧ D.nx σ H) ∨ ((ItT K a).go i H ∧ ∃ N : St → Hp → Prop, (∀ σ' H', N σ' H' → ∃ m', m' < m ∧ W (i + 1) m' σ' H') ∧ ∀ x H', (ItT K a).yld i H x H' → g x σ H' fun σ2 H2 => tb { D with nx := N, ct := N, bk := D.nx } σ2 H2) := by
  refine ⟨fun i m σ H => m = xs.length - i ∧ i ≤ xs.length ∧ Pv i σ H, ⟨xs.length, by simp, Nat.zero_le _, h0⟩, ?_⟩
  rintro i m σ H ⟨rfl, hi, p⟩
  have q := hl i σ H hi p
  by_cases hlt : i < xs.length
  · refine .inr ⟨⟨xs, xs[i], q, by simp [hlt]⟩, Pv (i + 1), fun σ' H' p' => ⟨xs.length - (i + 1), by omega, rfl, hlt, p'⟩, fun x H' y => ?_⟩
    obtain ⟨T, x', rfl, hT, rfl, e1⟩ := y
    exact hs i x' σ H T (e1 xs q) p hT
  · have e : i = xs.length := by omega
    subst e
    exact .inl ⟨⟨xs, q, rfl⟩, hd σ H p⟩
end L2

set_option Elab.async false
set_option linter.all false
set_option maxRecDepth 100000
set_option maxHeartbeats 4000000
namespace L2
open PySem PySem.Spec PyProof.Rows PySem.W PySem.Calls
/-! ### exceptions in flight -/
/-- an exception's arguments; no other exception stands behind it -/
noncomputable def Hd0 (vs : Array Value) (a0 : Value) : Prop := vs[0]? = some a0 ∧ vs[2]? = some Value.none
/-- an exception that has left a frame: its object, its own dict, the head of its traceback -/
noncomputable def TrcF (fl : Value) (h : Heap) (e T : Addr) (cls a0 : Value) (dx : Option Addr) : Prop := ∃ oe vs oT ts, h.get? e = some oe ∧ oe.cls = cls ∧ Hd0 vs a0 ∧ oe.data = Data.fields vs ∧ vs[1]? = some (Value.ref T) ∧ T ≠ e ∧ h.get? T = some oT ∧ oT.data = Data.fields ts ∧ ts[3]? = some fl ∧ oe.dict = dx
noncomputable abbrev Trc : Heap → Addr → Addr → Value → Value → Option Addr → Prop := TrcF .none
/-- how an exception lies behind a call -/
noncomputable def CXE (P : Program) (w : World) : CXT := fun outer H s E e s' => ∃ (ea T : Addr) (cls a0 : Value) (dx : Option Addr) (H' : Hp), e = .ref ea ∧ s'.os = s.os ∧ AllBare s'.gens ∧ Un (frs outer) [] H H' s.heap s'.heap ∧ HOk P w H' s'.heap ∧ s.heap.get? ea = none ∧ s.heap.get? T = none ∧ H' ea = none ∧ H' T = none ∧ Trc s'.heap ea T cls a0 dx ∧ E cls dx H'
theorem ff_at {h base : Heap} : ∀ {l : List Env}, h.FunFrames base l → ∀ b ∈ frs l, ∃ o, h.get? b = some o ∧ ∀ vs : Array Value, o.data ≠ Data.fields vs
  | [], _, b, hb => by simp [frs] at hb
  | e :: l, k, b, hb => by
    simp only [Heap.FunFrames] at k
    obtain ⟨k1, ⟨L, o, k2, k3, k4, k5⟩, k6⟩ := k
    unfold frs at hb
    rw [List.filterMap_cons, k2] at hb
    rcases List.mem_cons.mp hb with z | z
    · rw [z]; exact ⟨o, k4, k5⟩
    · exact ff_at k6 b z
theorem dict_mapF (o : Obj) (f : Array Value → Array Value) : (o.mapFields f).dict = o.dict := by
  obtain ⟨c, d, dt, sl⟩ := o
  cases dt <;> rfl
/-- all but some frames and one object stays -/
structure Moved (fr : List Addr) (g : List Addr) (h h' : Heap) : Prop where
  keep : ∀ b o, h.get? b = some o → b ∉ fr → b ∉ g → h'.get? b = some o
  slot : ∀ b o, h.get? b = some o → b ∈ fr → ∃ sl, h'.get? b = some { o with slots := sl }
section
variable {M : Model} {A : Around} {E : Value → Shared → Prop} {s : Shared} {env : Env} {outer : List Env} {L e T : Addr} {base : Heap} {cls a0 : Value} {dx : Option Addr} {Q : Unit → Shared → Prop}
/-- a new row of an exception's traceback -/
theorem new_row {oe : Obj} {vs : Array Value} {head : Value} {had : Bool}
    (hf : A.frames = some (env :: outer)) (ff : s.heap.FunFrames base (env :: outer)) (hL : env.frame = some L) (he : s.heap.get? e = some oe) (hd : oe.data = Data.fields vs) (hz : 1 < vs.size) (h0 : Hd0 vs a0)
    (k : ∀ (h' : Heap) (T' : Addr), Moved (frs (env :: outer)) [e] s.heap h' → s.heap.get? T' = none → TrcF (rawInt L) h' e T' oe.cls a0 oe.dict → Q () { s with heap := h' }) :
    wpAny M A (do let a ← frameOf env; let pl ← entryPlaceOf L had; let b ← EntryCells.newEntry head a .none (rawInt L) .none pl; setField (.ref e) 1 b) Q E s := by
  have efr : e ∉ frs (env :: outer) := fun hm => by
    obtain ⟨o, q, nf⟩ := ff_at ff e hm
    rw [he] at q; cases q
    exact nf _ hd
  refine wpAny_bind (wpAny_frameOf_fun hf ff hL fun g1 so => wpAny_bind (wpAny_entryPlaceOf fun pl hpl => ?_))
  unfold EntryCells.newEntry newFields
  refine wpAny_bind (wpAny_newObj_type ?_ (hpl.sizeOk5 _ _ _ _ _))
  generalize hob : ({ cls := .type "traceback", dict := none, data := .fields ([head, .ref L, .none, rawInt L, .none] ++ (if pl.isEmpty then List.replicate 6 Value.none else pl)).toArray } : Obj) = ob
  have obf : ob.isFreed = false := by rw [← hob]; rfl
  have e1 : g1.get? e = some oe := (so.2.1 e efr).trans he
  have nz : g1.objs.size ≠ e := Nat.ne_of_gt (Heap.lt_size e1)
  have e2 := Heap.get?_push_of_some (h := g1) ob e1
  refine wpAny_setField e2 hd hz ?_
  have hd3 := Obj.data_mapFields hd (fun z => z.setIfInBounds 1 (Value.ref g1.objs.size))
  have e3 := Heap.get?_update_self (Obj.mapFields fun z => z.setIfInBounds 1 (Value.ref g1.objs.size)) e2 (Obj.isFreed_of_fields hd3)
  have fresh : s.heap.get? g1.objs.size = none := by
    cases hc : s.heap.get? g1.objs.size with
    | none => rfl
    | some o =>
      obtain ⟨sl, q⟩ := so.2.2 _ o hc
      exact absurd (Heap.lt_size q) (Nat.lt_irrefl _)
  have up : ∀ b o, b ≠ e → g1.get? b = some o → ((g1.push ob).update e (Obj.mapFields fun z => z.setIfInBounds 1 (Value.ref g1.objs.size))).get? b = some o := fun b o n q => by
    rw [Heap.get?_update_other _ _ (Ne.symm n)]
    exact Heap.get?_push_of_some _ q
  refine k _ g1.objs.size ⟨fun b o q hb hg => up b o (fun z => hg (by simp [z])) ((so.2.1 b hb).trans q), fun b o q hb => ?_⟩ fresh ⟨_, _, ob, _, e3, Obj.cls_mapFields _ _, ?_, hd3, ?_, nz, ?_, by rw [← hob], ?_, dict_mapF _ _⟩
  · obtain ⟨sl, q1⟩ := so.2.2 b o q
    exact ⟨sl, up b _ (fun z => efr (z ▸ hb)) q1⟩
  · exact ⟨by rw [Array.getElem?_setIfInBounds_ne (by decide)]; exact h0.1, by rw [Array.getElem?_setIfInBounds_ne (by decide)]; exact h0.2⟩
  · simp [hz]
  · rw [Heap.get?_update_other _ _ (Ne.symm nz)]
    exact Heap.get?_push_size g1 obf
  · first | (simp; done) | (rcases hpl with rfl | ⟨_, _, _, _, _, _, _, rfl⟩ <;> simp)
/-- an exception is no longer in flight -/
theorem ground {fl : Value} (ht : TrcF fl s.heap e T cls a0 dx)
    (k : ∀ h' : Heap, (∀ b, b ≠ T → h'.get? b = s.heap.get? b) → Trc h' e T cls a0 dx → Q () { s with heap := h' }) :
    wpAny M A (setFlight (.ref e) none) Q E s := by
  obtain ⟨oe, vs, oT, ts, h1, h2, h3, h4, h5, h6, h7, h8, h9, h10⟩ := ht
  have z3 : 3 < ts.size := (Array.getElem?_eq_some_iff.mp h9).1
  unfold setFlight
  refine wpAny_bind (wpAny_field h1 h4 h5 ?_)
  rw [if_pos (show (Value.ref T != Value.none) = true from by simp)]
  refine wpAny_setField h7 h8 z3 (k _ (fun b n => Heap.get?_update_other _ _ (Ne.symm n)) ?_)
  have d8 := Obj.data_mapFields h8 (fun z => z.setIfInBounds 3 ((none : Option Addr).elim Value.none fun f => rawInt f))
  exact ⟨oe, vs, _, _, (Heap.get?_update_other _ _ h6).trans h1, h2, h3, h4, h5, h6, Heap.get?_update_self _ h7 (Obj.isFreed_of_fields d8), d8, by simp [z3], h10⟩
/-- a frame is noted: the first of a new exception, or one more -/
theorem note_new {oe : Obj} {vs : Array Value} (hf : A.frames = some (env :: outer)) (hL : env.frame = some L) (ff : s.heap.FunFrames base (env :: outer)) (h1 : s.heap.get? e = some oe) (h2 : oe.data = Data.fields vs) (h3 : vs[1]? = some Value.none) (h4 : Hd0 vs a0)
    (k : ∀ (h' : Heap) (T' : Addr), Moved (frs (env :: outer)) [e] s.heap h' → s.heap.get? T' = none → TrcF (rawInt L) h' e T' oe.cls a0 oe.dict → Q () { s with heap := h' }) :
    wpAny M A (noteFrame (.ref e) env) Q E s := by
  unfold noteFrame
  simp only [hL]
  refine wpAny_bind (wpAny_field h1 h2 h3 ?_)
  rw [if_neg (by decide)]
  exact new_row hf ff hL h1 h2 (Array.getElem?_eq_some_iff.mp h3).1 h4 k
theorem note_more (hf : A.frames = some (env :: outer)) (hL : env.frame = some L) (ff : s.heap.FunFrames base (env :: outer)) (ht : Trc s.heap e T cls a0 dx)
    (k : ∀ (h' : Heap) (T' : Addr), Moved (frs (env :: outer)) [e, T] s.heap h' → s.heap.get? T' = none → TrcF (rawInt L) h' e T' cls a0 dx → Q () { s with heap := h' }) :
    wpAny M A (noteFrame (.ref e) env) Q E s := by
  obtain ⟨oe, vs, oT, ts, h1, rfl, h3, h4, h5, h6, h7, h8, h9, rfl⟩ := ht
  unfold noteFrame
  simp only [hL]
  refine wpAny_bind (wpAny_field h1 h4 h5 ?_)
  rw [if_pos (show (Value.ref T != Value.none) = true from by simp)]
  refine wpAny_bind (wpAny_field h7 h8 h9 ?_)
  rw [if_neg (show ¬ ((Value.none == rawInt L) = true) from by simp [rawInt])]
  refine wpAny_bind (wpAny_setField h7 h8 (Array.getElem?_eq_some_iff.mp h9).1 ?_)
  have oth : ∀ b, b ≠ T → (s.heap.update T (Obj.mapFields fun z => z.setIfInBounds 3 Value.none)).get? b = s.heap.get? b := fun b n => Heap.get?_update_other _ _ (Ne.symm n)
  have nT : ∀ b, b ∈ frs (env :: outer) → b ≠ T := fun b hb z => by
    obtain ⟨o, q, nf⟩ := ff_at ff b hb
    rw [z, h7] at q; cases q
    exact nf _ h8
  refine new_row (s := { s with heap := s.heap.update T (Obj.mapFields fun z => z.setIfInBounds 3 Value.none) }) hf (ff.of_keeps fun b o q nf => ⟨o, (oth b fun z => ?_).trans q, rfl⟩) hL ((oth e (Ne.symm h6)).trans h1) h4 (Array.getElem?_eq_some_iff.mp h5).1 h3 fun h' T' mv nw tr => k h' T' ⟨fun b o q hb hg => ?_, fun b o q hb => ?_⟩ ?_ tr
  · rw [z, h7] at q; cases q
    exact nf _ h8
  · exact mv.keep b o ((oth b fun z => hg (by simp [z])).trans q) hb fun z => hg (by simp at z; simp [z])
  · exact mv.slot b o ((oth b (nT b hb)).trans q) hb
  · have z : T' ≠ T := fun z => by
      have d8 := Obj.data_mapFields h8 (fun z => z.setIfInBounds 3 Value.none)
      have g7 := Heap.get?_update_self (Obj.mapFields fun z => z.setIfInBounds 3 Value.none) h7 (Obj.isFreed_of_fields d8)
      have nw' : (s.heap.update T (Obj.mapFields fun z => z.setIfInBounds 3 Value.none)).get? T' = none := nw
      rw [z, g7] at nw'
      cases nw'
    exact (oth T' z).symm.trans nw
theorem Moved.ground {fr g : List Addr} {h h' h'' : Heap} (m : Moved fr g h h') (nT : h.get? T = none) (nf : ∀ b ∈ fr, ∃ o, h.get? b = some o) (k : ∀ b, b ≠ T → h''.get? b = h'.get? b) : Moved fr g h h'' :=
  ⟨fun b o q hb hg => (k b fun z => by rw [z, nT] at q; cases q).trans (m.keep b o q hb hg), fun b o q hb => by
    obtain ⟨sl, e⟩ := m.slot b o q hb
    exact ⟨sl, (k b fun z => by rw [z, nT] at q; cases q).trans e⟩⟩
/-- an exception in flight leaves one frame more -/
theorem leave_flying (hf : A.frames = some (env :: outer)) (hL : env.frame = some L) (ff : s.heap.FunFrames base (env :: outer)) (ht : Trc s.heap e T cls a0 dx)
    (k : ∀ (h' : Heap) (T' : Addr), Moved (frs (env :: outer)) [e, T] s.heap h' → s.heap.get? T' = none → Trc h' e T' cls a0 dx → Q () { s with heap := h' }) :
    wpAny M A (leaving env (.ref e)) Q E s := by
  unfold leaving
  refine wpAny_bind (note_more hf hL ff ht fun h1 T1 mv nw tr => ground tr fun h2 same tr2 => k h2 T1 (mv.ground nw (fun b hb => let ⟨o, q, _⟩ := ff_at ff b hb; ⟨o, q⟩) same) nw tr2)
/-- and a new one leaves its first -/
theorem leave_new {oe : Obj} {vs : Array Value} (hf : A.frames = some (env :: outer)) (hL : env.frame = some L) (ff : s.heap.FunFrames base (env :: outer)) (h1 : s.heap.get? e = some oe) (h2 : oe.data = Data.fields vs) (h3 : vs[1]? = some Value.none) (h4 : Hd0 vs a0)
    (k : ∀ (h' : Heap) (T' : Addr), Moved (frs (env :: outer)) [e] s.heap h' → s.heap.get? T' = none → Trc h' e T' oe.cls a0 oe.dict → Q () { s with heap := h' }) :
    wpAny M A (leaving env (.ref e)) Q E s := by
  unfold leaving
  refine wpAny_bind (note_new hf hL ff h1 h2 h3 h4 fun g1 T1 mv nw tr => ground tr fun g2 same tr2 => k g2 T1 (mv.ground nw (fun b hb => let ⟨o, q, _⟩ := ff_at ff b hb; ⟨o, q⟩) same) nw tr2)
/-- an exception in flight comes to a try: noted, then grounded -/
theorem look_flying (hf : A.frames = some (env :: outer)) (hL : env.frame = some L) (ff : s.heap.FunFrames base (env :: outer)) (ht : Trc s.heap e T cls a0 dx)
    (k : ∀ (h' : Heap) (T' : Addr), Moved (frs (env :: outer)) [e, T] s.heap h' → s.heap.get? T' = none → Trc h' e T' cls a0 dx → Q () { s with heap := h' }) :
    wpAny M A (noteFrame (.ref e) env) (fun _ s2 => wpAny M A (setFlight (.ref e) none) (fun _ s3 => Q () s3) E s2) E s :=
  note_more hf hL ff ht fun h1 T1 mv nw tr => ground tr fun h2 same tr2 => k h2 T1 (mv.ground nw (fun b hb => let ⟨o, q, _⟩ := ff_at ff b hb; ⟨o, q⟩) same) nw tr2
end
end L2

set_option Elab.async false
set_option linter.all false
set_option maxRecDepth 100000
set_option maxHeartbeats 4000000
namespace L2
open PySem PySem.Spec PyProof.Rows PySem.W PySem.Calls
theorem ObjOk.got {P : Program} {w : World} {H : Hp} {h : Heap} {a : Addr} {o : HO} (x : ObjOk P w H h a o) : ∃ ob, h.get? a = some ob := by
  cases o with
  | lst xs => obtain ⟨_, _, _, _, e⟩ := x; exact ⟨_, e⟩
  | tup xs => obtain ⟨_, _, _, o, e, _⟩ := x; exact ⟨_, e⟩
  | dK kvs => obtain ⟨_, _, _, _, o, _, _, e, _⟩ := x; exact ⟨_, e⟩
  | dT kvs => obtain ⟨_, _, _, _, o, _, _, e, _⟩ := x; exact ⟨_, e⟩
  | set S n => obtain ⟨o, _, _, _, e, _⟩ := x; exact ⟨_, e⟩
  | ins C dx fs => obtain ⟨_, _, _, e, _⟩ := x; exact ⟨_, e⟩
  | own y => exact x
  | xd fs => obtain ⟨_, ⟨_, _, _, e, _⟩, _⟩ := x; exact ⟨_, e⟩
  | rng lo hi => obtain ⟨_, _, _, e⟩ := x; exact ⟨_, e⟩
  | frz ob u => obtain ⟨e, _⟩ := x; exact ⟨_, e⟩
  | tbl ps => exact ⟨_, (show h.get? a = some _ from x)⟩
  | met f y => exact ⟨_, (show h.get? a = some _ from x)⟩
  | ext φ => obtain ⟨_, e, _⟩ := x; exact e
/-- what a frame's end leaves of an exception, from the body's own state -/
theorem cxe_of {CX : CXT} {P : Program} {w : World} {K : PySem.W.Frag} {mg : Str → Option Value} {base : Heap} {N : List Str} {qual : Str} {scope : Scope} {f : Addr} {cd : Value} {A : Around} {outer : List Env} {s0 : Shared} {H0 : Hp} {E0' : XK}
    {pins : List (Addr × Obj)} {σ : St} {H' : Hp} {s' : Shared} {E : XK} {ea T' : Addr} {cls a0 : Value} {dx : Option Addr} {h' : Heap} {G : List Addr}
    (I : Inv (cxOf CX P w K mg base N qual scope f cd A outer s0 H0 E0') pins σ H' s')
    (mv : Moved (frs (envOfC qual scope s0.heap.objs.size f cd :: outer)) G s'.heap h')
    (hG : ∀ b ∈ G, s0.heap.get? b = none ∧ H' b = none) (tr : Trc h' ea T' cls a0 dx) (e1 : s0.heap.get? ea = none) (e2 : H' ea = none) (e3 : T' ∈ G ∨ s'.heap.get? T' = none) (hE : E cls dx H') :
    CXE P w outer H0 s0 E (.ref ea) { s' with heap := h' } := by
  have kp := mv.keep
  have sl := mv.slot
  have base' := I.base
  have hok := I.hok
  have nL : ∀ b o, s0.heap.get? b = some o → b ∉ frs outer → b ∉ frs (envOfC qual scope s0.heap.objs.size f cd :: outer) := fun b o q hb hm => by
    have hm' : b ∈ s0.heap.objs.size :: frs outer := hm
    rcases List.mem_cons.mp hm' with z | z
    · exact absurd (Heap.lt_size q) (by rw [z]; exact Nat.lt_irrefl _)
    · exact hb z
  have nG : ∀ b o, s0.heap.get? b = some o → b ∉ G := fun b o q hb => by rw [(hG b hb).1] at q; cases q
  have mO : ∀ b, b ∈ frs outer → b ∈ frs (envOfC qual scope s0.heap.objs.size f cd :: outer) := fun b hb => List.mem_cons_of_mem _ hb
  have T0 : s0.heap.get? T' = none := by
    rcases e3 with z | z
    · exact (hG _ z).1
    · cases hc : s0.heap.get? T' with
      | none => rfl
      | some o =>
        obtain ⟨o', q⟩ := base'.there T' o hc (by show T' ∉ []; simp)
        rw [z] at q; cases q
  have TH : H' T' = none := by
    rcases e3 with z | z
    · exact (hG _ z).2
    · cases hc : H' T' with
      | none => rfl
      | some o =>
        obtain ⟨ob, q⟩ := ObjOk.got (hok T' o hc)
        rw [z] at q; cases q
  refine ⟨ea, T', cls, a0, dx, H', rfl, I.os, I.bare, ?_, ?_, e1, T0, e2, TH, tr, hE⟩
  · refine ⟨fun b o q n hb hx => ?_, fun b o q n hb hx => ?_, fun b o q n hx => base'.free b o q n hx, fun b o q hx => ?_, base'.tups, base'.frzs, base'.tbls⟩
    · exact kp b o (base'.keep b o q n hb hx) (nL b o q hb) (nG b o q)
    · obtain ⟨s1, q1⟩ := base'.slot b o q n hb hx
      obtain ⟨s2, q2⟩ := sl b _ q1 (mO b hb)
      exact ⟨s2, q2⟩
    · obtain ⟨o', q'⟩ := base'.there b o q hx
      by_cases hb : b ∈ frs (envOfC qual scope s0.heap.objs.size f cd :: outer)
      · obtain ⟨s2, q2⟩ := sl b _ q' hb
        exact ⟨_, q2⟩
      · exact ⟨o', kp b o' q' hb (nG b o q)⟩
  · intro a o hH
    have nf : ∀ b u, H' b = some u → b ∉ frs (envOfC qual scope s0.heap.objs.size f cd :: outer) ∧ b ∉ G := fun b u q => ⟨fun hm => (by
      have := I.stkFree b hm
      rw [q] at this; cases this), fun hm => (by rw [(hG b hm).2] at q; cases q)⟩
    refine (hok a o hH).stay (fun b u hb q => ?_) (fun _ q => q) fun _ _ q => q
    rcases hb with z | z
    · rw [z] at q ⊢; exact kp a u q (nf a o hH).1 (nf a o hH).2
    · exact kp b u q (nf b _ z).1 (nf b _ z).2
/-- an exception of a callee passes through a body -/
theorem passE {P : Program} {w : World} {K : PySem.W.Frag} {mg : Str → Option Value} {base : Heap} {N : List Str} {qual : Str} {scope : Scope} {f : Addr} {cd : Value} {A : Around} {outer : List Env} {s0 : Shared} {H0 : Hp} {E : XK} :
    Passes (CXE P w) (cxOf (CXE P w) P w K mg base N qual scope f cd A outer s0 H0 E) E := by
  intro pins σ H s e s' I h
  obtain ⟨ea, T, cls, a0, dx, H', rfl, os, bare, un, hok, n1, n2, m1, m2, trc, hE⟩ := h
  have I' : Inv (cxOf (CXE P w) P w K mg base N qual scope f cd A outer s0 H0 E) pins σ H' s' := I.call' (ch := []) os un hok bare (by simp)
  have back : ∀ b, s.heap.get? b = none → s0.heap.get? b = none := fun b q => by
    cases hc : s0.heap.get? b with
    | none => rfl
    | some o =>
      obtain ⟨o', q'⟩ := I.base.there b o hc (by show b ∉ []; simp)
      rw [q] at q'; cases q'
  show wpAny (model P w) (A.deeper (envOfC qual scope s0.heap.objs.size f cd)) (leaving (envOfC qual scope s0.heap.objs.size f cd) (.ref ea)) _ _ s'
  refine leave_flying (outer := outer) (L := s0.heap.objs.size) I'.ok.frames rfl I'.stack trc fun h' T' mv nw tr' => ?_
  exact cxe_of (G := [ea, T]) I' mv (fun b hb => by
    simp at hb
    rcases hb with z | z
    · rw [z]; exact ⟨back _ n1, m1⟩
    · rw [z]; exact ⟨back _ n2, m2⟩) tr' (back _ n1) m1 (.inr nw) hE
end L2

set_option Elab.async false
set_option linter.all false
set_option maxRecDepth 100000
set_option maxHeartbeats 4000000
namespace L2
open PySem PySem.Spec PyProof.Rows PySem.W PySem.Calls
/-- a new exception leaves the body that raised it -/
theorem raiseD {P : Program} {w : World} {K : PySem.W.Frag} {mg : Str → Option Value} {base : Heap} {N : List Str} {qual : Str} {scope : Scope} {f : Addr} {cd : Value} {A : Around} {outer : List Env} {s0 : Shared} {H0 : Hp} {E : XK}
    {pins : List (Addr × Obj)} {σ : St} {H : Hp} {s : Shared} {ea : Addr} {oe : Obj} {vs : Array Value} {a0 : Value}
    (I : Inv (cxOf (CXE P w) P w K mg base N qual scope f cd A outer s0 H0 E) pins σ H s) (h1 : s.heap.get? ea = some oe) (h2 : oe.data = Data.fields vs) (h3 : vs[1]? = some Value.none) (h4 : Hd0 vs a0) (back : s0.heap.get? ea = none) (he : H ea = none) (hE : E oe.cls oe.dict H) :
    (cxOf (CXE P w) P w K mg base N qual scope f cd A outer s0 H0 E).xe (.ref ea) s := by
  show wpAny (model P w) (A.deeper (envOfC qual scope s0.heap.objs.size f cd)) (leaving (envOfC qual scope s0.heap.objs.size f cd) (.ref ea)) _ _ s
  refine leave_new (outer := outer) (L := s0.heap.objs.size) I.ok.frames rfl I.stack h1 h2 h3 h4 fun h'' T' mv nT tr => ?_
  exact cxe_of (G := [ea]) I mv (fun b hb => by
    have z : b = ea := by simpa using hb
    rw [z]; exact ⟨back, he⟩) tr back he (.inr nT) hE
theorem raiseE {P : Program} {w : World} {K : PySem.W.Frag} {mg : Str → Option Value} {base : Heap} {N : List Str} {qual : Str} {scope : Scope} {f : Addr} {cd : Value} {A : Around} {outer : List Env} {s0 : Shared} {H0 : Hp} {E : XK}
    {pins : List (Addr × Obj)} {σ : St} {H : Hp} {s : Shared} {h' : Heap} {ea : Addr} {cls : Value} {args : List Value}
    (I : Inv (cxOf (CXE P w) P w K mg base N qual scope f cd A outer s0 H0 E) pins σ H s) (m : s.heap.MadeExcOf h' ea cls args) (hE : E cls none H) :
    (cxOf (CXE P w) P w K mg base N qual scope f cd A outer s0 H0 E).xe (.ref ea) { s with heap := h' } := by
  obtain ⟨keeps, new, t, there, tn, tt⟩ := m
  have I' : Inv (cxOf (CXE P w) P w K mg base N qual scope f cd A outer s0 H0 E) pins σ H { s with heap := h' } := I.kept (t' := s.toks) keeps
  have back : s0.heap.get? ea = none := by
    cases hc : s0.heap.get? ea with
    | none => rfl
    | some o =>
      obtain ⟨o', q'⟩ := I.base.there ea o hc (by show ea ∉ []; simp)
      rw [new] at q'; cases q'
  have he : H ea = none := by
    cases hc : H ea with
    | none => rfl
    | some o =>
      obtain ⟨ob, q⟩ := ObjOk.got (I.hok ea o hc)
      rw [new] at q; cases q
  exact raiseD I' there rfl rfl ⟨rfl, rfl⟩ back he hE
/-- an own class of exceptions with no __init__ of its own, as it lies in a heap -/
noncomputable def ExcC (h : Heap) (C : Addr) : Prop := ∃ (nm q : Str) (N : Addr) (bs bm bmB : List Value) (hdct : Bool) (sn : List Str) (sub : List Value) (ab : Bool) (col : Option Bool) (dd : Option Addr) (k0 k1 k2 k3 k5 : Option Value) (mN : Str → Option Value) (B Bn newId nid initId inN : String) (bmN : List Value),
  h.get? C = some (excClassObj nm q C N bs bm hdct sn sub ab col dd k0 k1 k2 k3 k5 newId) ∧ h.Ns N mN ∧ mN (Str.ofString "__init__") = none ∧ OwnTail h bmB bm ∧ bm.contains (Value.type "BaseException") = true ∧ ExcBaseFacts Bn newId inN bmN ∧ bmB.contains (Value.type Bn) = true ∧ ExcBaseFacts B nid initId bmB
theorem OwnTail.stays {h h' : Heap} (k : ∀ b o, h.get? b = some o → h'.get? b = some o) {a b : List Value} (x : OwnTail h a b) : OwnTail h' a b := by
  induction x with
  | base => exact .base
  | own e n i _ ih => exact .own (k _ _ e) (n.keeps k) i ih
section
variable {X : Cx} {x : Str} {C : Addr} {e : Expr} {es : List Expr} {t : TA} {np cpos pos : Pos} {W : Hp → Prop}
noncomputable def tRaise (t : TA) (W : Hp → Prop) : TS := fun _ σ H => t σ H fun vs H1 => vs.length ≤ sizeLine ∧ W H1
/-- raise X(..), X an own class of exceptions -/
theorem ps_raise (hx : X.mg x = some (.ref C)) (hC : ExcC X.base C) (hd : X.A.handled = none) (ha : PA X (e :: es) t) (xe : ∀ (pins : List (Addr × Obj)) (σ : St) (H : Hp) (s : Shared) (h' : Heap) (ea : Addr) (args : List Value), Inv X pins σ H s → s.heap.MadeExcOf h' ea (.ref C) args → W H → X.xe (.ref ea) { s with heap := h' })
    (hg : Gl X x := by rfl) (hdb : (x == ("__debug__" : Str)) = false := by decide) (he : starEach (e :: es) X.env = (false, eval e X.env) :: starEach es X.env := by rfl) (hpl : (backTo cpos (starEach (e :: es) X.env)).any (·.1) = false := by rfl) :
    PS X (.Raise (some (.Call (.Name x np) (e :: es) [] cpos)) none pos) (tRaise t W) := by
  intro pins s σ H D I h
  obtain ⟨nm, q, N, bs, bm, bmB, hdct, sn, sub, ab, col, dd, k0, k1, k2, k3, k5, mN, B, Bn, newId, nid, initId, inN, bmN, a1, a2, a3, a4, a5, a6, a7, a8⟩ := hC
  refine wpAny_Raise_call_subU (nm := nm) (q := q) (N := N) (bs := bs) (hdct := hdct) (sn := sn) (sub := sub) (ab := ab) (col := col) (dd := dd) (k0 := k0) (k1 := k1) (k2 := k2) (k3 := k3) (k5 := k5) a6 a7 a8 a5 hd hpl a3 (ld_glob I hg hx ⟨rfl, ?_⟩ hdb)
  have hpa := ha cpos pins s σ H _ I h
  have eb : backTo cpos (starEach (e :: es) X.env) = (false, eval e X.env) :: backTo cpos (starEach es X.env) := by rw [he]; rfl
  rw [eb] at hpa ⊢
  refine Calls.evalArgs_plain (thn hpa fun us s2 hq => ?_)
  obtain ⟨vs, H1, I1, r1, hl, hw⟩ := hq
  have k := I1.bk
  exact ⟨rfl, by rw [← r1.length]; exact hl, k _ _ a1, a2.keeps k, OwnTail.stays k a4, fun h' ea m => xe pins σ H1 s2 h' ea _ I1 m hw⟩
end
end L2

set_option Elab.async false
set_option linter.all false
set_option maxRecDepth 100000
set_option maxHeartbeats 4000000
namespace L2
open PySem PySem.Spec PyProof.Rows PySem.W PySem.Calls
section
variable {P : Program} {w : World} {K : PySem.W.Frag} {mg : Str → Option Value} {base : Heap}
/-- THE RULE for a def that may raise -/
theorem Fun.okX {x qual : Str} {st : Stmt} {f : Addr} {fd : FuncData} {N ps : List Str} {k : Nat} {sp : Sp} (F : Fun K x qual st f fd) (S : FnScope N ps (defScope st)) (len : ∀ vs H Q E, sp vs H Q E → vs.length = ps.length)
    (hbody : ∀ (cdv : Value) (A : Around) (outer : List Env) (s : Shared) (H : Hp) (vs : List V) (Q : VK) (E : XK), Room k (A.deeper (envOfC qual (defScope st) s.heap.objs.size f cdv)) → sp vs H Q E →
      ∃ t, PSs (cxOf (CXE P w) P w K mg base N qual (defScope st) f cdv A outer s H E) (defBody st) t ∧ t { nx := fun _ H' => Q .non H', rt := Q } (start N vs) H) : FnOk P w K mg base (CXE P w) (k + 1) f fd ps sp := by
  obtain ⟨oc, od, kV, doc, pm, an, cdv, ct, osl, rfl, lk, hcd⟩ := F.ex
  exact fn_of lk hcd S len fun A outer s H vs Q E hr hsp => hbody cdv A outer s H vs Q E hr hsp
/-- a def that never raises, among those that may -/
theorem FnOk.lift {k : Nat} {f : Addr} {fd : FuncData} {ps : List Str} {sp : Sp} (F : FnOk P w K mg base CX0 k f fd ps sp) : FnOk P w K mg base (CXE P w) k f fd ps sp :=
  ⟨F.len, fun A outer s H args us vs Q E hr he hb hv hs => codeAny_mono (F.run A outer s H args us vs Q E hr he hb hv hs) fun r s' hq => by
    cases r with
    | error e => exact False.elim hq
    | ok fl => cases fl <;> exact hq⟩
/-- a def of the text that keeps its promise, and may raise -/
noncomputable def FnX (P : Program) (w : World) (K : PySem.W.Frag) (mg : Str → Option Value) (base : Heap) (k : Nat) (x : Str) (ps : List Str) (sp : Sp) : Prop :=
  ∃ f fd, mg x = some (.ref f) ∧ PySem.W.keepIn K (.ref f) = true ∧ Binds K fd ps [] ∧ FnOk P w K mg base (CXE P w) k f fd ps sp
end
theorem pe_fnX {X : Cx} {k : Nat} {x : Str} {ps : List Str} {sp : Sp} {E : XK} {e : Expr} {es : List Expr} {t : TA} {p pos : Pos} (F : FnX X.prog X.w X.K X.mg X.base k x ps sp) (hr : Room k X.A) (hx : Passes (CXE X.prog X.w) X E) (ha : PA X (e :: es) t) (hg : Gl X x := by rfl)
    (hdb : (x == ("__debug__" : Str)) = false := by decide) (he : starEach (e :: es) X.env = (false, eval e X.env) :: starEach es X.env := by rfl) (hpl : (backTo pos (starEach es X.env)).any (·.1) = false := by rfl) :
    PE X (.Call (.Name x p) (e :: es) [] pos) (tCall sp [] E t) := by
  obtain ⟨f, fd, h1, h2, h3, h4⟩ := F
  exact pe_call h4 hr hg h1 h2 h3 .nil hx ha hdb he hpl
end L2

set_option Elab.async false
set_option linter.all false
set_option maxRecDepth 100000
set_option maxHeartbeats 4000000
namespace L2
open PySem PySem.Spec PyProof.Rows PySem.W PySem.Calls
/-! ### what may raise, with the names as they stood -/
/-- an exception's end: the heap and state at the call that raised, and how it lies -/
noncomputable def XP (X : Cx) (pins : List (Addr × Obj)) (Ex : St → Value → Option Addr → Hp → Prop) (e : Value) (s1 : Shared) : Prop :=
  ∃ (σ : St) (H : Hp) (s : Shared), Inv X pins σ H s ∧ CXE X.prog X.w X.stack H s (fun cls dx H' => Ex σ cls dx H') e s1
noncomputable abbrev TEX := (St → Value → Option Addr → Hp → Prop) → St → Hp → VK → Prop
noncomputable abbrev TSX := (St → Value → Option Addr → Hp → Prop) → Ends → St → Hp → Prop
/-- an expression that may raise -/
noncomputable def PEX (X : Cx) (e : Expr) (t : TEX) : Prop := ∀ (pins : List (Addr × Obj)) (s : Shared) (σ : St) (H : Hp) (Q : VK) (Ex : St → Value → Option Addr → Hp → Prop), Inv X pins σ H s → t Ex σ H Q → wpAny (model X.prog X.w) X.A (eval e X.env) (EP X pins σ Q) (XP X pins Ex) s
/-- a statement that may raise -/
noncomputable def PSX (X : Cx) (st : Stmt) (t : TSX) : Prop := ∀ (pins : List (Addr × Obj)) (s : Shared) (σ : St) (H : Hp) (D : Ends) (Ex : St → Value → Option Addr → Hp → Prop), Inv X pins σ H s → t Ex D σ H → wpAny (model X.prog X.w) X.A (exec st X.env) (SP X pins D) (XP X pins Ex) s
section
variable {X : Cx} {k : Nat} {x : Str} {ps : List Str} {sp : Sp} {e : Expr} {es : List Expr} {t : TA} {p pos : Pos}
noncomputable def tCallX (sp : Sp) (t : TA) : TEX := fun Ex σ H Q => t σ H fun vs H1 => sp vs H1 Q (fun cls dx H' => Ex σ cls dx H')
theorem px_call (F : FnX X.prog X.w X.K X.mg X.base k x ps sp) (hr : Room k X.A) (ha : PA X.nox (e :: es) t) (hg : Gl X x := by rfl)
    (hdb : (x == ("__debug__" : Str)) = false := by decide) (he : starEach (e :: es) X.env = (false, eval e X.env) :: starEach es X.env := by rfl) (hpl : (backTo pos (starEach es X.env)).any (·.1) = false := by rfl) :
    PEX X (.Call (.Name x p) (e :: es) [] pos) (tCallX sp t) := by
  obtain ⟨f, fd, hm, hk, hb, F⟩ := F
  intro pins s σ H Q Ex I h
  refine wpAny_Call_Name_kw (ld_glob I hg hm ?_ hdb)
  have I0 : Inv X.nox pins σ H s := ⟨⟨I.ok.mod, I.ok.kind, I.ok.glob, I.ok.blt, I.ok.above, I.ok.inj, I.ok.has, I.ok.cab, I.ok.hd, I.ok.frames, I.ok.stk, I.ok.exf, I.ok.bs, I.ok.bsz, I.ok.noex, I.ok.exfs, I.ok.funs, I.ok.frf⟩, I.os, I.bare, I.base, I.loc, I.cell, I.free, I.freeC, I.pin, I.hok, I.len⟩
  refine PySem.W.callWith_K (h₀ := X.base) I.ok.mod.kin hk (wpAny_mono (ha pos pins s σ H _ I0 h) (fun us s1 hq => ?_) fun _ _ z => False.elim z) he hpl
  obtain ⟨vs, H1, I1, r, q⟩ := hq
  have I2 : Inv X pins σ H1 s1 := ⟨⟨I1.ok.mod, I1.ok.kind, I1.ok.glob, I1.ok.blt, I1.ok.above, I1.ok.inj, I1.ok.has, I1.ok.cab, I1.ok.hd, I1.ok.frames, I1.ok.stk, I1.ok.exf, I1.ok.bs, I1.ok.bsz, I1.ok.noex, I1.ok.exfs, I1.ok.funs, I1.ok.frf⟩, I1.os, I1.bare, I1.base, I1.loc, I1.cell, I1.free, I1.freeC, I1.pin, I1.hok, I1.len⟩
  refine ⟨I2.kIn, ?_⟩
  have hl : us.length = ps.length := by rw [← r.length]; exact F.len _ _ _ _ q
  have hbb := hb s1 us I2.kIn (by simpa using hl)
  simp only [List.append_nil] at hbb
  refine wpAny_call (codeAny_mono (F.run X.A X.stack s1 H1 ⟨us, []⟩ us vs Q (fun cls dx H' => Ex σ cls dx H') hr I2.env0 hbb r q) fun r s' hq => ?_)
  cases r with
  | error e => exact ⟨σ, H1, s1, I2, hq⟩
  | ok fl =>
    cases fl with
    | ret u => exact I2.after hq
    | next => exact False.elim hq
    | brk => exact False.elim hq
    | cont => exact False.elim hq
noncomputable def tDropX (te : TEX) : TSX := fun Ex D σ H => te Ex σ H fun _ H1 => D.nx σ H1
theorem px_expr {te : TEX} (he : PEX X e te) (hs : swapsWith e none pos.line X.env = pure false := by rfl) : PSX X (.Expr e pos) (tDropX te) := by
  intro pins s σ H D Ex I h
  exact wpAny_Expr_any (thn (he pins s σ H _ Ex I h) fun v s1 ⟨x, H1, I1, r1, q1⟩ => ⟨σ, H1, I1, q1⟩) I.quiet hs
end
end L2

set_option Elab.async false
set_option linter.all false
set_option maxRecDepth 100000
set_option maxHeartbeats 4000000
namespace L2
open PySem PySem.Spec PyProof.Rows PySem.W PySem.Calls
theorem OwnTail.has {h : Heap} {a b : List Value} {v : Value} (x : OwnTail h a b) (hv : a.contains v = true) : b.contains v = true := by
  induction x with
  | base => exact hv
  | own _ _ _ _ ih => rw [List.contains_cons, ih, Bool.or_true]
theorem excC_in {K : Frag} {h : Heap} {C : Addr} {bmB : List Value} {newId initId B : String} (X : K.In h) (hx : excIn K C bmB newId = true) (f : ExcBaseFacts B newId initId bmB) : ExcC h C := by
  unfold excIn at hx
  split at hx
  · rename_i dct cd sl heq
    split at hx
    · rename_i C' bm k0 k1 k2 k3 n k5 hm hs
      simp only [Bool.and_eq_true, Bool.not_eq_true', beq_iff_eq] at hx
      obtain ⟨⟨⟨⟨⟨h1, h2⟩, h3⟩, h4⟩, h5⟩, h6⟩ := hx
      subst h1
      subst h2
      have ho := X _ _ heq
      have hsl : sl = #[k0, k1, k2, k3, some (.builtin n), k5] := by
        rw [← Array.toList_inj]; exact hs
      obtain ⟨nm, bs, mro, ns, qn, hdct, sn, sub, ab, col, hdel⟩ := cd
      simp only at hm h3 h4 h5 h6
      subst hm
      subst h3
      subst hsl
      refine ⟨nm, qn, ns, bs, bm, bmB, hdct, sn, sub, ab, col, dct, k0, k1, k2, k3, k5, h.nsMap ns, B, B, n, n, initId, initId, bmB, ho, ?_, nsMap_none_of_in X h5 h6, tail_of_in X h4, OwnTail.has (tail_of_in X h4) f.hasBase, f, f.hasB, f⟩
      exact Heap.Ns.of_isNs (isNs_of_in X h5)
    · cases hx
  · cases hx
end L2

set_option Elab.async false
set_option linter.all false
set_option maxRecDepth 100000
set_option maxHeartbeats 4000000
namespace L2
open PySem PySem.Spec PyProof.Rows PySem.W PySem.Calls
theorem sub_type_tuple : isSubtype (.type "type") (.type "tuple") = pure false := by rw [isSubtype_type]; kernel_rfl
theorem wp_matches {M : Model} {A : Around} {E : Value → Shared → Prop} {nm q nm' q' : Str} {C N R N' : Addr} {bs bm bs' bm' : List Value} {hdct hdct' : Bool} {sn sn' : List Str} {sub sub' : List Value} {ab ab' : Bool} {col col' : Option Bool} {dd dd' : Option Addr} {k0 k1 k2 k3 k5 l0 l1 l2 l3 l5 : Option Value} {newId newId' : String}
    {s : Shared} {e : Addr} {oe : Obj} {Q : Bool → Shared → Prop} (hC : s.heap.get? C = some (excClassObj nm q C N bs bm hdct sn sub ab col dd k0 k1 k2 k3 k5 newId)) (hR : s.heap.get? R = some (excClassObj nm' q' R N' bs' bm' hdct' sn' sub' ab' col' dd' l0 l1 l2 l3 l5 newId'))
    (he : s.heap.get? e = some oe) (hc : oe.cls = .ref C) (hb : bm'.contains (.type "BaseException") = true) (k : Q ((Value.ref C :: bm).contains (.ref R)) s) : wpAny M A (excMatches (.ref e) (.ref R)) Q E s := by
  unfold excMatches
  refine wpAny_bind (wpAny_isInstance (T := "type") ⟨_, hR, rfl⟩ sub_type_tuple ?_)
  simp only [Bool.false_eq_true, if_false, pure_bind, List.forIn_cons, List.forIn_nil]
  obtain ⟨h, g, d, tk, os⟩ := s
  have hex : ∀ {Q' : Bool → Shared → Prop}, Q' true ⟨h, g, d, tk, os⟩ → wpAny M A (isExcClass (.ref R)) Q' E ⟨h, g, d, tk, os⟩ := fun {Q'} qq => by
    unfold isExcClass isType
    simp only [bind_assoc, pure_bind]
    refine wpAny_bind (wpAny_loadPart hR ?_)
    simp only [if_true]
    refine wpAny_isSubtype_exc hR ?_
    rw [List.contains_cons, hb, Bool.or_true]
    exact qq
  refine wpAny_bind (wpAny_bind (wpAny_bind (hex ?_)))
  simp only [Bool.not_true, Bool.false_eq_true, if_false]
  refine wpAny_pure (wpAny_pure (wpAny_bind (wpAny_typeOf_ref he ?_)))
  rw [hc]
  refine wpAny_bind (wpAny_bind (wpAny_bind (wpAny_isSubtype_exc hC ?_)))
  cases c : (Value.ref C :: bm).contains (Value.ref R) with
  | true =>
    rw [c] at k
    exact wpAny_pure (wpAny_pure (wpAny_pure k))
  | false =>
    rw [c] at k
    exact wpAny_pure (wpAny_pure (wpAny_pure k))
end L2

set_option Elab.async false
set_option linter.all false
set_option maxRecDepth 100000
set_option maxHeartbeats 4000000
namespace L2
open PySem PySem.Spec PyProof.Rows PySem.W PySem.Calls
end L2

set_option Elab.async false
set_option linter.all false
set_option maxRecDepth 100000
set_option maxHeartbeats 4000000
namespace L2
open PySem PySem.Spec PyProof.Rows PySem.W PySem.Calls
section
variable {X : Cx} {pins : List (Addr × Obj)} {σ : List (Option V)} {H H' : Hp} {s : Shared} {h' : Heap}
theorem Inv.stepN {g' : Array GenState} {t' : Nat} {d' : Drawn} {ch : List Addr} (I : Inv X pins σ H s)
    (hch : ∀ b ∈ ch, X.s₀.heap.get? b = none ∧ b ≠ X.env.locals ∧ (∀ x c, X.env.cells.lookup x = some c → c ≠ b) ∧ ∀ p ∈ X.pn ++ pins, p.1 ≠ b)
    (keep : ∀ b o, b ≠ X.env.locals → b ∉ X.fs → b ∉ ch → s.heap.get? b = some o → H b = none → h'.get? b = some o)
    (slot : ∀ b o, b ≠ X.env.locals → b ∈ X.fs → b ∉ ch → s.heap.get? b = some o → H b = none → ∃ sl, h'.get? b = some { o with slots := sl }) (free : ∀ b o, b ∉ ch → s.heap.get? b = some o → H b = none → H' b = none)
    (there : ∀ b o, b ∉ ch → s.heap.get? b = some o → ∃ o', h'.get? b = some o')
    (tups : ∀ b xs, H b = some (.tup xs) → H' b = some (.tup xs)) (frzs : ∀ b o u, H b = some (.frz o u) → H' b = some (.frz o u)) (tbls : ∀ b ps, H b = some (.tbl ps) → ∃ more, H' b = some (.tbl (ps ++ more)))
    (ns : ∀ m, s.heap.Ns X.env.locals m → h'.Ns X.env.locals m) (hok : HOk X.prog X.w H' h') (hg : AllBare g') :
    Inv X pins σ H' { s with heap := h', gens := g', drawn := d', toks := t' } := by
  have neL : ∀ b o, X.s₀.heap.get? b = some o → b ≠ X.env.locals := fun b o e => Nat.ne_of_lt (Nat.lt_of_lt_of_le (Heap.lt_size e) I.ok.above)
  have neC : ∀ b o, X.s₀.heap.get? b = some o → b ∉ X.ex → b ∉ ch := fun b o e hx hb => by
    rw [(hch b hb).1] at e; cases e
  have cellK : ∀ x c, X.env.cells.lookup x = some c → ∀ v, s.heap.IsCell c v → h'.IsCell c v := fun x c e v ⟨o, ho, hd⟩ => by
    have nch : c ∉ ch := fun z => (hch c z).2.2.1 x c e rfl
    by_cases hc : c ∈ X.fs
    · obtain ⟨sl, q⟩ := slot c o (I.cne x c e) hc nch ho (I.freeC x c e)
      exact ⟨_, q, hd⟩
    · exact ⟨o, keep c o (I.cne x c e) hc nch ho (I.freeC x c e), hd⟩
  refine ⟨I.ok, I.os, hg, ⟨fun b o e n hb hx => ?_, fun b o e n hb hx => ?_, fun b o e n hx => ?_, fun b o e hx => ?_, fun b xs e => tups b xs (I.base.tups b xs e), fun b o xs e => frzs b o xs (I.base.frzs b o xs e), fun b ps e => ?_⟩, ?_, fun x c e => ?_, ?_, fun x c e => ?_, fun p hp => ?_, hok, I.len⟩
  · exact keep b o (neL b o e) hb (neC b o e hx) (I.base.keep b o e n hb hx) (I.base.free b o e n hx)
  · obtain ⟨sl, e1⟩ := I.base.slot b o e n hb hx
    obtain ⟨sl', e2⟩ := slot b _ (neL b o e) hb (neC b o e hx) e1 (I.base.free b o e n hx)
    exact ⟨sl', e2⟩
  · obtain ⟨o', e1⟩ := I.base.there b o e hx
    exact free b o' (neC b o e hx) e1 (I.base.free b o e n hx)
  · obtain ⟨o', e1⟩ := I.base.there b o e hx
    exact there b o' (neC b o e hx) e1
  · obtain ⟨m1, e1⟩ := I.base.tbls b ps e
    obtain ⟨m2, e2⟩ := tbls b _ e1
    exact ⟨m1 ++ m2, by rw [e2, Array.append_assoc]⟩
  · obtain ⟨m, hn, hl⟩ := I.loc
    refine ⟨m, ns m hn, fun i x v e1 e2 e3 => ?_⟩
    obtain ⟨u, r, l⟩ := hl i x v e1 e2 e3
    refine ⟨u, r, ?_⟩
    rcases l with l | ⟨k, c, e, z⟩
    · exact .inl l
    · exact .inr ⟨k, c, e, cellK x c e _ z⟩
  · obtain ⟨v, z⟩ := I.cell x c e
    exact ⟨v, cellK x c e v z⟩
  · obtain ⟨m, ⟨o, _, _, ho, _⟩, _⟩ := I.loc
    exact free _ o (fun z => (hch _ z).2.1 rfl) ho I.free
  · obtain ⟨v, o, ho, hd⟩ := I.cell x c e
    exact free c o (fun z => (hch c z).2.2.1 x c e rfl) ho (I.freeC x c e)
  · obtain ⟨e, n, ne, nf, d⟩ := I.pin p hp
    have nch : p.1 ∉ ch := fun z => (hch p.1 z).2.2.2 p hp rfl
    exact ⟨keep p.1 p.2 ne nf nch e n, free p.1 p.2 nch e n, ne, nf, d⟩
/-- behind a change of frames' slots and of what was made of late -/
theorem Inv.moved {G : List Addr} (I : Inv X pins σ H s) (hG : ∀ b ∈ G, X.s₀.heap.get? b = none ∧ H b = none ∧ b ≠ X.env.locals ∧ (∀ x c, X.env.cells.lookup x = some c → c ≠ b) ∧ ∀ p ∈ X.pn ++ pins, p.1 ≠ b)
    (kp : ∀ b o, s.heap.get? b = some o → b ∉ frs X.stack → b ∉ G → h'.get? b = some o) (sl : ∀ b o, s.heap.get? b = some o → b ∈ frs X.stack → ∃ sl, h'.get? b = some { o with slots := sl }) :
    Inv X pins σ H { s with heap := h' } := by
  refine I.stepN (g' := s.gens) (d' := s.drawn) (t' := s.toks) (ch := G) (fun b hb => ⟨(hG b hb).1, (hG b hb).2.2⟩) (fun b o hL hb hc e _ => kp b o e (fun z => (List.mem_cons.mp (I.stkSub b z)).elim hL hb) hc) (fun b o hL hb hc e _ => ?_) (fun _ _ _ _ n => n) (fun b o hc e => ?_) (fun _ _ e => e) (fun _ _ _ e => e) (fun b ps e => ⟨#[], by rw [e]; simp⟩) (fun m hm => ?_) (fun b u e => ?_) I.bare
  · by_cases z : b ∈ frs X.stack
    · exact sl b o e z
    · exact ⟨o.slots, kp b o e z hc⟩
  · by_cases z : b ∈ frs X.stack
    · obtain ⟨q, q'⟩ := sl b o e z
      exact ⟨_, q'⟩
    · exact ⟨o, kp b o e z hc⟩
  · obtain ⟨o, es, ep, ho, r⟩ := hm
    by_cases z : X.env.locals ∈ frs X.stack
    · obtain ⟨q, q'⟩ := sl _ o ho z
      exact ⟨_, es, ep, q', r⟩
    · exact ⟨o, es, ep, kp _ o ho z (fun y => (hG _ y).2.2.1 rfl), r⟩
  · have nf : ∀ c v, H c = some v → c ∉ frs X.stack ∧ c ∉ G := fun c v q => ⟨fun hm => (by
      have := I.stkFree c hm
      rw [q] at this; cases this), fun hm => (by rw [(hG c hm).2.1] at q; cases q)⟩
    refine (I.hok b u e).stay (fun c v hc q => ?_) (fun _ q => q) fun _ _ q => q
    rcases hc with z | z
    · rw [z] at q ⊢; exact kp b v q (nf b u e).1 (nf b u e).2
    · exact kp c v q (nf c _ z).1 (nf c _ z).2
end
end L2

set_option Elab.async false
set_option linter.all false
set_option maxRecDepth 100000
set_option maxHeartbeats 4000000
namespace L2
open PySem PySem.Spec PyProof.Rows PySem.W PySem.Calls
section
variable {X : Cx} {pins : List (Addr × Obj)} {σ : List (Option V)} {H : Hp} {s : Shared}
/-- a local name is unbound -/
theorem unbind_ok {M : Model} {A : Around} {E : Value → Shared → Prop} {i : Nat} {x : Str} {v : V} {Q : Unit → Shared → Prop} (I : Inv X pins σ H s) (hN : X.N.Nodup) (hi : X.N[i]? = some x) (hk : X.env.scope.names.lookup x = some .local) (hv : σ[i]? = some (some v))
    (h : ∀ s', Inv X pins (σ.set i none) H s' → Q () s') : wpAny M A (unbindName X.env x) Q E s := by
  obtain ⟨m, hn, hl⟩ := id I.loc
  have hcls : (X.env.scope.kind == .class || (X.env.scope.kind == .module && X.env.locals != X.env.globals)) = false := by rw [I.ok.kind]; rfl
  have hlen : i < σ.length := by rw [I.len]; exact (List.getElem?_eq_some_iff.mp hi).1
  obtain ⟨u, r, lk⟩ := hl i x v hi hv (.inl hk)
  have hm : m x = some u := by
    rcases lk with ⟨_, e⟩ | ⟨z, _⟩
    · exact e
    · have hk' : X.env.kindOf x = some .local := hk
      rcases z with z | z <;> (rw [hk'] at z; cases z)
  refine wpAny_unbindName_local hk hn hm hcls fun h' u' hn' hs => ?_
  have nb : ∀ b o, X.s₀.heap.get? b = some o → b ≠ X.env.locals := fun b o e => Nat.ne_of_lt (Nat.lt_of_lt_of_le (Heap.lt_size e) I.ok.above)
  have cne := I.cne
  refine h _ ⟨I.ok, I.os, I.bare, ⟨fun b o e n hb hx => (hs.2 b (nb b o e)).trans (I.base.keep b o e n hb hx), fun b o e n hb hx => ?_, I.base.free, fun b o e hx => ?_, I.base.tups, I.base.frzs, I.base.tbls⟩, ⟨_, hn', fun j y w e1 e2 e3 => ?_⟩, fun y c e => ?_, I.free, I.freeC, fun p hp => ?_, fun b ob e => ?_, ?_⟩
  · obtain ⟨sl, e1⟩ := I.base.slot b o e n hb hx
    exact ⟨sl, (hs.2 b (nb b o e)).trans e1⟩
  · obtain ⟨o', e1⟩ := I.base.there b o e hx
    exact ⟨o', (hs.2 b (nb b o e)).trans e1⟩
  · by_cases hj : j = i
    · subst hj
      rw [List.getElem?_set_self hlen] at e2
      cases e2
    · rw [List.getElem?_set_ne (Ne.symm hj)] at e2
      obtain ⟨u2, r2, q⟩ := hl j y w e1 e2 e3
      refine ⟨u2, r2, ?_⟩
      rcases q with ⟨k, e⟩ | ⟨k, c, e, z⟩
      · refine .inl ⟨k, ?_⟩
        have : y ≠ x := fun e => hj (nodup_ix hN e1 (e ▸ hi))
        simp [this, e]
      · exact .inr ⟨k, c, e, z.sameBut hs (cne y c e)⟩
  · obtain ⟨w', z⟩ := I.cell y c e
    exact ⟨w', z.sameBut hs (cne y c e)⟩
  · obtain ⟨e, n, ne, nf, d⟩ := I.pin p hp
    exact ⟨(hs.2 p.1 ne).trans e, n, ne, nf, d⟩
  · refine (I.hok b ob e).stay (fun c w' hc q => (hs.2 c ?_).trans q) (fun _ q => q) fun _ _ q => q
    rintro rfl
    rcases hc with z | z
    · have := I.free
      rw [z] at this; rw [this] at e; cases e
    · rw [I.free] at z; cases z
  · rw [List.length_set]; exact I.len
end
end L2

set_option Elab.async false
set_option linter.all false
set_option maxRecDepth 100000
set_option maxHeartbeats 4000000
namespace L2
open PySem PySem.Spec PyProof.Rows PySem.W PySem.Calls
section
variable {X : Cx} {pins : List (Addr × Obj)} {σ : St} {H : Hp} {s : Shared} {ea C : Addr} {o : HO}
/-- an untracked object of late is tracked from here on -/
theorem Inv.track (I : Inv X pins σ H s) (hn : H ea = none) (h0 : X.s₀.heap.get? ea = none) (hl : ea ≠ X.env.locals) (hc : ∀ x c, X.env.cells.lookup x = some c → c ≠ ea) (hp : ∀ p ∈ X.pn ++ pins, p.1 ≠ ea)
    (new : ObjOk X.prog X.w (upd H ea o) s.heap ea o) : Inv X pins σ (upd H ea o) s := by
  have J := I.stepN (h' := s.heap) (H' := upd H ea o) (g' := s.gens) (d' := s.drawn) (t' := s.toks) (ch := [ea]) (fun b hb => by
      have z : b = ea := by simpa using hb
      rw [z]; exact ⟨h0, hl, hc, hp⟩) (fun b o _ _ _ e _ => e) (fun b o _ _ _ e _ => ⟨o.slots, e⟩) (fun b o hb e n => by rw [upd_ne (fun z => hb (by simp [z]))]; exact n) (fun b o _ e => ⟨o, e⟩)
    (fun b xs e => by rw [upd_ne (ne_of_none e hn)]; exact e) (fun b o u e => by rw [upd_ne (ne_of_none e hn)]; exact e) (fun b ps e => ⟨#[], by rw [upd_ne (ne_of_none e hn), e]; simp⟩) (fun m hm => hm) (fun b u e => ?_) I.bare
  · exact J
  · by_cases z : b = ea
    · rw [z, upd_same] at e
      cases e
      rw [z]; exact new
    · rw [upd_ne z] at e
      exact (I.hok b u e).stay (fun _ _ _ q => q) (fun b q => by rw [upd_ne (ne_of_none q hn)]; exact q) (fun b xs q => by rw [upd_ne (ne_of_none q hn)]; exact q)
/-- an exception of class C, with its own dict -/
noncomputable def ExcO (ea C : Addr) (dx : Option Addr) : HO := .ext fun h => ∃ oe vs, h.get? ea = some oe ∧ oe.cls = .ref C ∧ oe.dict = dx ∧ oe.data = Data.fields vs ∧ vs[2]? = some Value.none
theorem exc_new {P : Program} {w : World} {H : Hp} {h : Heap} {oe : Obj} {dx : Option Addr} {vs : Array Value} (h1 : h.get? ea = some oe) (h2 : oe.cls = .ref C) (h3 : oe.dict = dx) (h4 : oe.data = Data.fields vs) (h5 : vs[2]? = some Value.none) : ObjOk P w H h ea (ExcO ea C dx) :=
  ⟨⟨oe, vs, h1, h2, h3, h4, h5⟩, ⟨oe, h1⟩, fun h1' h2' ⟨o, vs', q1, q2⟩ k => ⟨o, vs', k o q1, q2⟩⟩
end
end L2

set_option Elab.async false
set_option linter.all false
set_option maxRecDepth 100000
set_option maxHeartbeats 4000000
namespace L2
open PySem PySem.Spec PyProof.Rows PySem.W PySem.Calls
/-- the context of a handler's suite -/
noncomputable def Cx.held (X : Cx) (ea : Addr) : Cx := { X with A := X.A.mark (some (.ref ea)), calm := false, xe := fun _ _ => False }
section
variable {X : Cx} {pins : List (Addr × Obj)} {σ : St} {H : Hp} {s : Shared} {ea : Addr}
theorem Inv.held (I : Inv X pins σ H s) (ea : Addr) : Inv (X.held ea) pins σ H s :=
  ⟨⟨I.ok.mod, I.ok.kind, I.ok.glob, I.ok.blt, I.ok.above, I.ok.inj, I.ok.has, I.ok.cab, (fun z => by cases z), I.ok.frames, I.ok.stk, I.ok.exf, I.ok.bs, I.ok.bsz, I.ok.noex, I.ok.exfs, I.ok.funs, I.ok.frf⟩, I.os, I.bare, I.base, I.loc, I.cell, I.free, I.freeC, I.pin, I.hok, I.len⟩
theorem Inv.unheld (ok : X.Ok) (I : Inv (X.held ea) pins σ H s) : Inv X pins σ H s :=
  ⟨ok, I.os, I.bare, I.base, I.loc, I.cell, I.free, I.freeC, I.pin, I.hok, I.len⟩
/-- behind a handler's suite its name goes -/
theorem goes_ok {M : Model} {A : Around} {E : Value → Shared → Prop} {i : Nat} {n : Str} {pos : Pos} {Q : Unit → Shared → Prop} (I : Inv X pins σ H s) (hN : X.N.Nodup) (hi : X.N[i]? = some n) (hk : X.env.scope.names.lookup n = some .local)
    (h : ∀ s', Inv X pins (σ.set i none) H s' → Q () s') : wpAny M A (do bindName X.env n Value.none; unbindBehindTheSuite X.env n pos) Q E s := by
  refine wpAny_bind (wpAny_bindName (store_ok I hN hi (.inl hk) (v := .non) rfl (fun s' I' => ?_) (.inr hk)))
  have hl : i < σ.length := by rw [I.len]; exact (List.getElem?_eq_some_iff.mp hi).1
  unfold unbindBehindTheSuite
  refine wpAny_onRaise (unbind_ok I' hN hi hk (v := .non) (List.getElem?_set_self hl) fun s2 I2 => h s2 ?_)
  rw [List.set_set] at I2
  exact I2
/-- an own class of exceptions, and that R stands above it -/
noncomputable def Under (h : Heap) (C R : Addr) : Prop := ∃ (nm q : Str) (N : Addr) (bs bm : List Value) (hdct : Bool) (sn : List Str) (sub : List Value) (ab : Bool) (col : Option Bool) (dd : Option Addr) (k0 k1 k2 k3 k5 : Option Value) (newId : String),
  h.get? C = some (excClassObj nm q C N bs bm hdct sn sub ab col dd k0 k1 k2 k3 k5 newId) ∧ (Value.ref C :: bm).contains (.ref R) = true
noncomputable def hEnds (D : Ends) (j : Nat) : Ends := { nx := fun σ H => D.nx (σ.set j none) H, rt := D.rt, bk := fun σ H => D.bk (σ.set j none) H, ct := fun σ H => D.ct (σ.set j none) H }
end
section
variable {X : Cx} {st b0 : Stmt} {suite : List Stmt} {tx : TSX} {th : TS} {x n : Str} {R : Addr} {j : Nat} {np hpos pos : Pos}
end
end L2

set_option Elab.async false
set_option linter.all false
set_option maxRecDepth 100000
set_option maxHeartbeats 4000000
namespace L2
open PySem PySem.Spec PyProof.Rows PySem.W PySem.Calls
section
variable {X : Cx} {pins : List (Addr × Obj)} {σ : St} {H : Hp} {s : Shared}
theorem Inv.toNox (I : Inv X pins σ H s) : Inv X.nox pins σ H s := ⟨⟨I.ok.mod, I.ok.kind, I.ok.glob, I.ok.blt, I.ok.above, I.ok.inj, I.ok.has, I.ok.cab, I.ok.hd, I.ok.frames, I.ok.stk, I.ok.exf, I.ok.bs, I.ok.bsz, I.ok.noex, I.ok.exfs, I.ok.funs, I.ok.frf⟩, I.os, I.bare, I.base, I.loc, I.cell, I.free, I.freeC, I.pin, I.hok, I.len⟩
theorem Inv.ofNox (I : Inv X.nox pins σ H s) : Inv X pins σ H s := ⟨⟨I.ok.mod, I.ok.kind, I.ok.glob, I.ok.blt, I.ok.above, I.ok.inj, I.ok.has, I.ok.cab, I.ok.hd, I.ok.frames, I.ok.stk, I.ok.exf, I.ok.bs, I.ok.bsz, I.ok.noex, I.ok.exfs, I.ok.funs, I.ok.frf⟩, I.os, I.bare, I.base, I.loc, I.cell, I.free, I.freeC, I.pin, I.hok, I.len⟩
end
/-- statements that may raise -/
noncomputable def PSXs (X : Cx) (sts : List Stmt) (t : TSX) : Prop := ∀ (pins : List (Addr × Obj)) (s : Shared) (σ : St) (H : Hp) (D : Ends) (Ex : St → Value → Option Addr → Hp → Prop), Inv X pins σ H s → t Ex D σ H → wpAny (model X.prog X.w) X.A (execs sts X.env) (SP X pins D) (XP X pins Ex) s
section
variable {X : Cx} {st : Stmt} {rest : List Stmt} {t u : TSX} {pos : Pos}
theorem pxs_one (h1 : PSX X st t) : PSXs X [st] t := by
  intro pins s σ H D Ex I h
  refine wpAny_execs_cons (thn (h1 pins s σ H D Ex I h) fun f s1 q => ?_)
  cases f with
  | next => exact wpAny_execs_nil q
  | ret v => exact q
  | brk => exact q
  | cont => exact q
noncomputable def tIfX (c : TT) (t u : TSX) : TSX := fun Ex D σ H => c σ H fun b H1 => if b = true then t Ex D σ H1 else u Ex D σ H1
theorem px_if {c : Expr} {a b : List Stmt} {tc : TT} (hc : PT X.nox c tc) (ha : PSXs X a t) (hb : PSXs X b u) : PSX X (.If c a b pos) (tIfX tc t u) := by
  intro pins s σ H D Ex I h
  refine wpAny_If (wpAny_mono (hc pins s σ H _ I.toNox h) (fun d s1 hq => ?_) fun _ _ z => False.elim z)
  obtain ⟨H1, I1, q1⟩ := hq
  cases d with
  | true => exact ha pins s1 σ H1 D Ex I1.ofNox q1
  | false => exact hb pins s1 σ H1 D Ex I1.ofNox q1
end
end L2

set_option Elab.async false
set_option linter.all false
set_option maxRecDepth 100000
set_option maxHeartbeats 4000000
namespace L2
open PySem PySem.Spec PyProof.Rows PySem.W PySem.Calls
open Builtin Builtin.ObjectAttr
/-! ### own classes of exceptions, the names that none above has -/
inductive TailS (h : Heap) (S : List Str) (bmB : List Value) : List Value → Prop
  | base : TailS h S bmB bmB
  | own {B : Addr} {c0 : Value} {dd : Option Addr} {cd : ClassData} {sl : Array (Option Value)} {m : Str → Option Value} {tl : List Value} (e : h.get? B = some ⟨c0, dd, .cls cd, sl⟩) (n : h.Ns cd.ns m) (i : ∀ x ∈ S, m x = none) (r : TailS h S bmB tl) : TailS h S bmB (.ref B :: tl)
section
variable {h h' : Heap} {S : List Str} {bmB tl : List Value}
end
section
variable {M : Model} {A : Around} {E : Value → Shared → Prop} {h : Heap} {g : Array GenState} {d : Drawn} {t : Nat} {os : OsState} {S : List Str} {bmB tl : List Value} {x : Str} {y : Option Value} {Q : Option Value → Shared → Prop}
variable {nm q : Str} {C N : Addr} {bs bm : List Value} {hdct : Bool} {sn : List Str} {sub : List Value} {ab : Bool} {col : Option Bool} {dd : Option Addr} {k0 k1 k2 k3 k5 : Option Value} {B newId : String} {mN : Str → Option Value}
end
/-- an own class of exceptions with an __init__ of its own, no other name of S in it or above -/
structure ExcI (S : List Str) (h : Heap) (C f : Addr) (nm q : Str) (N : Addr) (bs bm bmB : List Value) (sn : List Str) (sub : List Value) (ab : Bool) (col : Option Bool) (dd : Option Addr) (k0 k1 k2 k3 k5 : Option Value) (mN : Str → Option Value) (B newId initId sa ow : String) : Prop where
  at_ : h.get? C = some (excClassObj nm q C N bs bm true sn sub ab col dd k0 k1 k2 k3 k5 newId)
  ns : h.Ns N mN
  init : mN (Str.ofString "__init__") = some (.ref f)
  no : ∀ x ∈ S, mN x = none
  tail : TailS h (Str.ofString "__init__" :: S) bmB bm
  bf : ExcBaseFacts B newId initId bmB
  sf : StoreFacts B bmB sa ow
  af : ExcAttrBase B bmB
section
variable {prog : Program} {w : World} {A : Around} {E : Value → Shared → Prop} {h : Heap} {g : Array GenState} {d : Drawn} {t : Nat} {os : OsState}
  {S : List Str} {C f : Addr} {nm q : Str} {N : Addr} {bs bm bmB : List Value} {sn : List Str} {sub : List Value} {ab : Bool} {col : Option Bool} {dd : Option Addr} {k0 k1 k2 k3 k5 : Option Value} {mN : Str → Option Value} {B newId initId sa ow : String}
end
end L2

set_option Elab.async false
set_option linter.all false
set_option maxRecDepth 100000
set_option maxHeartbeats 4000000
namespace L2
open PySem PySem.Spec PyProof.Rows PySem.W PySem.Calls
section
variable {X : Cx} {pins : List (Addr × Obj)} {σ : St} {H : Hp} {s : Shared} {ea : Addr} {φ : Heap → Prop}
end
section
variable {M : Model} {A : Around} {E : Value → Shared → Prop} {s : Shared} {env : Env} {x : Sem Value} {Q : Flow → Shared → Prop}
  {nm q : Str} {C N : Addr} {bs bm : List Value} {hdct : Bool} {sn : List Str} {sub : List Value} {ab : Bool} {col : Option Bool} {dd : Option Addr} {k0 k1 k2 k3 k5 : Option Value} {newId : String}
end
section
variable {X : Cx} {x : Str} {C f : Addr} {fd : FuncData} {ps : List Str} {sp : Sp} {k : Nat} {e : Expr} {es : List Expr} {t : TA} {np cpos pos : Pos} {W : Value → Option Addr → Hp → Prop} {S : List Str}
end
end L2

set_option Elab.async false
set_option linter.all false
set_option maxRecDepth 100000
set_option maxHeartbeats 4000000
namespace L2
open PySem PySem.Spec PyProof.Rows PySem.W PySem.Calls
open Builtin Builtin.ObjectAttr
section
variable {prog : Program} {w : World} {A : Around} {E : Value → Shared → Prop} {h : Heap} {g : Array GenState} {d : Drawn} {t : Nat} {os : OsState}
  {S : List Str} {C f x : Addr} {nm q : Str} {N : Addr} {bs bm bmB : List Value} {sn : List Str} {sub : List Value} {ab : Bool} {col : Option Bool} {dd : Option Addr} {k0 k1 k2 k3 k5 : Option Value} {mN : Str → Option Value} {B newId initId sa ow : String}
  {o : Obj} {vs : Array Value} {name : Str} {v : Value}
end
end L2

set_option Elab.async false
set_option linter.all false
set_option maxRecDepth 100000
set_option maxHeartbeats 4000000
namespace L2
open PySem PySem.Spec PyProof.Rows PySem.W PySem.Calls
open Builtin Builtin.ObjectAttr
section
variable {prog : Program} {w : World} {A : Around} {E : Value → Shared → Prop} {h : Heap} {g : Array GenState} {d : Drawn} {t : Nat} {os : OsState}
  {S : List Str} {C f x dx : Addr} {nm q : Str} {N : Addr} {bs bm bmB : List Value} {sn : List Str} {sub : List Value} {ab : Bool} {col : Option Bool} {dd : Option Addr} {k0 k1 k2 k3 k5 : Option Value} {mN mA : Str → Option Value} {B newId initId sa ow : String}
  {o : Obj} {vs : Array Value} {name : Str} {v : Value}
end
/-! ### readings and rules -/
section
variable {X : Cx} {S : List Str} {o e value : Expr} {n : Str} {pos pos' : Pos} {ta tv : TE} {C f : Addr}
end
end L2

set_option Elab.async false
set_option linter.all false
set_option maxRecDepth 100000
set_option maxHeartbeats 4000000
namespace L2
open PySem PySem.Spec PyProof.Rows PySem.W PySem.Calls
/-! ### the class as it stands in the fragment -/
noncomputable abbrev veM : List Value := [.type "ValueError", .type "Exception", .type "BaseException", .type "object"]
theorem excC_ve {K : Frag} {h : Heap} {C : Addr} (X : K.In h) (hx : excIn K C veM "ValueError.__new__" = true) : ExcC h C := excC_in X hx F.excBase_ValueError
/-- R stands above C -/
noncomputable def underIn (K : Frag) (C R : Addr) : Bool := match K.lookup C with
  | some ⟨.type "type", _, .cls cd, sl⟩ => (match cd.mro, sl.toList with
    | .ref C' :: bm, [_, _, _, _, some (.builtin _), _] => C' == C && !cd.hasDel && (Value.ref C :: bm).contains (.ref R)
    | _, _ => false)
  | _ => false
theorem under_in {K : Frag} {h : Heap} {C R : Addr} (X : K.In h) (hx : underIn K C R = true) : Under h C R := by
  unfold underIn at hx
  split at hx
  · rename_i dct cd sl heq
    split at hx
    · rename_i C' bm k0 k1 k2 k3 n k5 hm hs
      simp only [Bool.and_eq_true, Bool.not_eq_true', beq_iff_eq] at hx
      obtain ⟨⟨h1, h2⟩, h3⟩ := hx
      subst h1
      have ho := X _ _ heq
      have hsl : sl = #[k0, k1, k2, k3, some (.builtin n), k5] := by
        rw [← Array.toList_inj]; exact hs
      obtain ⟨nm, bs, mro, ns, qn, hdct, sn, sub, ab, col, hdel⟩ := cd
      simp only at hm h2 h3
      subst hm
      subst h2
      subst hsl
      exact ⟨nm, qn, ns, bs, bm, hdct, sn, sub, ab, col, dct, k0, k1, k2, k3, k5, n, ho, h3⟩
    · cases hx
  · cases hx
end L2

set_option Elab.async false
set_option linter.all false
set_option maxRecDepth 100000
set_option maxHeartbeats 4000000
namespace L2
open PySem PySem.Spec PyProof.Rows PySem.W PySem.Calls
section
variable {X : Cx} {st b0 : Stmt} {suite : List Stmt} {tx : TSX} {th : TS} {x n : Str} {R : Addr} {j : Nat} {np hpos pos : Pos}
end
/-! ### what may raise, within other expressions -/
section
variable {X : Cx} {e : Expr} {es : List Expr} {pos : Pos}
end
end L2

set_option Elab.async false
set_option linter.all false
set_option maxRecDepth 100000
set_option maxHeartbeats 4000000
namespace L2
open PySem PySem.Spec PyProof.Rows PySem.W PySem.Calls
section
variable {X : Cx} {st b0 : Stmt} {suite : List Stmt} {tx : TSX} {th : TS} {x : Str} {R : Addr} {np hpos pos : Pos}
end
end L2

set_option Elab.async false
set_option linter.all false
set_option maxRecDepth 100000
set_option maxHeartbeats 4000000
namespace L2
open PySem PySem.Spec PyProof.Rows PySem.W PySem.Calls
open Builtin Builtin.ObjectAttr
section
variable {prog : Program} {w : World} {A : Around} {E : Value → Shared → Prop} {K : Frag} {x D : Addr} {ox : Obj} {odo : Option Obj} {hh : Heap} {g : Array GenState} {d : Drawn} {t : Nat} {os : OsState}
theorem check_gaK {M : Model} {nv : Value} {Q : Unit → Shared → Prop} (L0 : Looks M hh (typeOf (.ref x)) (.ref D)) (L1 : Looks M hh (isSubtype (.ref D) (.type "BaseException")) true) (hq : Q () ⟨hh, g, d, t, os⟩) :
    wpAny M A (checkBuiltinCall "BaseException.__getattribute__" ⟨[.ref x, nv], []⟩) Q E ⟨hh, g, d, t, os⟩ := by
  have b1 : builtinKind "BaseException.__getattribute__" = some .slot := by decide +kernel
  have b2 : splitId "BaseException.__getattribute__" = some ("BaseException", "__getattribute__") := by decide +kernel
  have ha := F.args_bexc_ga (.ref x) nv
  simp only [checkBuiltinCall, b1, b2]
  refine wpAny_bind ?_
  unfold isInstance
  repeat (first | with_reducible refine L0.at ?_ | with_reducible refine L1.at ?_ | wp_step)
  exact hq
theorem class_ofE {Q : Option Value → Shared → Prop} {s : Shared} (X : K.In s.heap) (I : InstAt s.heap x ox D odo) (SL : Slot "ValueError" "__getattribute__" "BaseException.__getattribute__") (hc : (clsIn K D).isSome = true) (hga : findIn K (.ref D) "__getattribute__" = some (some (.builtin "BaseException.__getattribute__"))) (hgb : findIn K (.ref D) "__getattr__" = some none)
    (ha : findIn K (.ref D) "__class__" = some (some (.builtin "object.__class__"))) (hn : specialIn K (.builtin "object.__class__") "__get__" = some (some (.builtin "getset_descriptor.__get__"))) (htk : takesIn K (.builtin "object.__class__") = some true)
    (hb : subIn K (.ref D) (.type "BaseException") = some true) (hm : mroIn K D (.type "object") = some true) (h : Q (some (.ref D)) { s with toks := s.toks + 1 }) :
    wpAny (model prog w) A (getAttr? (.ref x) "__class__") Q E s := by
  obtain ⟨hh, g, d, t, os⟩ := s
  have L0 := I.type (M := model prog w)
  have L1 := looks_findIn (M := model prog w) X hga
  have L2 := looks_findIn (M := model prog w) X hgb
  have L4 : Looks (model prog w) hh (isSubtype (.ref D) (.type "BaseException")) true := looks_subIn X hb
  obtain ⟨cd, hc⟩ := Option.isSome_iff_exists.mp hc
  have hf : findObj K D odo "__class__" = some (.bind (.builtin "getset_descriptor.__get__") (.builtin "object.__class__")) := by
    simp only [findObj, hc, ha, hn, htk, Option.bind_some]
  have L3 := looks_find (M := model prog w) X I hf
  have b3 := SL.bind (.ref x)
  have z2 : (Value.builtin "BaseException.__getattribute__" == Value.builtin "object.__getattribute__") = false := by decide +kernel
  unfold getAttr? getAttrBy? getAttrBy
  refine wpAny_bind (wpAny_mkText (wpAny_bind (wpAny_attempt (wpAny_holding (wpAny_bind (L0.at (wpAny_bind (L1.at ?_))))))))
  dsimp only
  rw [z2, Bool.and_false, if_neg Bool.false_ne_true]
  unfold getAttrByItsOwn hookBefore
  repeat (any_goals (first | assumption | with_reducible refine L2.at ?_ | wp_step))
  refine codeAny_call_builtin SL.plain F.entry_bexc_ga (check_gaK L0 L4 ?_)
  unfold Builtin.«object.__getattribute__»
  repeat (any_goals (first | assumption | with_reducible refine L0.at ?_ | with_reducible refine L3.at ?_ | wp_step))
  refine class_get (s := ⟨hh, g, d, t + 1, os⟩) X I hm (wpAny_pure ?_)
  exact handed_on rfl (wpAny_pure h)
/-- what an exception's class must be for its kind to be asked -/
structure KitE (K : Frag) (D : Addr) : Prop where
  cls : (clsIn K D).isSome = true
  ga : findIn K (.ref D) "__getattribute__" = some (some (.builtin "BaseException.__getattribute__"))
  gb : findIn K (.ref D) "__getattr__" = some none
  kl : findIn K (.ref D) "__class__" = some (some (.builtin "object.__class__"))
  gt : specialIn K (.builtin "object.__class__") "__get__" = some (some (.builtin "getset_descriptor.__get__"))
  tk : takesIn K (.builtin "object.__class__") = some true
  sb : subIn K (.ref D) (.type "BaseException") = some true
  mr : mroIn K D (.type "object") = some true
noncomputable def kitEIn (K : Frag) (D : Addr) : Bool := (clsIn K D).isSome && findIn K (.ref D) "__getattribute__" == some (some (.builtin "BaseException.__getattribute__")) && findIn K (.ref D) "__getattr__" == some none && findIn K (.ref D) "__class__" == some (some (.builtin "object.__class__")) &&
  specialIn K (.builtin "object.__class__") "__get__" == some (some (.builtin "getset_descriptor.__get__")) && takesIn K (.builtin "object.__class__") == some true && subIn K (.ref D) (.type "BaseException") == some true && mroIn K D (.type "object") == some true
theorem kitE_of {K : Frag} {D : Addr} (h : kitEIn K D = true) : KitE K D := by
  unfold kitEIn at h
  simp only [Bool.and_eq_true, beq_iff_eq] at h
  obtain ⟨⟨⟨⟨⟨⟨⟨h1, h2⟩, h3⟩, h4⟩, h5⟩, h6⟩, h7⟩, h8⟩ := h
  exact ⟨h1, h2, h3, h4, h5, h6, h7, h8⟩
theorem kitx_exc {K : Frag} {x D : Addr} (k : KitE K D) : KitX K (.ref x) (.ref D) (fun h => ∃ ox odo, InstAt h x ox D odo) where
  ty := fun _ _ _ ⟨_, _, I⟩ => I.type
  it := fun _ _ X _ => by
    obtain ⟨cd, hc⟩ := Option.isSome_iff_exists.mp k.cls
    unfold clsIn at hc
    split at hc
    · rename_i ho
      intro A' Q' E' s' kk q
      unfold isType loadHead
      exact wpAny_bind (wpAny_loadPart (kk _ _ (X _ _ ho)) (wpAny_pure q))
    · cases hc
  ne := fun h tp dd its n sl X htp => by
    obtain ⟨cd, hc⟩ := Option.isSome_iff_exists.mp k.cls
    refine Bool.eq_false_iff.mpr fun q => ?_
    have e : D = tp := Value.ref.inj (beq_iff_eq.mp q)
    subst e
    unfold clsIn at hc
    split at hc
    · rename_i ho
      have z := (X _ _ ho).symm.trans htp
      cases z
    · cases hc
  ca := fun X ⟨_, _, I⟩ h => class_ofE X I F.attrBase_ValueError.ga k.cls k.ga k.gb k.kl k.gt k.tk k.sb k.mr h
end
section
variable {X : Cx}
theorem inst_ofE {pins : List (Addr × Obj)} {σ : St} {H : Hp} {s : Shared} {a C : Addr} {dx : Option Addr} (I : Inv X pins σ H s) (ea : H a = some (ExcO a C dx)) (hd : ∀ d, dx = some d → ∃ fs, H d = some (.xd fs)) : ∃ ox odo, InstAt s.heap a ox C odo := by
  obtain ⟨⟨oe, vs, o1, o2, o3, o4, _⟩, _⟩ := (show ObjOk X.prog X.w H s.heap a (ExcO a C dx) from I.hok a _ ea)
  cases dx with
  | none => exact ⟨oe, none, o1, o2, by unfold notCls; rw [o4], by rw [o3]; exact True.intro⟩
  | some d =>
    obtain ⟨fs, hf⟩ := hd d rfl
    obtain ⟨mA, nA, rA⟩ := (show ObjOk X.prog X.w H s.heap d (.xd fs) from I.hok d _ hf)
    obtain ⟨o, es, ep, h1, h2⟩ := nA.ns
    exact ⟨oe, some o, o1, o2, by unfold notCls; rw [o4], by rw [o3]; exact h1⟩
/-- isinstance(e, c), whatever it answers -/
theorem call_isinstX {C : Addr} {c : V} {cv : Value} {b : Bool} (k : KitE X.K C) (rc : ∀ u, RelV c u → u = cv) (e : kitOne X.K (.ref C) cv = some b) : CallR X (.builtin "isinstance") (fun xs H Q => ∃ a dx, xs = [.ref a, c] ∧ H a = some (ExcO a C dx) ∧ (∀ d, dx = some d → ∃ fs, H d = some (.xd fs)) ∧ Q (.bl b) H) := by
  intro pins s σ H xs us Q I r h
  obtain ⟨a, dx, rfl, ea, hd, q⟩ := h
  obtain ⟨u, w', rfl, rx, ry⟩ := vals2 r
  cases (show u = Value.ref a from rx)
  rw [rc _ ry]
  exact kia_one (kitx_exc k) I.kIn (inst_ofE I ea hd) e (fun z => nomatch z) fun tk => ⟨.bl b, H, I.tok tk, rfl, q⟩
/-- isinstance(e, (C1, ..)), whatever it answers -/
theorem call_isinstXT {C : Addr} {Ds : List Addr} {b : Bool} (k : KitE X.K C) (e : kitAny X.K (.ref C) (Ds.map Value.ref) = some b) : CallR X (.builtin "isinstance") (fun xs H Q => ∃ a dx tp, xs = [.ref a, .ref tp] ∧ H a = some (ExcO a C dx) ∧ (∀ d, dx = some d → ∃ fs, H d = some (.xd fs)) ∧ H tp = some (.tup (Ds.map V.ref)) ∧ Q (.bl b) H) := by
  intro pins s σ H xs us Q I r h
  obtain ⟨a, dx, tp, rfl, ea, hd, ht, q⟩ := h
  obtain ⟨u, w', rfl, rx, ry⟩ := vals2 r
  cases (show u = Value.ref a from rx)
  cases (show w' = Value.ref tp from ry)
  obtain ⟨its, rv, p, hz⟩ := I.tuple (SqT.of ht)
  have ei : its = Ds.map Value.ref := by
    have hl : ∀ {vs : List Addr} {us : List Value}, Vals (vs.map V.ref) us → us = vs.map Value.ref := fun {vs} => by
      induction vs with
      | nil => intro us h; cases h; rfl
      | cons v r ih =>
        intro us h
        cases h with
        | cons h1 h2 =>
          rw [ih h2]
          exact congrArg (· :: _) h1
    exact hl rv
  subst ei
  obtain ⟨o, ho, hc, n, hdt⟩ := id p
  obtain ⟨c1, c2, c3, c4⟩ := o
  simp only at hc hdt
  subst hc
  subst hdt
  exact kia_tup (kitx_exc k) I.kIn (inst_ofE I ea hd) ho e (fun z => nomatch z) fun tk => ⟨.bl b, H, I.tok tk, rfl, q⟩
end
end L2

set_option Elab.async false
set_option linter.all false
set_option maxRecDepth 100000
set_option maxHeartbeats 4000000
namespace L2
open PySem PySem.Spec PyProof.Rows
structure RoomH (k : Nat) (A : Around) : Prop where
  dp : A.depth + 3 * k + 5 < recursionLimit
  un : A.units + 16 * k + 200 < cLine
  gd : A.guards = some []
theorem RoomH.deeper {k : Nat} {A : Around} (r : RoomH (k + 1) A) (env : Env) : RoomH k (A.deeper env) :=
  ⟨by have := r.dp; show A.depth + 1 + 3 * k + 5 < _; omega, by have := r.un; show A.units + 3 + 16 * k + 200 < _; omega, r.gd⟩
theorem RoomH.depth {k : Nat} {A : Around} (r : RoomH k A) : A.depth < recursionLimit := by have := r.dp; omega
noncomputable def cxOfH (CX : CXT) (P : Program) (w : World) (K : PySem.W.Frag) (mg : Str → Option Value) (base : Heap) (N : List Str) (qual : Str) (scope : Scope) (f : Addr) (cd : Value) (A : Around) (outer : List Env) (s : Shared) (H : Hp) (E : XK) : Cx := { cxOf CX P w K mg base N qual scope f cd A outer s H E with calm := false }
structure FnOkH (P : Program) (w : World) (K : PySem.W.Frag) (mg : Str → Option Value) (base : Heap) (CX : CXT) (k : Nat) (f : Addr) (fd : FuncData) (ps : List Str) (sp : Sp) : Prop where
  len : ∀ vs H Q E, sp vs H Q E → vs.length = ps.length
  run : ∀ (A : Around) (outer : List Env) (s : Shared) (H : Hp) (args : Args) (us : List Value) (vs : List V) (Q : VK) (E : XK), RoomH k A → Env0 P w K mg base A outer s H → BindsTo s fd args (ps.zip us) → Vals vs us → sp vs H Q E →
    codeAny (model P w) A (.call (.ref f) args) (CR CX outer P w H s Q E) s
theorem inv_startH {CX : CXT} {P : Program} {w : World} {K : PySem.W.Frag} {mg : Str → Option Value} {base : Heap} {N ps : List Str} {qual : Str} {scope : Scope} {f : Addr} {cd : Value} {A : Around} {outer : List Env} {s s1 : Shared} {H : Hp} {E : XK} {us : List Value} {vs : List V}
    (S : FnScope N ps scope) (e0 : Env0 P w K mg base A outer s H) (hl : vs.length = ps.length) (r : Vals vs us)
    (x : InCallC s s.heap.objs.size (bindL (envOfC qual scope s.heap.objs.size f cd).kindOf (ps.zip us) fun _ => none) (cellsFrom (s.heap.objs.size + 1) scope.names []) (bindC (envOfC qual scope s.heap.objs.size f cd).kindOf (ps.zip us) fun _ => none) s1) :
    Inv (cxOfH CX P w K mg base N qual scope f cd A outer s H E) [] (start N vs) H s1 := by
  have hpl : ps.length ≤ N.length := by have := congrArg List.length S.pre; rw [List.length_take] at this; omega
  obtain ⟨h1, tk, rfl, hk⟩ := x.done
  have noA : ∀ b : Addr, b ∉ (cxOfH CX P w K mg base N qual scope f cd A outer s H E).ex := fun b z => absurd (show b ∈ ([] : List Addr) from z) (by simp)
  refine ⟨⟨e0.mod, S.kind, rfl, rfl, Nat.le_refl _, fun y z c h1 h2 => ?_, fun y hy => ?_, fun y c _ h => ?_, fun z => (nomatch (show false = true from z)), Around.frames_deeper e0.frames, .inr ⟨rfl, rfl⟩, fun b z => absurd z (noA b), e0.bs, e0.bsz, fun b _ _ => noA b, fun b z => absurd z (noA b), e0.funs, e0.frf⟩,
    rfl, e0.bare, Un.kept hk, ⟨_, x.toInCall.ns, fun i y v h1 h2 h3 => ?_⟩, fun y c h => ⟨_, x.cell y c h⟩, e0.hok.fresh (Nat.le_refl _), fun y c h => ?_, fun p hp => absurd (show p ∈ ([] : List (Addr × Obj)) from hp) (by simp), e0.hok.kept hk, ?_⟩
  · exact name_of_addr x.apart (PySem.mem_of_lookup h1) (PySem.mem_of_lookup h2)
  · have hy : scope.names.lookup y = some .cell ∨ scope.names.lookup y = some .free := hy
    rcases hy with hy | hy
    · exact cell_has hy
    · exact absurd rfl (S.nofree _ (PySem.mem_of_lookup hy))
  · exact Nat.le_of_lt (x.above y c (PySem.mem_of_lookup h))
  · have hi : i < vs.length := by
      unfold start at h2
      by_cases hi : i < vs.length
      · exact hi
      · rw [List.getElem?_append_right (by simpa using hi)] at h2
        rw [List.getElem?_replicate] at h2
        split at h2 <;> cases h2
    have ha : vs[i]? = some v := by
      unfold start at h2
      rw [List.getElem?_append_left (by simpa using hi), List.getElem?_map] at h2
      cases e : vs[i]? with
      | none => rw [e] at h2; cases h2
      | some a => rw [e] at h2; cases h2; rfl
    obtain ⟨u, hu, rv⟩ := r.get ha
    have hp : ps[i]? = some y := by
      rw [← S.pre, List.getElem?_take_of_lt (by omega)]; exact h1
    have ndP : ps.Nodup := by rw [← S.pre]; exact S.nd.sublist (List.take_sublist _ _)
    refine ⟨u, rv, ?_⟩
    rcases S.par y (List.mem_of_getElem? hp) with k | k
    · exact .inl ⟨k, bindL_get ndP hp hu k⟩
    · obtain ⟨c, e⟩ := cell_has (n := s.heap.objs.size + 1) k
      refine .inr ⟨.inl k, c, e, ?_⟩
      have q := x.cell y c e
      rw [bindC_get ndP hp hu (by show scope.names.lookup y ≠ _; rw [k]; decide)] at q
      exact q
  · exact e0.hok.fresh (Nat.le_of_lt (x.above y c (PySem.mem_of_lookup h)))
  · unfold start
    show _ = N.length
    rw [List.length_append, List.length_map, List.length_replicate]
    omega

section
variable {X : Cx} {CX : CXT} {k : Nat} {f C : Addr} {fd : FuncData} {ps : List Str} {sp : Sp} {dvs : List V} {ds : List Value} {E : XK} {x m : Str} {p pos apos : Pos} {e o : Expr} {es : List Expr} {ta : TE} {t : TA}
end
section
variable {P : Program} {w : World} {K : PySem.W.Frag} {mg : Str → Option Value} {base : Heap}
end
end L2

set_option Elab.async false
set_option linter.all false
set_option maxRecDepth 100000
set_option maxHeartbeats 4000000
namespace L2
open PySem PySem.Spec PyProof.Rows
structure FnOkG (P : Program) (w : World) (K : PySem.W.Frag) (mg : Str → Option Value) (base : Heap) (CX : CXT) (k : Nat) (f : Addr) (fd : FuncData) (ps : List Str) (sp : Option Value → Sp) : Prop where
  len : ∀ hv vs H Q E, sp hv vs H Q E → vs.length = ps.length
  run : ∀ (A : Around) (outer : List Env) (s : Shared) (H : Hp) (args : Args) (us : List Value) (vs : List V) (Q : VK) (E : XK), RoomH k A → Env0 P w K mg base A outer s H → BindsTo s fd args (ps.zip us) → Vals vs us → sp A.handled vs H Q E →
    codeAny (model P w) A (.call (.ref f) args) (CR CX outer P w H s Q E) s
theorem fn_ofG {CX : CXT} {P : Program} {w : World} {K : PySem.W.Frag} {mg : Str → Option Value} {base : Heap} {k : Nat} {f : Addr} {name qual : Str} {params : Arguments} {body : List Stmt} {scope : Scope} {dV kV doc pm cdv ct oc : Value} {an od : Option Addr}
    {osl : Array (Option Value)} {N ps : List Str} {sp : Option Value → Sp} (lk : K.lookup f = some ⟨oc, od, .func (PySem.W.fnOf name qual params body scope dV kV doc pm an cdv ct), osl⟩) (hcd : PySem.W.codeIn K cdv qual = true) (S : FnScope N ps scope)
    (len : ∀ hv vs H Q E, sp hv vs H Q E → vs.length = ps.length)
    (hbody : ∀ (A : Around) (outer : List Env) (s : Shared) (H : Hp) (vs : List V) (Q : VK) (E : XK), RoomH k (A.deeper (envOfC qual scope s.heap.objs.size f cdv)) → sp A.handled vs H Q E →
      ∃ t, PSs (cxOfH CX P w K mg base N qual scope f cdv A outer s H E) body t ∧ t { nx := fun _ H' => Q .non H', rt := Q } (start N vs) H) :
    FnOkG P w K mg base CX (k + 1) f (PySem.W.fnOf name qual params body scope dV kV doc pm an cdv ct) ps sp := by
  refine ⟨len, fun A outer s H args us vs Q E hr e0 hb r hsp => ?_⟩
  have hl := len _ _ _ _ _ hsp
  have KX : K.In s.heap := e0.mod.kin.keeps fun b o e => (e0.bs b o e).1
  have lim : s.heap.NoLimit := e0.mod.nolimit.keeps fun b o e => (e0.bs b o e).1
  have hkind : ∀ y ∈ ps.zip us, scope.names.lookup y.1 = some .local ∨ (scope.names.lookup y.1 = some .cell ∧ ((cellsFrom (s.heap.objs.size + 1) scope.names []).lookup y.1).isSome = true) := fun ⟨n, v⟩ hy => by
    rcases S.par n (List.of_mem_zip hy).1 with q | q
    · exact .inl q
    · exact .inr ⟨q, PySem.W.cellsFrom_some _ _ _ (.inl q)⟩
  refine codeAny_call_function hr.depth (KX _ _ lk) rfl S.co S.gen rfl (PySem.W.codeRec_of KX hcd) (hb _ _ _ _ ?_)
  refine wpAny_newFunctionEnv_cells S.kind hkind fun env he s1 x => ?_
  subst he
  refine ⟨lim.keeps x.toInCall.keep, codeAny_func ?_⟩
  obtain ⟨t, ht, hq⟩ := hbody A outer s H vs Q E (hr.deeper _) hsp
  have I : Inv (cxOfH CX P w K mg base N qual scope f cdv A outer s H E) [] (start N vs) H s1 := inv_startH S e0 hl r x
  refine wpAny_mono (ht [] s1 (start N vs) H _ I hq) (fun fl s' hs => ?_) fun e s' hs => hs
  have fin : ∀ {σ' : St} {H' : Hp} {v : V} {u : Value}, Inv (cxOfH CX P w K mg base N qual scope f cdv A outer s H E) [] σ' H' s' → RelV v u → Q v H' → CE outer P w H s Q u s' :=
    fun {σ' H' v u} J rv q => ⟨v, H', J.os, J.bare, J.base, J.hok, rv, q⟩
  cases fl with
  | ret u =>
    obtain ⟨v, σ', H', J, rv, q⟩ := hs
    exact fin J rv q
  | next =>
    obtain ⟨σ', H', J, q⟩ := hs
    exact fin (v := V.non) (u := Value.none) J rfl q
  | brk =>
    obtain ⟨_, _, _, q⟩ := hs
    exact False.elim q
  | cont =>
    obtain ⟨_, _, _, q⟩ := hs
    exact False.elim q
section
variable {X : Cx} {CX : CXT} {k : Nat} {f C : Addr} {fd : FuncData} {ps : List Str} {sp : Option Value → Sp} {dvs : List V} {ds : List Value} {E : XK} {x m : Str} {p pos apos : Pos} {e o : Expr} {es : List Expr} {ta : TE} {t : TA}
theorem run_fnG {pins : List (Addr × Obj)} {σ : St} {H : Hp} {s : Shared} {Q : VK} {us : List Value} {vs : List V} (F : FnOkG X.prog X.w X.K X.mg X.base CX k f fd ps sp) (hr : RoomH k X.A) (hb : Binds X.K fd ps ds) (hd : Vals dvs ds) (hx : Passes CX X E)
    (I : Inv X pins σ H s) (r : Vals vs us) (h : sp X.A.handled (vs ++ dvs) H Q E) : wpAny (model X.prog X.w) X.A (call (.ref f) us) (EP X pins σ Q) X.xe s := by
  have r2 : Vals (vs ++ dvs) (us ++ ds) := r.append hd
  have hl : (us ++ ds).length = ps.length := by rw [← r2.length]; exact F.len _ _ _ _ _ h
  refine wpAny_call (codeAny_mono (F.run X.A X.stack s H ⟨us, []⟩ (us ++ ds) (vs ++ dvs) Q E hr I.env0 (hb s us I.kIn hl) r2 h) fun r s' hq => ?_)
  cases r with
  | error e => exact hx pins σ H s e s' I hq
  | ok fl =>
    cases fl with
    | ret u => exact I.after hq
    | next => exact False.elim hq
    | brk => exact False.elim hq
    | cont => exact False.elim hq

theorem pe_callG (F : FnOkG X.prog X.w X.K X.mg X.base CX k f fd ps sp) (hr : RoomH k X.A) (hg : Gl X x) (hm : X.mg x = some (.ref f)) (hk : PySem.W.keepIn X.K (.ref f) = true) (hb : Binds X.K fd ps ds) (hd : Vals dvs ds) (hx : Passes CX X E)
    (ha : PA X (e :: es) t) (hdb : (x == ("__debug__" : Str)) = false := by decide) (he : starEach (e :: es) X.env = (false, eval e X.env) :: starEach es X.env := by rfl) (hpl : (backTo pos (starEach es X.env)).any (·.1) = false := by rfl) :
    PE X (.Call (.Name x p) (e :: es) [] pos) (tCall (sp X.A.handled) dvs E t) := by
  intro pins s σ H Q I h
  refine wpAny_Call_Name_kw (ld_glob I hg hm ?_ hdb)
  refine PySem.W.callWith_K (h₀ := X.base) I.ok.mod.kin hk (thn (ha pos pins s σ H _ I h) fun us s1 ⟨vs, H1, I1, r, q⟩ => ⟨I1.kIn, ?_⟩) he hpl
  exact run_fnG F hr hb hd hx I1 r q
end
section
variable {P : Program} {w : World} {K : PySem.W.Frag} {mg : Str → Option Value} {base : Heap}
theorem Fun.okG {x qual : Str} {st : Stmt} {f : Addr} {fd : FuncData} {N ps : List Str} {k : Nat} {sp : Option Value → Sp} (F : Fun K x qual st f fd) (S : FnScope N ps (defScope st)) (len : ∀ hv vs H Q E, sp hv vs H Q E → vs.length = ps.length)
    (hbody : ∀ (cdv : Value) (A : Around) (outer : List Env) (s : Shared) (H : Hp) (vs : List V) (Q : VK) (E : XK), RoomH k (A.deeper (envOfC qual (defScope st) s.heap.objs.size f cdv)) → sp A.handled vs H Q E →
      ∃ t, PSs (cxOfH CX0 P w K mg base N qual (defScope st) f cdv A outer s H E).nox (defBody st) t ∧ t { nx := fun _ H' => Q .non H', rt := Q } (start N vs) H) : FnOkG P w K mg base CX0 (k + 1) f fd ps sp := by
  obtain ⟨oc, od, kV, doc, pm, an, cdv, ct, osl, rfl, lk, hcd⟩ := F.ex
  refine fn_ofG lk hcd S len fun A outer s H vs Q E hr hsp => ?_
  obtain ⟨t, h, q⟩ := hbody cdv A outer s H vs Q E hr hsp
  exact ⟨t, h.nox, q⟩
/-- a def of the text that keeps its promise, that speaks of what is handled -/
noncomputable def FnG (P : Program) (w : World) (K : PySem.W.Frag) (mg : Str → Option Value) (base : Heap) (k : Nat) (x : Str) (ps : List Str) (sp : Option Value → Sp) : Prop :=
  ∃ f fd, mg x = some (.ref f) ∧ PySem.W.keepIn K (.ref f) = true ∧ Binds K fd ps [] ∧ FnOkG P w K mg base CX0 k f fd ps sp
end
theorem pe_fnG {X : Cx} {k : Nat} {x : Str} {ps : List Str} {sp : Option Value → Sp} {e : Expr} {es : List Expr} {t : TA} {p pos : Pos} (F : FnG X.prog X.w X.K X.mg X.base k x ps sp) (hr : RoomH k X.A) (ha : PA X (e :: es) t) (hg : Gl X x := by rfl)
    (hdb : (x == ("__debug__" : Str)) = false := by decide) (he : starEach (e :: es) X.env = (false, eval e X.env) :: starEach es X.env := by rfl) (hpl : (backTo pos (starEach es X.env)).any (·.1) = false := by rfl) :
    PE X (.Call (.Name x p) (e :: es) [] pos) (tCall (sp X.A.handled) [] E0 t) := by
  obtain ⟨f, fd, h1, h2, h3, h4⟩ := F
  exact pe_callG h4 hr hg h1 h2 h3 .nil pass0 ha hdb he hpl
end L2

set_option Elab.async false
set_option linter.all false
set_option maxRecDepth 100000
set_option maxHeartbeats 4000000
namespace L2
open PySem PySem.Spec PyProof.Rows PySem.W PySem.Calls
/-! ### walks while an exception is handled -/
/-- an exception behind which no other one stands -/
noncomputable def NoCtx (h : Heap) (ea : Addr) : Prop := ∃ oe vs, h.get? ea = some oe ∧ oe.data = Data.fields vs ∧ vs[2]? = some Value.none
theorem NoCtx.at {h h' : Heap} {ea : Addr} (x : NoCtx h ea) (k : ∀ o, h.get? ea = some o → h'.get? ea = some o) : NoCtx h' ea := by
  obtain ⟨oe, vs, h1, h2⟩ := x
  exact ⟨oe, vs, k _ h1, h2⟩
theorem ent_unchain : entryFor table "proto.unchain" = some Builtin.«proto.unchain» := entryFor_of_fast (by kernel_rfl)
theorem pl_unchain : plainId "proto.unchain" = true := by decide +kernel
section
variable {prog : Program} {w : World} {A : Around} {E : Value → Shared → Prop} {s : Shared}
theorem unchain_none {ea : Addr} {e : Value} {R : Result → Shared → Prop} (hx : NoCtx s.heap ea) (hR : R (.ok (.ret .none)) s) : codeAny (model prog w) A (.builtin "proto.unchain" ⟨[e, .ref ea, .ref ea, .bool false], []⟩) R s := by
  obtain ⟨oe, vs, h1, h2, h3⟩ := hx
  refine codeAny_builtin ent_unchain ?_
  rw [Around.under_plainId pl_unchain _]
  show wpAny _ A.in1 (field (.ref ea) 2 >>= _) _ _ s
  refine wpAny_bind (wpAny_field h1 h2 h3 ?_)
  show wpAny _ A.in1 (if (Value.none == Value.none) = true then _ else _) _ _ s
  rw [if_pos (show (Value.none == Value.none) = true from rfl)]
  exact wpAny_pure hR
theorem raise_under {α : Type} {a ea : Addr} {Q : α → Shared → Prop} {o : Obj} {vs : Array Value} (hh : A.handled = some (.ref ea)) (hx : NoCtx s.heap ea) (ho : s.heap.get? a = some o) (hd : o.data = Data.fields vs) (hz : 2 < vs.size) (hn : ea ≠ a)
    (h : ∀ h', Heap.ExtBut a s.heap h' → (∃ o', h'.get? a = some o' ∧ o'.cls = o.cls) → E (.ref a) { s with heap := h' }) : wpAny (model prog w) A (raiseNew (.ref a) : Sem α) Q E s := by
  unfold raiseNew
  refine wpAny_bind (wpAny_handled ?_)
  rw [hh]
  show wpAny _ _ (if (Value.ref ea != Value.ref a) = true then _ else _) _ _ s
  rw [if_pos (show (Value.ref ea != Value.ref a) = true from by simp [hn])]
  refine wpAny_bind (wpAny_holding (wpAny_runValue (unchain_none hx ?_)))
  unfold updateField
  refine wpAny_bind (wpAny_bind (wpAny_load ho ?_))
  rw [hd]
  show wpAny _ _ (if 2 < vs.size then _ else _) _ _ s
  rw [if_pos hz]
  have d8 := Obj.data_mapFields hd (fun z => z.setIfInBounds 2 (Value.ref ea))
  refine wpAny_update ho (wpAny_throw (h _ ((Heap.SameBut.update ..).extBut) ⟨_, Heap.get?_update_self _ ho (Obj.isFreed_of_fields d8), Obj.cls_mapFields _ _⟩))
/-- the end of a list's walk while an exception is handled -/
theorem next_endH {it l ea : Addr} {i : Nat} {items : Array Value} {Q : Option Value → Shared → Prop} (hh : A.handled = some (.ref ea)) (hx : NoCtx s.heap ea)
    (hit : s.heap.IsListIter it l i) (hl : s.heap.IsList l items) (hi : items[i]? = none) (hne : ea ≠ it)
    (hQ : ∀ h', Heap.ExtBut it s.heap h' → Q none { s with heap := h' }) : wpAny (model prog w) A (pyNext (.ref it)) Q E s := by
  obtain ⟨o, ho, hc, hd⟩ := id hit
  obtain ⟨ol, hol, _, nl, hdl⟩ := hl
  unfold pyNext
  refine wpAny_bind (wpAny_attempt (wpAny_callSpecial?_slot (name := Str.ofString "__next__") hit.typeIs slot_listiter_next (wpAny_call_entry slot_listiter_next hit.typeIs entry_listiter_next ?_ (args_listiter_next _))))
  show wpAny _ _ (field (.ref it) 0 >>= _) _ _ s
  refine wpAny_bind (wpAny_field ho hd (x := .ref l) rfl ?_)
  show wpAny _ _ (if (Value.ref l == Value.none) = true then _ else _) _ _ s
  rw [if_neg (by exact Bool.false_ne_true)]
  show wpAny _ _ (field (.ref it) 1 >>= _) _ _ s
  refine wpAny_bind (wpAny_field ho hd (x := .int i 0) rfl ?_)
  show wpAny _ _ (seqItems? (.ref l) >>= _) _ _ s
  refine wpAny_bind (wpAny_seqItems hol hdl ?_)
  simp only [Int.toNat_natCast, hi]
  refine wpAny_bind (wpAny_rule (wpAny_bind (wpAny_setField ho hd (by simp) ?_)))
  show wpAny _ _ (newExc (.type "StopIteration") [] >>= _) _ _ _
  refine wpAny_bind ?_
  simp only [newExc, newTuple]
  refine wpAny_bind (wpAny_newObj_type ?_ (by size_fits))
  refine wpAny_bind (m := firstArgMember _ _) (wpAny_of_eq (a := Value.none) (by first | rfl | (simp only [firstArgMember]; rfl)) ?_)
  refine wpAny_newObj_type ?_ (by size_fits)
  refine raise_under (A := A.in1) hh (hx.at fun o e => Heap.get?_push_of_some _ (Heap.get?_push_of_some _ ((Heap.get?_update_other _ _ (Ne.symm hne)).trans e))) (Heap.get?_push_size _ rfl) rfl (by simp; omega) ?_ fun h' k ⟨o', q1, q2⟩ => ?_
  · obtain ⟨oe, vs, z, _⟩ := hx
    have lz := Heap.lt_size z
    intro z2
    rw [z2] at lz
    simp only [Heap.size_push, Heap.size_update] at lz
    exact Nat.lt_asymm lz (Nat.lt_succ_self _)
  · refine wpAny_bind (wpAny_isInstance (T := "StopIteration") (b := true) ⟨_, q1, q2⟩ isSubtype_stop ?_)
    refine wpAny_pure (hQ _ ?_)
    intro b ob hb eb
    refine k b ob (fun z2 => ?_) ((((Heap.SameBut.update ..).extBut.push _).push _) b ob hb eb)
    have lz := Heap.lt_size eb
    rw [z2] at lz
    simp only [Heap.size_push, Heap.size_update] at lz
    exact Nat.lt_asymm lz (Nat.lt_succ_self _)
end
/-- a list is walked while an exception is handled -/
theorem Walks.listH {prog : Program} {w : World} {A : Around} {ea : Addr} (hh : A.handled = some (.ref ea)) (I ax : Addr) (hne : ax ≠ I) (hna : ea ≠ I) (items : Array Value) :
    Walks prog w A I [I, ax, ea] [I] items.size (fun i v => items[i]? = some v) (fun i h => (h.IsListIter I ax i ∧ h.IsList ax items) ∧ NoCtx h ea) where
  sub := fun b hb => by simp at hb; simp [hb]
  frame := fun _ _ _ st hk => ⟨⟨st.1.1.at fun o e => hk I (by simp) o e, st.1.2.at fun o e => hk ax (by simp) o e⟩, st.2.at fun o e => hk ea (by simp) o e⟩
  item := fun i s Q E hi st hQ => by
    refine wpAny_pyNext_list_item st.1.1 st.1.2 (x := items[i]) (by simp [hi]) fun h' q1 q2 => hQ _ h' s.toks (by simp [hi]) ⟨⟨q1, st.1.2.extBut q2.extBut hne⟩, st.2.at fun o e => q2.extBut _ _ hna e⟩ fun b o hb e => ?_
    exact q2.extBut b o (fun h => hb (by simp [h])) e
  done := fun s Q E st hQ => next_endH hh st.2 st.1.1 st.1.2 (by simp) hna fun h' q => hQ h' s.toks fun b o hb e => q b o (fun h => hb (by simp [h])) e
  self := fun _ _ _ _ st hQ => wpAny_pyIter_listiter st.1.1 hQ
end L2

set_option Elab.async false
set_option linter.all false
set_option maxRecDepth 100000
set_option maxHeartbeats 4000000
namespace L2
open PySem PySem.Spec PyProof.Rows PySem.W PySem.Calls
/-! ### sum and list.index of truth values -/
section
variable {prog : Program} {w : World} {A : Around} {E : Value → Shared → Prop} {s : Shared} {R : Result → Shared → Prop} {I : Addr} {fp wr : List Addr} {n : Nat} {P : Nat → Value → Prop} {St : Nat → Heap → Prop}
theorem ite_yes {M : Model} {α : Type} {c : Prop} [Decidable c] {a b : Sem α} {Q : α → Shared → Prop} (hc : c) (h : wpAny M A a Q E s) : wpAny M A (if c then a else b) Q E s := by rw [if_pos hc]; exact h
noncomputable def b2i (b : Bool) : Int := if b then 1 else 0
theorem sum_loopB (W : Walks prog w A.in1 I fp wr n P St) (bs : Nat → Bool) (hval : ∀ i v, P i v → v = .bool (bs i)) (hsm : ∀ i, i ≤ n → 0 ≤ preSum (fun i => b2i (bs i)) i ∧ preSum (fun i => b2i (bs i)) i ≤ 1000) (S : Addr) (hSf : S ∉ fp) :
    ∀ (k i : Nat) (s : Shared) (tA : Tok) (c : Nat), n - i = k → i ≤ n → St i s.heap → s.heap.get? S = some { cls := .type "list", dict := none, data := .seq #[.int (preSum (fun i => b2i (bs i)) i) tA] c, slots := #[] } →
    (∀ h' tk t', (∀ b o, b ∉ wr → b ≠ S → s.heap.get? b = some o → h'.get? b = some o) → R (.ok (.ret (.int (preSum (fun i => b2i (bs i)) n) t'))) { s with heap := h', toks := tk }) →
    codeAny (model prog w) A (.builtin "sum.loop" ⟨[.ref I, .ref S, rawInt 0, rawInt 0], []⟩) R s := by
  have hSw : S ∉ wr := fun h => hSf (W.sub _ h)
  intro k
  induction k with
  | zero =>
    intro i s tA c hk hi hst hS hR
    obtain rfl : i = n := by omega
    refine codeAny_builtin F.entry_sum_loop ?_
    rw [Around.under_plainId F.plain_sum_loop _]
    show wpAny _ A.in1 (seqItems? (.ref S) >>= _) _ _ s
    refine wpAny_bind (wpAny_seqItems hS rfl ?_)
    show wpAny _ A.in1 (tryCatch (pyNext (.ref I)) _ >>= _) _ _ s
    exact wpAny_bind (wpAny_tryCatch (W.done s _ _ hst fun h' tk hk' => wpAny_pure (hR h' tk tA fun b o hbw _ e => hk' b o hbw e)))
  | succ k ih =>
    intro i s tA c hk hi hst hS hR
    have hlt : i < n := by omega
    refine codeAny_builtin F.entry_sum_loop ?_
    rw [Around.under_plainId F.plain_sum_loop _]
    show wpAny _ A.in1 (seqItems? (.ref S) >>= _) _ _ s
    refine wpAny_bind (wpAny_seqItems hS rfl ?_)
    show wpAny _ A.in1 (tryCatch (pyNext (.ref I)) _ >>= _) _ _ s
    refine wpAny_bind (wpAny_tryCatch (W.item i s _ _ hlt hst fun v h' tk hP hst' hk' => ?_))
    obtain rfl := hval i v hP
    have hS' := hk' S _ hSw hS
    have eN : preSum (fun i => b2i (bs i)) i + b2i (bs i) = preSum (fun i => b2i (bs i)) (i + 1) := rfl
    have hb := hsm (i + 1) hlt
    rw [← eN] at hb
    show wpAny _ A.in1 (if (_ : Bool) = true then (mkInt (preSum (fun i => b2i (bs i)) i + b2i (bs i)) >>= _) else _) _ _ _
    refine ite_yes ?_ (wpAny_bind (wpAny_mkInt ?_))
    · show ((decide (-(2 ^ 63) ≤ b2i (bs i)) && decide (b2i (bs i) < 2 ^ 63)) && (decide (-(2 ^ 63) ≤ preSum (fun i => b2i (bs i)) i + b2i (bs i)) && decide (preSum (fun i => b2i (bs i)) i + b2i (bs i) < 2 ^ 63))) = true
      have h0 : 0 ≤ b2i (bs i) ∧ b2i (bs i) ≤ 1 := by unfold b2i; split <;> omega
      simp only [Bool.and_eq_true, decide_eq_true_eq]
      omega
    · rw [eN]
      show wpAny _ A.in1 (updateSeq S (fun _ => #[.int (preSum (fun i => b2i (bs i)) (i + 1)) tk]) >>= _) _ _ _
      refine wpAny_bind (wpAny_updateSeq hS' rfl (wpAny_pure ⟨plainId_quiet F.plain_sum_loop _, ih (i + 1) _ tk _ (by omega) hlt (W.frame _ _ _ hst' fun b hb o e => ?_) (Heap.get?_update_self _ hS' rfl) fun h'' tk'' t'' hk'' => ?_⟩))
      · exact (Heap.get?_update_other _ _ (fun h : S = b => hSf (by rw [h]; exact hb))).trans e
      · exact hR h'' tk'' t'' fun b o hbw hbS e => hk'' b o hbw hbS ((Heap.get?_update_other _ _ (Ne.symm hbS)).trans (hk' b o hbw e))
theorem call_sumW {x : Value} {Q : Value → Shared → Prop}
    (h : wpAny (model prog w) A.in1 (pyIter x) (fun it s₂ => ∃ I fp wr n P St, ∃ bs : Nat → Bool, it = .ref I ∧ Walks prog w A.in1 I fp wr n P St ∧ St 0 s₂.heap ∧ (∀ b ∈ fp, b < s₂.heap.objs.size) ∧
      (∀ i v, P i v → v = .bool (bs i)) ∧ (∀ i, i ≤ n → 0 ≤ preSum (fun i => b2i (bs i)) i ∧ preSum (fun i => b2i (bs i)) i ≤ 1000) ∧
      ∀ h' tk t', (∀ b o, b ∉ wr → s₂.heap.get? b = some o → h'.get? b = some o) → Q (.int (preSum (fun i => b2i (bs i)) n) t') { s₂ with heap := h', toks := tk }) E s) :
    wpAny (model prog w) A (call (.builtin "sum") [x]) Q E s := by
  refine call_function_tree F.kind_sum F.plain_sum F.entry_sum (F.args_sum1 _) ?_
  unfold Builtin.«sum»
  simp only [List.length_cons, List.length_nil]
  rw [if_neg (by decide)]
  refine wpAny_bind (wpAny_of_eq (show Builtin.Builtins.bindParams "sum" ["start"] 0 { } = pure [none] from rfl) (wpAny_bind (wpAny_mono h (fun it s₂ h₂ => ?_) fun _ _ e => e)))
  obtain ⟨I, fp, wr, n, P, St, bs, rfl, W, hst, hfp, hval, hsm, hQ⟩ := h₂
  refine wpAny_bind (wpAny_mkInt (wpAny_bind (wpAny_pure ?_)))
  simp only [List.forIn_cons, List.forIn_nil]
  refine wpAny_bind (wpAny_bind (wpAny_bind (wpAny_isInstance (T := "int") (b := false) (typeIs_int _ _ _) PySem.sub_int_str ?_)))
  simp only [Bool.false_eq_true, if_false]
  refine wpAny_pure (wpAny_bind (wpAny_bind (wpAny_isInstance (T := "int") (b := false) (typeIs_int _ _ _) sub_int_bytes ?_)))
  simp only [Bool.false_eq_true, if_false]
  refine wpAny_pure (wpAny_bind (wpAny_bind (wpAny_isInstance (T := "int") (b := false) (typeIs_int _ _ _) sub_int_bytearray ?_)))
  simp only [Bool.false_eq_true, if_false]
  refine wpAny_pure (wpAny_pure (wpAny_bind (wpAny_newObj_type ?_)))
  have hSf : s₂.heap.objs.size ∉ fp := fun hm => Nat.lt_irrefl _ (hfp _ hm)
  refine wpAny_pure ⟨plainId_quiet F.plain_sum_loop _, sum_loopB W bs hval hsm s₂.heap.objs.size hSf n 0 _ s₂.toks 0 rfl (Nat.zero_le _) (W.frame _ _ _ hst fun b _ o e => Heap.get?_push_of_some _ e) (Heap.get?_push_size _ rfl) fun h' tk t' hk => hQ h' tk t' fun b o hbw e => hk b o hbw (Nat.ne_of_lt (Heap.lt_size e)) (Heap.get?_push_of_some _ e)⟩
end
section
variable {X : Cx}
theorem bools_at {ns : List Bool} {us : List Value} (r : Vals (ns.map V.bl) us) {i : Nat} {v : Value} (h : us[i]? = some v) : v = .bool ((ns[i]?).getD false) := by
  have hl := r.length
  rw [List.length_map] at hl
  have hi : i < ns.length := by rw [hl]; exact (List.getElem?_eq_some_iff.mp h).1
  obtain ⟨u, hu, ru⟩ := r.get (i := i) (x := .bl ns[i]) (by rw [List.getElem?_map, List.getElem?_eq_getElem hi]; rfl)
  rw [h] at hu
  cases hu
  rw [List.getElem?_eq_getElem hi]
  exact ru
theorem preB (bs : List Bool) : ∀ i, 0 ≤ preSum (fun i => b2i ((bs[i]?).getD false)) i ∧ preSum (fun i => b2i ((bs[i]?).getD false)) i ≤ i
  | 0 => by simp [preSum]
  | i + 1 => by
    have := preB bs i
    have h0 : 0 ≤ b2i ((bs[i]?).getD false) ∧ b2i ((bs[i]?).getD false) ≤ 1 := by unfold b2i; split <;> omega
    rw [preSum]
    omega
/-- sum of a list of truth values, while an exception is handled -/
theorem call_sumBH {ea C : Addr} {dx : Option Addr} (hh : X.A.handled = some (.ref ea)) : CallR X (.builtin "sum") (fun xs H Q => ∃ (p : Addr) (bs : List Bool), xs = [.ref p] ∧ SqL X.K H p (bs.map V.bl) ∧ bs.length ≤ 1000 ∧ H ea = some (ExcO ea C dx) ∧ Q (.int (bs.map b2i).sum) H) := by
  intro pins s σ H xs us Q I r h
  obtain ⟨p, bs, rfl, hq, hz, he, q⟩ := h
  obtain ⟨u, rfl, ru⟩ := vals1 r
  cases ru
  obtain ⟨⟨oe, vs, o1, o2, o3, o4, o5⟩, _⟩ := (show ObjOk X.prog X.w H s.heap ea (ExcO ea C dx) from I.hok ea _ he)
  obtain ⟨its, rv, pl, hz'⟩ := I.list hq
  have hl := rv.length
  rw [List.length_map] at hl
  have il := pl.isList
  have hlt : p < s.heap.objs.size := by obtain ⟨_, e, _⟩ := il; exact Heap.lt_size e
  have hle : ea < s.heap.objs.size := Heap.lt_size o1
  refine call_sumW (wpAny_pyIter_list il ⟨s.heap.objs.size, [s.heap.objs.size, p, ea], [s.heap.objs.size], its.toArray.size, _, _, fun i => (bs[i]?).getD false, rfl, Walks.listH (A := X.A.in1) hh _ p (Nat.ne_of_lt hlt) (Nat.ne_of_lt hle) its.toArray,
    ⟨⟨⟨_, Heap.get?_push_size _ rfl, rfl, rfl⟩, il.push _⟩, ⟨oe, vs, Heap.get?_push_of_some _ o1, o4, o5⟩⟩, fun b hb => ?_, fun i v hv => bools_at rv (by simpa using hv), fun i hi => ⟨(preB bs i).1, Int.le_trans (preB bs i).2 ?_⟩, fun h' tk t' hk => ?_⟩)
  · show b < (s.heap.push _).objs.size
    rw [Heap.size_push]
    simp only [List.mem_cons, List.not_mem_nil, or_false] at hb
    rcases hb with rfl | rfl | rfl
    · exact Nat.lt_succ_self _
    · exact Nat.lt_succ_of_lt hlt
    · exact Nat.lt_succ_of_lt hle
  · rw [List.size_toArray] at hi; omega
  · have e : preSum (fun i => b2i ((bs[i]?).getD false)) its.toArray.size = (bs.map b2i).sum := by
      rw [List.size_toArray, ← hl, preSum_of (bs.map b2i) bs.length (by simp) fun i n e => ?_]
      · rw [List.take_of_length_le (by simp)]
      · rw [List.getElem?_map] at e
        cases c : bs[i]? with
        | none => rw [c] at e; cases e
        | some b => rw [c] at e; cases e; rfl
    rw [e]
    exact ⟨.int (bs.map b2i).sum, H, I.kept (t' := tk) fun b o e => hk b o (fun z => absurd (Heap.lt_size e) (by rw [List.mem_singleton.mp z]; exact Nat.lt_irrefl _)) (Heap.get?_push_of_some _ e), ⟨_, rfl⟩, q⟩
/-- list.index of a truth value -/
theorem mt_indexB : MtR X "list.index" (fun x xs H Q => ∃ (p : Addr) (ss : List Bool) (j : Nat) (y : Bool), x = .ref p ∧ xs = [.bl y] ∧ SqL X.K H p (ss.map V.bl) ∧ ss.length ≤ 1000 ∧ ss[j]? = some y ∧ (∀ m, m < j → ss[m]? ≠ some y) ∧ Q (.int j) H) := by
  intro pins s σ H x xs v us Q I rx rs h
  obtain ⟨p, ss, j, y, rfl, rfl, hq, hz, hj, hno, q⟩ := h
  cases rx
  obtain ⟨u, rfl, ry⟩ := vals1 rs
  obtain ⟨its, rv, pl, _⟩ := I.list hq
  obtain ⟨⟨cl, dc, da, sl⟩, n, ho, hcl, hdc, hda⟩ := pl
  simp only at hcl hdc hda
  subst hcl hdc hda
  have hl := rv.length
  rw [List.length_map] at hl
  have fl : (ss.map V.bl).all flatV = true := by rw [List.all_map]; simp [flatV, Function.comp_def]
  have hjl : j < ss.length := (List.getElem?_eq_some_iff.mp hj).1
  have eq : ∀ m (hm : m < its.length), eqU (.bl y) its[m] = decide (ss[m]? = some y) := fun m hm => by
    have hm' : m < ss.length := by omega
    obtain ⟨w', hw, rw'⟩ := rv.get (i := m) (x := .bl ss[m]) (by rw [List.getElem?_map, List.getElem?_eq_getElem hm']; rfl)
    rw [List.getElem?_eq_getElem hm] at hw
    cases hw
    rw [eqU_of rw' rfl, List.getElem?_eq_getElem hm']
    cases y <;> cases ss[m] <;> simp [eqV]
  refine call_meets F.slot_list_index ⟨_, ho, rfl⟩ F.entry_list_index (F.args_list_index_2 _ _)
    (SeqAt.list_indexAt p its.toArray n none sl u (eqU (.bl y)) j (by simpa [← hl] using hjl) (by omega) ?_ ?_) ⟨ho, fun w' hw => mem_eqAt ry rfl rv fl w' (by simpa using hw), ⟨.int j, H, I.tok _, ⟨_, rfl⟩, q⟩⟩
  · show eqU (.bl y) its[j] = true
    rw [eq j (by omega), hj]
    simp
  · intro m hm hlt
    show eqU (.bl y) its[m] = false
    rw [eq m (by simpa using hm)]
    exact decide_eq_false (hno m hlt)
end
end L2

set_option Elab.async false
set_option linter.all false
set_option maxRecDepth 100000
set_option maxHeartbeats 4000000
namespace L2
open PySem PySem.Spec PyProof.Rows PySem.W PySem.Calls
noncomputable def tTryE (tx : TSX) (th : Addr → TS) (j : Nat) (U : Addr → Prop) : TS := fun D σ H => tx (fun σ1 cls dx H' => ∃ C, cls = .ref C ∧ U C ∧ ∀ ea, H' ea = none → th ea (hEnds D j) (σ1.set j (some (.ref ea))) (upd H' ea (ExcO ea C dx))) D σ H
section
variable {X : Cx} {st b0 : Stmt} {suite : List Stmt} {tx : TSX} {th : Addr → TS} {x n : Str} {R : Addr} {j : Nat} {np hpos pos : Pos}
theorem ps_tryE (hst : PSX X st tx) (hx : X.mg x = some (.ref R)) (hR : ExcC X.base R) (hth : ∀ ea, PSs (X.held ea) (b0 :: suite) (th ea)) (hN : X.N.Nodup) (hj : X.N[j]? = some n) (hn : X.env.scope.names.lookup n = some .local) (hstk : X.stack = X.env :: X.outer) (hfr : X.env.frame = some X.env.locals) (hex : X.ex = [])
    (hg : Gl X x := by rfl) (hdb : (x == ("__debug__" : Str)) = false := by decide) :
    PS X (.Try [st] [.ExceptHandler (some (.Name x np)) (some n) (b0 :: suite) hpos] [] [] pos) (tTryE tx th j fun C => Under X.base C R) := by
  intro pins s σ H D I h
  refine wpAny_Try_except (wpAny_execs_cons (wpAny_mono (hst pins s σ H D _ I h) (fun f s1 q => ?_) (fun e s1 q => ?_)))
  · cases f with
    | next => exact wpAny_execs_nil (wpAny_execs_nil q)
    | ret v => exact q
    | brk => exact q
    | cont => exact q
  · obtain ⟨σ1, H1, s2, I1, ea, T, cls, a0, dx, H', rfl, os, bare, un, hok, n1, n2, m1, m2, trc, C, rfl, hu, hth'⟩ := q
    have I' : Inv X pins σ1 H' s1 := I1.call' (ch := []) os un hok bare (by simp)
    have ffs := I'.stack
    rw [hstk] at ffs
    have afr : X.A.frames = some (X.env :: X.outer) := by rw [← hstk]; exact I'.ok.frames
    have there : ∀ b o, s2.heap.get? b = some o → ∃ o', s1.heap.get? b = some o' := fun b o q => un.there b o q (by simp)
    have newAt : ∀ b, s2.heap.get? b = none → X.s₀.heap.get? b = none ∧ b ≠ X.env.locals ∧ (∀ x c, X.env.cells.lookup x = some c → c ≠ b) ∧ ∀ p ∈ X.pn ++ pins, p.1 ≠ b := fun b q => by
      refine ⟨?_, fun z => ?_, fun y c e z => ?_, fun p hp z => ?_⟩
      · cases hc : X.s₀.heap.get? b with
        | none => rfl
        | some o =>
          obtain ⟨o', q'⟩ := I1.base.there b o hc (by rw [hex]; simp)
          rw [q] at q'; cases q'
      · obtain ⟨m, ⟨o, _, _, ho, _⟩, _⟩ := I1.loc
        rw [← z, q] at ho; cases ho
      · obtain ⟨v, o, ho, _⟩ := I1.cell y c e
        rw [z, q] at ho; cases ho
      · have := (I1.pin p hp).1
        rw [z, q] at this; cases this
    have noH : ∀ b, s1.heap.get? b = none → H' b = none := fun b q => by
      cases hc : H' b with
      | none => rfl
      | some o =>
        obtain ⟨ob, q'⟩ := ObjOk.got (hok b o hc)
        rw [q] at q'; cases q'
    have mk : ∀ b, s2.heap.get? b = none → H' b = none → X.s₀.heap.get? b = none ∧ H' b = none ∧ b ≠ X.env.locals ∧ (∀ x c, X.env.cells.lookup x = some c → c ≠ b) ∧ ∀ p ∈ X.pn ++ pins, p.1 ≠ b := fun b q1 q2 => ⟨(newAt b q1).1, q2, (newAt b q1).2⟩
    refine look_flying (Q := fun _ s3 => wpAny (model X.prog X.w) X.A (handleBy (Value.ref ea) X.env [ExceptHandler.ExceptHandler (some (Expr.Name x np)) (some n) (b0 :: suite) hpos]) (SP X pins D) X.xe s3) (base := X.base) afr hfr ffs trc fun h3 T3 mv3 nw3 tr3 => ?_
    have nT3 : s2.heap.get? T3 = none ∧ H' T3 = none := by
      refine ⟨?_, noH T3 nw3⟩
      cases hc : s2.heap.get? T3 with
      | none => rfl
      | some o =>
        obtain ⟨o', q'⟩ := there T3 o hc
        rw [nw3] at q'; cases q'
    have I3 : Inv X pins σ1 H' { s1 with heap := h3 } := I'.moved (G := [ea, T]) (fun b hb => by
      simp at hb
      rcases hb with z | z
      · rw [z]; exact mk ea n1 m1
      · rw [z]; exact mk T n2 m2) (fun b o q hb hg => mv3.keep b o q (by rw [← hstk]; exact hb) hg) (fun b o q hb => mv3.slot b o q (by rw [← hstk]; exact hb))
    refine wpAny_handleBy_cons (codeAny_handlers_test ?_) (by intro z; cases z)
    refine ld_glob (X := X.held ea) (I3.held ea) hg hx ?_ hdb
    obtain ⟨nm, q, N, bs, bm, bmB, hdct, sn, sub, ab, col, dd, k0, k1, k2, k3, k5, mN, B, Bn, newId, nid, initId, inN, bmN, a1, a2, a3, a4, a5, a6, a7, a8⟩ := hR
    obtain ⟨nm', q', N', bs', bm', hdct', sn', sub', ab', col', dd', l0, l1, l2, l3, l5, newId', c1, c2⟩ := hu
    obtain ⟨oe, vs, oT, ts, g1, g2, g3, g4, g5, g6, g7, g8, g9, g10⟩ := id tr3
    refine wp_matches (I3.bk _ _ c1) (I3.bk _ _ a1) g1 g2 a5 ?_
    rw [c2]
    show codeAny _ _ (Code.handlers (.ref ea) [ExceptHandler.ExceptHandler none (some n) (b0 :: suite) hpos] X.env) _ _
    refine codeAny_handlers_suite_as (ground tr3 fun h4 same4 tr4 => ?_)
    have I4 : Inv X pins σ1 H' { s1 with heap := h4 } := Inv.moved (s := { s1 with heap := h3 }) (h' := h4) (G := [T3]) I3 (fun b hb => by
      have z : b = T3 := by simpa using hb
      rw [z]; exact mk T3 nT3.1 nT3.2) (fun b o q hb hg => (same4 b fun z => hg (by simp [z])).trans q) (fun b o q hb => ⟨o.slots, (same4 b fun z => by
        obtain ⟨o2, q2, nf⟩ := ff_at I3.stack b hb
        rw [z, g7] at q2; cases q2; exact nf _ g8).trans q⟩)
    obtain ⟨oe4, vs4, oT4, ts4, f1, f2, f3, f4, _, _, _, _, _, f10⟩ := id tr4
    have I4t : Inv X pins σ1 (upd H' ea (ExcO ea C dx)) { s1 with heap := h4 } := I4.track m1 (newAt ea n1).1 (newAt ea n1).2.1 (newAt ea n1).2.2.1 (newAt ea n1).2.2.2 (exc_new f1 f2 f10 f4 f3.2)
    refine store_ok (X := X.held ea) (I4t.held ea) hN hj (.inl hn) (v := .ref ea) rfl (fun s5 I5 => ?_) (.inr hn)
    refine wpAny_mono (hth ea pins s5 (σ1.set j (some (.ref ea))) (upd H' ea (ExcO ea C dx)) (hEnds D j) I5 (hth' ea m1)) (fun f s6 q6 => ?_) (fun _ _ z => False.elim z)
    cases f with
    | next =>
      obtain ⟨σ2, H2, J, q⟩ := q6
      exact goes_ok (J.unheld I.ok) hN hj hn fun s7 I7 => ⟨σ2.set j none, H2, I7, q⟩
    | brk =>
      obtain ⟨σ2, H2, J, q⟩ := q6
      exact goes_ok (J.unheld I.ok) hN hj hn fun s7 I7 => ⟨σ2.set j none, H2, I7, q⟩
    | cont =>
      obtain ⟨σ2, H2, J, q⟩ := q6
      exact goes_ok (J.unheld I.ok) hN hj hn fun s7 I7 => ⟨σ2.set j none, H2, I7, q⟩
    | ret u =>
      obtain ⟨v, σ2, H2, J, rv, q⟩ := q6
      exact goes_ok (J.unheld I.ok) hN hj hn fun s7 I7 => ⟨v, σ2.set j none, H2, I7, rv, q⟩
end
end L2

set_option Elab.async false
set_option linter.all false
set_option maxRecDepth 100000
set_option maxHeartbeats 4000000
namespace K34
open PySem L2

noncomputable def top (i : Nat) : Stmt := PySem.Challenge.pw_rootshares_k34_shares_refused.main.body.getD i (.Pass ⟨0, 0, 0, 0⟩)

/-! ### what the text finds at its top -/
theorem b_isinstance : bootBuiltins "isinstance" = some (.builtin "isinstance") := by decide +kernel
theorem b_all : bootBuiltins "all" = some (.builtin "all") := by decide +kernel
theorem b_sorted : bootBuiltins "sorted" = some (.builtin "sorted") := by decide +kernel
theorem b_max : bootBuiltins "max" = some (.builtin "max") := by decide +kernel
theorem b_min : bootBuiltins "min" = some (.builtin "min") := by decide +kernel
theorem b_str : bootBuiltins "str" = some (.type "str") := by decide +kernel
theorem b_tuple : bootBuiltins "tuple" = some (.type "tuple") := by decide +kernel
theorem b_list : bootBuiltins "list" = some (.type "list") := by decide +kernel
theorem b_int : bootBuiltins "int" = some (.type "int") := by decide +kernel
theorem b_bool : bootBuiltins "bool" = some (.type "bool") := by decide +kernel
theorem b_divmod : bootBuiltins "divmod" = some (.builtin "divmod") := by decide +kernel
structure Bl (mg : Str → Option Value) : Prop where
  len : mg "len" = none
  isinstance : mg "isinstance" = none
  all : mg "all" = none
  range : mg "range" = none
  sorted : mg "sorted" = none
  repr : mg "repr" = none
  max : mg "max" = none
  min : mg "min" = none
  str : mg "str" = none
  tuple : mg "tuple" = none
  list : mg "list" = none
  int : mg "int" = none
  bool : mg "bool" = none
  zip : mg "zip" = none
  divmod : mg "divmod" = none
  abs : mg "abs" = none
  set : mg "set" = none
  enumerate : mg "enumerate" = none
  most : ∃ t, mg "MOST_TREES" = some (.int 6 t)
  lng : ∃ t, mg "LONGEST_NAME" = some (.int 8 t)

/-- a def of the text that keeps its promise -/
noncomputable def Fn (P : Program) (w : World) (K : PySem.W.Frag) (mg : Str → Option Value) (base : Heap) (k : Nat) (x : Str) (ps : List Str) (sp : Sp) : Prop :=
  ∃ f fd, mg x = some (.ref f) ∧ PySem.W.keepIn K (.ref f) = true ∧ Binds K fd ps [] ∧ FnOk P w K mg base CX0 k f fd ps sp
theorem pe_fn {X : Cx} {k : Nat} {x : Str} {ps : List Str} {sp : Sp} {e : Expr} {es : List Expr} {t : TA} {p pos : Pos} (F : Fn X.prog X.w X.K X.mg X.base k x ps sp) (hr : Room k X.A) (ha : PA X (e :: es) t) (hg : Gl X x := by rfl)
    (hdb : (x == ("__debug__" : Str)) = false := by decide) (he : starEach (e :: es) X.env = (false, eval e X.env) :: starEach es X.env := by rfl) (hpl : (backTo pos (starEach es X.env)).any (·.1) = false := by rfl) :
    PE X (.Call (.Name x p) (e :: es) [] pos) (tCall sp [] E0 t) := by
  obtain ⟨f, fd, h1, h2, h3, h4⟩ := F
  exact pe_call h4 hr hg h1 h2 h3 .nil pass0 ha hdb he hpl
theorem pg_lc {X : Cx} {scope : Scope} {N : List Str} {C : Addr} {s0 : Shared} {H0 : Hp} {fp : List Addr} {x : Str} {pos : Pos} (i : Nat) (hN : N.Nodup) (hi : N[i]? = some x) (hx : scope.names.lookup x = some .local) :
    PG (cxLc X scope N C s0 H0 fp) (.Name x pos) (gName i) :=
  pg_name (X := cxLc X scope N C s0 H0 fp) hN hi (.inl (lookup_relabel_local hx)) (.inr (lookup_relabel_local hx))
theorem iteD {c A B : Prop} [Decidable c] (hc : c) (h : A) : if decide c = true then A else B := by
  rw [decide_eq_true hc]; exact iteT h
theorem iteDN {c A B : Prop} [Decidable c] (hc : ¬ c) (h : B) : if decide c = true then A else B := by
  rw [decide_eq_false hc]; exact iteF h
theorem iteND {c A B : Prop} [Decidable c] (hc : ¬ c) (h : A) : if (!decide c) = true then A else B := by
  rw [decide_eq_false hc]; exact iteT h
theorem lt1 (a b : Nat) : ([a] < [b]) ↔ a < b := by rw [List.cons_lt_cons_iff]; simp
/-! ### names -/
structure NameP (x : Str) : Prop where
  lo : 1 ≤ x.length
  hi : x.length ≤ 8
  az : ∀ c ∈ x.cps.toList, 97 ≤ c ∧ c ≤ 122
theorem NameP.fits {x : Str} (h : NameP x) : x.length < sizeLine := by have := h.hi; rw [sizeLine_eq]; omega
theorem NameP.ascii {x : Str} (h : NameP x) : x.cps.all (· < 128) = true := by
  rw [Array.all_eq_true']
  intro c hc
  have := h.az c (by simpa using hc)
  simp; omega

section
variable {P : Program} {w : World} {K : PySem.W.Frag} {mg : Str → Option Value} {base : Heap}

noncomputable def spName : Sp := fun vs H Q _ => ∃ x, vs = [.str x] ∧ NameP x ∧ ∀ H', Same H H' → Q (.bl true) H'
theorem sc15 : FnScope ["thing"] ["thing"] (defScope (top 15)) := ⟨rfl, rfl, rfl, by decide +kernel, rfl, by decide +kernel, by decide +kernel⟩
theorem same_upd {H H' : Hp} {p : Addr} {o : HO} (h : Same H H') (hp : H' p = none) : Same H (upd H' p o) := fun b ob e => by
  rw [upd_ne (ne_of_none (h b ob e) hp)]; exact h b ob e
theorem ok_is_name {f : Addr} {fd : FuncData} (F : Fun K "is_name" "is_name" (top 15) f fd) (B : Bl mg) : FnOk P w K mg base CX0 1 f fd ["thing"] spName := by
  refine F.ok sc15 (fun vs H Q E h => ?_) (fun cdv A outer s H vs Q E hr h => ?_)
  · obtain ⟨x, rfl, _⟩ := h
    rfl
  · obtain ⟨x, rfl, hx, k⟩ := h
    obtain ⟨tl, hl⟩ := B.lng
    refine ⟨_, pss_cons (ps_if (PW.pt (pw_or (pt_not (pt_val (pe_callB (call_isinst (T := "str")) rfl B.isinstance b_isinstance (pa_cons (pv 0) (pa_cons (pe_bltn (v := .ty "str") rfl B.str b_str rfl) pa_nil)))))
        (pw_or1 (pt_not (pt_chain op_le op_le pe_int (pe_callB call_len_str rfl B.len PySem.boot_len (pa_cons (pv 0) pa_nil)) (pe_glob (v := .int 8) rfl hl ⟨_, rfl⟩)))))) (pss_one (ps_ret pe_bl)) pss_nil)
      (pss_one (ps_ret (pe_callB (call_allB rfl) rfl B.all b_all (pa_cons (pe_lc (N := ["letter"]) (ix := [none]) ⟨rfl, rfl, rfl, by decide⟩ rfl (pi_str (pv 0)) (fun _ _ _ _ => pg_lc 0 (by decide) rfl rfl) (fun _ _ _ _ => pts_nil)
        (fun _ _ _ _ => pe_chain op_le_str op_le_str pe_str (pv 0) pe_str)) pa_nil)))), ?_⟩
    refine ⟨_, rfl, _, _, true, rfl, .str x, ?kit, true, rfl, iteF ?_⟩
    case kit => rfl
    refine ⟨_, rfl, x, rfl, Nat.le_of_lt hx.fits, _, _, rfl, rfl, _, rfl, iteD (by have := hx.lo; omega) ⟨_, _, rfl, rfl, _, rfl, ?_⟩⟩
    refine iteNS (by have := hx.hi; omega) ?_
    refine ⟨_, rfl, x, rfl, hx.ascii, lcw_str0 hx.fits (fun i ys σ H1 => ys = List.replicate i (.bl true) ∧ Same H H1 ∧ ∃ v, σ = [v]) ⟨rfl, Same.refl _, _, rfl⟩ (fun i ys σ H1 _ q => by rw [q.1]; simp) ?_ ?_⟩
    · rintro i c ys σ H1 hc ⟨rfl, hs, v, rfl⟩
      have hcm := hx.az c (Array.mem_toList_iff.mpr (Array.mem_of_getElem? hc))
      refine ⟨_, rfl, _, _, rfl, rfl, _, rfl, iteND ?_ ⟨_, _, rfl, rfl, ?_, hs, _, rfl⟩⟩
      · show ¬ ([c] < [97])
        rw [lt1]; omega
      · have e : (!decide ([122] < [c])) = true := by rw [decide_eq_false (by rw [lt1]; omega)]; rfl
        show _ ++ [V.bl (!decide ([122] < [c]))] = _
        rw [e, List.replicate_succ']
    · rintro ys σ H1 ⟨rfl, hs, v, rfl⟩ p hp
      refine ⟨p, List.replicate x.length true, rfl, SqL.of (by rw [upd_same, List.map_replicate]), ?_⟩
      have e : (List.replicate x.length true).all id = true := by simp
      rw [e]
      exact k _ (same_upd hs hp)
end
end K34

set_option Elab.async false
set_option linter.all false
set_option maxRecDepth 100000
set_option maxHeartbeats 4000000
namespace K34
open PySem L2

/-! ### rules with the written part named -/
theorem ix_seqK (K : PySem.W.Frag) {X : Cx} (h : X.K = K := by rfl) : IxR X (rIx K) := by subst h; exact ix_seq
theorem notIn_seqK (K : PySem.W.Frag) {X : Cx} (h : X.K = K := by rfl) : OpR X (compareOp .NotIn) (rIn K true) := by subst h; exact op_notIn_seq
/-! ### small readings -/
theorem atI_at {α : Type} {xs : List α} {z : Int} {j : Nat} {v : α} (hz : z = (j : Int)) (h : xs[j]? = some v) : atI xs z = some v := by subst hz; exact atI_nat h
noncomputable def Sq (K : PySem.W.Frag) (H : Hp) (p : Addr) (xs : List V) : Prop := SqL K H p xs ∨ SqT K H p xs
theorem same_tup {K : PySem.W.Frag} {H H' : Hp} {a : Addr} {xs : List V} (e : Same H H') (h : SqT K H a xs) : SqT K H' a xs := by
  rcases h with (h | ⟨o, h⟩) | h
  · exact .inl (.inl (e _ _ h))
  · exact .inl (.inr ⟨o, e _ _ h⟩)
  · exact .inr h
theorem Sq.same {K : PySem.W.Frag} {H H' : Hp} {a : Addr} {xs : List V} (h : Sq K H a xs) (e : Same H H') : Sq K H' a xs := h.imp (fun z => e.seq z) fun z => same_tup e z
theorem rix_of {K : PySem.W.Frag} {H : Hp} {p : Addr} {xs : List V} {z : Int} {j : Nat} {v : V} {Q : VK} (h : Sq K H p xs) (hz : z = (j : Int)) (hx : xs[j]? = some v) (q : Q v H) : rIx K (.ref p) (.int z) H Q :=
  h.elim (fun h => .inl ⟨p, xs, z, v, rfl, rfl, h, atI_at hz hx, q⟩) fun h => .inr (.inl ⟨p, xs, z, v, rfl, rfl, h, atI_at hz hx, q⟩)
theorem fits {n : Nat} (h : n ≤ 1000) : n < sizeLine := small1000 h
theorem strAt {ss : List Str} {i : Nat} (h : i < ss.length) : (ss.map V.str)[i]? = some (.str ss[i]) := by rw [List.getElem?_map, List.getElem?_eq_getElem h]; rfl
theorem in_strs (x : Str) (ss : List Str) : inV (.str x) (ss.map V.str) = decide (x ∈ ss) := by
  unfold inV
  rw [List.any_map]
  rw [Bool.eq_iff_iff, List.any_eq_true, decide_eq_true_iff]
  constructor
  · rintro ⟨y, hy, e⟩
    have e' : y = x := by simpa [eqV] using e
    exact e' ▸ hy
  · intro h
    exact ⟨x, h, by simp [eqV]⟩
theorem flat_strs (ss : List Str) : (ss.map V.str).all flatV = true := by
  rw [List.all_map, List.all_eq_true]
  intro y _
  rfl

/-! ### webs -/
noncomputable abbrev Row := Str × Str × Str
noncomputable def RowAt (H : Hp) (p : Addr) (r : Row) : Prop := H p = some (.tup [.str r.1, .str r.2.1, .str r.2.2])
noncomputable abbrev rrefs (rs : List (Addr × Row)) : List V := rs.map fun r => V.ref r.1
structure WebAt (H : Hp) (v pa ra : Addr) (ps : List Str) (rs : List (Addr × Row)) : Prop where
  tp : H v = some (.tup [.ref pa, .ref ra])
  pl : H pa = some (.tup (ps.map V.str))
  rl : H ra = some (.tup (rrefs rs))
  rows : ∀ r ∈ rs, RowAt H r.1 r.2
structure Good (ps : List Str) (rs : List Row) : Prop where
  ne : ps ≠ []
  nm : ∀ x ∈ ps, NameP x
  so : ps.Pairwise nlt
  rn : ∀ r ∈ rs, NameP r.1 ∧ r.2.1 ∈ ps ∧ r.2.2 ∈ ps ∧ r.2.1 ≠ r.2.2
  rso : (rs.map (·.1)).Pairwise nlt
  pz : ps.length ≤ 100
  rz : rs.length ≤ 60
theorem WebAt.same {H H' : Hp} {v pa ra : Addr} {ps : List Str} {rs : List (Addr × Row)} (h : WebAt H v pa ra ps rs) (e : Same H H') : WebAt H' v pa ra ps rs :=
  ⟨e _ _ h.tp, e _ _ h.pl, e _ _ h.rl, fun r hr => e _ _ (h.rows r hr)⟩

section
variable {P : Program} {w : World} {K : PySem.W.Frag} {mg : Str → Option Value} {base : Heap}

noncomputable def spRising (K : PySem.W.Frag) : Sp := fun vs H Q _ => ∃ (p : Addr) (ss : List Str), vs = [.ref p] ∧ Sq K H p (ss.map V.str) ∧ ss.Pairwise nlt ∧ ss.length ≤ 1000 ∧ ∀ H', Same H H' → Q (.bl true) H'
theorem sc17 : FnScope ["names"] ["names"] (defScope (top 17)) := ⟨rfl, rfl, rfl, by decide +kernel, rfl, by decide +kernel, by decide +kernel⟩
theorem ok_is_rising {f : Addr} {fd : FuncData} (F : Fun K "is_rising" "is_rising" (top 17) f fd) (B : Bl mg) : FnOk P w K mg base CX0 1 f fd ["names"] (spRising K) := by
  refine F.ok sc17 (fun vs H Q E h => ?_) (fun cdv A outer s H vs Q E hr h => ?_)
  · obtain ⟨p, ss, rfl, _⟩ := h
    rfl
  · obtain ⟨p, ss, rfl, hq, hp, hz, k⟩ := h
    refine ⟨_, pss_one (ps_ret (pe_callB (call_allB rfl) rfl B.all b_all (pa_cons (pe_lc (N := ["at", "names"]) (ix := [none, some 0]) ⟨rfl, rfl, rfl, by decide⟩ rfl
      (pi_range2 rfl B.range (pa_cons pe_int (pa_cons (pe_callB call_len_seq rfl B.len PySem.boot_len (pa_cons (pv 0) pa_nil)) pa_nil))) (fun _ _ _ _ => pg_lc 0 (by decide) rfl rfl) (fun _ _ _ _ => pts_nil)
      (fun _ _ _ _ => pe_cmpR op_lt_str (pe_ix (ix_seqK K) (pv 1) (pe_op op_sub (pv 0) pe_int) (fun _ _ => rfl)) (pe_ix (ix_seqK K) (pv 1) (pv 0) (fun _ _ => rfl)) (nomark _))) pa_nil))), ?_⟩
    have hz' : (ss.map V.str).length ≤ 1000 := by simpa using hz
    refine ⟨_, rfl, p, ss.map V.str, rfl, hq, 1, _, rfl, ⟨by decide, by decide, by omega, by omega⟩, lcw_range0 (fits (by omega)) (fun i ys σ H1 => ys = List.replicate i (.bl true) ∧ Same H H1 ∧ ∃ v, σ = [v, some (.ref p)])
      ⟨rfl, Same.refl _, _, rfl⟩ (fun i ys σ H1 _ q => by rw [q.1]; simp) ?_ ?_⟩
    · rintro i ys σ H1 hi ⟨rfl, hs, v, rfl⟩
      have hl : i + 1 < ss.length := by rw [List.length_map] at hi; omega
      refine ⟨_, rfl, _, rfl, _, _, rfl, rfl, rix_of (j := i) (hq.same hs) (by omega) (strAt (by omega)) ⟨_, rfl, _, rfl, rix_of (j := i + 1) (hq.same hs) (by push_cast; omega) (strAt hl) ⟨_, _, rfl, rfl, ?_, hs, _, rfl⟩⟩⟩
      have e : ss[i].cps.toList < ss[i + 1].cps.toList := List.pairwise_iff_getElem.mp hp i (i + 1) (by omega) hl (by omega)
      show _ ++ [V.bl (decide (ss[i].cps.toList < ss[i + 1].cps.toList))] = _
      rw [decide_eq_true e, List.replicate_succ']
    · rintro ys σ H1 ⟨rfl, hs, v, rfl⟩ q hqn
      refine ⟨q, List.replicate _ true, rfl, SqL.of (by rw [upd_same, List.map_replicate]), ?_⟩
      have e : ∀ n : Nat, (List.replicate n true).all id = true := by simp
      rw [e]
      exact k _ (same_upd hs hqn)

noncomputable def spSorted : Sp := fun vs H Q _ => ∃ (p : Addr) (ss : List Str), vs = [.ref p] ∧ H p = some (.tup (ss.map V.str)) ∧ (∀ x ∈ ss, NameP x) ∧ ss.Pairwise nlt ∧ ss.length ≤ 1000 ∧ ∀ H', Same H H' → Q (.bl true) H'
theorem sc18 : FnScope ["thing"] ["thing"] (defScope (top 18)) := ⟨rfl, rfl, rfl, by decide +kernel, rfl, by decide +kernel, by decide +kernel⟩
theorem ok_is_sorted {f : Addr} {fd : FuncData} (F : Fun K "is_sorted_names" "is_sorted_names" (top 18) f fd) (B : Bl mg) (F1 : Fn P w K mg base 1 "is_name" ["thing"] spName) (F2 : Fn P w K mg base 1 "is_rising" ["names"] (spRising K)) :
    FnOk P w K mg base CX0 2 f fd ["thing"] spSorted := by
  refine F.ok sc18 (fun vs H Q E h => ?_) (fun cdv A outer s H vs Q E hr h => ?_)
  · obtain ⟨p, ss, rfl, _⟩ := h
    rfl
  · obtain ⟨p, ss, rfl, hp, hn, hs, hz, k⟩ := h
    refine ⟨_, pss_cons (ps_if (pt_not (pt_val (pe_callB (call_isinst (T := "tuple")) rfl B.isinstance b_isinstance (pa_cons (pv 0) (pa_cons (pe_bltn (v := .ty "tuple") rfl B.tuple b_tuple rfl) pa_nil))))) (pss_one (ps_ret pe_bl)) pss_nil)
      (pss_one (ps_ret (pe_and (pe_callB (call_allB rfl) rfl B.all b_all (pa_cons (pe_lc (N := ["name"]) (ix := [none]) ⟨rfl, rfl, rfl, by decide⟩ rfl (pi_tup (pv 0)) (fun _ _ _ _ => pg_lc 0 (by decide) rfl rfl) (fun _ _ _ _ => pts_nil)
        (fun _ _ _ _ => pe_fn F1 hr (pa_cons (pv 0) pa_nil))) pa_nil)) (pe_one (pe_fn F2 hr (pa_cons (pv 0) pa_nil)))))), ?_⟩
    refine ⟨_, rfl, _, _, true, rfl, .tup hp, rfl, true, rfl, iteF ?_⟩
    refine ⟨_, rfl, p, rfl, ⟨_, SqT.of hp⟩, lcw_tup0 (xs := ss.map V.str) (fits (by simpa using hz)) (fun i ys σ H1 => ys = List.replicate i (.bl true) ∧ Same H H1 ∧ ∃ v, σ = [v]) ⟨rfl, Same.refl _, _, rfl⟩
      (fun i ys σ H1 _ q => ⟨by rw [q.1]; simp, same_tup q.2.1 (SqT.of hp)⟩) ?_ ?_⟩
    · rintro i x ys σ H1 hx ⟨rfl, hs1, v, rfl⟩
      obtain ⟨y, hy, rfl⟩ : ∃ y ∈ ss, x = V.str y := by
        obtain ⟨y, e1, e2⟩ := List.mem_map.mp (List.mem_of_getElem? hx)
        exact ⟨y, e1, e2.symm⟩
      exact ⟨_, rfl, y, rfl, hn y hy, fun H2 hs2 => ⟨by rw [List.replicate_succ'], hs1.trans hs2, _, rfl⟩⟩
    · rintro ys σ H1 ⟨rfl, hs1, v, rfl⟩ q hqn
      refine ⟨q, List.replicate _ true, rfl, SqL.of (by rw [upd_same, List.map_replicate]), _, rfl, ?_⟩
      have e : ∀ n : Nat, (List.replicate n true).all id = true := by simp
      rw [e]
      have hs2 := same_upd (o := .lst (List.replicate (ss.map V.str).length (.bl true))) hs1 hqn
      exact iteT ⟨_, rfl, p, ss, rfl, .inr (same_tup hs2 (SqT.of hp)), hs, hz, fun H3 hs3 => k _ (hs2.trans hs3)⟩

noncomputable def spAmong (K : PySem.W.Frag) : Sp := fun vs H Q _ => ∃ (x : Str) (p : Addr) (ss : List Str), vs = [.str x, .ref p] ∧ Sq K H p (ss.map V.str) ∧ Q (.bl (decide (x ∈ ss))) H
theorem sc19 : FnScope ["thing", "names"] ["thing", "names"] (defScope (top 19)) := ⟨rfl, rfl, rfl, by decide +kernel, rfl, by decide +kernel, by decide +kernel⟩
theorem ok_is_among {f : Addr} {fd : FuncData} (F : Fun K "is_among" "is_among" (top 19) f fd) (B : Bl mg) : FnOk P w K mg base CX0 1 f fd ["thing", "names"] (spAmong K) := by
  refine F.ok sc19 (fun vs H Q E h => ?_) (fun cdv A outer s H vs Q E hr h => ?_)
  · obtain ⟨x, p, ss, rfl, _⟩ := h
    rfl
  · obtain ⟨x, p, ss, rfl, hp, k⟩ := h
    refine ⟨_, pss_one (ps_ret (pe_and (pe_callB (call_isinst (T := "str")) rfl B.isinstance b_isinstance (pa_cons (pv 0) (pa_cons (pe_bltn (v := .ty "str") rfl B.str b_str rfl) pa_nil)))
      (pe_one (pe_cmpR op_in_seq (pv 0) (pv 1) (by with_unfolding_all rfl))))), ?_⟩
    refine ⟨_, rfl, _, _, true, rfl, .str x, rfl, true, rfl, iteT ⟨_, rfl, _, rfl, p, ss.map V.str, rfl, hp, rfl, flat_strs ss, ?_⟩⟩
    show Q (.bl (inV (.str x) (ss.map V.str))) H
    rw [in_strs]
    exact k

noncomputable def spTieRow : Sp := fun vs H Q _ => ∃ (p q : Addr) (r : Row) (ps : List Str), vs = [.ref p, .ref q] ∧ RowAt H p r ∧ H q = some (.tup (ps.map V.str)) ∧ NameP r.1 ∧ r.2.1 ∈ ps ∧ r.2.2 ∈ ps ∧ r.2.1 ≠ r.2.2 ∧ ∀ H', Same H H' → Q (.bl true) H'
theorem sc20 : FnScope ["thing", "places", "name", "start", "end"] ["thing", "places"] (defScope (top 20)) := ⟨rfl, rfl, rfl, by decide +kernel, rfl, by decide +kernel, by decide +kernel⟩
theorem ok_is_tie_row {f : Addr} {fd : FuncData} (F : Fun K "is_tie_row" "is_tie_row" (top 20) f fd) (B : Bl mg) (F1 : Fn P w K mg base 1 "is_name" ["thing"] spName) (F2 : Fn P w K mg base 1 "is_among" ["thing", "names"] (spAmong K)) :
    FnOk P w K mg base CX0 2 f fd ["thing", "places"] spTieRow := by
  refine F.ok sc20 (fun vs H Q E h => ?_) (fun cdv A outer s H vs Q E hr h => ?_)
  · obtain ⟨p, q, r, ps, rfl, _⟩ := h
    rfl
  · obtain ⟨p, q, r, ps, rfl, hp, hq, h1, h2, h3, h4, k⟩ := h
    have hp' : H p = some (.tup [.str r.1, .str r.2.1, .str r.2.2]) := hp
    refine ⟨_, pss_cons (ps_if (PW.pt (pw_or (pt_not (pt_val (pe_callB (call_isinst (T := "tuple")) rfl B.isinstance b_isinstance (pa_cons (pv 0) (pa_cons (pe_bltn (v := .ty "tuple") rfl B.tuple b_tuple rfl) pa_nil)))))
        (pw_or1 (pt_cmpR op_ne (pe_callB call_len_seq rfl B.len PySem.boot_len (pa_cons (pv 0) pa_nil)) pe_int (nomark _))))) (pss_one (ps_ret pe_bl)) pss_nil)
      (pss_cons (ps_asg (pv 0) (pg_tup rfl (n := 3) (pgs_cons (pg_name (i := 2) sc20.nd rfl (Or.inl rfl)) (pgs_cons (pg_name (i := 3) sc20.nd rfl (Or.inl rfl)) (pgs_cons (pg_name (i := 4) sc20.nd rfl (Or.inl rfl)) pgs_nil)))))
      (pss_one (ps_ret (pe_and (pe_fn F1 hr (pa_cons (pv 2) pa_nil)) (pe_and (pe_fn F2 hr (pa_cons (pv 3) (pa_cons (pv 1) pa_nil))) (pe_and (pe_fn F2 hr (pa_cons (pv 4) (pa_cons (pv 1) pa_nil))) (pe_one (pe_cmpR op_ne (pv 3) (pv 4) (nomark _))))))))), ?_⟩
    refine ⟨_, rfl, _, _, true, rfl, .tup hp', rfl, true, rfl, iteF ⟨_, rfl, p, _, rfl, .inr (SqT.of hp'), rfl, _, rfl, iteNS rfl ?_⟩⟩
    refine ⟨_, rfl, p, _, rfl, SqT.of hp', rfl, _, _, rfl, _, _, rfl, _, _, rfl, rfl, ?_⟩
    refine ⟨_, rfl, r.1, rfl, h1, fun H1 s1 => ⟨true, rfl, iteT ⟨_, rfl, _, rfl, r.2.1, q, ps, rfl, .inr (same_tup s1 (SqT.of hq)), _, rfl, iteD h2 ⟨_, rfl, _, rfl, r.2.2, q, ps, rfl, .inr (same_tup s1 (SqT.of hq)), _, rfl, iteD h3 ⟨_, rfl, _, rfl, rfl, ?_⟩⟩⟩⟩⟩
    have e : (!decide (V.str r.2.1 = V.str r.2.2)) = true := by
      rw [decide_eq_false (fun z => h4 (V.str.inj z))]; rfl
    rw [e]
    exact k H1 s1
end
end K34

set_option Elab.async false
set_option linter.all false
set_option maxRecDepth 100000
set_option maxHeartbeats 4000000
namespace K34
open PySem L2

theorem take_map_succ {α β : Type} (f : α → β) (l : List α) (i : Nat) (x : α) (h : l[i]? = some x) : (l.take (i + 1)).map f = (l.take i).map f ++ [f x] := by
  rw [List.take_add_one, h]; simp
theorem rowAt_get {rs : List (Addr × Row)} {i : Nat} {x : V} (h : (rrefs rs)[i]? = some x) : ∃ r, rs[i]? = some r ∧ x = .ref r.1 := by
  unfold rrefs at h
  rw [List.getElem?_map] at h
  cases e : rs[i]? with
  | none => rw [e] at h; cases h
  | some r => rw [e] at h; exact ⟨r, rfl, (Option.some.inj h).symm⟩
section
variable {P : Program} {w : World} {K : PySem.W.Frag} {mg : Str → Option Value} {base : Heap}

noncomputable def spWeb (r : V) : Sp := fun vs H Q _ => ∃ (v pa ra : Addr) (ps : List Str) (rs : List (Addr × Row)), vs = [.ref v] ∧ WebAt H v pa ra ps rs ∧ Good ps (rs.map (·.2)) ∧ ∀ H', Same H H' → Q r H'
theorem sc21 : FnScope ["thing", "places", "rows"] ["thing"] (defScope (top 21)) := ⟨rfl, rfl, rfl, by decide +kernel, rfl, by decide +kernel, by decide +kernel⟩
theorem ok_is_web {f : Addr} {fd : FuncData} (F : Fun K "is_web" "is_web" (top 21) f fd) (B : Bl mg) (F1 : Fn P w K mg base 2 "is_sorted_names" ["thing"] spSorted) (F2 : Fn P w K mg base 2 "is_tie_row" ["thing", "places"] spTieRow)
    (F3 : Fn P w K mg base 1 "is_rising" ["names"] (spRising K)) : FnOk P w K mg base CX0 3 f fd ["thing"] (spWeb (.bl true)) := by
  refine F.ok sc21 (fun vs H Q E h => ?_) (fun cdv A outer s H vs Q E hr h => ?_)
  · obtain ⟨v, pa, ra, ps, rs, rfl, _⟩ := h
    rfl
  · obtain ⟨v, pa, ra, ps, rs, rfl, W, G, k⟩ := h
    have hr1 : Room 1 _ := hr.mono (by decide)
    refine ⟨_, pss_cons (ps_if (PW.pt (pw_or (pt_not (pt_val (pe_callB (call_isinst (T := "tuple")) rfl B.isinstance b_isinstance (pa_cons (pv 0) (pa_cons (pe_bltn (v := .ty "tuple") rfl B.tuple b_tuple rfl) pa_nil)))))
        (pw_or1 (pt_cmpR op_ne (pe_callB call_len_seq rfl B.len PySem.boot_len (pa_cons (pv 0) pa_nil)) pe_int (nomark _))))) (pss_one (ps_ret pe_bl)) pss_nil)
      (pss_cons (ps_asg (pv 0) (pg_tup rfl (n := 2) (pgs_cons (pg_name (i := 1) sc21.nd rfl (Or.inr rfl)) (pgs_cons (pg_name (i := 2) sc21.nd rfl (Or.inl rfl)) pgs_nil))))
      (pss_cons (ps_if (PW.pt (pw_or (pt_not (pt_val (pe_fn F1 hr (pa_cons (pv 1) pa_nil)))) (pw_or (pt_cmpR op_eq (pe_callB call_len_seq rfl B.len PySem.boot_len (pa_cons (pv 1) pa_nil)) pe_int (nomark _))
        (pw_or1 (pt_not (pt_val (pe_callB (call_isinst (T := "tuple")) rfl B.isinstance b_isinstance (pa_cons (pv 2) (pa_cons (pe_bltn (v := .ty "tuple") rfl B.tuple b_tuple rfl) pa_nil))))))))) (pss_one (ps_ret pe_bl)) pss_nil)
      (pss_one (ps_ret (pe_and (pe_callB (call_allB rfl) rfl B.all b_all (pa_cons (pe_lc (N := ["row", "places"]) (ix := [none, some 1]) ⟨rfl, rfl, rfl, by decide⟩ rfl (pi_tup (pv 2)) (fun _ _ _ _ => pg_lc 0 (by decide) rfl rfl) (fun _ _ _ _ => pts_nil)
        (fun _ _ _ _ => pe_fn F2 hr (pa_cons (pv 0) (pa_cons (pv 1) pa_nil)))) pa_nil))
        (pe_one (pe_fn F3 hr1 (pa_cons (pe_lc (N := ["row"]) (ix := [none]) ⟨rfl, rfl, rfl, by decide⟩ rfl (pi_tup (pv 2)) (fun _ _ _ _ => pg_lc 0 (by decide) rfl rfl) (fun _ _ _ _ => pts_nil)
          (fun _ _ _ _ => pe_ix (ix_seqK K) (pv 0) pe_int (fun _ _ => rfl))) pa_nil)))))))), ?_⟩
    have hlen : (rrefs rs).length ≤ 1000 := by have := G.rz; simp at this ⊢; omega
    refine ⟨_, rfl, _, _, true, rfl, .tup W.tp, rfl, true, rfl, iteF ⟨_, rfl, v, _, rfl, .inr (SqT.of W.tp), rfl, _, rfl, iteNS rfl ?_⟩⟩
    refine ⟨_, rfl, v, _, rfl, SqT.of W.tp, rfl, _, _, rfl, _, _, rfl, rfl, ?_⟩
    refine ⟨_, rfl, pa, ps, rfl, W.pl, G.nm, G.so, by have := G.pz; omega, fun H1 s1 => ⟨true, rfl, iteF ?_⟩⟩
    refine ⟨_, rfl, pa, _, rfl, .inr (SqT.of (s1 _ _ W.pl)), rfl, _, rfl, iteDN ?_ ?_⟩
    · intro z
      have z' : ((ps.map V.str).length : Int) = 0 := V.int.inj z
      have : ps.length ≠ 0 := fun q => G.ne (List.length_eq_zero_iff.mp q)
      rw [List.length_map] at z'
      omega
    refine ⟨_, rfl, _, _, true, rfl, .tup (s1 _ _ W.rl), rfl, true, rfl, iteF ?_⟩
    refine ⟨_, rfl, ra, rfl, ⟨_, SqT.of (s1 _ _ W.rl)⟩, lcw_tup0 (xs := rrefs rs) (fits hlen) (fun i ys σ H2 => ys = List.replicate i (.bl true) ∧ Same H H2 ∧ ∃ x, σ = [x, some (.ref pa)]) ⟨rfl, s1, _, rfl⟩
      (fun i ys σ H2 _ q => ⟨by rw [q.1]; simp, SqT.of (q.2.1 _ _ W.rl)⟩) ?_ ?_⟩
    · rintro i x ys σ H2 hx ⟨rfl, s2, y, rfl⟩
      obtain ⟨r, hr', rfl⟩ := rowAt_get hx
      have hm := List.mem_of_getElem? hr'
      obtain ⟨g1, g2, g3, g4⟩ := G.rn r.2 (List.mem_map_of_mem hm)
      exact ⟨_, rfl, _, rfl, r.1, pa, r.2, ps, rfl, s2 _ _ (W.rows r hm), s2 _ _ W.pl, g1, g2, g3, g4, fun H3 s3 => ⟨by rw [List.replicate_succ'], s2.trans s3, _, rfl⟩⟩
    · rintro ys σ H2 ⟨rfl, s2, y, rfl⟩ q hqn
      have s3 := same_upd (o := .lst (List.replicate (rrefs rs).length (.bl true))) s2 hqn
      refine ⟨q, List.replicate _ true, rfl, SqL.of (by rw [upd_same, List.map_replicate]), _, rfl, ?_⟩
      have e : ∀ n : Nat, (List.replicate n true).all id = true := by simp
      rw [e]
      refine iteT ⟨_, rfl, ra, rfl, ⟨_, SqT.of (s3 _ _ W.rl)⟩, lcw_tup0 (xs := rrefs rs) (fits hlen) (fun i ys σ H4 => ys = ((rs.take i).map fun r => V.str r.2.1) ∧ Same H H4 ∧ ∃ x, σ = [x]) ⟨rfl, s3, _, rfl⟩
        (fun i ys σ H4 _ q => ⟨by rw [q.1]; simp; omega, SqT.of (q.2.1 _ _ W.rl)⟩) ?_ ?_⟩
      · rintro i x ys σ H4 hx ⟨rfl, s4, z, rfl⟩
        obtain ⟨r, hr', rfl⟩ := rowAt_get hx
        have hm := List.mem_of_getElem? hr'
        exact ⟨_, rfl, rix_of (j := 0) (.inr (SqT.of (s4 _ _ (W.rows r hm)))) rfl rfl ⟨(take_map_succ _ _ _ _ hr').symm, s4, _, rfl⟩⟩
      · rintro ys σ H4 ⟨rfl, s4, z, rfl⟩ q2 hq2
        refine ⟨q2, rs.map (·.2.1), rfl, .inl (SqL.of (by rw [upd_same]; simp)), ?_, by simpa using hlen, fun H5 s5 => k _ ((same_upd s4 hq2).trans s5)⟩
        have := G.rso
        rw [List.map_map] at this
        exact this
end
end K34

set_option Elab.async false
set_option linter.all false
set_option maxRecDepth 100000
set_option maxHeartbeats 4000000
namespace K34
open PySem L2

theorem take_filter_succ {α : Type} (p : α → Bool) (l : List α) (i : Nat) (x : α) (h : l[i]? = some x) : (l.take (i + 1)).filter p = (l.take i).filter p ++ (if p x then [x] else []) := by
  rw [List.take_add_one, h, List.filter_append]
  simp only [Option.toList_some, List.filter_cons, List.filter_nil]
theorem take_all {α : Type} (l : List α) {n : Nat} (h : n = l.length) : l.take n = l := by subst h; exact List.take_length
noncomputable abbrev nms (rs : List (Addr × Row)) : List Str := rs.map (·.2.1)
theorem perm_lift {α β : Type} (f : α → β) : ∀ (l' : List β) (l : List α), l'.Perm (l.map f) → ∃ l'' : List α, l''.Perm l ∧ l''.map f = l'
  | [], l, h => by
    have : l = [] := by simpa using h.length_eq.symm
    subst this
    exact ⟨[], .refl _, rfl⟩
  | b :: t, l, h => by
    obtain ⟨a, ha, rfl⟩ := List.mem_map.mp (h.mem_iff.mp List.mem_cons_self)
    obtain ⟨u, v, rfl⟩ := List.append_of_mem ha
    have h2 : (f a :: t).Perm (f a :: (u ++ v).map f) := by
      refine h.trans ?_
      rw [List.map_append, List.map_cons, List.map_append]
      exact List.perm_middle
    obtain ⟨w, hw, e⟩ := perm_lift f t (u ++ v) h2.cons_inv
    exact ⟨a :: w, (hw.cons a).trans List.perm_middle.symm, by rw [List.map_cons, e]⟩
structure LotP (ps ls : List Str) : Prop where
  ne : ls ≠ []
  nm : ∀ x ∈ ls, NameP x
  so : ls.Pairwise nlt
  sub : ∀ x ∈ ls, x ∈ ps
  z : ls.length ≤ 100
theorem pw_nodup {ss : List Str} (h : ss.Pairwise nlt) : ss.Nodup := h.imp fun {a b} hab e => by
  subst e; exact absurd hab (List.lt_irrefl _)
theorem key_refs (rs : List (Addr × Row)) : refs (rs.map fun r => (r.1, r.2.1)) = rrefs rs := by
  unfold refs rrefs
  rw [List.map_map]
  rfl
theorem pg_tupK (K : PySem.W.Frag) {X : Cx} {es : List Expr} {k : Nat} {t : TGs} {n : Nat} {pos : Pos} (hc : X.calm = true) (h : PGs X es t) (hK : X.K = K := by rfl) (hn : (assignEach es X.env).length = n := by rfl) (hst : (assignEach es X.env).findIdx? (·.1) = none := by rfl) :
    PG X (.Tuple es k pos) (gTup K n t) := by subst hK; exact pg_tup hc h hn hst
section
variable {P : Program} {w : World} {K : PySem.W.Frag} {mg : Str → Option Value} {base : Heap}

theorem sc22 : FnScope ["thing"] ["thing"] (defScope (top 22)) := ⟨rfl, rfl, rfl, by decide +kernel, rfl, by decide +kernel, by decide +kernel⟩
theorem ok_need_web {f : Addr} {fd : FuncData} (F : Fun K "need_web" "need_web" (top 22) f fd) (F1 : Fn P w K mg base 3 "is_web" ["thing"] (spWeb (.bl true))) : FnOk P w K mg base CX0 4 f fd ["thing"] (spWeb .non) := by
  refine F.ok sc22 (fun vs H Q E h => ?_) (fun cdv A outer s H vs Q E hr h => ?_)
  · obtain ⟨v, pa, ra, ps, rs, rfl, _⟩ := h
    rfl
  · obtain ⟨v, pa, ra, ps, rs, rfl, W, G, k⟩ := h
    refine ⟨_, pss_one (ps_if (pt_not (pt_val (pe_fn F1 hr (pa_cons (pv 0) pa_nil)))) pss_never pss_nil), ?_⟩
    exact ⟨_, rfl, v, pa, ra, ps, rs, rfl, W, G, fun H1 s1 => ⟨true, rfl, iteF (k H1 s1)⟩⟩

noncomputable def lead (ls : List Str) (r : Addr × Row) : Bool := decide (r.2.2.2 ∈ ls) && !decide (r.2.2.1 ∈ ls)
noncomputable def spInto : Sp := fun vs H Q _ => ∃ (l : Addr) (r : Addr × Row) (ls : List Str), vs = [.ref r.1, .ref l] ∧ RowAt H r.1 r.2 ∧ H l = some (.tup (ls.map V.str)) ∧ Q (.bl (lead ls r)) H
theorem sc25 : FnScope ["row", "lot"] ["row", "lot"] (defScope (top 25)) := ⟨rfl, rfl, rfl, by decide +kernel, rfl, by decide +kernel, by decide +kernel⟩
theorem ok_leads_into {f : Addr} {fd : FuncData} (F : Fun K "leads_into" "leads_into" (top 25) f fd) : FnOk P w K mg base CX0 1 f fd ["row", "lot"] spInto := by
  refine F.ok sc25 (fun vs H Q E h => ?_) (fun cdv A outer s H vs Q E hr h => ?_)
  · obtain ⟨l, r, ls, rfl, _⟩ := h
    rfl
  · obtain ⟨l, r, ls, rfl, hrow, hl, k⟩ := h
    refine ⟨_, pss_one (ps_ret (pe_and (pe_cmpR op_in_seq (pe_ix ix_seq (pv 0) pe_int (fun _ _ => rfl)) (pv 1) (by with_unfolding_all rfl)) (pe_one (pe_cmpR op_notIn_seq (pe_ix ix_seq (pv 0) pe_int (fun _ _ => rfl)) (pv 1) (by with_unfolding_all rfl))))), ?_⟩
    have hS : Sq K H l (ls.map V.str) := .inr (SqT.of hl)
    refine ⟨_, rfl, rix_of (j := 2) (.inr (SqT.of hrow)) rfl rfl ⟨_, rfl, l, ls.map V.str, rfl, hS, rfl, flat_strs ls, ?_⟩⟩
    have e1 : (inV (.str r.2.2.2) (ls.map V.str)) = decide (r.2.2.2 ∈ ls) := in_strs _ _
    have e2 : (inV (.str r.2.2.1) (ls.map V.str)) = decide (r.2.2.1 ∈ ls) := in_strs _ _
    refine ⟨inV (.str r.2.2.2) (ls.map V.str), rfl, ?_⟩
    rw [e1]
    refine ite2 (fun c => ⟨_, rfl, rix_of (j := 1) (.inr (SqT.of hrow)) rfl rfl ⟨_, rfl, l, ls.map V.str, rfl, hS, rfl, flat_strs ls, ?_⟩⟩) (fun c => ?_)
    · show Q (.bl (!inV (.str r.2.2.1) (ls.map V.str))) H
      rw [e2]
      have : lead ls r = !decide (r.2.2.1 ∈ ls) := by unfold lead; rw [c]; rfl
      rw [← this]; exact k
    · simp only [Bool.not_eq_true] at c
      have : lead ls r = false := by unfold lead; rw [c]; rfl
      rw [this] at k
      first | exact k | (rw [c]; exact k) | skip
noncomputable def spNeedPlace : Sp := fun vs H Q _ => ∃ (v pa ra : Addr) (ps : List Str) (rs : List (Addr × Row)) (x : Str), vs = [.ref v, .str x] ∧ WebAt H v pa ra ps rs ∧ x ∈ ps ∧ Q .non H
theorem sc24 : FnScope ["web", "thing"] ["web", "thing"] (defScope (top 24)) := ⟨rfl, rfl, rfl, by decide +kernel, rfl, by decide +kernel, by decide +kernel⟩
theorem ok_need_place {f : Addr} {fd : FuncData} (F : Fun K "need_place" "need_place" (top 24) f fd) (F1 : Fn P w K mg base 1 "is_among" ["thing", "names"] (spAmong K)) : FnOk P w K mg base CX0 2 f fd ["web", "thing"] spNeedPlace := by
  refine F.ok sc24 (fun vs H Q E h => ?_) (fun cdv A outer s H vs Q E hr h => ?_)
  · obtain ⟨v, pa, ra, ps, rs, x, rfl, _⟩ := h
    rfl
  · obtain ⟨v, pa, ra, ps, rs, x, rfl, W, hx, k⟩ := h
    refine ⟨_, pss_one (ps_if (pt_not (pt_val (pe_fn F1 hr (pa_cons (pv 1) (pa_cons (pe_ix ix_seq (pv 0) pe_int (fun _ _ => rfl)) pa_nil))))) pss_never pss_nil), ?_⟩
    exact ⟨_, rfl, _, rfl, rix_of (j := 0) (.inr (SqT.of W.tp)) rfl rfl ⟨x, pa, ps, rfl, .inr (SqT.of W.pl), _, rfl, iteNS hx k⟩⟩


end
end K34

set_option Elab.async false
set_option linter.all false
set_option maxRecDepth 100000
set_option maxHeartbeats 4000000
namespace K34
open PySem L2
theorem Same.upd0 {H H' : Hp} {q : Addr} {o : HO} (h : Same H H') (hq : H q = none) : Same H (upd H' q o) := fun b ob e => by
  rw [upd_ne (ne_of_none e hq)]; exact h b ob e
theorem lt0 {k : Nat} {A : Around} (r : Room k A) : A.units < cLine := by have := r.un; omega
theorem lt1' {k : Nat} {A : Around} (r : Room k A) : A.units + 1 < cLine := by have := r.un; omega
noncomputable def Pot (H : Hp) (p : Addr) : Prop := ∃ a b, H p = some (.lst [.int a, .int b]) ∧ 0 ≤ b ∧ b < 2147483629
/-- all that was tracked but these is as it was -/
noncomputable def Kp (P : List Addr) (H H' : Hp) : Prop := ∀ b o, H b = some o → b ∉ P → H' b = some o
theorem Kp.refl (P : List Addr) (H : Hp) : Kp P H H := fun _ _ h _ => h
theorem Kp.trans {P : List Addr} {H H1 H2 : Hp} (a : Kp P H H1) (b : Kp P H1 H2) : Kp P H H2 := fun c o h n => b c o (a c o h n) n
theorem Kp.same {P : List Addr} {H H' : Hp} (a : Same H H') : Kp P H H' := fun c o h _ => a c o h
theorem Kp.of_same {P : List Addr} {H H1 H2 : Hp} (a : Kp P H H1) (b : Same H1 H2) : Kp P H H2 := fun c o h n => b c o (a c o h n)
theorem Kp.inn {P : List Addr} {H H1 : Hp} {p : Addr} {o : HO} (a : Kp P H H1) (hp : p ∈ P) : Kp P H (upd H1 p o) := fun c ob h n => by rw [upd_ne (show c ≠ p from fun z => n (by rw [z]; exact hp))]; exact a c ob h n
theorem Kp.new {P : List Addr} {H H1 : Hp} {p : Addr} {o : HO} (a : Kp P H H1) (hp : H1 p = none) : Kp P H (upd H1 p o) := fun c ob h n => by rw [upd_ne (ne_of_none (a c ob h n) hp)]; exact a c ob h n
noncomputable def letters : Str := Str.ofString "abcdefghijklmnopqrstuvwxyz"
theorem letters_fin : ∀ r : _root_.Fin 26, letters.cps.toList[r.val]? = some (97 + r.val) := by decide +kernel
theorem letters_at {r : Nat} (h : r < 26) : letters.cps.toList[r]? = some (97 + r) := letters_fin ⟨r, h⟩
theorem letters_fits : letters.length ≤ sizeLine := by decide
theorem join_one (cs : List Nat) : (Txt.join (Str.ofString "") (cs.map fun c => (⟨#[c]⟩ : Str))).cps.toList = cs := by
  have e0 : (Str.ofString "").cps = #[] := by decide
  show (Builtin.Str.glued (Str.ofString "") _).cps.toList = cs
  rw [StrLaws.glued_eq_join]
  induction cs with
  | nil => rfl
  | cons c t ih =>
    cases t with
    | nil => rfl
    | cons d r =>
      show (((⟨#[c]⟩ : Str) ++ Str.ofString "" ++ Str.join (Str.ofString "") ((d :: r).map fun c => (⟨#[c]⟩ : Str))).cps).toList = _
      rw [Str.cps_append, Str.cps_append, e0, Array.toList_append, Array.toList_append, ih]
      rfl
theorem NameP.of_codes {x : Str} {l : List Nat} (e : x.cps.toList = l) (h1 : 1 ≤ l.length) (h8 : l.length ≤ 8) (h : ∀ c ∈ l, 97 ≤ c ∧ c ≤ 122) : NameP x := by
  have hl : x.length = l.length := by rw [← e]; simp [Str.length]
  exact ⟨by omega, by omega, by rw [e]; exact h⟩
theorem pot_ne {H : Hp} {p t : Addr} {ss : List Str} (h1 : Pot H p) (h2 : H t = some (.lst (ss.map V.str))) : t ≠ p := by
  rintro rfl
  obtain ⟨a, b, e, _⟩ := h1
  rw [e] at h2
  have h3 := HO.lst.inj (Option.some.inj h2)
  cases ss with
  | nil => cases h3
  | cons x r => rw [List.map_cons] at h3; cases List.cons.inj h3 |>.1
theorem rising_pw : ∀ (r : List Str) (x : Str), PyProof.Rows.risingS x r = true → (x :: r).Nodup → (x :: r).Pairwise nlt
  | [], x, _, _ => by simp
  | y :: r, x, h, hn => by
    have h' : (!PySem.Spec.ltCps y.cps.toList x.cps.toList && PyProof.Rows.risingS y r) = true := h
    rw [Bool.and_eq_true, PyProof.Rows.ltCps_eq] at h'
    have hn' := List.nodup_cons.mp hn
    have ih := rising_pw r y h'.2 hn'.2
    have hxy : nlt x y := by
      rcases str_tri (fun e => hn'.1 (e ▸ List.mem_cons_self) : x ≠ y) with z | z
      · exact z
      · rw [decide_eq_true z] at h'
        exact absurd h'.1 (by simp)
    refine List.pairwise_cons.mpr ⟨fun z hz => ?_, ih⟩
    rcases List.mem_cons.mp hz with rfl | hz
    · exact hxy
    · exact List.lt_trans hxy ((List.pairwise_cons.mp ih).1 z hz)
theorem sorted_pw {ss : List Str} (h : PyProof.Rows.sortedS ss = true) (hn : ss.Nodup) : ss.Pairwise nlt := by
  cases ss with
  | nil => exact .nil
  | cons x r => exact rising_pw r x h hn
theorem Kp.free {P : List Addr} {H H' : Hp} (k : Kp P H H') (hP : ∀ b ∈ P, ∃ o, H' b = some o) {q : Addr} (hq : H' q = none) : H q = none := by
  cases e : H q with
  | none => rfl
  | some o =>
    by_cases hm : q ∈ P
    · obtain ⟨o', e'⟩ := hP q hm
      rw [hq] at e'; cases e'
    · rw [k q o e hm] at hq; cases hq
theorem Pot.some {H : Hp} {p : Addr} (h : Pot H p) : ∃ o, H p = some o := let ⟨a, b, e, _⟩ := h; ⟨_, e⟩
theorem Pot.keep {H H' : Hp} {p : Addr} (h : Pot H p) (e : ∀ o, H p = Option.some o → H' p = Option.some o) : Pot H' p := let ⟨a, b, q, r⟩ := h; ⟨a, b, e _ q, r⟩
theorem tup_ne {H : Hp} {a b : Addr} {xs ys : List V} (h1 : H a = some (.tup xs)) (h2 : H b = some (.lst ys)) : a ≠ b := ne_of h1 h2 (by intro z; cases z)
theorem tup_kp {H H' : Hp} {P : List Addr} {b : Addr} {xs : List V} (k : Kp P H H') (hP : ∀ c ∈ P, ∃ ys, H c = some (.lst ys)) (e : H b = some (.tup xs)) : H' b = some (.tup xs) :=
  k b _ e fun hb => by
    obtain ⟨ys, e'⟩ := hP b hb
    exact tup_ne e e' rfl
theorem Pot.lst {H : Hp} {p : Addr} (h : Pot H p) : ∃ ys, H p = Option.some (HO.lst ys) := let ⟨a, b, e, _⟩ := h; ⟨_, e⟩
theorem strOk_of {x : Str} (h : NameP x) : PyData.strOk x = true := by
  unfold PyData.strOk
  rw [Array.all_eq_true']
  intro c hc
  have := h.az c (by simpa using hc)
  simp; omega
theorem lay_strs {ss : List Str} (h : ∀ x ∈ ss, NameP x) : PyData.canLayAll0 (ss.map PyData.str) = true ∧ PyData.depthAll (ss.map PyData.str) = 0 := by
  induction ss with
  | nil => exact ⟨rfl, rfl⟩
  | cons x t ih =>
    have := ih fun y hy => h y (List.mem_cons_of_mem _ hy)
    rw [List.map_cons]
    simp only [PyData.canLayAll0, PyData.canLay0, PyData.depthAll, PyData.depth, strOk_of (h x List.mem_cons_self), this.1, this.2]
    exact ⟨rfl, rfl⟩
theorem shaped_strs {ss : List Str} (h : ∀ x ∈ ss, NameP x) : SeqAt.shaped (.list (ss.map PyData.str)) = true ∧ SeqAt.shaped (.tuple (ss.map PyData.str)) = true := by
  have q := lay_strs h
  unfold SeqAt.shaped
  simp only [PyData.canLay0, PyData.depth, q.1, q.2]
  exact ⟨by decide, by decide⟩
theorem eqvAll_strs : ∀ (a b : List Str), PyData.eqvAll (a.map PyData.str) (b.map PyData.str) = decide (a = b)
  | [], [] => by simp [PyData.eqvAll]
  | [], y :: t => by simp [PyData.eqvAll]
  | x :: s, [] => by simp [PyData.eqvAll]
  | x :: s, y :: t => by
    simp only [List.map_cons, PyData.eqvAll, PyData.eqv, eqvAll_strs s t]
    rw [Bool.eq_iff_iff]
    simp

theorem Pot.ne_new {H : Hp} {p q : Addr} (h : Pot H p) (hq : H q = none) : q ≠ p := fun z => by obtain ⟨o, e⟩ := h.some; rw [← z, hq] at e; cases e
theorem Pot.upd {H : Hp} {p q : Addr} {o : HO} (h : Pot H p) (hq : q ≠ p) : Pot (upd H q o) p := h.keep fun ob e => by rw [upd_ne hq.symm]; exact e
theorem Pot.new {H : Hp} {p q : Addr} {o : HO} (h : Pot H p) (hq : H q = none) : Pot (L2.upd H q o) p := h.upd (h.ne_new hq)
theorem Kp.free1 {p q : Addr} {H H1 : Hp} (k : Kp [p] H H1) (hp : Pot H1 p) (hq : H1 q = none) : H q = none := k.free (fun b hb => by
  have e : b = p := by simpa using hb
  subst e; exact hp.some) hq
/-- what is no list stays -/
theorem Kp.tup {p b : Addr} {H H1 : Hp} {xs : List V} (k : Kp [p] H H1) (hp : Pot H p) (e : H b = some (.tup xs)) : H1 b = some (.tup xs) := tup_kp k (fun c hc => by
  have e : c = p := by simpa using hc
  subst e; exact hp.lst) e
theorem Kp.at {p b : Addr} {H H1 : Hp} {o : HO} (k : Kp [p] H H1) (hb : b ≠ p) (e : H b = some o) : H1 b = some o := k _ _ e (by simpa using hb)
section
variable {P : Program} {w : World} {K : PySem.W.Frag} {mg : Str → Option Value} {base : Heap}

noncomputable def spPot (K : PySem.W.Frag) : Sp := fun vs H Q _ => ∃ (a : Addr) (ns : List Int) (k : Int), vs = [.ref a, .int k] ∧ SqL K H a (ns.map V.int) ∧ 0 ≤ k ∧ k ≤ 100 ∧ ∀ q H', Same H H' → H q = none → Pot H' q → Q (.ref q) H'
theorem sc40 : FnScope ["_law_script", "_law_k", "_law_cell"] ["_law_script", "_law_k"] (defScope (top 40)) := ⟨rfl, rfl, rfl, by decide +kernel, rfl, by decide +kernel, by decide +kernel⟩
theorem ok_pot {f : Addr} {fd : FuncData} (F : Fun K "_law_pot" "_law_pot" (top 40) f fd) (B : Bl mg) : FnOk P w K mg base CX0 1 f fd ["_law_script", "_law_k"] (spPot K) := by
  refine F.ok sc40 (fun vs H Q E h => ?_) (fun cdv A outer s H vs Q E hr h => ?_)
  · obtain ⟨a, ns, k, rfl, _⟩ := h
    rfl
  · obtain ⟨a, ns, k, rfl, ha, hk, hk2, q⟩ := h
    refine ⟨_, pss_cons (ps_set (i := 2) sc40.nd rfl (Or.inl rfl) (pe_ifExp (pt_cmpR op_lt (pv 1) (pe_callB call_len_seq rfl B.len PySem.boot_len (pa_cons (pv 0) pa_nil)) (nomark _)) (pe_ix ix_seq (pv 0) (pv 1) (fun _ _ => rfl)) pe_int))
      (pss_one (ps_ret (pe_lst (pa_cons (pe_callB (call_max2 rfl) rfl B.max b_max (pa_cons pe_int (pa_cons (pe_op op_sub (pv 2) (pe_op op_pow pe_int pe_int)) pa_nil)))
        (pa_cons (pe_op op_mod (pe_op op_add (pe_op op_add (pe_op op_mul (pv 2) pe_int) (pe_op op_mul pe_int (pv 1))) pe_int) pe_int) pa_nil))))), ?_⟩
    refine ⟨_, rfl, _, rfl, a, _, rfl, .inl ha, _, _, rfl, rfl, _, rfl, ?_⟩
    have tail : ∀ c : Int, ∀ (σ : St), σ = [some (.ref a), some (.int k), some (.int c)] → True := fun _ _ _ => trivial
    refine ite2 (fun c => ?_) (fun c => ?_)
    · have c' : k < ((ns.map V.int).length : Int) := of_decide_eq_true c
      rw [List.length_map] at c'
      have hl : k.toNat < ns.length := by omega
      refine ⟨_, rfl, _, rfl, rix_of (j := k.toNat) (v := .int ns[k.toNat]) (.inl ha) (by omega) (by rw [List.getElem?_map, List.getElem?_eq_getElem hl]; rfl) ?_⟩
      refine ⟨_, rfl, _, _, rfl, rfl, ⟨by decide, by decide, by decide⟩, _, _, rfl, rfl, _, _, rfl, ?_⟩
      refine ⟨_, rfl, _, _, rfl, rfl, .inr ⟨by decide, by decide⟩, _, rfl, _, _, rfl, rfl, .inl ⟨by decide, by decide⟩, _, _, rfl, rfl, _, _, rfl, rfl, _, _, rfl, rfl, by show (0 : Int) < 2147483629; decide, by show 2 ≤ sizeLine; decide, fun l hl => ?_⟩
      exact q l _ (same_upd (Same.refl _) hl) hl ⟨_, _, upd_same, Int.emod_nonneg _ (by decide), Int.emod_lt_of_pos _ (by decide)⟩
    · refine ⟨_, rfl, _, _, rfl, rfl, ⟨by decide, by decide, by decide⟩, _, _, rfl, rfl, _, _, rfl, ?_⟩
      refine ⟨_, rfl, _, _, rfl, rfl, .inr ⟨by decide, by decide⟩, _, rfl, _, _, rfl, rfl, .inl ⟨by decide, by decide⟩, _, _, rfl, rfl, _, _, rfl, rfl, _, _, rfl, rfl, by show (0 : Int) < 2147483629; decide, by show 2 ≤ sizeLine; decide, fun l hl => ?_⟩
      exact q l _ (same_upd (Same.refl _) hl) hl ⟨_, _, upd_same, Int.emod_nonneg _ (by decide), Int.emod_lt_of_pos _ (by decide)⟩

noncomputable def spTake : Sp := fun vs H Q _ => ∃ (p : Addr) (n : Int), vs = [.ref p, .int n] ∧ Pot H p ∧ 0 < n ∧ n < 1000 ∧ ∀ r H', 0 ≤ r → r < n → Pot H' p → Kp [p] H H' → Q (.int r) H'
theorem sc41 : FnScope ["_law_pot_here", "_law_many", "_law_digit"] ["_law_pot_here", "_law_many"] (defScope (top 41)) := ⟨rfl, rfl, rfl, by decide +kernel, rfl, by decide +kernel, by decide +kernel⟩
theorem ok_take {f : Addr} {fd : FuncData} (F : Fun K "_law_take" "_law_take" (top 41) f fd) (B : Bl mg) : FnOk P w K mg base CX0 1 f fd ["_law_pot_here", "_law_many"] spTake := by
  refine F.ok sc41 (fun vs H Q E h => ?_) (fun cdv A outer s H vs Q E hr h => ?_)
  · obtain ⟨p, n, rfl, _⟩ := h
    rfl
  · obtain ⟨p, n, rfl, ⟨a, b, hp, hb0, hb1⟩, hn, hn2, k⟩ := h
    refine ⟨_, pss_cons (ps_if (pt_cmpR op_gt (pe_ix ix_seq (pv 0) pe_int (fun _ _ => rfl)) pe_int (nomark _))
        (pss_cons (ps_asg (pe_callB call_divmod rfl B.divmod b_divmod (pa_cons (pe_ix ix_seq (pv 0) pe_int (fun _ _ => rfl)) (pa_cons (pv 1) pa_nil))) (pg_tup rfl (n := 2) (pgs_cons (pg_sub (pv 0) pe_int set_list) (pgs_cons (pg_name (i := 2) sc41.nd rfl (Or.inl rfl)) pgs_nil))))
          (pss_one (ps_ret (pv 2)))) pss_nil)
      (pss_cons (ps_asg (pe_op op_mod (pe_op op_add (pe_op op_mul (pe_ix ix_seq (pv 0) pe_int (fun _ _ => rfl)) pe_int) pe_int) pe_int) (pg_sub (pv 0) pe_int set_list))
      (pss_one (ps_ret (pe_op op_mod (pe_op op_fdiv (pe_op op_mod (pe_op op_mul (pe_ix ix_seq (pv 0) pe_int (fun _ _ => rfl)) (pe_ix ix_seq (pv 0) pe_int (fun _ _ => rfl))) pe_int) pe_int) (pv 1))))), ?_⟩
    have hS : Sq K H p [.int a, .int b] := .inl (SqL.of hp)
    refine ⟨_, rfl, rix_of (j := 0) hS rfl rfl ⟨_, _, rfl, rfl, _, rfl, ?_⟩⟩
    refine ite2 (fun c => ?_) (fun c => ?_)
    · refine ⟨_, rfl, rix_of (j := 0) hS rfl rfl ⟨_, rfl, _, _, rfl, ⟨hn, by omega⟩, fun t ht => ?_⟩⟩
      have ntp : p ≠ t := ne_of_none hp ht
      refine ⟨t, _, rfl, SqT.of upd_same, rfl, _, _, rfl, _, rfl, p, [.int a, .int b], _, 0, rfl, rfl, by rw [upd_ne ntp]; exact hp, rfl, ?_⟩
      refine ⟨_, _, rfl, rfl, _, rfl, k _ _ (Int.emod_nonneg _ (by omega)) (Int.emod_lt_of_pos _ hn) ⟨_, _, upd_same, hb0, hb1⟩ (((Kp.refl _ _).new ht).inn (by simp))⟩
    · refine ⟨_, rfl, rix_of (j := 1) hS rfl rfl ⟨_, _, rfl, rfl, .inl ⟨by omega, by omega⟩, _, _, rfl, rfl, _, _, rfl, rfl, by show (0 : Int) < 2147483587; decide, _, rfl, p, [.int a, .int b], _, 1, rfl, rfl, hp, rfl, ?_⟩⟩
      have m0 : 0 ≤ (b * 39373 + 6007) % 2147483587 := Int.emod_nonneg _ (by decide)
      have m1 : (b * 39373 + 6007) % 2147483587 < 2147483587 := Int.emod_lt_of_pos _ (by decide)
      have hS2 : Sq K (upd H p (.lst ([V.int a, V.int b].set 1 (.int ((b * 39373 + 6007) % 2147483587))))) p [.int a, .int ((b * 39373 + 6007) % 2147483587)] := .inl (SqL.of upd_same)
      refine ⟨_, rfl, rix_of (j := 1) hS2 rfl rfl ⟨_, rfl, rix_of (j := 1) hS2 rfl rfl ⟨_, _, rfl, rfl, .inl ⟨by omega, by omega⟩, _, _, rfl, rfl, by show (0 : Int) < 2147483563; decide, _, _, rfl, rfl, ⟨by decide, by decide⟩, _, rfl, _, _, rfl, rfl, hn, ?_⟩⟩⟩
      exact k _ _ (Int.emod_nonneg _ (by omega)) (Int.emod_lt_of_pos _ hn) ⟨_, _, upd_same, m0, by omega⟩ ((Kp.refl _ _).inn (by simp))
end
end K34

set_option Elab.async false
set_option linter.all false
set_option maxRecDepth 100000
set_option maxHeartbeats 4000000
namespace K34
open PySem L2
theorem slice_mem (x : Str) (j : Int) : ∀ c ∈ (Txt.slice x none (some j)).cps.toList, c ∈ x.cps.toList := by
  intro c hc
  unfold Txt.slice at hc
  split at hc
  · exact hc
  · simp only [List.mem_filterMap] at hc
    obtain ⟨i, _, e⟩ := hc
    simpa using Array.mem_of_getElem? e
noncomputable def tlc (f w : Nat) (big : Bool) (j : Nat) : List Nat := if big = true then [97 + (f + w * j) % 26, 97 + (f + j / 26) % 26] else [97 + (f + w * j) % 26]
theorem tlc_len (f w : Nat) (big : Bool) (j : Nat) : (tlc f w big j).length = if big = true then 2 else 1 := by unfold tlc; split <;> rfl
theorem tlc_mem (f w : Nat) (big : Bool) (j : Nat) : ∀ c ∈ tlc f w big j, 97 ≤ c ∧ c ≤ 122 := by
  intro c hc
  unfold tlc at hc
  split at hc
  · simp at hc; omega
  · simp at hc; omega
theorem step_inj {f w i j : Nat} (hw : w ∈ [1, 3, 5, 7, 9, 11]) (h : (f + w * i) % 26 = (f + w * j) % 26) : i % 26 = j % 26 := by
  simp only [List.mem_cons, List.not_mem_nil, or_false] at hw
  rcases hw with rfl | rfl | rfl | rfl | rfl | rfl <;> omega
theorem tlc_inj {f w : Nat} {big : Bool} {i j : Nat} (hw : w ∈ [1, 3, 5, 7, 9, 11]) (hi : i < 60) (hj : j < 60) (hb : big = false → i < 26 ∧ j < 26) (h : tlc f w big i = tlc f w big j) : i = j := by
  unfold tlc at h
  cases big with
  | true =>
    simp at h
    have := step_inj hw h.1
    omega
  | false =>
    simp at h
    have := step_inj hw h
    obtain ⟨a, b⟩ := hb rfl
    omega
/-- the names that were drawn -/
structure Drawn (f w : Nat) (big : Bool) (ns : List Str) : Prop where
  at' : ∀ (j : Nat) (x : Str), ns[j]? = some x → ∃ u : List Nat, x.cps.toList = u ++ tlc f w big j ∧ u.length ≤ 6 ∧ ∀ c ∈ u, 97 ≤ c ∧ c ≤ 122
theorem Drawn.name {f w : Nat} {big : Bool} {ns : List Str} (D : Drawn f w big ns) : ∀ x ∈ ns, NameP x := fun x hx => by
  obtain ⟨j, hj⟩ := List.getElem?_of_mem hx
  obtain ⟨u, e, hu, hc⟩ := D.at' j x hj
  have hl := tlc_len f w big j
  refine NameP.of_codes e ?_ ?_ fun c hm => ?_
  · rw [List.length_append, hl]; split <;> omega
  · rw [List.length_append, hl]; split <;> omega
  · rcases List.mem_append.mp hm with z | z
    · exact hc c z
    · exact tlc_mem f w big j c z
theorem Drawn.short {f w : Nat} {ns : List Str} (D : Drawn f w false ns) : ∀ x ∈ ns, x.length ≤ 7 := fun x hx => by
  obtain ⟨j, hj⟩ := List.getElem?_of_mem hx
  obtain ⟨u, e, hu, hc⟩ := D.at' j x hj
  have hl := tlc_len f w false j
  have h := congrArg List.length e
  rw [List.length_append, hl] at h
  have e2 : x.length = x.cps.toList.length := by simp [Str.length]
  simp at h
  rw [e2, Array.length_toList]
  omega
theorem Drawn.nodup {f w : Nat} {big : Bool} {ns : List Str} (D : Drawn f w big ns) (hw : w ∈ [1, 3, 5, 7, 9, 11]) (hz : ns.length < 60) (hb : big = false → ns.length ≤ 26) : ns.Nodup := by
  refine List.pairwise_iff_getElem.mpr fun i j hi hj hij e => ?_
  obtain ⟨u, e1, _, _⟩ := D.at' i ns[i] (List.getElem?_eq_getElem hi)
  obtain ⟨u', e2, _, _⟩ := D.at' j ns[j] (List.getElem?_eq_getElem hj)
  rw [e, e2] at e1
  have hl : (tlc f w big j).length = (tlc f w big i).length := by rw [tlc_len, tlc_len]
  have q := (List.append_inj' e1 hl).2
  have := tlc_inj hw (by omega) (by omega) (fun c => by have := hb c; omega) q
  omega
theorem Drawn.add {f w : Nat} {big : Bool} {ns : List Str} {x : Str} {u : List Nat} (D : Drawn f w big ns) (e : x.cps.toList = u ++ tlc f w big ns.length) (hu : u.length ≤ 6) (hc : ∀ c ∈ u, 97 ≤ c ∧ c ≤ 122) : Drawn f w big (ns ++ [x]) := by
  refine ⟨fun j y hj => ?_⟩
  by_cases h : j < ns.length
  · rw [List.getElem?_append_left h] at hj
    exact D.at' j y hj
  · rw [List.getElem?_append_right (by omega)] at hj
    have hj0 : j - ns.length = 0 := by
      have := (List.getElem?_eq_some_iff.mp hj).1
      simp at this
      omega
    rw [hj0] at hj
    have ey : x = y := by simpa using hj
    subst ey
    have ej : j = ns.length := by omega
    subst ej
    exact ⟨u, e, hu, hc⟩
theorem push_codes (x : Str) (c : Nat) : (x ++ (⟨#[c]⟩ : Str)).cps.toList = x.cps.toList ++ [c] := by
  rw [Str.cps_append, Array.toList_append]
section
variable {P : Program} {w : World} {K : PySem.W.Frag} {mg : Str → Option Value} {base : Heap}
noncomputable def spNames : Sp := fun vs H Q _ => ∃ (p : Addr) (m : Nat), vs = [.ref p, .int m] ∧ Pot H p ∧ m ≤ 40 ∧
  ∀ (q : Addr) (ns : List Str) (H' : Hp), Pot H' p → H' q = some (.lst (ns.map V.str)) → H q = none → (∀ x ∈ ns, NameP x) → ns.Nodup → ns.length = m → (m ≤ 26 → ∀ x ∈ ns, x.length ≤ 7) → Kp [p] H H' → Q (.ref q) H'
noncomputable abbrev N42 : List Str := ["_law_pot_here", "_law_many", "_law_letters", "_law_ahead", "_law_first", "_law_wide", "_law_found", "_law_k", "_law_name"]
theorem sc42 : FnScope N42 ["_law_pot_here", "_law_many"] (defScope (top 42)) := ⟨rfl, rfl, rfl, by decide +kernel, rfl, by decide +kernel, by decide +kernel⟩
theorem ok_names {f : Addr} {fd : FuncData} (F : Fun K "_law_names" "_law_names" (top 42) f fd) (B : Bl mg) (Ft : Fn P w K mg base 1 "_law_take" ["_law_pot_here", "_law_many"] spTake) : FnOk P w K mg base CX0 2 f fd ["_law_pot_here", "_law_many"] spNames := by
  refine F.ok sc42 (fun vs H Q E h => ?_) (fun cdv A outer s H vs Q E hr h => ?_)
  · obtain ⟨p, m, rfl, _⟩ := h
    rfl
  · obtain ⟨p, m, rfl, hp, hm, k⟩ := h
    refine ⟨_, pss_cons (ps_set (i := 2) sc42.nd rfl (Or.inr rfl) pe_str)
      (pss_cons (ps_set (i := 3) sc42.nd rfl (Or.inl rfl) (pe_bm PySem.F.plainAttrs_str PySem.F.slot_str_join PySem.F.type_str_join mt_join pe_str (pa_cons (pe_lc (N := ["_law_k", "_law_letters", "_law_pot_here"]) (ix := [none, some 2, some 0]) ⟨rfl, rfl, rfl, by decide⟩ rfl
        (pi_range1 rfl B.range (pa_cons (pe_ix ix_seq (pe_lst (pa_cons pe_int (pa_cons pe_int (pa_cons pe_int (pa_cons pe_int pa_nil))))) (pe_fn Ft hr (pa_cons (pv 0) (pa_cons pe_int pa_nil))) (fun _ _ => rfl)) pa_nil)) (fun _ _ _ _ => pg_lc 0 (by decide) rfl rfl) (fun _ _ _ _ => pts_nil)
        (fun _ _ _ _ => pe_ix (ix_seqK K) (pv 1) (pe_fn Ft hr (pa_cons (pv 2) (pa_cons pe_int pa_nil))) (fun _ _ => rfl))) pa_nil)))
      (pss_cons (ps_par (i := 4) (j := 5) rfl sc42.nd rfl rfl (by decide) rfl rfl (pa_cons (pe_fn Ft hr (pa_cons (pv 0) (pa_cons pe_int pa_nil))) (pa_cons (pe_ix ix_seq (pe_lst (pa_cons pe_int (pa_cons pe_int (pa_cons pe_int (pa_cons pe_int (pa_cons pe_int (pa_cons pe_int pa_nil))))))) (pe_fn Ft hr (pa_cons (pv 0) (pa_cons pe_int pa_nil))) (fun _ _ => rfl)) pa_nil)) rfl)
      (pss_cons (ps_set (i := 6) sc42.nd rfl (Or.inl rfl) (pe_lst pa_nil))
      (pss_cons (ps_for PassesOwn.never rfl (pi_range1 rfl B.range (pa_cons (pv 1) pa_nil)) (pg_name (i := 7) sc42.nd rfl (Or.inl rfl))
        (pss_cons (ps_set (i := 8) sc42.nd rfl (Or.inl rfl) (pe_op op_add_str (pe_slice sl_str (pv 3) po_none (po_some (pe_fn Ft hr (pa_cons (pv 0) (pa_cons (pe_op op_add (pe_callB call_len_str rfl B.len PySem.boot_len (pa_cons (pv 3) pa_nil)) pe_int) pa_nil)))))
          (pe_ix ix_seq (pv 2) (pe_op op_mod (pe_op op_add (pv 4) (pe_op op_mul (pv 5) (pv 7))) pe_int) (fun _ _ => rfl))))
        (pss_cons (ps_if (pt_cmpR op_gt (pv 1) pe_int (nomark _)) (pss_one (ps_set (i := 8) sc42.nd rfl (Or.inl rfl) (pe_op op_add_str (pv 8) (pe_ix ix_seq (pv 2) (pe_op op_mod (pe_op op_add (pv 4) (pe_op op_fdiv (pv 7) pe_int)) pe_int) (fun _ _ => rfl))))) pss_nil)
        (pss_one (ps_expr (pe_bm PySem.F.plainAttrs_list PySem.F.slot_list_append PySem.F.type_list_append mt_append (pv 6) (pa_cons (pv 8) pa_nil)))))))
      (pss_one (ps_ret (pv 6))))))), ?_⟩
    -- the letters ahead
    refine ⟨rfl, by show 4 ≤ sizeLine; decide, fun l4 hl4 => ?_⟩
    have P0 := hp.new (o := .lst [.int 0, .int 0, .int 1, .int 6]) hl4
    have K0 := (Kp.refl [p] H).new (o := .lst [.int 0, .int 0, .int 1, .int 6]) hl4
    have L0 : upd H l4 (.lst [.int 0, .int 0, .int 1, .int 6]) l4 = some (.lst [.int 0, .int 0, .int 1, .int 6]) := upd_same
    have nl4 := hp.ne_new hl4
    generalize upd H l4 (.lst [.int 0, .int 0, .int 1, .int 6]) = H0 at P0 K0 L0 ⊢
    refine ⟨_, rfl, p, 4, rfl, P0, by decide, by decide, fun r1 H1 a0 a1 P1 K1 => ?_⟩
    have L1 := K1.at nl4 L0
    have hm1 : ∃ c : Int, ([V.int 0, V.int 0, V.int 1, V.int 6] : List V)[r1.toNat]? = some (.int c) ∧ 0 ≤ c ∧ c ≤ 6 := by
      have : r1 = 0 ∨ r1 = 1 ∨ r1 = 2 ∨ r1 = 3 := by omega
      rcases this with rfl | rfl | rfl | rfl
      · exact ⟨0, rfl, by decide, by decide⟩
      · exact ⟨0, rfl, by decide, by decide⟩
      · exact ⟨1, rfl, by decide, by decide⟩
      · exact ⟨6, rfl, by decide, by decide⟩
    obtain ⟨c, hc, c0, c6⟩ := hm1
    refine rix_of (j := r1.toNat) (.inl (SqL.of L1)) (by omega) hc ⟨_, rfl, by omega, by omega, ?_⟩
    have K01 := K0.trans K1
    refine lcw_range0 (fits (by omega)) (fun i ys σ H3 => (∃ cs : List Nat, cs.length = i ∧ (∀ c ∈ cs, 97 ≤ c ∧ c ≤ 122) ∧ ys = cs.map fun c => V.str ⟨#[c]⟩) ∧ Pot H3 p ∧ Kp [p] H H3 ∧ ∃ x, σ = [x, some (.str letters), some (.ref p)])
      ⟨⟨[], rfl, by simp, rfl⟩, P1, K01, _, rfl⟩ (fun i ys σ H3 _ q => by obtain ⟨⟨cs, rfl, _, rfl⟩, _⟩ := q; simp) ?_ ?_
    · rintro i ys σ H3 hi ⟨⟨cs, rfl, hcs, rfl⟩, P3, K3, v, rfl⟩
      refine ⟨_, rfl, _, rfl, p, 26, rfl, P3, by decide, by decide, fun r H4 r0 r1 P4 K4 => .inr (.inr ⟨letters, r, 97 + r.toNat, rfl, rfl, letters_fits, atI_at (j := r.toNat) (by omega) (letters_at (by omega)), ⟨cs ++ [97 + r.toNat], by simp, fun c hc => ?_, by simp⟩, P4, K3.trans K4, _, rfl⟩)⟩
      rcases List.mem_append.mp hc with z | z
      · exact hcs c z
      · simp at z
        omega
    rintro ys σ H3 ⟨⟨cs, hlen, hcs, rfl⟩, P3, K3, v, rfl⟩ q hq
    have hx : (Txt.join (Str.ofString "") (cs.map fun c => (⟨#[c]⟩ : Str))).cps.toList = cs := join_one cs
    have hmap : (cs.map fun c => V.str ⟨#[c]⟩) = (cs.map fun c => (⟨#[c]⟩ : Str)).map V.str := by rw [List.map_map]; rfl
    refine ⟨Str.ofString "", q, cs.map fun c => (⟨#[c]⟩ : Str), rfl, rfl, SqL.of (by rw [upd_same, hmap]), ?_, ?_⟩
    · have hs : ∀ l : List Nat, ((l.map fun c => (⟨#[c]⟩ : Str)).map (·.length)).sum = l.length := fun l => by
        induction l with
        | nil => rfl
        | cons c r ih => simp only [List.map_cons, List.sum_cons, ih, List.length_cons]; show 1 + r.length = _; omega
      have e0 : (Str.ofString "").length = 0 := by decide
      rw [hs, e0]
      omega
    have hah : (Txt.join (Str.ofString "") (cs.map fun c => (⟨#[c]⟩ : Str))).length ≤ 6 := by
      have : (Txt.join (Str.ofString "") (cs.map fun c => (⟨#[c]⟩ : Str))).length = cs.length := by rw [← congrArg List.length hx]; simp [Str.length]
      omega
    have hac : ∀ d ∈ (Txt.join (Str.ofString "") (cs.map fun c => (⟨#[c]⟩ : Str))).cps.toList, 97 ≤ d ∧ d ≤ 122 := by rw [hx]; exact hcs
    generalize Txt.join (Str.ofString "") (cs.map fun c => (⟨#[c]⟩ : Str)) = ah at hah hac ⊢
    have P4 := P3.new (o := .lst (cs.map fun c => V.str ⟨#[c]⟩)) hq
    have K4 := K3.new (o := .lst (cs.map fun c => V.str ⟨#[c]⟩)) hq
    generalize upd H3 q (.lst (cs.map fun c => V.str ⟨#[c]⟩)) = H4 at P4 K4 ⊢
    -- first, wide
    refine ⟨_, rfl, p, 26, rfl, P4, by decide, by decide, fun ft H5 f0 f1 P5 K5 => ?_⟩
    refine ⟨by show 6 ≤ sizeLine; decide, fun l6 hl6 => ?_⟩
    have P6 := P5.new (o := .lst [.int 1, .int 3, .int 5, .int 7, .int 9, .int 11]) hl6
    have K6 := (K4.trans K5).new (o := .lst [.int 1, .int 3, .int 5, .int 7, .int 9, .int 11]) hl6
    have L6 : upd H5 l6 (.lst [.int 1, .int 3, .int 5, .int 7, .int 9, .int 11]) l6 = some (.lst [.int 1, .int 3, .int 5, .int 7, .int 9, .int 11]) := upd_same
    have nl6 := P5.ne_new hl6
    generalize upd H5 l6 (.lst [.int 1, .int 3, .int 5, .int 7, .int 9, .int 11]) = H6 at P6 K6 L6 ⊢
    refine ⟨_, rfl, p, 6, rfl, P6, by decide, by decide, fun r6 H7 g0 g1 P7 K7 => ?_⟩
    have L7 := K7.at nl6 L6
    have hw : ∃ c : Nat, ([V.int 1, V.int 3, V.int 5, V.int 7, V.int 9, V.int 11] : List V)[r6.toNat]? = some (.int c) ∧ c ∈ [1, 3, 5, 7, 9, 11] := by
      have : r6 = 0 ∨ r6 = 1 ∨ r6 = 2 ∨ r6 = 3 ∨ r6 = 4 ∨ r6 = 5 := by omega
      rcases this with rfl | rfl | rfl | rfl | rfl | rfl
      · exact ⟨1, rfl, by decide⟩
      · exact ⟨3, rfl, by decide⟩
      · exact ⟨5, rfl, by decide⟩
      · exact ⟨7, rfl, by decide⟩
      · exact ⟨9, rfl, by decide⟩
      · exact ⟨11, rfl, by decide⟩
    obtain ⟨wd, hwd, hwm⟩ := hw
    have hw11 : wd ≤ 11 := by
      simp only [List.mem_cons, List.not_mem_nil, or_false] at hwm
      omega
    refine rix_of (j := r6.toNat) (.inl (SqL.of L7)) (by omega) hwd ⟨_, _, rfl, ?_⟩
    have P8 := P7
    have K8 := K6.trans K7
    clear P7 K7 L7 P6 K6 L6
    revert H7
    intro H8 P8 K8
    obtain ⟨fn, rfl⟩ := Int.eq_ofNat_of_zero_le f0
    have hfn : fn < 26 := by omega
    refine ⟨Nat.zero_le _, fun fo hfo => ?_⟩
    have fo0 : H fo = none := K8.free1 P8 hfo
    have nfp := P8.ne_new hfo
    have P9 := P8.new (o := .lst []) hfo
    have K9 := K8.new (o := .lst []) hfo
    have F9 : upd H8 fo (.lst []) fo = some (.lst ((([] : List Str)).map V.str)) := upd_same
    generalize upd H8 fo (.lst []) = H9 at P9 K9 F9 ⊢
    refine ⟨_, rfl, _, rfl, by omega, by omega, for_range (fun i σ H1 => ∃ (ns : List Str) (g1 g2 : Option V), σ = [some (.ref p), some (.int m), some (.str letters), some (.str ah), some (.int fn), some (.int wd), some (.ref fo), g1, g2] ∧ Pot H1 p ∧ H1 fo = some (.lst (ns.map V.str)) ∧ ns.length = i ∧ Drawn fn wd (decide (26 < m)) ns ∧ Kp [p] H H1)
      ⟨[], none, none, rfl, P9, F9, rfl, ⟨fun j x hj => by simp at hj⟩, K9⟩ ?_ ?_⟩
    · rintro i σ H1 hi ⟨ns, g1, g2, rfl, P1, F1, hl, D, K1⟩
      have him : i < m := by omega
      refine ⟨_, rfl, _, rfl, _, rfl, ah, rfl, by rw [sizeLine_eq]; omega, _, _, rfl, rfl, p, _, rfl, P1, by omega, by omega, fun r H2 r0 r1 P2 K2 => ?_⟩
      have F2 := K2.at nfp F1
      have K12 := K1.trans K2
      have hsl : (Txt.slice ah none (some r)).length ≤ 6 := Nat.le_trans (Txt.slice_le ah _ _) hah
      have hsc : ∀ d ∈ (Txt.slice ah none (some r)).cps.toList, 97 ≤ d ∧ d ≤ 122 := fun d hd => hac d (slice_mem ah r d hd)
      have hsn : (Txt.slice ah none (some r)).cps.toList.length ≤ 6 := by simpa [Str.length] using hsl
      refine ⟨_, rfl, ah, rfl, by rw [sizeLine_eq]; omega, ?_⟩
      generalize Txt.slice ah none (some r) = sl at hsl hsc hsn ⊢
      have hidx : (((fn : Nat) : Int) + ((wd : Nat) : Int) * (0 + (i : Int))) % 26 = (((fn + wd * i) % 26 : Nat) : Int) := by push_cast; rw [Int.zero_add]
      have hidx2 : (((fn : Nat) : Int) + (0 + (i : Int)) / 26) % 26 = (((fn + i / 26) % 26 : Nat) : Int) := by push_cast; rw [Int.zero_add]
      refine ⟨_, rfl, _, rfl, _, rfl, _, rfl, _, _, rfl, rfl, .inl ⟨by omega, by omega⟩, _, _, rfl, rfl, _, _, rfl, rfl, by show (0 : Int) < 26; decide, ?_⟩
      refine .inr (.inr ⟨letters, _, 97 + (fn + wd * i) % 26, rfl, rfl, letters_fits, atI_at (j := (fn + wd * i) % 26) hidx (letters_at (Nat.mod_lt _ (by decide))), _, _, rfl, rfl, by rw [sizeLine_eq]; show sl.length + 1 ≤ _; omega, ?_⟩)
      have hlen1 : (sl ++ (⟨#[97 + (fn + wd * i) % 26]⟩ : Str)).length = sl.length + 1 := by rw [Str.length_append]; rfl
      refine ⟨_, rfl, _, _, rfl, rfl, _, rfl, ?_⟩
      refine ite2 (fun c => ?_) (fun c => ?_)
      · have c' : 26 < m := by have := of_decide_eq_true c; omega
        refine ⟨_, rfl, _, rfl, _, rfl, _, rfl, _, _, rfl, rfl, ⟨by decide, by decide⟩, _, _, rfl, rfl, _, _, rfl, rfl, by show (0 : Int) < 26; decide, ?_⟩
        refine .inr (.inr ⟨letters, _, 97 + (fn + i / 26) % 26, rfl, rfl, letters_fits, atI_at (j := (fn + i / 26) % 26) hidx2 (letters_at (Nat.mod_lt _ (by decide))), _, _, rfl, rfl, by rw [hlen1, sizeLine_eq]; show sl.length + 1 + 1 ≤ _; omega, ?_⟩)
        refine ⟨_, rfl, .inl ⟨rfl, _, SqL.of F2⟩, _, rfl, fo, ns.map V.str, _, rfl, rfl, F2, by rw [List.length_map]; exact fits (by omega), ?_⟩
        refine ⟨ns ++ [sl ++ (⟨#[97 + (fn + wd * i) % 26]⟩ : Str) ++ (⟨#[97 + (fn + i / 26) % 26]⟩ : Str)], _, _, rfl, P2.upd nfp, by rw [upd_same, List.map_append]; rfl, by simp [hl], ?_, fun b o e nb => by rw [upd_ne (ne_of_none e fo0)]; exact K12 b o e nb⟩
        refine D.add (u := sl.cps.toList) ?_ hsn hsc
        rw [push_codes, push_codes, hl]
        unfold tlc
        rw [if_pos (decide_eq_true c')]
        simp
      · have c' : ¬ 26 < m := by simp only [decide_eq_true_eq] at c; omega
        refine ⟨_, rfl, .inl ⟨rfl, _, SqL.of F2⟩, _, rfl, fo, ns.map V.str, _, rfl, rfl, F2, by rw [List.length_map]; exact fits (by omega), ?_⟩
        refine ⟨ns ++ [sl ++ (⟨#[97 + (fn + wd * i) % 26]⟩ : Str)], _, _, rfl, P2.upd nfp, by rw [upd_same, List.map_append]; rfl, by simp [hl], ?_, fun b o e nb => by rw [upd_ne (ne_of_none e fo0)]; exact K12 b o e nb⟩
        refine D.add (u := sl.cps.toList) ?_ hsn hsc
        rw [push_codes, hl]
        unfold tlc
        rw [if_neg (by simpa using c')]
    · rintro σ H1 ⟨ns, g1, g2, rfl, P1, F1, hl, D, K1⟩
      have hl' : ns.length = m := by omega
      exact ⟨_, rfl, k fo ns H1 P1 F1 fo0 D.name (D.nodup hwm (by omega) (fun c => by have := of_decide_eq_false c; omega)) hl' (fun z => by rw [decide_eq_false (by omega)] at D; exact D.short) K1⟩
end
end K34

set_option Elab.async false
set_option linter.all false
set_option maxRecDepth 100000
set_option maxHeartbeats 4000000
namespace K34
open PySem L2 PySem.Spec PyProof.Rows
/-! ### all parts of a row of names, in order -/
theorem snoc_ind {P : List Str → Prop} (h0 : P []) (hs : ∀ l x, P l → P (l ++ [x])) : ∀ l, P l := by
  have q : ∀ (l pre : List Str), P pre → P (pre ++ l) := by
    intro l
    induction l with
    | nil => intro pre hp; simpa using hp
    | cons x r ih =>
      intro pre hp
      have := ih (pre ++ [x]) (hs pre x hp)
      simpa using this
  intro l
  simpa using q l [] h0
noncomputable def subs (ps : List Str) : List (List Str) := ps.foldl (fun f p => f ++ f.map fun l => l ++ [p]) [[]]
theorem subs_snoc (ps : List Str) (p : Str) : subs (ps ++ [p]) = subs ps ++ (subs ps).map fun l => l ++ [p] := by
  unfold subs
  rw [List.foldl_append]
  rfl
theorem subs_cons : ∀ ps : List Str, ∃ r, subs ps = [] :: r := snoc_ind ⟨[], rfl⟩ fun l x h => by
  obtain ⟨r, e⟩ := h
  rw [subs_snoc, e]
  exact ⟨_, rfl⟩
theorem subs_len : ∀ ps : List Str, (subs ps).length = 2 ^ ps.length := snoc_ind rfl fun l x h => by
  rw [subs_snoc, List.length_append, List.length_map, h, List.length_append, List.length_singleton, Nat.pow_succ]
  omega
theorem subs_sub : ∀ ps : List Str, ∀ l ∈ subs ps, l.Sublist ps := snoc_ind (fun l h => by
    have e : l = [] := by simpa [subs] using h
    subst e; exact List.Sublist.refl _) fun ps x h l hl => by
  rw [subs_snoc] at hl
  rcases List.mem_append.mp hl with z | z
  · exact (h l z).trans (List.sublist_append_left _ _)
  · obtain ⟨m, hm, rfl⟩ := List.mem_map.mp z
    exact (h m hm).append (List.Sublist.refl _)
theorem subs_nodup : ∀ ps : List Str, ps.Nodup → (subs ps).Nodup := snoc_ind (fun _ => by simp [subs]) fun ps x h hn => by
  have hn' := List.nodup_append.mp hn
  have hx : x ∉ ps := fun z => hn'.2.2 x z x (by simp) rfl
  have ih := h hn'.1
  rw [subs_snoc]
  refine List.nodup_append.mpr ⟨ih, ?_, fun a ha b hb => ?_⟩
  · exact List.pairwise_map.mpr (ih.imp fun {a b} hab z => hab (List.append_cancel_right z))
  · obtain ⟨m, hm, rfl⟩ := List.mem_map.mp hb
    intro z
    exact hx ((subs_sub ps a ha).subset (by rw [z]; simp))
noncomputable def lotsOf (ps : List Str) : List (List Str) := (subs ps).tail
theorem subs_eq (ps : List Str) : subs ps = [] :: lotsOf ps := by
  obtain ⟨r, e⟩ := subs_cons ps
  unfold lotsOf
  rw [e]; rfl
theorem lots_nodup {ps : List Str} (h : ps.Nodup) : (lotsOf ps).Nodup := by
  have q := subs_nodup ps h
  rw [subs_eq] at q
  exact (List.nodup_cons.mp q).2
theorem lots_len (ps : List Str) : (lotsOf ps).length + 1 = 2 ^ ps.length := by
  have q := subs_len ps
  rw [subs_eq] at q
  simpa using q
theorem lots_sub {ps l : List Str} (h : l ∈ lotsOf ps) : l.Sublist ps := subs_sub ps l (by rw [subs_eq]; exact List.mem_cons_of_mem _ h)
theorem pow_le {n : Nat} (h : n ≤ 8) : 2 ^ n ≤ 256 := by
  have := Nat.pow_le_pow_right (show 0 < 2 by decide) h
  simpa using this
/-! ### the best -/
/-! ### comparing lots, pairs of a number and a lot -/
noncomputable def cmpS (ss ts : List Str) : List (Bool × Bool) := (ss.zip ts).map fun p => (p.1 == p.2, decide (p.1.cps.toList < p.2.cps.toList))
theorem cmp_strs {A : Around} {s : Shared} : ∀ {vs ws : List Value} {ss ts : List Str}, StrsAre vs ss → StrsAre ws ts → CmpAll A s (vs.zip ws) (cmpS ss ts)
  | _, _, _, _, .nil, _ => by
    rw [List.zip_nil_left]
    unfold cmpS
    rw [List.zip_nil_left]
    exact .nil
  | _, _, _, _, .cons x t h, .nil => by
    rw [List.zip_nil_right]
    unfold cmpS
    rw [List.zip_nil_right]
    exact .nil
  | _, _, _, _, .cons x t h, .cons y u g => by
    rw [List.zip_cons_cons]
    exact .cons (SeqAt.EqAt.str_str x t y u) (fun _ prog w E Q q => (PySem.P.lt_str (by simpa using q) : wpAny (model prog w) A (compareOp .Lt (.str x t) (.str y u)) Q E s)) (cmp_strs h g)
noncomputable abbrev Pl := Addr × Int × Addr × List Str
noncomputable abbrev plrefs (prs : List Pl) : List V := prs.map fun x => V.ref x.1
noncomputable def ltP (x y : Int × List Str) : Bool := lexC false [(x.1 == y.1, decide (x.1 < y.1)), (decide (x.2 = y.2), lexC (decide (x.2.length < y.2.length)) (cmpS x.2 y.2))]
noncomputable def datP (prs : List Pl) (i : Nat) : Int × List Str := ((prs[i]?).map fun x => (x.2.1, x.2.2.2)).getD (0, [])
noncomputable def btP (prs : List Pl) (i j : Nat) : Bool := ltP (datP prs i) (datP prs j)
theorem vals_two {a b : V} {us : List Value} (h : Vals [a, b] us) : ∃ u w, us = [u, w] ∧ RelV a u ∧ RelV b w := by
  obtain ⟨u, w, e, r1, r2⟩ := vals2 h
  exact ⟨u, w, e, r1, r2⟩
theorem call_minP {X : Cx} {k : Nat} (hr : Room k X.A) (hc : X.calm = true) : CallR X (.builtin "min") (fun xs H Q => ∃ (p : Addr) (prs : List Pl), xs = [.ref p] ∧ SqL X.K H p (plrefs prs) ∧ prs ≠ [] ∧
    (∀ x ∈ prs, H x.1 = some (.tup [.int x.2.1, .ref x.2.2.1]) ∧ H x.2.2.1 = some (.tup (x.2.2.2.map V.str)) ∧ ∀ y ∈ x.2.2.2, NameP y) ∧ ∀ x, prs[argBest (btP prs) (prs.length - 1)]? = some x → Q (.ref x.1) H) := by
  intro pins s σ H xs us Q I r h
  obtain ⟨p, prs, rfl, hq, hne, hd, q⟩ := h
  obtain ⟨u, rfl, rx⟩ := vals1 r
  cases rx
  obtain ⟨its, r', pl, hz⟩ := I.list hq
  have hlen := r'.length
  rw [List.length_map] at hlen
  have hpos : 0 < prs.length := by cases prs with | nil => exact absurd rfl hne | cons _ _ => simp
  have hitem : ∀ (i : Nat) (v : Value), its.toArray[i]? = some v → ∃ x : Pl, prs[i]? = some x ∧ v = Value.ref x.1 := fun i v hv => by
    have hv' : its[i]? = some v := by simpa using hv
    have hi : i < prs.length := by rw [hlen]; exact (List.getElem?_eq_some_iff.mp hv').1
    have e1 : (plrefs prs)[i]? = some (V.ref prs[i].1) := by rw [List.getElem?_map, List.getElem?_eq_getElem hi]; rfl
    obtain ⟨w', e2, rw'⟩ := r'.get e1
    rw [hv'] at e2
    cases e2
    exact ⟨prs[i], List.getElem?_eq_getElem hi, rw'⟩
  have hun := hr.un
  refine min_of_list (btP prs) (I.ok.hd hc) pl.isList (by rw [List.size_toArray]; omega) (fun i j x y G tk Q' E' hk hx hy hQ => ?_) fun v G tk hv hk => ?_
  · obtain ⟨a, ha, rfl⟩ := hitem i x hx
    obtain ⟨b, hb, rfl⟩ := hitem j y hy
    have I' : Inv X pins σ H { s with heap := G, toks := tk } := I.kept hk
    obtain ⟨a1, a2, a3⟩ := hd a (List.mem_of_getElem? ha)
    obtain ⟨b1, b2, b3⟩ := hd b (List.mem_of_getElem? hb)
    obtain ⟨ia, ra, ta, _⟩ := I'.tuple (SqT.of a1)
    obtain ⟨ib, rb, tb, _⟩ := I'.tuple (SqT.of b1)
    obtain ⟨ua, va, rfl, rua, rva⟩ := vals_two ra
    obtain ⟨ub, vb, rfl, rub, rvb⟩ := vals_two rb
    obtain ⟨t1, rfl⟩ := rua
    obtain ⟨t2, rfl⟩ := rub
    cases rva
    cases rvb
    obtain ⟨la, rla, tla, _⟩ := I'.tuple (SqT.of a2)
    obtain ⟨lb, rlb, tlb, _⟩ := I'.tuple (SqT.of b2)
    have sa := strsAre_of rla
    have sb := strsAre_of rlb
    have hla := rla.length
    have hlb := rlb.length
    rw [List.length_map] at hla hlb
    have eqL : SeqAt.EqAt X.A.in1.in1 { s with heap := G, toks := tk } (.ref a.2.2.1) (.ref b.2.2.1) (decide (a.2.2.2 = b.2.2.2)) := by
      by_cases hab : a.2.2.1 = b.2.2.1
      · have e : a.2.2.2 = b.2.2.2 := by
          rw [hab, b2] at a2
          have := HO.tup.inj (Option.some.inj a2)
          exact ((List.map_inj_right (fun x y h => V.str.inj h)).mp this).symm
        rw [hab, decide_eq_true e]
        exact SeqAt.EqAt.same _
      · refine SeqAt.EqAt.of_refs hab fun prog w E Q hq => ?_
        obtain ⟨as, r1⟩ := (DV.tup a2 (DVs.strs _)).reads I'.hok (show RelV (.ref a.2.2.1) (Value.ref a.2.2.1) from rfl)
        obtain ⟨bs, r2⟩ := (DV.tup b2 (DVs.strs _)).reads I'.hok (show RelV (.ref b.2.2.1) (Value.ref b.2.2.1) from rfl)
        have ev : PyData.eqv (.tuple (a.2.2.2.map PyData.str)) (.tuple (b.2.2.2.map PyData.str)) = decide (a.2.2.2 = b.2.2.2) := eqvAll_strs _ _
        refine (eq_dataH (A := X.A.in1.in1) r1 r2 (shaped_strs a3).2 (shaped_strs b3).2 (by show X.A.units + 1 + 1 + 64 < cLine; omega) ?_ : wpAny (model prog w) X.A.in1.in1 (compareOp .Eq (.ref a.2.2.1) (.ref b.2.2.1)) Q E _)
        rw [ev]; exact hq
    refine rc_lt_tup ta tb (by show X.A.units + 1 < cLine; omega) (cs := [(a.2.1 == b.2.1, decide (a.2.1 < b.2.1)), (decide (a.2.2.2 = b.2.2.2), lexC (decide (a.2.2.2.length < b.2.2.2.length)) (cmpS a.2.2.2 b.2.2.2))]) ?_ ?_
    · refine .cons (SeqAt.EqAt.int_int _ _ _ _) (fun _ prog w E Q hq => HT.rcLt_int _ _ _ _ _ _ prog w E Q hq) (.cons eqL (fun _ prog w E Q hq => ?_) .nil)
      refine rc_lt_tup tla tlb (by show X.A.units + 1 + 1 < cLine; omega) (cs := cmpS a.2.2.2 b.2.2.2) (by simpa using cmp_strs sa sb) ?_
      rw [List.size_toArray, List.size_toArray, ← hla, ← hlb]
      exact hq
    · have e : btP prs i j = lexC false [(a.2.1 == b.2.1, decide (a.2.1 < b.2.1)), (decide (a.2.2.2 = b.2.2.2), lexC (decide (a.2.2.2.length < b.2.2.2.length)) (cmpS a.2.2.2 b.2.2.2))] := by
        unfold btP ltP datP
        rw [ha, hb]
        rfl
      have e2 : decide (([Value.int a.2.1 t1, Value.ref a.2.2.1].toArray).size < ([Value.int b.2.1 t2, Value.ref b.2.2.1].toArray).size) = false := rfl
      rw [e2, ← e]
      exact hQ
  · obtain ⟨x, hx, rfl⟩ := hitem _ v hv
    rw [List.size_toArray, ← hlen] at hx
    exact ⟨.ref x.1, H, I.kept hk, rfl, q x hx⟩
end K34

set_option Elab.async false
set_option linter.all false
set_option maxRecDepth 100000
set_option maxHeartbeats 4000000
namespace K34
open PySem L2 PySem.Spec PyProof.Rows
/-! ### a tuple among a list of tuples -/
noncomputable abbrev trefs (tss : List (Addr × List Str)) : List V := tss.map fun x => V.ref x.1
theorem tref_get {lr : List (Addr × List Str)} {i : Nat} {x : V} (h : (trefs lr)[i]? = some x) : ∃ r, lr[i]? = some r ∧ x = .ref r.1 := by
  unfold trefs at h
  rw [List.getElem?_map] at h
  cases e : lr[i]? with
  | none => rw [e] at h; cases h
  | some r => rw [e] at h; exact ⟨r, rfl, (Option.some.inj h).symm⟩
noncomputable def LtAt (H : Hp) (lts : List (Addr × List Str)) : Prop := ∀ x ∈ lts, H x.1 = some (.tup (x.2.map V.str))
theorem LtAt.same {H H' : Hp} {lts : List (Addr × List Str)} (h : LtAt H lts) (s : Same H H') : LtAt H' lts := fun x hx => s _ _ (h x hx)
theorem LtAt.app {H : Hp} {a b : List (Addr × List Str)} (h : LtAt H a) (g : LtAt H b) : LtAt H (a ++ b) := fun x hx => (List.mem_append.mp hx).elim (h x) (g x)
theorem LtAt.one {H : Hp} {t : Addr} {ls : List Str} (h : H t = some (.tup (ls.map V.str))) : LtAt H [(t, ls)] := fun x hx => by
  have e : x = (t, ls) := by simpa using hx
  subst e; exact h
end K34

set_option Elab.async false
set_option linter.all false
set_option maxRecDepth 100000
set_option maxHeartbeats 4000000
namespace K34
open PySem L2 PySem.Spec PyProof.Rows
theorem op_catAK (K : PySem.W.Frag) {X : Cx} (h : X.K = K := by rfl) : OpR X (binaryOp .Add) (rCatA K) := by subst h; exact op_catA
theorem cut_behind (x : V) (r : List V) : cutV (x :: r) (some 1) none = r := by
  unfold cutV
  simp [HT.sIx]
section
variable {P : Program} {w : World} {K : PySem.W.Frag} {mg : Str → Option Value} {base : Heap}

noncomputable def spAmongL : Sp := fun vs H Q _ => ∃ (pa : Addr) (ps : List Str), vs = [.ref pa] ∧ (H pa = some (.lst (ps.map V.str)) ∨ H pa = some (.tup (ps.map V.str))) ∧ ps.length ≤ 8 ∧
  ∀ (q : Addr) (lts : List (Addr × List Str)) (H' : Hp), Same H H' → H' q = some (.lst (trefs lts)) → LtAt H' lts → lts.map (·.2) = lotsOf ps → Q (.ref q) H'
theorem sc28 : FnScope ["places", "lots", "place"] ["places"] (defScope (top 28)) := ⟨rfl, rfl, rfl, by decide +kernel, rfl, by decide +kernel, by decide +kernel⟩
theorem ok_lots_among {f : Addr} {fd : FuncData} (F : Fun K "lots_among" "lots_among" (top 28) f fd) (B : Bl mg) : FnOk P w K mg base CX0 1 f fd ["places"] spAmongL := by
  refine F.ok sc28 (fun vs H Q E h => ?_) (fun cdv A outer s H vs Q E hr h => ?_)
  · obtain ⟨pa, ps, rfl, _⟩ := h
    rfl
  · obtain ⟨pa, ps, rfl, hp, p8, k⟩ := h
    refine ⟨_, pss_cons (ps_set (i := 1) sc28.nd rfl (Or.inl rfl) (pe_lst (pa_cons (pe_tup pa_nil) pa_nil)))
      (pss_cons (ps_for PassesOwn.never rfl (pi_or (pi_list (pv 0)) (pi_tup (pv 0))) (pg_name (i := 2) sc28.nd rfl (Or.inr rfl))
        (pss_one (ps_set (i := 1) sc28.nd rfl (Or.inl rfl) (pe_op op_cat (pv 1) (pe_lc (N := ["lot", "place"]) (ix := [none, some 2]) ⟨rfl, rfl, rfl, by decide⟩ rfl (pi_list (pv 1)) (fun _ _ _ _ => pg_lc 0 (by decide) rfl rfl) (fun _ _ _ _ => pts_nil)
          (fun _ _ _ _ => pe_op (op_catAK K) (pv 0) (pe_tup (pa_cons (pv 1) pa_nil))))))))
      (pss_one (ps_ret (pe_slice sl_list (pv 1) (po_some pe_int) po_none)))), ?_⟩
    refine ⟨Nat.zero_le _, fun e0 he0 => ⟨by show 1 ≤ sizeLine; decide, fun f0 hf0 => ?_⟩⟩
    have s0 := same_upd (o := .lst [.ref e0]) (same_upd (o := .tup []) (Same.refl H) he0) hf0
    have E0 : upd (upd H e0 (.tup [])) f0 (.lst [.ref e0]) e0 = some (.tup ((([] : List Str)).map V.str)) := by
      rw [upd_ne (fun z => by rw [← z, upd_same] at hf0; cases hf0), upd_same]; rfl
    have F0 : upd (upd H e0 (.tup [])) f0 (.lst [.ref e0]) f0 = some (.lst (trefs [(e0, [])])) := upd_same
    generalize upd (upd H e0 (.tup [])) f0 (.lst [.ref e0]) = H0 at s0 E0 F0 ⊢
    refine tfor_seq (K := K) (Hb := H) (a := pa) (xs := ps.map V.str) (fun Q q => ⟨_, rfl, q⟩) hp s0 (fun i σ H1 => Same H H1 ∧ ∃ (fo : Addr) (lts : List (Addr × List Str)) (g : Option V), σ = [some (.ref pa), some (.ref fo), g] ∧ H1 fo = some (.lst (trefs lts)) ∧ LtAt H1 lts ∧ lts.map (·.2) = subs (ps.take i))
      ⟨s0, f0, [(e0, [])], none, rfl, F0, LtAt.one E0, rfl⟩ (fun i σ H1 _ q => q.1) ?_ ?_
    · rintro i x σ H1 hx ⟨s1, fo, lts, g, rfl, F1, A1, e1⟩
      rw [List.getElem?_map] at hx
      cases hc : ps[i]? with
      | none => rw [hc] at hx; cases hx
      | some pl =>
        rw [hc] at hx
        cases hx
        have hi : i < ps.length := (List.getElem?_eq_some_iff.mp hc).1
        have hlen : lts.length ≤ 256 := by
          have q := congrArg List.length e1
          rw [List.length_map, subs_len] at q
          rw [q]
          exact pow_le (by rw [List.length_take]; omega)
        have hz8 : ∀ x ∈ lts, x.2.length ≤ 8 := fun x hx => by
          have q := (subs_sub (ps.take i) x.2 (by rw [← e1]; exact List.mem_map_of_mem hx)).length_le
          rw [List.length_take] at q
          omega
        refine ⟨_, rfl, _, rfl, fo, rfl, ⟨_, SqL.of F1⟩, lcw_list0 (xs := trefs lts) (fits (by rw [List.length_map]; omega)) (fun j ys σ H2 => (∃ qs : List (Addr × List Str), ys = trefs qs ∧ LtAt H2 qs ∧ qs.map (·.2) = ((lts.take j).map (·.2)).map fun l => l ++ [pl]) ∧ Same H1 H2 ∧ ∃ v, σ = [v, some (.str pl)])
          ⟨⟨[], rfl, by simp [LtAt], rfl⟩, Same.refl _, _, rfl⟩ (fun j ys σ H2 _ q => ?_) ?_ ?_⟩
        · obtain ⟨⟨qs, rfl, _, e⟩, s2, _⟩ := q
          have q := congrArg List.length e
          simp only [List.length_map, List.length_take] at q
          exact ⟨by rw [List.length_map]; omega, SqL.of (s2 _ _ F1)⟩
        · rintro j y ys σ H2 hy ⟨⟨qs, rfl, A2, e2⟩, s2, v, rfl⟩
          obtain ⟨lt, hlt, rfl⟩ := tref_get hy
          have hm := List.mem_of_getElem? hlt
          refine ⟨_, rfl, _, rfl, by show 1 ≤ sizeLine; decide, fun t ht => ?_⟩
          have s3 := same_upd (o := .tup [.str pl]) s2 ht
          have s3' := same_upd (o := .tup [.str pl]) (Same.refl H2) ht
          have t3 : upd H2 t (.tup [.str pl]) t = some (.tup ([pl].map V.str)) := upd_same
          generalize upd H2 t (.tup [.str pl]) = H3 at s3 s3' t3 ⊢
          have hz := hz8 lt hm
          have est : ∀ z, qs.map (·.2) ++ [z] = ((lts.take j).map (·.2)).map (fun l => l ++ [pl]) ++ [z] := fun z => by rw [e2]
          have etk : ((lts.take (j + 1)).map (·.2)).map (fun l => l ++ [pl]) = ((lts.take j).map (·.2)).map (fun l => l ++ [pl]) ++ [lt.2 ++ [pl]] := by
            rw [List.take_add_one, hlt, List.map_append, List.map_append]; rfl
          refine ⟨lt.1, t, lt.2.map V.str, [.str pl], rfl, rfl, SqT.of (s3 _ _ (A1 lt hm)), SqT.of t3, by rw [sizeLine_eq]; simp; omega, fun e => ?_, fun e => (by cases e), fun p hp => ?_⟩
          · have e' : lt.2 = [] := by simpa using e
            exact ⟨⟨qs ++ [(t, lt.2 ++ [pl])], by simp [trefs], (A2.same s3').app (LtAt.one (by rw [e']; exact t3)), by rw [List.map_append, etk]; exact est _⟩, s3, _, rfl⟩
          · have s4' := same_upd (o := .tup (lt.2.map V.str ++ [.str pl])) s3' hp
            exact ⟨⟨qs ++ [(p, lt.2 ++ [pl])], by simp [trefs], (A2.same s4').app (LtAt.one (by rw [upd_same, List.map_append]; rfl)), by rw [List.map_append, etk]; exact est _⟩, same_upd s3 hp, _, rfl⟩
        · rintro ys σ H2 ⟨⟨qs, rfl, A2, e2⟩, s2, v, rfl⟩ q hq
          rw [take_all lts (by simp)] at e2
          have hql : qs.length = lts.length := by
            have q := congrArg List.length e2
            simpa using q
          have s3' := same_upd (o := .lst (trefs qs)) (Same.refl H2) hq
          refine ⟨fo, q, _, _, rfl, rfl, s3' _ _ (s2 _ _ F1), upd_same, by rw [sizeLine_eq, List.length_map, List.length_map]; omega, fun q2 hq2' => ?_⟩
          have s4' := same_upd (o := .lst (trefs lts ++ trefs qs)) s3' hq2'
          refine ⟨s1.trans (s2.trans s4'), q2, lts ++ qs, _, rfl, by rw [upd_same]; simp [trefs], (A1.same (s2.trans s4')).app (A2.same s4'), ?_⟩
          have ets : ps.take (i + 1) = ps.take i ++ [pl] := by rw [List.take_add_one, hc]; rfl
          rw [List.map_append, e2, e1, ets, subs_snoc]
    · rintro σ H1 ⟨s1, fo, lts, g, rfl, F1, A1, e1⟩
      rw [take_all ps (by simp), subs_eq] at e1
      cases lts with
      | nil => cases e1
      | cons h0 rest =>
        obtain ⟨eh, er⟩ := List.cons.inj (show h0.2 :: rest.map (·.2) = [] :: lotsOf ps from e1)
        refine ⟨_, rfl, _, rfl, fo, _, rfl, SqL.of F1, fun q hq => ?_⟩
        rw [show trefs (h0 :: rest) = V.ref h0.1 :: trefs rest from rfl, cut_behind]
        have s2 := same_upd (o := .lst (trefs rest)) (Same.refl H1) hq
        exact k q rest _ (s1.trans s2) upd_same (fun x hx => s2 _ _ (A1 x (List.mem_cons_of_mem _ hx))) er
end
end K34

set_option Elab.async false
set_option linter.all false
set_option maxRecDepth 100000
set_option maxHeartbeats 4000000
namespace K34
open PySem L2
noncomputable def others (ps : List Str) (root : Str) : List Str := ps.filter fun y => !decide (y = root)
theorem others_len (ps : List Str) (root : Str) : (others ps root).length ≤ ps.length := List.length_filter_le _ _
noncomputable def cnt (rs : List (Addr × Row)) (l : List Str) : Nat := (rs.filter (lead l)).length
theorem cnt_succ {rs : List (Addr × Row)} {i : Nat} {r : Addr × Row} (h : rs[i]? = some r) (l : List Str) : cnt (rs.take (i + 1)) l = cnt (rs.take i) l + if lead l r = true then 1 else 0 := by
  unfold cnt
  rw [take_filter_succ _ _ _ _ h, List.length_append]
  congr 1
  split <;> rfl
noncomputable def keyL (l : List Str) : List Key := l.map Sum.inr
theorem keyL_kV (l : List Str) : (keyL l).map kV = l.map V.str := by unfold keyL; rw [List.map_map]; rfl
theorem keyL_inj {a b : List Str} (h : keyL a = keyL b) : a = b := (List.map_inj_right (fun x y h => Sum.inr.inj h)).mp h
theorem putK_len {κ : Type} [DecidableEq κ] {kvs : List (κ × V)} {k : κ} {v w : V} (h : valV kvs k = some w) : (putK kvs k v).length = kvs.length := by
  unfold putK
  rw [valV_any, h]
  rw [if_pos (show (some w).isSome = true from rfl), List.length_map]
theorem same_over {H H' : Hp} {p : Addr} {o : HO} (h : Same H H') (hp : H p = none) : Same H (upd H' p o) := fun b ob e => by
  rw [upd_ne (ne_of_none e hp)]; exact h b ob e
theorem dcw_list0 {K : PySem.W.Frag} {a D : Addr} {xs : List V} {tk tv : TE} {j : Nat} {σ' : St} {fin : Hp → Prop} {H1 : Hp} (Pv : Nat → St → Hp → Prop) (h0 : Pv 0 σ' H1) (hl : ∀ i σ H, i ≤ xs.length → Pv i σ H → SqL K H a xs)
    (hs : ∀ i x σ H, xs[i]? = some x → Pv i σ H → tk (σ.set j (some x)) H (fun y H4 => tv (σ.set j (some x)) H4 fun v H5 => ∃ H6, DPutT H5 D y v H6 ∧ Pv (i + 1) (σ.set j (some x)) H6)) (hd : ∀ σ H, Pv xs.length σ H → fin H) : DcW D (Itl K a) (gName j) tYes tk tv σ' fin H1 := by
  refine ⟨fun i m σ H => m = xs.length - i ∧ i ≤ xs.length ∧ Pv i σ H, ⟨xs.length, by simp, Nat.zero_le _, h0⟩, ?_⟩
  rintro i m σ H ⟨rfl, hi, p⟩
  have q := hl i σ H hi p
  by_cases hlt : i < xs.length
  · refine .inr ⟨⟨xs, xs[i], q, by simp [hlt]⟩, Pv (i + 1), fun σ' H' p' => ⟨xs.length - (i + 1), by omega, rfl, hlt, p'⟩, fun x H' y => ?_⟩
    obtain ⟨e, y⟩ := y
    subst e
    unfold gName tYes
    exact iteT (hs i x σ _ (y xs q) p)
  · have e : i = xs.length := by omega
    subst e
    exact .inl ⟨⟨xs, q, Nat.le_refl _⟩, hd σ H p⟩
noncomputable abbrev datL (rs : List (Addr × Row)) (ls : List (List Str)) : List (Int × List Str) := ls.map fun l => ((cnt rs l : Int), l)
noncomputable def btD (d : List (Int × List Str)) (i j : Nat) : Bool := ltP ((d[i]?).getD (0, [])) ((d[j]?).getD (0, []))
noncomputable def bestD (d : List (Int × List Str)) : Int × List Str := (d[argBest (btD d) (d.length - 1)]?).getD (0, [])
theorem bt_dat {prs : List Pl} {d : List (Int × List Str)} (h : (prs.map fun x => (x.2.1, x.2.2.2)) = d) : btP prs = btD d := by
  subst h
  funext i j
  unfold btP btD datP
  rw [List.getElem?_map, List.getElem?_map]
section
variable {P : Program} {w : World} {K : PySem.W.Frag} {mg : Str → Option Value} {base : Heap}
noncomputable def spLotsW : Sp := fun vs H Q _ => ∃ (v pa ra : Addr) (ps : List Str) (rs : List (Addr × Row)) (root : Str), vs = [.ref v, .str root] ∧ WebAt H v pa ra ps rs ∧ ps.length ≤ 8 ∧
  ∀ (q : Addr) (lts : List (Addr × List Str)) (H' : Hp), Same H H' → H' q = some (.lst (trefs lts)) → LtAt H' lts → lts.map (·.2) = lotsOf (others ps root) → Q (.ref q) H'
theorem sc29 : FnScope ["web", "root"] ["web", "root"] (defScope (top 29)) := ⟨rfl, rfl, rfl, by decide +kernel, rfl, by decide +kernel, by decide +kernel⟩
theorem ok_lots_without {f : Addr} {fd : FuncData} (F : Fun K "lots_without" "lots_without" (top 29) f fd) (F1 : Fn P w K mg base 1 "lots_among" ["places"] spAmongL) : FnOk P w K mg base CX0 2 f fd ["web", "root"] spLotsW := by
  refine F.ok sc29 (fun vs H Q E h => ?_) (fun cdv A outer s H vs Q E hr h => ?_)
  · obtain ⟨v, pa, ra, ps, rs, root, rfl, _⟩ := h
    rfl
  · obtain ⟨v, pa, ra, ps, rs, root, rfl, W, p8, k⟩ := h
    refine ⟨_, pss_one (ps_ret (pe_fn F1 hr (pa_cons (pe_lc (N := ["place", "root"]) (ix := [none, some 1]) ⟨rfl, rfl, rfl, by decide⟩ rfl (pi_tup (pe_ix ix_seq (pv 0) pe_int (fun _ _ => rfl))) (fun _ _ _ _ => pg_lc 0 (by decide) rfl rfl) (fun _ _ _ _ => pts_one (pt_cmpR op_ne (pv 0) (pv 1) (nomark _))) (fun _ _ _ _ => pv 0)) pa_nil))), ?_⟩
    refine ⟨_, rfl, rix_of (j := 0) (.inr (SqT.of W.tp)) rfl rfl ⟨pa, rfl, ⟨_, SqT.of W.pl⟩, lcw_tup1 (xs := ps.map V.str) (fits (by simp; omega)) (fun i ys σ H2 => ys = ((ps.take i).filter fun y => !decide (y = root)).map V.str ∧ H2 = H ∧ ∃ v, σ = [v, some (.str root)]) ⟨rfl, rfl, _, rfl⟩
      (fun i ys σ H2 _ q => ⟨by rw [q.1, List.length_map]; exact Nat.le_trans (List.length_filter_le _ _) (by simp; omega), by rw [q.2.1]; exact SqT.of W.pl⟩) ?_ ?_⟩⟩
    · rintro i y ys σ H2 hy ⟨rfl, rfl, v, rfl⟩
      rw [List.getElem?_map] at hy
      cases hc : ps[i]? with
      | none => rw [hc] at hy; cases hy
      | some z =>
        rw [hc] at hy
        cases hy
        have tf := take_filter_succ (fun z : Str => !decide (z = root)) ps i z hc
        refine ⟨_, rfl, _, rfl, rfl, _, rfl, ?_⟩
        have e : (!decide (V.str z = V.str root)) = !decide (z = root) := by simp
        rw [e]
        refine ite2 (fun c => ⟨_, rfl, ?_, rfl, _, rfl⟩) (fun c => ⟨?_, rfl, _, rfl⟩)
        · rw [tf, c]; simp
        · rw [tf]; simp only [Bool.not_eq_true] at c; rw [c]; simp
    · rintro ys σ H2 ⟨rfl, rfl, v, rfl⟩ t ht
      rw [take_all ps (by simp)]
      have s1 := same_upd (o := .lst ((others ps root).map V.str)) (Same.refl H2) ht
      exact ⟨t, others ps root, rfl, .inl upd_same, by have := others_len ps root; omega, fun q lts H' s' q' A' e' => k q lts H' (s1.trans s') q' A' e'⟩

noncomputable def spCounts : Sp := fun vs H Q _ => ∃ (ra lo : Addr) (rs : List (Addr × Row)) (lts : List (Addr × List Str)), vs = [.ref ra, .ref lo] ∧ (H ra = some (.lst (rrefs rs)) ∨ H ra = some (.tup (rrefs rs))) ∧ (∀ r ∈ rs, RowAt H r.1 r.2) ∧ rs.length ≤ 60 ∧ H lo = some (.lst (trefs lts)) ∧ LtAt H lts ∧ (lts.map (·.2)).Nodup ∧ lts.length ≤ 255 ∧
  ∀ (q : Addr) (kvs : List (List Key × V)) (H' : Hp), Same H H' → H' q = some (.dT kvs) → (∀ x ∈ lts, valV kvs (keyL x.2) = some (.int (cnt rs x.2))) → Q (.ref q) H'
noncomputable abbrev N30 : List Str := ["rows", "lots", "counts", "row", "lot"]
theorem sc30 : FnScope N30 ["rows", "lots"] (defScope (top 30)) := ⟨rfl, rfl, rfl, by decide +kernel, rfl, by decide +kernel, by decide +kernel⟩
theorem ok_counts {f : Addr} {fd : FuncData} (F : Fun K "counts_into" "counts_into" (top 30) f fd) (F1 : Fn P w K mg base 1 "leads_into" ["row", "lot"] spInto) : FnOk P w K mg base CX0 2 f fd ["rows", "lots"] spCounts := by
  refine F.ok sc30 (fun vs H Q E h => ?_) (fun cdv A outer s H vs Q E hr h => ?_)
  · obtain ⟨ra, lo, rs, lts, rfl, _⟩ := h
    rfl
  · obtain ⟨ra, lo, rs, lts, rfl, hra, hrow, hz, hlo, hL, hnd, hl255, k⟩ := h
    have hun := hr.un
    refine ⟨_, pss_cons (ps_setDc (i := 2) (N := ["lot"]) (ix := [none]) (lt0 hr) sc30.nd rfl (Or.inl rfl) ⟨rfl, rfl, rfl, by decide⟩ rfl (pi_list (pv 1)) (fun _ _ _ _ => pg_lc 0 (by decide) rfl rfl) (fun _ _ _ _ => pts_nil) (fun _ _ _ _ => pv 0) (fun _ _ _ _ => pe_int))
      (pss_cons (ps_for PassesOwn.never rfl (pi_or (pi_list (pv 0)) (pi_tup (pv 0))) (pg_name (i := 3) sc30.nd rfl (Or.inl rfl)) (pss_one (ps_for PassesOwn.never rfl (pi_list (pv 1)) (pg_name (i := 4) sc30.nd rfl (Or.inl rfl))
        (pss_one (ps_if (pt_val (pe_fn F1 hr (pa_cons (pv 3) (pa_cons (pv 4) pa_nil)))) (pss_one (ps_daug (lt1' hr) (pv 2) (pv 4) pe_int in_add (fun _ _ _ => rfl))) pss_nil)))))
      (pss_one (ps_ret (pv 2)))), ?_⟩
    have htl : (trefs lts).length = lts.length := by simp
    refine ⟨_, rfl, lo, rfl, ⟨_, SqL.of hlo⟩, fun D hD => ?_⟩
    have s0 := same_upd (o := .dT []) (Same.refl H) hD
    refine dcw_list0 (K := K) (a := lo) (xs := trefs lts) (fun i σ H2 => Same H H2 ∧ (∃ x, σ = [x]) ∧ ∃ kvs, H2 D = some (.dT kvs) ∧ kvs.length ≤ i ∧ ∀ m x, m < i → lts[m]? = some x → valV kvs (keyL x.2) = some (.int 0)) ⟨s0, ⟨_, rfl⟩, [], upd_same, Nat.le_refl _, fun m x hm => absurd hm (Nat.not_lt_zero _)⟩
      (fun i σ H2 _ q => SqL.of (q.1 _ _ hlo)) ?_ ?_
    · rintro i x σ H2 hx ⟨s2, ⟨g, rfl⟩, kvs, d2, z2, v2⟩
      obtain ⟨lt, hlt, rfl⟩ := tref_get hx
      have hm := List.mem_of_getElem? hlt
      have hi : i < lts.length := (List.getElem?_eq_some_iff.mp hlt).1
      refine ⟨_, rfl, upd H2 D (.dT (putK kvs (keyL lt.2) (.int 0))), ⟨kvs, keyL lt.2, lt.1, d2, rfl, by rw [keyL_kV]; exact s2 _ _ (hL lt hm), by rw [sizeLine_eq]; omega, rfl⟩, same_over s2 hD, ⟨_, rfl⟩, _, upd_same, by have := length_putK kvs (keyL lt.2) (.int 0); omega, fun m y hmi hy => ?_⟩
      rw [valV_put]
      by_cases e : keyL y.2 = keyL lt.2
      · rw [if_pos e]
      · rw [if_neg e]
        refine v2 m y ?_ hy
        have : m ≠ i := fun q => by rw [q, hlt] at hy; cases hy; exact e rfl
        omega
    rintro σ0 H2 ⟨s2, _, kvs0, d2, z2, v2⟩
    rw [htl] at z2 v2
    refine tfor_seq (K := K) (Hb := H) (a := ra) (xs := rrefs rs) (fun Q q => ⟨_, rfl, q⟩) hra s2 (fun i σ H3 => Same H H3 ∧ (∃ g1 g2, σ = [some (.ref ra), some (.ref lo), some (.ref D), g1, g2]) ∧ ∃ kvs, H3 D = some (.dT kvs) ∧ kvs.length ≤ 255 ∧ ∀ x ∈ lts, valV kvs (keyL x.2) = some (.int (cnt (rs.take i) x.2)))
      ⟨s2, ⟨_, _, rfl⟩, kvs0, d2, by omega, fun x hx => ?_⟩ (fun i σ H3 _ q => q.1) ?_ ?_
    · obtain ⟨m, hm⟩ := List.getElem?_of_mem hx
      exact v2 m x (List.getElem?_eq_some_iff.mp hm).1 hm
    · rintro i x σ H3 hx ⟨s3, ⟨g1, g2, rfl⟩, kvs, d3, z3, v3⟩
      obtain ⟨r, hr', rfl⟩ := rowAt_get hx
      have hrm := List.mem_of_getElem? hr'
      refine ⟨_, rfl, lo, rfl, ⟨_, SqL.of (s3 _ _ hlo)⟩, for_list (K := K) (a := lo) (xs := trefs lts) (fun j σ H4 => Same H H4 ∧ (∃ g2, σ = [some (.ref ra), some (.ref lo), some (.ref D), some (.ref r.1), g2]) ∧ ∃ kvs, H4 D = some (.dT kvs) ∧ kvs.length ≤ 255 ∧ ∀ m x, lts[m]? = some x → valV kvs (keyL x.2) = some (.int (if m < j then cnt (rs.take (i + 1)) x.2 else cnt (rs.take i) x.2 : Nat)))
        ⟨s3, ⟨_, rfl⟩, kvs, d3, z3, fun m x hm => ?_⟩ (fun j σ H4 _ q => SqL.of (q.1 _ _ hlo)) ?_ ?_⟩
      · rw [if_neg (Nat.not_lt_zero _)]
        exact v3 x (List.mem_of_getElem? hm)
      · rintro j y σ H4 hy ⟨s4, ⟨g2, rfl⟩, kvs, d4, z4, v4⟩
        obtain ⟨lt, hlt, rfl⟩ := tref_get hy
        have hm := List.mem_of_getElem? hlt
        have cs := cnt_succ hr' lt.2
        refine ⟨_, rfl, _, rfl, lt.1, r, lt.2, rfl, s4 _ _ (hrow r hrm), s4 _ _ (hL lt hm), _, rfl, ?_⟩
        have vj := v4 j lt hlt
        rw [if_neg (Nat.lt_irrefl _)] at vj
        have stay : ∀ m x, m ≠ j → lts[m]? = some x → (if m < j then cnt (rs.take (i + 1)) x.2 else cnt (rs.take i) x.2) = (if m < j + 1 then cnt (rs.take (i + 1)) x.2 else cnt (rs.take i) x.2) := fun m x hmj _ => by
          by_cases h1 : m < j
          · rw [if_pos h1, if_pos (by omega)]
          · rw [if_neg h1, if_neg (by omega)]
        refine ite2 (fun c => ?_) (fun c => ⟨s4, ⟨_, rfl⟩, kvs, d4, z4, fun m x hx => ?_⟩)
        · rw [if_pos c] at cs
          refine ⟨_, rfl, _, rfl, D, .int (cnt (rs.take i) lt.2), rfl, ?_, _, _, rfl, rfl, upd H4 D (.dT (putK kvs (keyL lt.2) (.int ((cnt (rs.take i) lt.2 : Int) + 1)))), DPut.t d4 (by rw [keyL_kV]; exact s4 _ _ (hL lt hm)) (by rw [sizeLine_eq]; omega), same_over s4 hD, ⟨_, rfl⟩, _, upd_same, by rw [putK_len vj]; exact z4, fun m x hx => ?_⟩
          · have g := DGet.t (k := keyL lt.2) (b := lt.1) d4 (by rw [keyL_kV]; exact s4 _ _ (hL lt hm))
            rw [vj] at g
            exact g
          · rw [valV_put]
            by_cases hmj : m = j
            · subst hmj
              rw [hlt] at hx
              cases hx
              rw [if_pos rfl, if_pos (Nat.lt_succ_self _), cs]
              rfl
            · have hne : keyL x.2 ≠ keyL lt.2 := fun e => by
                have e' := keyL_inj e
                obtain ⟨hmi, em⟩ := List.getElem?_eq_some_iff.mp hx
                obtain ⟨hji, ej⟩ := List.getElem?_eq_some_iff.mp hlt
                have hp := List.pairwise_iff_getElem.mp hnd
                have h1 : (lts.map (·.2))[m]'(by simpa using hmi) = x.2 := by rw [List.getElem_map, em]
                have h2 : (lts.map (·.2))[j]'(by simpa using hji) = lt.2 := by rw [List.getElem_map, ej]
                rcases Nat.lt_or_gt_of_ne hmj with q | q
                · exact hp m j _ _ q (by rw [h1, h2]; exact e')
                · exact hp j m _ _ q (by rw [h1, h2]; exact e'.symm)
              rw [if_neg hne, v4 m x hx, stay m x hmj hx]
        · rw [if_neg c] at cs
          rw [v4 m x hx]
          by_cases hmj : m = j
          · subst hmj
            rw [hlt] at hx
            cases hx
            rw [if_neg (Nat.lt_irrefl _), if_pos (Nat.lt_succ_self _), cs]
            rfl
          · rw [stay m x hmj hx]
      · rintro σ H4 ⟨s4, ⟨g2, rfl⟩, kvs, d4, z4, v4⟩
        refine ⟨s4, ⟨_, _, rfl⟩, kvs, d4, z4, fun x hx => ?_⟩
        obtain ⟨m, hm⟩ := List.getElem?_of_mem hx
        have q := v4 m x hm
        rw [if_pos (by rw [htl]; exact (List.getElem?_eq_some_iff.mp hm).1)] at q
        exact q
    · rintro σ H3 ⟨s3, ⟨g1, g2, rfl⟩, kvs, d3, z3, v3⟩
      rw [take_all rs (by simp)] at v3
      exact ⟨_, rfl, k D kvs H3 s3 d3 v3⟩
end
end K34

set_option Elab.async false
set_option linter.all false
set_option maxRecDepth 100000
set_option maxHeartbeats 4000000
namespace K34
open PySem L2
noncomputable def need (rts ls : List Str) : Nat := (rts.filter fun r => !decide (r ∈ ls)).length
section
variable {P : Program} {w : World} {K : PySem.W.Frag} {mg : Str → Option Value} {base : Heap}

noncomputable def spNeedOf : Sp := fun vs H Q _ => ∃ (a l : Addr) (rts ls : List Str), vs = [.ref a, .ref l] ∧ H a = some (.tup (rts.map V.str)) ∧ H l = some (.tup (ls.map V.str)) ∧ rts.length ≤ 100 ∧ ∀ H', Same H H' → Q (.int (need rts ls)) H'
theorem sc31 : FnScope ["roots", "lot"] ["roots", "lot"] (defScope (top 31)) := ⟨rfl, rfl, rfl, by decide +kernel, rfl, by decide +kernel, by decide +kernel⟩
theorem ok_need_of {f : Addr} {fd : FuncData} (F : Fun K "need_of" "need_of" (top 31) f fd) (B : Bl mg) : FnOk P w K mg base CX0 1 f fd ["roots", "lot"] spNeedOf := by
  refine F.ok sc31 (fun vs H Q E h => ?_) (fun cdv A outer s H vs Q E hr h => ?_)
  · obtain ⟨a, l, rts, ls, rfl, _⟩ := h
    rfl
  · obtain ⟨a, l, rts, ls, rfl, ha, hl, hz, k⟩ := h
    refine ⟨_, pss_one (ps_ret (pe_callB call_len_seq rfl B.len PySem.boot_len (pa_cons (pe_lc (N := ["root", "lot"]) (ix := [none, some 1]) ⟨rfl, rfl, rfl, by decide⟩ rfl (pi_tup (pv 0)) (fun _ _ _ _ => pg_lc 0 (by decide) rfl rfl)
      (fun _ _ _ _ => pts_one (pt_cmpR (notIn_seqK K) (pv 0) (pv 1) (by with_unfolding_all rfl))) (fun _ _ _ _ => pv 0)) pa_nil))), ?_⟩
    refine ⟨_, rfl, a, rfl, ⟨_, SqT.of ha⟩, lcw_tup1 (xs := rts.map V.str) (fits (by simp; omega)) (fun i ys σ H1 => ys = ((rts.take i).filter fun r => !decide (r ∈ ls)).map V.str ∧ H1 = H ∧ ∃ x, σ = [x, some (.ref l)]) ⟨rfl, rfl, _, rfl⟩
      (fun i ys σ H1 _ q => ⟨by rw [q.1, List.length_map]; exact Nat.le_trans (List.length_filter_le _ _) (by simp; omega), by rw [q.2.1]; exact SqT.of ha⟩) ?_ ?_⟩
    · rintro i x ys σ H1 hx ⟨rfl, rfl, v, rfl⟩
      rw [List.getElem?_map] at hx
      cases hc : rts[i]? with
      | none => rw [hc] at hx; cases hx
      | some z =>
        rw [hc] at hx
        cases hx
        have tf := take_filter_succ (fun r : Str => !decide (r ∈ ls)) rts i z hc
        refine ⟨_, rfl, _, rfl, l, ls.map V.str, rfl, .inr (SqT.of hl), rfl, flat_strs ls, _, rfl, ?_⟩
        show if (!inV (.str z) (ls.map V.str)) = true then _ else _
        rw [in_strs]
        refine ite2 (fun c => ⟨_, rfl, ?_, rfl, _, rfl⟩) (fun c => ⟨?_, rfl, _, rfl⟩)
        · rw [tf, c]; simp
        · rw [tf]; simp only [Bool.not_eq_true] at c; rw [c]; simp
    · rintro ys σ H1 ⟨rfl, rfl, v, rfl⟩ q hq
      rw [take_all rts (by simp)]
      refine ⟨q, _, rfl, .inl (SqL.of upd_same), ?_⟩
      have e : (((rts.filter fun r => !decide (r ∈ ls)).map V.str).length : Int) = (need rts ls : Int) := by rw [List.length_map]; rfl
      rw [e]
      exact k _ (same_upd (Same.refl _) hq)

end
end K34

set_option Elab.async false
set_option linter.all false
set_option maxRecDepth 100000
set_option maxHeartbeats 4000000
namespace L2
open PySem
end L2
namespace K34
open PySem L2
/-- what a lot has to spare -/
noncomputable def spr (rs : List (Addr × Row)) (rts l : List Str) : Int := (cnt rs l : Int) - (need rts l : Int)
noncomputable abbrev kvSp (rs : List (Addr × Row)) (rts : List Str) (ls : List (List Str)) : List (List Key × V) := ls.map fun l => (keyL l, V.int (spr rs rts l))
theorem kvSp_none {rs : List (Addr × Row)} {rts : List Str} : ∀ {ls : List (List Str)} {l : List Str}, l ∉ ls → valV (kvSp rs rts ls) (keyL l) = none
  | [], l, _ => rfl
  | m :: r, l, h => by
    have h' : l ≠ m ∧ l ∉ r := by simpa using h
    show valV ((keyL m, V.int (spr rs rts m)) :: kvSp rs rts r) (keyL l) = none
    rw [valV_neg (fun e => h'.1 (keyL_inj e).symm)]
    exact kvSp_none h'.2
theorem kvSp_some {rs : List (Addr × Row)} {rts : List Str} : ∀ {ls : List (List Str)} {l : List Str}, l ∈ ls → valV (kvSp rs rts ls) (keyL l) = some (.int (spr rs rts l))
  | m :: r, l, h => by
    show valV ((keyL m, V.int (spr rs rts m)) :: kvSp rs rts r) (keyL l) = _
    by_cases e : m = l
    · subst e; exact valV_pos rfl
    · rw [valV_neg (fun z => e (keyL_inj z))]
      exact kvSp_some ((List.mem_cons.mp h).resolve_left fun z => e z.symm)
section
variable {P : Program} {w : World} {K : PySem.W.Frag} {mg : Str → Option Value} {base : Heap}
noncomputable def spWhole : Sp := fun vs H Q _ => ∃ z : Int, vs = [.int z] ∧ Q (.bl true) H
theorem sc16 : FnScope ["thing"] ["thing"] (defScope (top 16)) := ⟨rfl, rfl, rfl, by decide +kernel, rfl, by decide +kernel, by decide +kernel⟩
theorem ok_is_whole {f : Addr} {fd : FuncData} (F : Fun K "is_whole" "is_whole" (top 16) f fd) (B : Bl mg) : FnOk P w K mg base CX0 1 f fd ["thing"] spWhole := by
  refine F.ok sc16 (fun vs H Q E h => ?_) (fun cdv A outer s H vs Q E hr h => ?_)
  · obtain ⟨z, rfl, _⟩ := h
    rfl
  · obtain ⟨z, rfl, k⟩ := h
    refine ⟨_, pss_one (ps_ret (pe_and (pe_callB (call_isinst (T := "int")) rfl B.isinstance b_isinstance (pa_cons (pv 0) (pa_cons (pe_bltn (v := .ty "int") rfl B.int b_int rfl) pa_nil)))
      (pe_one (pe_not (pe_callB (call_isinst (T := "bool")) rfl B.isinstance b_isinstance (pa_cons (pv 0) (pa_cons (pe_bltn (v := .ty "bool") rfl B.bool b_bool rfl) pa_nil))))))), ?_⟩
    exact ⟨_, rfl, _, _, true, rfl, .int z, rfl, true, rfl, iteT ⟨_, rfl, _, _, false, rfl, .int z, rfl, false, rfl, k⟩⟩
noncomputable def spNumber : Sp := fun vs H Q _ => ∃ z lo hi : Int, vs = [.int z, .int lo, .int hi] ∧ lo ≤ z ∧ z ≤ hi ∧ Q .non H
theorem sc23 : FnScope ["thing", "low", "high"] ["thing", "low", "high"] (defScope (top 23)) := ⟨rfl, rfl, rfl, by decide +kernel, rfl, by decide +kernel, by decide +kernel⟩
theorem ok_need_number {f : Addr} {fd : FuncData} (F : Fun K "need_number" "need_number" (top 23) f fd) (F1 : Fn P w K mg base 1 "is_whole" ["thing"] spWhole) : FnOk P w K mg base CX0 2 f fd ["thing", "low", "high"] spNumber := by
  refine F.ok sc23 (fun vs H Q E h => ?_) (fun cdv A outer s H vs Q E hr h => ?_)
  · obtain ⟨z, lo, hi, rfl, _⟩ := h
    rfl
  · obtain ⟨z, lo, hi, rfl, h1, h2, k⟩ := h
    refine ⟨_, pss_one (ps_if (PW.pt (pw_or (pt_not (pt_val (pe_fn F1 hr (pa_cons (pv 0) pa_nil)))) (pw_or1 (pt_not (pt_chain op_le op_le (pv 1) (pv 0) (pv 2)))))) pss_never pss_nil), ?_⟩
    exact ⟨_, rfl, z, rfl, true, rfl, iteF ⟨_, rfl, _, rfl, _, _, rfl, rfl, _, rfl, iteD h1 ⟨_, rfl, _, _, rfl, rfl, _, rfl, iteNS h2 k⟩⟩⟩
noncomputable def spSpare : Sp := fun vs H Q _ => ∃ (ra lo a : Addr) (rs : List (Addr × Row)) (lts : List (Addr × List Str)) (rts : List Str), vs = [.ref ra, .ref lo, .ref a] ∧ (H ra = some (.lst (rrefs rs)) ∨ H ra = some (.tup (rrefs rs))) ∧ (∀ r ∈ rs, RowAt H r.1 r.2) ∧ rs.length ≤ 60 ∧ H lo = some (.lst (trefs lts)) ∧ LtAt H lts ∧ (lts.map (·.2)).Nodup ∧ lts.length ≤ 255 ∧
  H a = some (.tup (rts.map V.str)) ∧ rts.length ≤ 100 ∧ ∀ (q : Addr) (H' : Hp), Same H H' → H q = none → H' q = some (.dT (kvSp rs rts (lts.map (·.2)))) → Q (.ref q) H'
noncomputable abbrev N32 : List Str := ["rows", "lots", "roots", "counts"]
theorem sc32 : FnScope N32 ["rows", "lots", "roots"] (defScope (top 32)) := ⟨rfl, rfl, rfl, by decide +kernel, rfl, by decide +kernel, by decide +kernel⟩
theorem ok_spare {f : Addr} {fd : FuncData} (F : Fun K "spare_into" "spare_into" (top 32) f fd) (F1 : Fn P w K mg base 2 "counts_into" ["rows", "lots"] spCounts) (F2 : Fn P w K mg base 1 "need_of" ["roots", "lot"] spNeedOf) : FnOk P w K mg base CX0 3 f fd ["rows", "lots", "roots"] spSpare := by
  refine F.ok sc32 (fun vs H Q E h => ?_) (fun cdv A outer s H vs Q E hr h => ?_)
  · obtain ⟨ra, lo, a, rs, lts, rts, rfl, _⟩ := h
    rfl
  · obtain ⟨ra, lo, a, rs, lts, rts, rfl, hra, hrow, hz, hlo, hL, hnd, hl255, ha, hr100, k⟩ := h
    have hr1 : Room 1 _ := hr.mono (by decide)
    refine ⟨_, pss_cons (ps_set (i := 3) sc32.nd rfl (Or.inr rfl) (pe_fn F1 hr (pa_cons (pv 0) (pa_cons (pv 1) pa_nil))))
      (pss_one (ps_ret (pe_dc (N := ["lot", "counts", "roots"]) (ix := [none, some 3, some 2]) (lt0 hr) ⟨rfl, rfl, rfl, by decide⟩ rfl (pi_list (pv 1)) (fun _ _ _ _ => pg_lc 0 (by decide) rfl rfl) (fun _ _ _ _ => pts_nil) (fun _ _ _ _ => pv 0)
        (fun _ _ _ _ => pe_op op_sub (pe_dget (lt1' hr) (pv 1) (pv 0) (fun _ _ => rfl)) (pe_fn F2 hr1 (pa_cons (pv 2) (pa_cons (pv 0) pa_nil))))))), ?_⟩
    refine ⟨_, rfl, _, rfl, ra, lo, rs, lts, rfl, hra, hrow, hz, hlo, hL, hnd, hl255, fun c kvs H1 s1 c1 v1 => ?_⟩
    refine ⟨_, rfl, lo, rfl, ⟨_, SqL.of (s1 _ _ hlo)⟩, fun D hD => ?_⟩
    have s2 := same_upd (o := .dT []) (Same.refl H1) hD
    have htl : (trefs lts).length = lts.length := by simp
    have hD0 : H1 D = none := hD
    refine dcw_list0 (K := K) (a := lo) (xs := trefs lts) (fun i σ H2 => Same H1 H2 ∧ (∃ x, σ = [x, some (.ref c), some (.ref a)]) ∧ H2 D = some (.dT (kvSp rs rts ((lts.take i).map (·.2))))) ⟨s2, ⟨_, rfl⟩, upd_same⟩
      (fun i σ H2 _ q => SqL.of (q.1 _ _ (s1 _ _ hlo))) ?_ ?_
    · rintro i x σ H2 hx ⟨s2, ⟨g, rfl⟩, d2⟩
      obtain ⟨lt, hlt, rfl⟩ := tref_get hx
      have hm := List.mem_of_getElem? hlt
      have hi : i < lts.length := (List.getElem?_eq_some_iff.mp hlt).1
      have hlt2 := s2 _ _ (s1 _ _ (hL lt hm))
      have gc : DGet H2 c (.ref lt.1) (some (.int (cnt rs lt.2))) := by
        rw [← v1 lt hm]; exact DGet.t (s2 _ _ c1) (by rw [keyL_kV]; exact hlt2)
      refine ⟨_, rfl, _, rfl, _, rfl, c, _, rfl, gc, ?_⟩
      refine ⟨_, rfl, _, rfl, a, lt.1, rts, lt.2, rfl, s2 _ _ (s1 _ _ ha), hlt2, hr100, fun H3 s3 => ?_⟩
      have d3 := s3 _ _ d2
      have hfresh : lt.2 ∉ (lts.take i).map (·.2) := fun hmm => by
        have nd := hnd.sublist ((List.take_sublist (i + 1) lts).map (fun x : Addr × List Str => x.2))
        rw [List.take_add_one, hlt, List.map_append] at nd
        exact (List.nodup_append.mp nd).2.2 _ hmm lt.2 (by simp) rfl
      refine ⟨_, _, rfl, rfl, _, ⟨_, keyL lt.2, lt.1, d3, rfl, by rw [keyL_kV]; exact s3 _ _ hlt2, by rw [List.length_map, List.length_map, List.length_take, sizeLine_eq]; omega, rfl⟩, same_over (s2.trans s3) hD0, ⟨_, rfl⟩, ?_⟩
      rw [upd_same, putK_new _ (kvSp_none hfresh), List.take_add_one, hlt]
      simp [kvSp, spr]
    · rintro σ H2 ⟨s2, ⟨g, rfl⟩, d2⟩
      rw [htl, take_all lts rfl] at d2
      exact k D H2 (s1.trans s2) (s1.free hD0) d2
end
end K34

set_option Elab.async false
set_option linter.all false
set_option maxRecDepth 100000
set_option maxHeartbeats 4000000
namespace K34
open PySem L2
mutual
theorem eqv_self : ∀ d : PyData, d.canLay0 = true → PyData.eqv d d = true
  | .none, _ => by simp [PyData.eqv]
  | .bool b, _ => by simp [PyData.eqv]
  | .int i, _ => by simp [PyData.eqv]
  | .str x, _ => by simp [PyData.eqv]
  | .list xs, h => by rw [PyData.eqv]; exact eqvAll_self xs (by simpa [PyData.canLay0] using h)
  | .tuple xs, h => by rw [PyData.eqv]; exact eqvAll_self xs (by simpa [PyData.canLay0] using h)
  | .dict _, h => by simp [PyData.canLay0] at h
theorem eqvAll_self : ∀ ds : List PyData, PyData.canLayAll0 ds = true → PyData.eqvAll ds ds = true
  | [], _ => by simp [PyData.eqvAll]
  | d :: ds, h => by
    simp only [PyData.canLayAll0, Bool.and_eq_true] at h
    rw [PyData.eqvAll, eqv_self d h.1, eqvAll_self ds h.2]
    rfl
end

noncomputable abbrev tupD (ts : List Str) : PyData := .tuple (ts.map PyData.str)
section
variable {P : Program} {w : World} {K : PySem.W.Frag} {mg : Str → Option Value} {base : Heap}
noncomputable def spLeast : Sp := fun vs H Q _ => ∃ (v pa ra : Addr) (ps : List Str) (rs : List (Addr × Row)) (root : Str), vs = [.ref v, .str root] ∧ WebAt H v pa ra ps rs ∧ Good ps (rs.map (·.2)) ∧ ps.length ≤ 8 ∧ root ∈ ps ∧
  (lotsOf (others ps root) = [] → ∀ H', Same H H' → Q .non H') ∧
  (lotsOf (others ps root) ≠ [] → ∀ (q la : Addr) (H' : Hp), Same H H' → H' q = some (.tup [.int (bestD (datL rs (lotsOf (others ps root)))).1, .ref la]) → H' la = some (.tup ((bestD (datL rs (lotsOf (others ps root)))).2.map V.str)) → Q (.ref q) H')
noncomputable abbrev N37 : List Str := ["web", "root", "lots", "counts"]
theorem sc37 : FnScope N37 ["web", "root"] (defScope (top 37)) := ⟨rfl, rfl, rfl, by decide +kernel, rfl, by decide +kernel, by decide +kernel⟩
end
end K34

set_option Elab.async false
set_option linter.all false
set_option maxRecDepth 100000
set_option maxHeartbeats 4000000
namespace K34
open PySem L2
noncomputable abbrev Pr := Addr × Int × Int
noncomputable abbrev prefs (prs : List Pr) : List V := prs.map fun x => V.ref x.1
noncomputable def PrAt (H : Hp) (prs : List Pr) : Prop := ∀ x ∈ prs, H x.1 = some (.tup [.int x.2.1, .int x.2.2])
noncomputable def PrOk (m : Nat) (prs : List Pr) : Prop := ∀ x ∈ prs, 0 ≤ x.2.1 ∧ x.2.1 < m ∧ 0 ≤ x.2.2 ∧ x.2.2 < m ∧ x.2.1 ≠ x.2.2
theorem PrAt.kp {H H1 : Hp} {p : Addr} {prs : List Pr} (h : PrAt H prs) (k : Kp [p] H H1) (hp : Pot H p) : PrAt H1 prs := fun x hx => k.tup hp (h x hx)
theorem PrAt.new {H : Hp} {q : Addr} {o : HO} {prs : List Pr} (h : PrAt H prs) (hq : H q = none) : PrAt (upd H q o) prs := fun x hx => by
  rw [upd_ne (ne_of_none (h x hx) hq)]; exact h x hx
theorem PrAt.over {H : Hp} {q : Addr} {o : HO} {ys : List V} {prs : List Pr} (h : PrAt H prs) (hq : H q = some (.lst ys)) : PrAt (upd H q o) prs := fun x hx => by
  rw [upd_ne (tup_ne (h x hx) hq)]; exact h x hx
theorem PrAt.app {H : Hp} {a b : List Pr} (h : PrAt H a) (g : PrAt H b) : PrAt H (a ++ b) := fun x hx => (List.mem_append.mp hx).elim (h x) (g x)
theorem PrOk.app {m : Nat} {a b : List Pr} (h : PrOk m a) (g : PrOk m b) : PrOk m (a ++ b) := fun x hx => (List.mem_append.mp hx).elim (h x) (g x)
theorem PrAt.one {H : Hp} {t : Addr} {a b : Int} (h : H t = some (.tup [.int a, .int b])) : PrAt H [(t, a, b)] := fun x hx => by
  have e : x = (t, a, b) := by simpa using hx
  subst e; exact h
theorem PrOk.one {m : Nat} {t : Addr} {a b : Int} (h : 0 ≤ a ∧ a < m ∧ 0 ≤ b ∧ b < m ∧ a ≠ b) : PrOk m [(t, a, b)] := fun x hx => by
  have e : x = (t, a, b) := by simpa using hx
  subst e; exact h
theorem pairs_bound {m i : Nat} (h2 : 2 ≤ m) (h8 : m ≤ 8) {T : Int} (hT : T ≤ 30 / ((m : Int) - 1)) (hi : (i : Int) ≤ T) : i * (m - 1) ≤ 30 := by
  have : m = 2 ∨ m = 3 ∨ m = 4 ∨ m = 5 ∨ m = 6 ∨ m = 7 ∨ m = 8 := by omega
  rcases this with rfl | rfl | rfl | rfl | rfl | rfl | rfl <;> omega
theorem mod_ne {a r n : Int} (h1 : 0 ≤ a) (h2 : a < n) (h3 : 0 ≤ r) (h4 : r < n - 1) : (a + 1 + r) % n ≠ a ∧ 0 ≤ (a + 1 + r) % n ∧ (a + 1 + r) % n < n := by
  refine ⟨fun e => ?_, Int.emod_nonneg _ (by omega), Int.emod_lt_of_pos _ (by omega)⟩
  have q := Int.mul_ediv_add_emod (a + 1 + r) n
  rw [e] at q
  generalize (a + 1 + r) / n = k at q
  have hk : k ≤ 0 ∨ 1 ≤ k := by omega
  rcases hk with hk | hk
  · have := Int.mul_nonpos_of_nonneg_of_nonpos (show 0 ≤ n by omega) hk
    omega
  · have := Int.mul_le_mul_of_nonneg_left hk (show 0 ≤ n by omega)
    omega
section
variable {P : Program} {w : World} {K : PySem.W.Frag} {mg : Str → Option Value} {base : Heap}
noncomputable def spPairs : Sp := fun vs H Q _ => ∃ (p : Addr) (m : Nat), vs = [.ref p, .int m] ∧ Pot H p ∧ 1 ≤ m ∧ m ≤ 8 ∧
  ∀ (q : Addr) (prs : List Pr) (H' : Hp), Pot H' p → H' q = some (.lst (prefs prs)) → H q = none → PrAt H' prs → PrOk m prs → prs.length ≤ 40 → Kp [p] H H' → Q (.ref q) H'
noncomputable abbrev N43 : List Str := ["_law_pot_here", "_law_many", "_law_found", "_law_tree", "_law_k", "_law_a"]
theorem sc43 : FnScope N43 ["_law_pot_here", "_law_many"] (defScope (top 43)) := ⟨rfl, rfl, rfl, by decide +kernel, rfl, by decide +kernel, by decide +kernel⟩
theorem ok_pairs {f : Addr} {fd : FuncData} (F : Fun K "_law_pairs" "_law_pairs" (top 43) f fd) (B : Bl mg) (Ft : Fn P w K mg base 1 "_law_take" ["_law_pot_here", "_law_many"] spTake) : FnOk P w K mg base CX0 2 f fd ["_law_pot_here", "_law_many"] spPairs := by
  refine F.ok sc43 (fun vs H Q E h => ?_) (fun cdv A outer s H vs Q E hr h => ?_)
  · obtain ⟨p, m, rfl, _⟩ := h
    rfl
  · obtain ⟨p, m, rfl, hp, m1, m8, k⟩ := h
    refine ⟨_, pss_cons (ps_set (i := 2) sc43.nd rfl (Or.inl rfl) (pe_lst pa_nil))
      (pss_cons (ps_if (pt_cmpR op_eq (pv 1) pe_int (nomark _)) (pss_one (ps_ret (pv 2))) pss_nil)
      (pss_cons (ps_for PassesOwn.never rfl (pi_range1 rfl B.range (pa_cons (pe_callB (call_min2 rfl) rfl B.min b_min (pa_cons (pe_ix ix_seq (pe_lst (pa_cons pe_int (pa_cons pe_int (pa_cons pe_int (pa_cons pe_int (pa_cons pe_int (pa_cons pe_int (pa_cons pe_int pa_nil)))))))) (pe_fn Ft hr (pa_cons (pv 0) (pa_cons pe_int pa_nil))) (fun _ _ => rfl))
          (pa_cons (pe_op op_fdiv pe_int (pe_op op_sub (pv 1) pe_int)) pa_nil))) pa_nil)) (pg_name (i := 3) sc43.nd rfl (Or.inl rfl))
        (pss_one (ps_expr (pe_bm PySem.F.plainAttrs_list PySem.F.slot_list_extend PySem.F.type_list_extend mt_extend (pv 2) (pa_cons (pe_lc (N := ["_law_k", "_law_pot_here"]) (ix := [none, some 0]) ⟨rfl, rfl, rfl, by decide⟩ rfl
          (pi_range2 rfl B.range (pa_cons pe_int (pa_cons (pv 1) pa_nil))) (fun _ _ _ _ => pg_lc 0 (by decide) rfl rfl) (fun _ _ _ _ => pts_nil) (fun _ _ _ _ => pe_tup (pa_cons (pe_fn Ft hr (pa_cons (pv 1) (pa_cons (pv 0) pa_nil))) (pa_cons (pv 0) pa_nil)))) pa_nil)))))
      (pss_cons (ps_for PassesOwn.never rfl (pi_range1 rfl B.range (pa_cons (pe_ix ix_seq (pe_lst (pa_cons (pe_fn Ft hr (pa_cons (pv 0) (pa_cons pe_int pa_nil))) (pa_cons (pe_fn Ft hr (pa_cons (pv 0) (pa_cons pe_int pa_nil))) pa_nil))) (pe_fn Ft hr (pa_cons (pv 0) (pa_cons pe_int pa_nil))) (fun _ _ => rfl)) pa_nil)) (pg_name (i := 4) sc43.nd rfl (Or.inl rfl))
        (pss_cons (ps_set (i := 5) sc43.nd rfl (Or.inl rfl) (pe_fn Ft hr (pa_cons (pv 0) (pa_cons (pv 1) pa_nil))))
        (pss_one (ps_expr (pe_bm PySem.F.plainAttrs_list PySem.F.slot_list_append PySem.F.type_list_append mt_append (pv 2) (pa_cons (pe_tup (pa_cons (pv 5) (pa_cons (pe_op op_mod (pe_op op_add (pe_op op_add (pv 5) pe_int) (pe_fn Ft hr (pa_cons (pv 0) (pa_cons (pe_op op_sub (pv 1) pe_int) pa_nil)))) (pv 1)) pa_nil))) pa_nil))))))
      (pss_one (ps_ret (pv 2)))))), ?_⟩
    refine ⟨Nat.zero_le _, fun fo hfo => ?_⟩
    have nfp := hp.ne_new hfo
    have P1 := hp.new (o := .lst []) hfo
    have K1 := (Kp.refl [p] H).new (o := .lst []) hfo
    have F1 : upd H fo (.lst []) fo = some (.lst (prefs [])) := upd_same
    generalize upd H fo (.lst []) = H1 at P1 K1 F1 ⊢
    refine ⟨_, rfl, rfl, _, rfl, ?_⟩
    refine ite2 (fun c => ⟨_, rfl, k fo [] H1 P1 F1 hfo (by simp [PrAt]) (by simp [PrOk]) (by simp) K1⟩) (fun c => ?_)
    have m2 : 2 ≤ m := by
      simp only [decide_eq_true_eq] at c
      have : ¬ ((m : Int) = 1) := fun z => c (by rw [z])
      omega
    refine ⟨by show 7 ≤ sizeLine; decide, fun l7 hl7 => ?_⟩
    have nl7 := P1.ne_new hl7
    have P2 := P1.new (o := .lst [.int 0, .int 1, .int 1, .int 2, .int 2, .int 3, .int 6]) hl7
    have K2 := K1.new (o := .lst [.int 0, .int 1, .int 1, .int 2, .int 2, .int 3, .int 6]) hl7
    have L2' : upd H1 l7 (.lst [.int 0, .int 1, .int 1, .int 2, .int 2, .int 3, .int 6]) l7 = some (.lst [.int 0, .int 1, .int 1, .int 2, .int 2, .int 3, .int 6]) := upd_same
    have F2 : upd H1 l7 (.lst [.int 0, .int 1, .int 1, .int 2, .int 2, .int 3, .int 6]) fo = some (.lst (prefs [])) := by rw [upd_ne (ne_of_none F1 hl7)]; exact F1
    generalize upd H1 l7 (.lst [.int 0, .int 1, .int 1, .int 2, .int 2, .int 3, .int 6]) = H2 at P2 K2 L2' F2 ⊢
    refine ⟨_, rfl, p, 7, rfl, P2, by decide, by decide, fun r1 H3 a0 a1 P3 K3' => ?_⟩
    have L3 := K3'.at nl7 L2'
    have F3 := K3'.at nfp F2
    have K3 := K2.trans K3'
    have hc : ∃ c : Int, ([V.int 0, V.int 1, V.int 1, V.int 2, V.int 2, V.int 3, V.int 6] : List V)[r1.toNat]? = some (.int c) ∧ 0 ≤ c ∧ c ≤ 6 := by
      have : r1 = 0 ∨ r1 = 1 ∨ r1 = 2 ∨ r1 = 3 ∨ r1 = 4 ∨ r1 = 5 ∨ r1 = 6 := by omega
      rcases this with rfl | rfl | rfl | rfl | rfl | rfl | rfl
      · exact ⟨0, rfl, by decide, by decide⟩
      · exact ⟨1, rfl, by decide, by decide⟩
      · exact ⟨1, rfl, by decide, by decide⟩
      · exact ⟨2, rfl, by decide, by decide⟩
      · exact ⟨2, rfl, by decide, by decide⟩
      · exact ⟨3, rfl, by decide, by decide⟩
      · exact ⟨6, rfl, by decide, by decide⟩
    obtain ⟨c1, hc1, c10, c16⟩ := hc
    have hdiv : (0 : Int) ≤ 30 / ((m : Int) - 1) := Int.ediv_nonneg (by decide) (by omega)
    refine rix_of (j := r1.toNat) (.inl (SqL.of L3)) (by omega) hc1 ⟨_, rfl, _, _, rfl, rfl, _, _, rfl, rfl, ⟨by omega, by omega⟩, _, _, rfl, ?_⟩
    have hT : ∃ T : Int, (if 30 / ((m : Int) - 1) < c1 then 30 / ((m : Int) - 1) else c1) = T ∧ 0 ≤ T ∧ T ≤ 6 ∧ T ≤ 30 / ((m : Int) - 1) := by
      split
      · exact ⟨_, rfl, hdiv, by omega, Int.le_refl _⟩
      · exact ⟨_, rfl, c10, c16, by omega⟩
    obtain ⟨T, eT, T0, T6, Td⟩ := hT
    rw [eT]
    refine ⟨_, rfl, by omega, by omega, for_range (fun i σ H4 => ∃ (prs : List Pr) (g1 g2 g3 : Option V), σ = [some (.ref p), some (.int m), some (.ref fo), g1, g2, g3] ∧ Pot H4 p ∧ H4 fo = some (.lst (prefs prs)) ∧ PrAt H4 prs ∧ PrOk m prs ∧ prs.length = i * (m - 1) ∧ Kp [p] H H4)
      ⟨[], none, none, none, rfl, P3, F3, by simp [PrAt], by simp [PrOk], by simp, K3⟩ ?_ ?_⟩
    · rintro i σ H4 hi ⟨prs, g1, g2, g3, rfl, P4, F4, A4, O4, hl, K4⟩
      have hb := pairs_bound (i := i + 1) m2 m8 Td (by omega)
      rw [Nat.succ_mul] at hb
      refine ⟨_, rfl, .inl ⟨rfl, _, SqL.of F4⟩, _, rfl, 1, (m : Int), rfl, ⟨by decide, by decide, by omega, by omega⟩, ?_⟩
      have em : ((m : Int) - 1).toNat = m - 1 := by omega
      rw [em]
      refine lcw_range0 (fits (by omega)) (fun j ys σ H5 => (∃ qs : List Pr, ys = prefs qs ∧ PrAt H5 qs ∧ PrOk m qs ∧ qs.length = j) ∧ Pot H5 p ∧ Kp [p] H4 H5 ∧ ∃ x, σ = [x, some (.ref p)])
        ⟨⟨[], rfl, by simp [PrAt], by simp [PrOk], rfl⟩, P4, Kp.refl _ _, _, rfl⟩ (fun j ys σ H5 _ q => by obtain ⟨⟨qs, rfl, _, _, rfl⟩, _⟩ := q; simp) ?_ ?_
      · rintro j ys σ H5 hj ⟨⟨qs, rfl, A5, O5, rfl⟩, P5, K5, v, rfl⟩
        refine ⟨_, rfl, _, rfl, p, _, rfl, P5, by omega, by omega, fun r H6 r0 r1 P6 K6 => ⟨_, rfl, by show 2 ≤ sizeLine; decide, fun t ht => ?_⟩⟩
        refine ⟨⟨qs ++ [(t, r, 1 + (qs.length : Int))], by simp [prefs], ?_, ?_, by simp⟩, P6.new ht, (K5.trans K6).new ht, _, rfl⟩
        · exact ((A5.kp K6 P5).new ht).app (PrAt.one upd_same)
        · exact O5.app (PrOk.one ⟨r0, by omega, by omega, by omega, by omega⟩)
      · rintro ys σ H5 ⟨⟨qs, rfl, A5, O5, hql⟩, P5, K5, v, rfl⟩ t ht
        have F5 := K5.at nfp F4
        have F6 : upd H5 t (.lst (prefs qs)) fo = some (.lst (prefs prs)) := by rw [upd_ne (ne_of_none F5 ht)]; exact F5
        have A6 : PrAt (upd H5 t (.lst (prefs qs))) (prs ++ qs) := ((A4.kp K5 P4).app A5).new ht
        have P6 := P5.new (o := .lst (prefs qs)) ht
        have K6 := (K4.trans K5).new (o := .lst (prefs qs)) ht
        refine ⟨fo, t, prefs prs, prefs qs, rfl, rfl, F6, upd_same, by rw [sizeLine_eq]; simp; omega, ?_⟩
        refine ⟨prs ++ qs, _, _, _, rfl, P6.upd nfp, by rw [upd_same]; simp [prefs], A6.over F6, O4.app O5, by rw [List.length_append, hl, hql, Nat.succ_mul], fun b o e nb => by rw [upd_ne (ne_of_none e hfo)]; exact K6 b o e nb⟩
    · rintro σ H4 ⟨prs, g1, g2, g3, rfl, P4, F4, A4, O4, hl, K4⟩
      have hl30 : prs.length ≤ 30 := by
        rw [hl]
        exact pairs_bound m2 m8 Td (by omega)
      clear hl
      refine ⟨_, rfl, p, 4, rfl, P4, by decide, by decide, fun r1 H5 a0 a1 P5 K5' => ⟨_, rfl, p, 11, rfl, P5, by decide, by decide, fun r2 H6 b0 b1 P6 K6' => ?_⟩⟩
      have F6 := K6'.at nfp (K5'.at nfp F4)
      have A6 := (A4.kp K5' P4).kp K6' P5
      have K6 := (K4.trans K5').trans K6'
      refine ⟨by show 2 ≤ sizeLine; decide, fun l2 hl2 => ?_⟩
      have nl2 := P6.ne_new hl2
      have P7 := P6.new (o := .lst [.int r1, .int r2]) hl2
      have K7 := K6.new (o := .lst [.int r1, .int r2]) hl2
      have A7 := A6.new (o := .lst [.int r1, .int r2]) hl2
      have F7 : upd H6 l2 (.lst [.int r1, .int r2]) fo = some (.lst (prefs prs)) := by rw [upd_ne (ne_of_none F6 hl2)]; exact F6
      have L7 : upd H6 l2 (.lst [.int r1, .int r2]) l2 = some (.lst [.int r1, .int r2]) := upd_same
      generalize upd H6 l2 (.lst [.int r1, .int r2]) = H7 at P7 K7 A7 F7 L7 ⊢
      refine ⟨_, rfl, p, 2, rfl, P7, by decide, by decide, fun r3 H8 c0 c1' P8 K8' => ?_⟩
      have L8 := K8'.at nl2 L7
      have F8 := K8'.at nfp F7
      have A8 := A7.kp K8' P7
      have K8 := K7.trans K8'
      have hn : ∃ e : Int, ([V.int r1, V.int r2] : List V)[r3.toNat]? = some (.int e) ∧ 0 ≤ e ∧ e ≤ 10 := by
        have : r3 = 0 ∨ r3 = 1 := by omega
        rcases this with rfl | rfl
        · exact ⟨r1, rfl, by omega, by omega⟩
        · exact ⟨r2, rfl, by omega, by omega⟩
      obtain ⟨e, he, e0, e1⟩ := hn
      refine rix_of (j := r3.toNat) (.inl (SqL.of L8)) (by omega) he ⟨_, rfl, by omega, by omega, for_range (fun i σ H4 => ∃ (prs : List Pr) (g1 g2 g3 : Option V), σ = [some (.ref p), some (.int m), some (.ref fo), g1, g2, g3] ∧ Pot H4 p ∧ H4 fo = some (.lst (prefs prs)) ∧ PrAt H4 prs ∧ PrOk m prs ∧ prs.length ≤ 30 + i ∧ Kp [p] H H4)
        ⟨prs, _, _, _, rfl, P8, F8, A8, O4, by omega, K8⟩ ?_ ?_⟩
      · rintro i σ H9 hi ⟨prs, g1, g2, g3, rfl, P9, F9, A9, O9, hl9, K9⟩
        refine ⟨_, rfl, _, rfl, p, _, rfl, P9, by omega, by omega, fun a H10 ha0 ha1 P10 K10' => ?_⟩
        have F10 := K10'.at nfp F9
        have A10 := A9.kp K10' P9
        refine ⟨_, rfl, .inl ⟨rfl, _, SqL.of F10⟩, _, rfl, _, rfl, _, _, rfl, rfl, _, rfl, _, rfl, _, _, rfl, rfl, p, _, rfl, P10, by omega, by omega, fun r H11 hr0 hr1 P11 K11' => ?_⟩
        have F11 := K11'.at nfp F10
        have A11 := A10.kp K11' P10
        have K11 := (K9.trans K10').trans K11'
        refine ⟨_, _, rfl, rfl, _, rfl, _, _, rfl, rfl, by omega, by show 2 ≤ sizeLine; decide, fun t ht => ?_⟩
        obtain ⟨b1, b2, b3⟩ := mod_ne ha0 ha1 hr0 hr1
        have F12 : upd H11 t (.tup [.int a, .int ((a + 1 + r) % (m : Int))]) fo = some (.lst (prefs prs)) := by rw [upd_ne (ne_of_none F11 ht)]; exact F11
        refine ⟨fo, prefs prs, _, rfl, rfl, F12, fits (by simp; omega), prs ++ [(t, a, (a + 1 + r) % (m : Int))], _, _, _, rfl, (P11.new ht).upd nfp, by rw [upd_same]; simp [prefs], ?_, O9.app (PrOk.one ⟨ha0, ha1, b2, b3, b1.symm⟩), by simp; omega, ?_⟩
        · exact ((A11.new ht).app (PrAt.one upd_same)).over F12
        · exact fun b o e nb => by rw [upd_ne (ne_of_none e hfo)]; exact (K11.new ht) b o e nb
      · rintro σ H9 ⟨prs, g1, g2, g3, rfl, P9, F9, A9, O9, hl9, K9⟩
        exact ⟨_, rfl, k fo prs H9 P9 F9 hfo A9 O9 (by omega) K9⟩
end
end K34

set_option Elab.async false
set_option linter.all false
set_option maxRecDepth 100000
set_option maxHeartbeats 4000000
namespace K34
open PySem L2
/-! ### ties called like places -/
noncomputable def pick (S : List Str) (t p : Str) : Str := if decide (p ∈ S) = true then t else p
noncomputable def calledL (S ts ps : List Str) : List Str := List.zipWith (pick S) ts ps ++ ts.drop (min ts.length ps.length)
theorem called_mem (S : List Str) : ∀ (ts ps : List Str) (x : Str), x ∈ calledL S ts ps → x ∈ ts ∨ (x ∈ ps ∧ x ∉ S)
  | [], ps, x, h => by simp [calledL] at h
  | t :: ts, [], x, h => by simp [calledL] at h; exact .inl (List.mem_cons.mpr h)
  | t :: ts, p :: ps, x, h => by
    have e : calledL S (t :: ts) (p :: ps) = pick S t p :: calledL S ts ps := by
      unfold calledL
      simp [Nat.succ_min_succ]
    rw [e] at h
    rcases List.mem_cons.mp h with z | z
    · unfold pick at z
      split at z
      · exact .inl (by rw [z]; exact List.mem_cons_self)
      · next c => exact .inr ⟨by rw [z]; exact List.mem_cons_self, by rw [z]; simpa using c⟩
    · rcases called_mem S ts ps x z with q | ⟨q, r⟩
      · exact .inl (List.mem_cons_of_mem _ q)
      · exact .inr ⟨List.mem_cons_of_mem _ q, r⟩
theorem called_nodup (S : List Str) : ∀ (ts ps : List Str), ts.Nodup → ps.Nodup → (∀ t ∈ ts, t ∈ S) → (calledL S ts ps).Nodup
  | [], ps, _, _, _ => by simp [calledL]
  | t :: ts, [], h, _, _ => by simpa [calledL] using h
  | t :: ts, p :: ps, h1, h2, hS => by
    have e : calledL S (t :: ts) (p :: ps) = pick S t p :: calledL S ts ps := by
      unfold calledL
      simp [Nat.succ_min_succ]
    rw [e]
    have n1 := List.nodup_cons.mp h1
    have n2 := List.nodup_cons.mp h2
    refine List.nodup_cons.mpr ⟨fun hm => ?_, called_nodup S ts ps n1.2 n2.2 fun x hx => hS x (List.mem_cons_of_mem _ hx)⟩
    rcases called_mem S ts ps _ hm with q | ⟨q, r⟩
    · unfold pick at q
      split at q
      · exact n1.1 q
      · next c => exact absurd (hS p (List.mem_cons_of_mem _ q)) (by simpa using c)
    · unfold pick at q r
      split at q
      · next c => rw [if_pos c] at r; exact r (hS t List.mem_cons_self)
      · exact n2.1 q
theorem called_len (S : List Str) (ts ps : List Str) : (calledL S ts ps).length = ts.length := by
  unfold calledL
  rw [List.length_append, List.length_zipWith, List.length_drop]
  omega
theorem called_names {S ts ps : List Str} (h1 : ∀ x ∈ ts, NameP x) (h2 : ∀ x ∈ ps, NameP x) : ∀ x ∈ calledL S ts ps, NameP x := fun x hx => by
  rcases called_mem S ts ps x hx with q | ⟨q, _⟩
  · exact h1 x q
  · exact h2 x q
theorem cut_from (xs : List V) {n : Nat} (h : n ≤ xs.length) : cutV xs (some (n : Int)) none = xs.drop n := by
  unfold cutV
  have h0 : ¬ ((n : Int) < 0) := by omega
  have h1 : min n xs.length = n := by omega
  simp [HT.sIx, h0]
  rw [List.take_of_length_le (by simp)]
  rw [h1]
theorem lcw_zip0 {K : PySem.W.Frag} {g : TG} {te : TE} {σ' : St} {fin : List V → Hp → Prop} {H1 : Hp} {a b : Addr} {xs ys : List V} (hn : min xs.length ys.length < sizeLine) (Pv : Nat → List V → St → Hp → Prop) (h0 : Pv 0 [] σ' H1)
    (hl : ∀ i zs σ H, i ≤ min xs.length ys.length → Pv i zs σ H → zs.length ≤ i ∧ SqL K H a xs ∧ SqL K H b ys)
    (hs : ∀ i x y zs σ H T, xs[i]? = some x → ys[i]? = some y → Pv i zs σ H → H T = none → g (.ref T) σ (upd H T (.tup [x, y])) fun σ2 H2 => te σ2 H2 (fun v H4 => Pv (i + 1) (zs ++ [v]) σ2 H4))
    (hd : ∀ zs σ H, Pv (min xs.length ys.length) zs σ H → fin zs H) : LcW (Itz K a b) g tYes te σ' fin H1 :=
  lcw_zip hn Pv h0 hl (fun i x y zs σ H T hx hy p hT => by
    have e : (fun σ2 H2 => tYes σ2 H2 fun b H3 => if b = true then te σ2 H3 (fun v H4 => Pv (i + 1) (zs ++ [v]) σ2 H4) else Pv (i + 1) zs σ2 H3) = fun σ2 H2 => te σ2 H2 (fun v H4 => Pv (i + 1) (zs ++ [v]) σ2 H4) := by
      funext σ2 H2
      show (if true = true then te σ2 H2 (fun v H4 => Pv (i + 1) (zs ++ [v]) σ2 H4) else Pv (i + 1) zs σ2 H2) = _
      rw [if_pos rfl]
    rw [e]
    exact hs i x y zs σ H T hx hy p hT) hd
section
variable {P : Program} {w : World} {K : PySem.W.Frag} {mg : Str → Option Value} {base : Heap}
noncomputable def spCalled : Sp := fun vs H Q _ => ∃ (p ta pa : Addr) (ts ps : List Str), vs = [.ref p, .ref ta, .ref pa] ∧ Pot H p ∧ H ta = some (.lst (ts.map V.str)) ∧ H pa = some (.lst (ps.map V.str)) ∧ ts.length ≤ 40 ∧ ps.length ≤ 8 ∧ ts.Nodup ∧ ps.Nodup ∧ (∀ x ∈ ts, NameP x) ∧ (∀ x ∈ ps, NameP x) ∧
  ∀ (q : Addr) (ns : List Str) (H' : Hp), Pot H' p → H' q = some (.lst (ns.map V.str)) → (∀ x ∈ ns, NameP x) → ns.Nodup → ns.length = ts.length → Kp [p] H H' → Q (.ref q) H'
noncomputable abbrev N44 : List Str := ["_law_pot_here", "_law_ties", "_law_places", "_law_found"]
theorem sc44 : FnScope N44 ["_law_pot_here", "_law_ties", "_law_places"] (defScope (top 44)) := ⟨rfl, rfl, rfl, by decide +kernel, rfl, by decide +kernel, by decide +kernel⟩
theorem ok_called {f : Addr} {fd : FuncData} (F : Fun K "_law_called" "_law_called" (top 44) f fd) (B : Bl mg) (Ft : Fn P w K mg base 1 "_law_take" ["_law_pot_here", "_law_many"] spTake) : FnOk P w K mg base CX0 2 f fd ["_law_pot_here", "_law_ties", "_law_places"] spCalled := by
  refine F.ok sc44 (fun vs H Q E h => ?_) (fun cdv A outer s H vs Q E hr h => ?_)
  · obtain ⟨p, ta, pa, ts, ps, rfl, _⟩ := h
    rfl
  · obtain ⟨p, ta, pa, ts, ps, rfl, hp, ht, hpl, t40, p8, tn, pn, tnm, pnm, k⟩ := h
    refine ⟨_, pss_cons (ps_if (pt_cmpR op_gt (pe_fn Ft hr (pa_cons (pv 0) (pa_cons pe_int pa_nil))) pe_int (nomark _)) (pss_one (ps_ret (pv 1))) pss_nil)
      (pss_cons (ps_setLc (i := 3) (N := ["_law_tie", "_law_place", "_law_ties"]) (ix := [none, none, some 1]) sc44.nd rfl (Or.inl rfl) ⟨rfl, rfl, rfl, by decide⟩ rfl (pi_zip rfl B.zip (pa_cons (pv 1) (pa_cons (pv 2) pa_nil)))
        (fun _ _ _ _ => pg_tupK K rfl (n := 2) (pgs_cons (pg_lc 0 (by decide) rfl rfl) (pgs_cons (pg_lc 1 (by decide) rfl rfl) pgs_nil))) (fun _ _ _ _ => pts_nil)
        (fun _ _ _ _ => pe_ifExp (pt_cmpR (notIn_seqK K) (pv 1) (pv 2) (by with_unfolding_all rfl)) (pv 1) (pv 0)))
      (pss_one (ps_ret (pe_op op_cat (pv 3) (pe_slice sl_list (pv 1) (po_some (pe_callB call_len_seq rfl B.len PySem.boot_len (pa_cons (pv 3) pa_nil))) po_none))))), ?_⟩
    refine ⟨_, rfl, p, 4, rfl, hp, by decide, by decide, fun r H1 r0 r1 P1 K1 => ⟨_, _, rfl, rfl, _, rfl, ?_⟩⟩
    have ntp := pot_ne hp ht
    have npp := pot_ne hp hpl
    have t1 := K1.at ntp ht
    have p1 := K1.at npp hpl
    refine ite2 (fun c => ⟨_, rfl, k ta ts H1 P1 t1 tnm tn rfl K1⟩) (fun c => ?_)
    refine ⟨_, rfl, _, rfl, ta, pa, _, _, rfl, SqL.of t1, SqL.of p1, ?_⟩
    refine lcw_zip0 (xs := ts.map V.str) (ys := ps.map V.str) (fits (by simp; omega)) (fun i zs σ H2 => zs = ((List.zipWith (pick ts) ts ps).take i).map V.str ∧ Same H1 H2 ∧ ∃ g1 g2, σ = [g1, g2, some (.ref ta)]) ⟨rfl, Same.refl _, _, _, rfl⟩
      (fun i zs σ H2 _ q => ⟨by rw [q.1]; simp; omega, SqL.of (q.2.1 _ _ t1), SqL.of (q.2.1 _ _ p1)⟩) ?_ ?_
    · rintro i x y zs σ H2 T hx hy ⟨rfl, s2, g1, g2, rfl⟩ hT
      rw [List.getElem?_map] at hx hy
      cases hc : ts[i]? with
      | none => rw [hc] at hx; cases hx
      | some t =>
        cases hd : ps[i]? with
        | none => rw [hd] at hy; cases hy
        | some q =>
          rw [hc] at hx
          rw [hd] at hy
          cases hx
          cases hy
          have s3 := same_upd (o := .tup [.str t, .str q]) s2 hT
          have hz : (List.zipWith (pick ts) ts ps)[i]? = some (pick ts t q) := by
            rw [List.getElem?_zipWith, hc, hd]
          have hst : ((List.zipWith (pick ts) ts ps).take (i + 1)).map V.str = ((List.zipWith (pick ts) ts ps).take i).map V.str ++ [V.str (pick ts t q)] := take_map_succ _ _ _ _ hz
          refine ⟨T, _, rfl, SqT.of upd_same, rfl, _, _, rfl, _, _, rfl, rfl, ?_⟩
          refine ⟨_, rfl, _, rfl, ta, ts.map V.str, rfl, .inl (SqL.of (s3 _ _ t1)), rfl, flat_strs ts, _, rfl, ?_⟩
          show if (!inV (.str q) (ts.map V.str)) = true then _ else _
          rw [in_strs]
          refine ite2 (fun c => ⟨_, rfl, ?_, s3, _, _, rfl⟩) (fun c => ⟨_, rfl, ?_, s3, _, _, rfl⟩)
          · rw [hst]
            have c' : decide (q ∈ ts) = false := by simpa using c
            unfold pick
            rw [c']
            rfl
          · rw [hst]
            have c' : decide (q ∈ ts) = true := by simpa using c
            unfold pick
            rw [if_pos c']
    · rintro zs σ H2 ⟨rfl, s2, g1, g2, rfl⟩ fo hfo
      have hzl : (List.zipWith (pick ts) ts ps).length = min ts.length ps.length := List.length_zipWith
      rw [take_all (List.zipWith (pick ts) ts ps) (by simp)]
      have s3 := same_upd (o := .lst ((List.zipWith (pick ts) ts ps).map V.str)) s2 hfo
      have f3 : upd H2 fo (.lst ((List.zipWith (pick ts) ts ps).map V.str)) fo = some (.lst ((List.zipWith (pick ts) ts ps).map V.str)) := upd_same
      generalize upd H2 fo (.lst ((List.zipWith (pick ts) ts ps).map V.str)) = H3 at s3 f3 ⊢
      refine ⟨_, rfl, _, rfl, _, rfl, fo, _, rfl, .inl (SqL.of f3), _, rfl, ta, _, rfl, SqL.of (s3 _ _ t1), fun c2 hc2 => ?_⟩
      rw [cut_from _ (by simp [hzl]; omega)]
      have f4 : upd H3 c2 (.lst ((ts.map V.str).drop ((List.zipWith (pick ts) ts ps).map V.str).length)) fo = some (.lst ((List.zipWith (pick ts) ts ps).map V.str)) := by rw [upd_ne (ne_of_none f3 hc2)]; exact f3
      have s4 := same_upd (o := .lst ((ts.map V.str).drop ((List.zipWith (pick ts) ts ps).map V.str).length)) s3 hc2
      refine ⟨fo, c2, _, _, rfl, rfl, f4, upd_same, by rw [sizeLine_eq]; simp [hzl]; omega, fun q hq => ?_⟩
      have eL : (List.zipWith (pick ts) ts ps).map V.str ++ (ts.map V.str).drop ((List.zipWith (pick ts) ts ps).map V.str).length = (calledL ts ts ps).map V.str := by
        unfold calledL
        rw [List.map_append, List.map_drop, List.length_map, hzl]
      rw [eL]
      have s5 := same_upd (o := .lst ((calledL ts ts ps).map V.str)) s4 hq
      refine k q (calledL ts ts ps) _ (P1.keep fun o e => s5 _ _ e) upd_same (called_names tnm pnm) (called_nodup ts ts ps tn pn fun t ht => ht) (called_len ts ts ps) (K1.of_same s5)
end
end K34

set_option Elab.async false
set_option linter.all false
set_option maxRecDepth 100000
set_option maxHeartbeats 4000000
namespace K34
open PySem L2
theorem pref_get {prs : List Pr} {i : Nat} {x : V} (h : (prefs prs)[i]? = some x) : ∃ r, prs[i]? = some r ∧ x = .ref r.1 := by
  unfold prefs at h
  rw [List.getElem?_map] at h
  cases e : prs[i]? with
  | none => rw [e] at h; cases h
  | some r => rw [e] at h; exact ⟨r, rfl, (Option.some.inj h).symm⟩
theorem pot_ne_p {H : Hp} {p t : Addr} {prs : List Pr} (h1 : Pot H p) (h2 : H t = some (.lst (prefs prs))) : t ≠ p := by
  rintro rfl
  obtain ⟨a, b, e, _⟩ := h1
  rw [e] at h2
  have h3 := HO.lst.inj (Option.some.inj h2)
  cases prs with
  | nil => cases h3
  | cons x r => cases (List.cons.inj h3).1
section
variable {P : Program} {w : World} {K : PySem.W.Frag} {mg : Str → Option Value} {base : Heap}
noncomputable def spWebG : Sp := fun vs H Q _ => ∃ (p : Addr), vs = [.ref p] ∧ Pot H p ∧
  ∀ (v u pl pa ra : Addr) (ns ps : List Str) (rs : List (Addr × Row)) (H' : Hp), Pot H' p → H' v = some (.tup [.ref u, .ref pl]) → WebAt H' u pa ra ps rs → Good ps (rs.map (·.2)) → ps.length ≤ 8 → rs.length ≤ 40 → H' pl = some (.lst (ns.map V.str)) → (∀ x ∈ ns, x ∈ ps) → 1 ≤ ns.length → ns.length ≤ 8 → (∀ x ∈ ps, x.length ≤ 7) → Kp [p] H H' → Q (.ref v) H'
noncomputable abbrev N45 : List Str := ["_law_pot_here", "_law_many", "_law_places", "_law_pairs_here", "_law_ties", "_law_rows"]
theorem sc45 : FnScope N45 ["_law_pot_here"] (defScope (top 45)) := ⟨rfl, rfl, rfl, by decide +kernel, rfl, by decide +kernel, by decide +kernel⟩
theorem ok_web {f : Addr} {fd : FuncData} (F : Fun K "_law_web" "_law_web" (top 45) f fd) (B : Bl mg) (Ft : Fn P w K mg base 1 "_law_take" ["_law_pot_here", "_law_many"] spTake) (Fn' : Fn P w K mg base 2 "_law_names" ["_law_pot_here", "_law_many"] spNames)
    (Fp : Fn P w K mg base 2 "_law_pairs" ["_law_pot_here", "_law_many"] spPairs) (Fc : Fn P w K mg base 2 "_law_called" ["_law_pot_here", "_law_ties", "_law_places"] spCalled) : FnOk P w K mg base CX0 3 f fd ["_law_pot_here"] spWebG := by
  refine F.ok sc45 (fun vs H Q E h => ?_) (fun cdv A outer s H vs Q E hr h => ?_)
  · obtain ⟨p, rfl, _⟩ := h
    rfl
  · obtain ⟨p, rfl, hp, k⟩ := h
    have hr1 : Room 1 _ := hr.mono (by decide)
    refine ⟨_, pss_cons (ps_set (i := 1) sc45.nd rfl (Or.inl rfl) (pe_ix ix_seq (pe_lst (pa_cons (pe_op op_add pe_int (pe_fn Ft hr1 (pa_cons (pv 0) (pa_cons pe_int pa_nil)))) (pa_cons (pe_op op_add pe_int (pe_fn Ft hr1 (pa_cons (pv 0) (pa_cons pe_int pa_nil)))) pa_nil)))
        (pe_callTy call_int1 rfl B.int b_int (pa_cons (pe_cmpR op_eq (pe_fn Ft hr1 (pa_cons (pv 0) (pa_cons pe_int pa_nil))) pe_int (nomark _)) pa_nil)) (fun _ _ => rfl)))
      (pss_cons (ps_set (i := 2) sc45.nd rfl (Or.inr rfl) (pe_fn Fn' hr (pa_cons (pv 0) (pa_cons (pv 1) pa_nil))))
      (pss_cons (ps_set (i := 3) sc45.nd rfl (Or.inl rfl) (pe_fn Fp hr (pa_cons (pv 0) (pa_cons (pv 1) pa_nil))))
      (pss_cons (ps_set (i := 4) sc45.nd rfl (Or.inl rfl) (pe_fn Fc hr (pa_cons (pv 0) (pa_cons (pe_fn Fn' hr (pa_cons (pv 0) (pa_cons (pe_callB call_len_seq rfl B.len PySem.boot_len (pa_cons (pv 3) pa_nil)) pa_nil))) (pa_cons (pv 2) pa_nil)))))
      (pss_cons (ps_setLc (i := 5) (N := ["_law_tie", "_law_pair", "_law_places"]) (ix := [none, none, some 2]) sc45.nd rfl (Or.inl rfl) ⟨rfl, rfl, rfl, by decide⟩ rfl (pi_zip rfl B.zip (pa_cons (pv 4) (pa_cons (pv 3) pa_nil)))
        (fun _ _ _ _ => pg_tupK K rfl (n := 2) (pgs_cons (pg_lc 0 (by decide) rfl rfl) (pgs_cons (pg_lc 1 (by decide) rfl rfl) pgs_nil))) (fun _ _ _ _ => pts_nil)
        (fun _ _ _ _ => pe_tup (pa_cons (pv 0) (pa_cons (pe_ix (ix_seqK K) (pv 2) (pe_ix (ix_seqK K) (pv 1) pe_int (fun _ _ => rfl)) (fun _ _ => rfl)) (pa_cons (pe_ix (ix_seqK K) (pv 2) (pe_ix (ix_seqK K) (pv 1) pe_int (fun _ _ => rfl)) (fun _ _ => rfl)) pa_nil)))))
      (pss_one (ps_ret (pe_tup (pa_cons (pe_tup (pa_cons (pe_callTy call_tuple_of rfl B.tuple b_tuple (pa_cons (pe_callB call_sortedS rfl B.sorted b_sorted (pa_cons (pv 2) pa_nil)) pa_nil)) (pa_cons (pe_callTy call_tuple_of rfl B.tuple b_tuple (pa_cons (pe_callB call_sortedR rfl B.sorted b_sorted (pa_cons (pv 5) pa_nil)) pa_nil)) pa_nil))) (pa_cons (pv 2) pa_nil))))))))), ?_⟩
    -- how many
    refine ⟨_, rfl, p, 6, rfl, hp, by decide, by decide, fun r1 H1 a0 a1 P1 K1 => ⟨_, _, rfl, rfl, _, rfl, p, 2, rfl, P1, by decide, by decide, fun r2 H2 b0 b1 P2 K2' => ⟨_, _, rfl, rfl, by show 2 ≤ sizeLine; decide, fun l2 hl2 => ?_⟩⟩⟩
    have nl2 := P2.ne_new hl2
    have P3 := P2.new (o := .lst [.int (1 + r1), .int (7 + r2)]) hl2
    have K3 := (K1.trans K2').new (o := .lst [.int (1 + r1), .int (7 + r2)]) hl2
    have L3 : upd H2 l2 (.lst [.int (1 + r1), .int (7 + r2)]) l2 = some (.lst [.int (1 + r1), .int (7 + r2)]) := upd_same
    generalize upd H2 l2 (.lst [.int (1 + r1), .int (7 + r2)]) = H3 at P3 K3 L3 ⊢
    refine ⟨_, rfl, p, 8, rfl, P3, by decide, by decide, fun r3 H4 c0 c1 P4 K4' => ⟨rfl, .inr ⟨_, rfl, ?_⟩⟩⟩
    have L4 := K4'.at nl2 L3
    have K4 := K3.trans K4'
    have hn : ∀ b : Bool, ∃ m : Nat, ([V.int (1 + r1), V.int (7 + r2)] : List V)[((if b = true then 1 else 0 : Int)).toNat]? = some (.int m) ∧ 1 ≤ m ∧ m ≤ 8 := fun b => by
      cases b
      · exact ⟨(1 + r1).toNat, by show some (V.int (1 + r1)) = _; rw [Int.toNat_of_nonneg (by omega)], by omega, by omega⟩
      · exact ⟨(7 + r2).toNat, by show some (V.int (7 + r2)) = _; rw [Int.toNat_of_nonneg (by omega)], by omega, by omega⟩
    obtain ⟨m, hm, m1, m8⟩ := hn (decide (V.int r3 = V.int 0))
    refine rix_of (j := ((if decide (V.int r3 = V.int 0) = true then 1 else 0 : Int)).toNat) (.inl (SqL.of L4)) (by split <;> rfl) hm ?_
    -- places, pairs, ties
    refine ⟨_, rfl, _, rfl, p, m, rfl, P4, by omega, fun pl ns H5 P5 n5 _ nnm nnd nlen nsh K5' => ?_⟩
    have K5 := K4.trans K5'
    have npl := pot_ne P5 n5
    refine ⟨_, rfl, _, rfl, p, m, rfl, P5, m1, m8, fun pq prs H6 P6 q6 _ A6 O6 z6 K6' => ?_⟩
    have K6 := K5.trans K6'
    have n6 := K6'.at npl n5
    have npq := pot_ne_p P6 q6
    have hpz : (prefs prs).length = prs.length := by simp
    refine ⟨_, rfl, _, rfl, _, rfl, pq, _, rfl, .inl (SqL.of q6), p, (prefs prs).length, rfl, P6, by omega, fun ta ts H7 P7 t7 _ tnm tnd tlen _ K7' => ?_⟩
    have K7 := K6.trans K7'
    have n7 := K7'.at npl n6
    have q7 := K7'.at npq q6
    have A7 := A6.kp K7' P6
    refine ⟨_, rfl, p, ta, pl, ts, ns, rfl, P7, t7, n7, by omega, by omega, tnd, nnd, tnm, nnm, fun tc tn H8 P8 c8 cnm cnd clen K8' => ?_⟩
    have K8 := K7.trans K8'
    have n8 := K8'.at npl n7
    have q8 := K8'.at npq q7
    have A8 := A7.kp K8' P7
    have hcl : tn.length = prs.length := by omega
    -- rows
    refine ⟨_, rfl, _, rfl, tc, pq, _, _, rfl, SqL.of c8, SqL.of q8, ?_⟩
    refine lcw_zip0 (xs := tn.map V.str) (ys := prefs prs) (fits (by simp; omega)) (fun i zs σ H2 => (∃ rr : List (Addr × Row), zs = rrefs rr ∧ (∀ r ∈ rr, RowAt H2 r.1 r.2) ∧ nms rr = tn.take i ∧ (∀ r ∈ rr, r.2.2.1 ∈ ns ∧ r.2.2.2 ∈ ns ∧ r.2.2.1 ≠ r.2.2.2)) ∧ Same H8 H2 ∧ ∃ g1 g2, σ = [g1, g2, some (.ref pl)])
      ⟨⟨[], rfl, by simp, rfl, by simp⟩, Same.refl _, _, _, rfl⟩ (fun i zs σ H2 hi q => ?_) ?_ ?_
    · obtain ⟨⟨rr, rfl, _, e, _⟩, s2, _⟩ := q
      have := congrArg List.length e
      rw [nms, List.length_map, List.length_take] at this
      exact ⟨by simp [this]; omega, SqL.of (s2 _ _ c8), SqL.of (s2 _ _ q8)⟩
    · rintro i x y zs σ H2 T hx hy ⟨⟨rr, rfl, Ra, e, Ro⟩, s2, g1, g2, rfl⟩ hT
      rw [List.getElem?_map] at hx
      obtain ⟨pr, hpr, rfl⟩ := pref_get hy
      cases hc : tn[i]? with
      | none => rw [hc] at hx; cases hx
      | some t =>
        rw [hc] at hx
        cases hx
        have hpm := List.mem_of_getElem? hpr
        obtain ⟨o1, o2, o3, o4, o5⟩ := O6 pr hpm
        have s3 := same_upd (o := .tup [.str t, .ref pr.1]) s2 hT
        have pr3 := s3 _ _ (A8 pr hpm)
        have n3 := s3 _ _ n8
        have ia : pr.2.1.toNat < ns.length := by omega
        have ib : pr.2.2.toNat < ns.length := by omega
        refine ⟨T, _, rfl, SqT.of upd_same, rfl, _, _, rfl, _, _, rfl, rfl, ?_⟩
        refine ⟨_, rfl, _, rfl, _, rfl, rix_of (j := 0) (.inr (SqT.of pr3)) rfl rfl (rix_of (j := pr.2.1.toNat) (.inl (SqL.of n3)) (by omega) (strAt ia) ?_)⟩
        refine ⟨_, rfl, _, rfl, rix_of (j := 1) (.inr (SqT.of pr3)) rfl rfl (rix_of (j := pr.2.2.toNat) (.inl (SqL.of n3)) (by omega) (strAt ib) ?_)⟩
        refine ⟨by show 3 ≤ sizeLine; decide, fun n hn => ?_⟩
        have hab : ns[pr.2.1.toNat] ≠ ns[pr.2.2.toNat] := by
          have hne : pr.2.1.toNat ≠ pr.2.2.toNat := by omega
          rcases Nat.lt_or_gt_of_ne hne with y | y
          · exact List.pairwise_iff_getElem.mp nnd _ _ ia ib y
          · exact fun z => List.pairwise_iff_getElem.mp nnd _ _ ib ia y z.symm
        have s4 := same_upd (o := .tup [.str t, .str ns[pr.2.1.toNat], .str ns[pr.2.2.toNat]]) s3 hn
        have s24 := same_upd (o := .tup [.str t, .str ns[pr.2.1.toNat], .str ns[pr.2.2.toNat]]) (same_upd (o := .tup [.str t, .ref pr.1]) (Same.refl H2) hT) hn
        refine ⟨⟨rr ++ [(n, (t, ns[pr.2.1.toNat], ns[pr.2.2.toNat]))], by simp [rrefs], fun r hr => ?_, ?_, fun r hr => ?_⟩, s4, _, _, rfl⟩
        · rcases List.mem_append.mp hr with z | z
          · exact s24 _ _ (Ra r z)
          · have e' : r = (n, (t, ns[pr.2.1.toNat], ns[pr.2.2.toNat])) := by simpa using z
            subst e'; exact upd_same
        · rw [nms, List.map_append]
          show nms rr ++ [t] = _
          rw [e, List.take_add_one, hc]
          rfl
        · rcases List.mem_append.mp hr with z | z
          · exact Ro r z
          · have e' : r = (n, (t, ns[pr.2.1.toNat], ns[pr.2.2.toNat])) := by simpa using z
            subst e'; exact ⟨List.getElem_mem ia, List.getElem_mem ib, hab⟩
    rintro zs σ H9 ⟨⟨rr, rfl, Ra, e, Ro⟩, s9, g1, g2, rfl⟩ rw hrw
    have en : nms rr = tn := by rw [e, take_all tn (by simp; omega)]
    have hrl : rr.length = tn.length := by rw [← en]; simp
    have s10 := same_upd (o := .lst (rrefs rr)) s9 hrw
    have Ra10 : ∀ r ∈ rr, RowAt (upd H9 rw (.lst (rrefs rr))) r.1 r.2 := fun r hr => same_upd (Same.refl H9) hrw _ _ (Ra r hr)
    have w10 : upd H9 rw (.lst (rrefs rr)) rw = some (.lst (rrefs rr)) := upd_same
    generalize upd H9 rw (.lst (rrefs rr)) = H10 at s10 Ra10 w10 ⊢
    have n10 := s10 _ _ n8
    -- the web
    refine ⟨_, rfl, pl, ns, rfl, SqL.of n10, by omega, fun ps q hpm hso hq => ?_⟩
    have pnd : ps.Nodup := hpm.nodup_iff.mpr nnd
    have hpl : ps.length = ns.length := hpm.length_eq
    have t1 := same_upd (o := .lst (ps.map V.str)) (Same.refl H10) hq
    refine ⟨q, _, rfl, .inl ⟨SqL.of upd_same, fun pa hpa => ?_⟩⟩
    have t2 := same_upd (o := .tup (ps.map V.str)) t1 hpa
    have a11 : upd (upd H10 q (.lst (ps.map V.str))) pa (.tup (ps.map V.str)) pa = some (.tup (ps.map V.str)) := upd_same
    generalize upd (upd H10 q (.lst (ps.map V.str))) pa (.tup (ps.map V.str)) = H11 at t2 a11 ⊢
    refine ⟨_, rfl, rw, rr.map fun r => (r.1, r.2.1), rfl, .inl (SqL.of (by rw [key_refs]; exact t2 _ _ w10)), fun y hy => ?_, by rw [List.length_map]; omega, ?_, fun rs1 q2 hpm2 hpw hq2 => ?_⟩
    · obtain ⟨x, hx, rfl⟩ := List.mem_map.mp hy
      exact ⟨_, t2 _ _ (Ra10 x hx)⟩
    · rw [List.map_map]
      show (nms rr).Nodup
      rw [en]; exact cnd
    obtain ⟨rs', hp2, e2'⟩ := perm_lift (fun r : Addr × Row => (r.1, r.2.1)) rs1 _ hpm2
    subst e2'
    rw [key_refs]
    have u1 := same_upd (o := .lst (rrefs rs')) (Same.refl H11) hq2
    refine ⟨q2, _, rfl, .inl ⟨SqL.of upd_same, fun ra hra => ?_⟩⟩
    have u2 := same_upd (o := .tup (rrefs rs')) u1 hra
    refine ⟨by show 2 ≤ sizeLine; decide, fun u hu => ?_⟩
    have u3 := same_upd (o := .tup [.ref pa, .ref ra]) u2 hu
    refine ⟨_, rfl, by show 2 ≤ sizeLine; decide, fun v hv => ?_⟩
    have u4 := same_upd (o := .tup [.ref u, .ref pl]) u3 hv
    have hur : ra ≠ u := fun z => by rw [← z, upd_same] at hu; cases hu
    have hvu : u ≠ v := fun z => by rw [← z, upd_same] at hv; cases hv
    have hvr : ra ≠ v := fun z => by rw [← z, upd_ne hur, upd_same] at hv; cases hv
    have s8v := s10.trans (t2.trans u4)
    have hin : ∀ x ∈ ns, x ∈ ps := fun x hx => hpm.mem_iff.mpr hx
    refine k v u pl pa ra ns ps rs' _ (P8.keep fun o e => s8v _ _ e) upd_same ⟨?_, u4 _ _ a11, ?_, fun x hx => u4 _ _ (t2 _ _ (Ra10 x (hp2.mem_iff.mp hx)))⟩ ⟨?_, fun x hx => nnm x (hpm.mem_iff.mp hx), sorted_pw hso pnd, fun r hr => ?_, ?_, by omega, ?_⟩ (by omega) (by rw [hp2.length_eq]; omega) (s8v _ _ n8) hin (by omega) (by omega) (fun x hx => nsh (by omega) x (hpm.mem_iff.mp hx)) (K8.of_same s8v)
    · rw [upd_ne hvu, upd_same]
    · rw [upd_ne hvr, upd_ne hur, upd_same]
    · intro z; rw [z] at hpl; simp at hpl; omega
    · obtain ⟨x, hx, rfl⟩ := List.mem_map.mp hr
      have hxr := hp2.mem_iff.mp hx
      obtain ⟨y1, y2, y3⟩ := Ro x hxr
      exact ⟨cnm _ (by rw [← en]; exact List.mem_map_of_mem (f := fun z : Addr × Row => z.2.1) hxr), hin _ y1, hin _ y2, y3⟩
    · rw [List.map_map] at hpw ⊢; exact hpw
    · rw [List.length_map, hp2.length_eq]; omega
end
end K34

set_option Elab.async false
set_option linter.all false
set_option maxRecDepth 100000
set_option maxHeartbeats 4000000
namespace K34
open PySem L2
/-! ### data of any shape -/
theorem iteNT {c A B : Prop} [Decidable c] (hc : ¬ c) (h : A) : if (!decide c) = true then A else B := by
  rw [decide_eq_false hc]; exact iteT h
noncomputable def okS (s : Str) : Prop := s.length ≤ 100 ∧ s.cps.all (· < 128) = true
inductive Dok : PyData → Prop
  | non : Dok .none
  | bl (b : Bool) : Dok (.bool b)
  | int (i : Int) : Dok (.int i)
  | str (s : Str) (h : okS s) : Dok (.str s)
  | tup (ds : List PyData) (hl : ds.length ≤ 60) (h : ∀ d ∈ ds, Dok d) : Dok (.tuple ds)
  | lst (ds : List PyData) (hl : ds.length ≤ 60) (h : ∀ d ∈ ds, Dok d) (hn : ∀ i j, ds ≠ [.int i, .int j]) : Dok (.list ds)
mutual
theorem DV.same {H H' : Hp} (s : Same H H') : ∀ {x : V} {d : PyData}, DV H x d → DV H' x d
  | _, _, .non => .non
  | _, _, .bl b => .bl b
  | _, _, .int i => .int i
  | _, _, .str x => .str x
  | _, _, .tup e q => .tup (s _ _ e) (DVs.same s q)
  | _, _, .lst e q => .lst (s _ _ e) (DVs.same s q)
theorem DVs.same {H H' : Hp} (s : Same H H') : ∀ {xs : List V} {ds : List PyData}, DVs H xs ds → DVs H' xs ds
  | _, _, .nil => .nil
  | _, _, .cons a b => .cons (DV.same s a) (DVs.same s b)
end
theorem DVs.len {H : Hp} : ∀ {xs : List V} {ds : List PyData}, DVs H xs ds → xs.length = ds.length
  | _, _, .nil => rfl
  | _, _, .cons _ b => by rw [List.length_cons, List.length_cons, DVs.len b]
theorem DVs.at {H : Hp} : ∀ {xs : List V} {ds : List PyData}, DVs H xs ds → ∀ {i : Nat} {x : V}, xs[i]? = some x → ∃ d, ds[i]? = some d ∧ DV H x d
  | _, _, .nil, i, x, h => by simp at h
  | _, _, .cons a b, 0, x, h => by cases h; exact ⟨_, rfl, a⟩
  | _, _, .cons a b, i + 1, x, h => DVs.at b (i := i) (by simpa using h)
/-- the rows of strings that data holds -/
theorem DVs.txt {H : Hp} : ∀ {xs : List V} {ss : List Str}, DVs H xs (ss.map PyData.str) → xs = ss.map V.str
  | _, [], .nil => rfl
  | _, s :: r, .cons a b => by cases a; rw [DVs.txt b]; rfl
noncomputable def az (c : Nat) : Bool := decide (97 ≤ c) && decide (c ≤ 122)
noncomputable def okName (s : Str) : Bool := decide (1 ≤ s.length) && decide (s.length ≤ 8) && s.cps.toList.all az
theorem okName_iff {s : Str} : okName s = true ↔ NameP s := by
  unfold okName az
  constructor
  · intro h
    simp only [Bool.and_eq_true, decide_eq_true_eq, List.all_eq_true] at h
    exact ⟨h.1.1, h.1.2, h.2⟩
  · intro h
    simp only [Bool.and_eq_true, decide_eq_true_eq, List.all_eq_true]
    exact ⟨⟨h.lo, h.hi⟩, h.az⟩
noncomputable def nameD : PyData → Bool
  | .str s => okName s
  | _ => false
theorem nameD_str {d : PyData} (h : nameD d = true) : ∃ s, d = .str s ∧ NameP s := by
  cases d with
  | str s => exact ⟨s, rfl, okName_iff.mp h⟩
  | _ => cases h
theorem all_names {ds : List PyData} : ds.all nameD = true → ∃ ss : List Str, ds = ss.map PyData.str ∧ ∀ x ∈ ss, NameP x := by
  induction ds with
  | nil => intro _; exact ⟨[], rfl, by simp⟩
  | cons d r ih =>
    intro h
    rw [List.all_cons, Bool.and_eq_true] at h
    obtain ⟨s, rfl, hs⟩ := nameD_str h.1
    obtain ⟨ss, rfl, hss⟩ := ih h.2
    exact ⟨s :: ss, rfl, fun x hx => by
      rcases List.mem_cons.mp hx with e | e
      · rw [e]; exact hs
      · exact hss x e⟩
section
variable {P : Program} {w : World} {K : PySem.W.Frag} {mg : Str → Option Value} {base : Heap}
noncomputable def spNameD : Sp := fun vs H Q _ => ∃ (x : V) (d : PyData), vs = [x] ∧ DV H x d ∧ Dok d ∧ ∀ H', Same H H' → Q (.bl (nameD d)) H'
theorem ok_nameD {f : Addr} {fd : FuncData} (F : Fun K "is_name" "is_name" (top 15) f fd) (B : Bl mg) : FnOk P w K mg base CX0 1 f fd ["thing"] spNameD := by
  refine F.ok sc15 (fun vs H Q E h => ?_) (fun cdv A outer s H vs Q E hr h => ?_)
  · obtain ⟨x, d, rfl, _⟩ := h
    rfl
  · obtain ⟨x, d, rfl, hx, hd, k⟩ := h
    obtain ⟨tl, hl⟩ := B.lng
    refine ⟨_, pss_cons (ps_if (PW.pt (pw_or (pt_not (pt_val (pe_callB (call_isinst (T := "str")) rfl B.isinstance b_isinstance (pa_cons (pv 0) (pa_cons (pe_bltn (v := .ty "str") rfl B.str b_str rfl) pa_nil)))))
        (pw_or1 (pt_not (pt_chain op_le op_le pe_int (pe_callB call_len_str rfl B.len PySem.boot_len (pa_cons (pv 0) pa_nil)) (pe_glob (v := .int 8) rfl hl ⟨_, rfl⟩)))))) (pss_one (ps_ret pe_bl)) pss_nil)
      (pss_one (ps_ret (pe_callB (call_allB rfl) rfl B.all b_all (pa_cons (pe_lc (N := ["letter"]) (ix := [none]) ⟨rfl, rfl, rfl, by decide⟩ rfl (pi_str (pv 0)) (fun _ _ _ _ => pg_lc 0 (by decide) rfl rfl) (fun _ _ _ _ => pts_nil)
        (fun _ _ _ _ => pe_chain op_le_str op_le_str pe_str (pv 0) pe_str)) pa_nil)))), ?_⟩
    have kF : nameD d = false → Q (.bl false) H := fun e => by have := k H (Same.refl _); rw [e] at this; exact this
    cases hx with
    | non => exact ⟨_, rfl, _, _, false, rfl, .non, rfl, false, rfl, iteT (iteT (kF rfl))⟩
    | int i => exact ⟨_, rfl, _, _, false, rfl, .int i, rfl, false, rfl, iteT (iteT (kF rfl))⟩
    | bl b => exact ⟨_, rfl, _, _, false, rfl, .bl b, rfl, false, rfl, iteT (iteT (kF rfl))⟩
    | tup e _ => exact ⟨_, rfl, _, _, false, rfl, .tup e, rfl, false, rfl, iteT (iteT (kF rfl))⟩
    | lst e _ => exact ⟨_, rfl, _, _, false, rfl, .lst e, rfl, false, rfl, iteT (iteT (kF rfl))⟩
    | str x =>
      obtain ⟨hx1, hx2⟩ : okS x := by cases hd with | str _ h => exact h
      refine ⟨_, rfl, _, _, true, rfl, .str x, ?kit, true, rfl, iteF ?_⟩
      case kit => rfl
      refine ⟨_, rfl, x, rfl, Nat.le_of_lt (fits (by omega)), _, _, rfl, rfl, _, rfl, ?_⟩
      by_cases c1 : 1 ≤ x.length
      · refine iteD (by omega) ⟨_, _, rfl, rfl, _, rfl, ?_⟩
        by_cases c2 : x.length ≤ 8
        · refine iteNS (by omega) ?_
          refine ⟨_, rfl, x, rfl, hx2, lcw_str0 (fits (by omega)) (fun i ys σ H1 => ys = (x.cps.toList.take i).map (fun c => V.bl (az c)) ∧ Same H H1 ∧ ∃ v, σ = [v]) ⟨rfl, Same.refl _, _, rfl⟩ (fun i ys σ H1 hi q => by rw [q.1]; simp; omega) ?_ ?_⟩
          · rintro i c ys σ H1 hc ⟨rfl, hs, v, rfl⟩
            have hc' : x.cps.toList[i]? = some c := by simpa using hc
            have en : (x.cps.toList.take (i + 1)).map (fun c => V.bl (az c)) = (x.cps.toList.take i).map (fun c => V.bl (az c)) ++ [V.bl (az c)] := (take_map_succ _ _ _ _ hc')
            refine ⟨_, rfl, _, _, rfl, rfl, _, rfl, ?_⟩
            show if (!decide ([c] < [97])) = true then _ else _
            by_cases d1 : 97 ≤ c
            · refine iteNT (by rw [lt1]; omega) ⟨_, _, rfl, rfl, ?_, hs, _, rfl⟩
              show _ ++ [V.bl (!decide ([122] < [c]))] = _
              rw [en]
              have : (!decide ([122] < [c])) = az c := by
                unfold az
                rw [decide_eq_true d1]
                by_cases d2 : c ≤ 122
                · rw [decide_eq_false (by rw [lt1]; omega), decide_eq_true d2]; rfl
                · rw [decide_eq_true (by rw [lt1]; omega), decide_eq_false d2]; rfl
              rw [this]
            · refine iteNS (by rw [lt1]; omega) ⟨?_, hs, _, rfl⟩
              rw [en]
              have : az c = false := by unfold az; rw [decide_eq_false d1]; rfl
              rw [this]
          · rintro ys σ H1 ⟨rfl, hs, v, rfl⟩ p hp
            have ea : (x.cps.toList.take x.length).map (fun c => V.bl (az c)) = (x.cps.toList.map az).map V.bl := by
              rw [List.take_of_length_le (by simp [Str.length]), List.map_map]; rfl
            rw [ea]
            refine ⟨p, x.cps.toList.map az, rfl, SqL.of upd_same, ?_⟩
            have e : (x.cps.toList.map az).all id = okName x := by
              unfold okName
              rw [decide_eq_true c1, decide_eq_true c2, List.all_map]; rfl
            rw [e]
            exact k _ (same_upd hs hp)
        · refine iteNT (by omega) ?_
          have e : okName x = false := by unfold okName; rw [decide_eq_false c2]; simp
          exact kF e
      · refine iteDN (by omega) ?_
        have e : okName x = false := by unfold okName; rw [decide_eq_false c1]; rfl
        exact ⟨_, rfl, iteT (kF e)⟩
end
end K34

set_option Elab.async false
set_option linter.all false
set_option maxRecDepth 100000
set_option maxHeartbeats 4000000
namespace K34
open PySem L2
theorem FnOk.or {P : Program} {w : World} {K : PySem.W.Frag} {mg : Str → Option Value} {base : Heap} {CX : CXT} {k : Nat} {f : Addr} {fd : FuncData} {ps : List Str} {sp sp' : Sp} (F : FnOk P w K mg base CX k f fd ps sp) (G : FnOk P w K mg base CX k f fd ps sp') :
    FnOk P w K mg base CX k f fd ps (fun vs H Q E => sp vs H Q E ∨ sp' vs H Q E) :=
  ⟨fun vs H Q E h => h.elim (F.len vs H Q E) (G.len vs H Q E), fun A outer s H args us vs Q E hr he hb hv hs => hs.elim (F.run A outer s H args us vs Q E hr he hb hv) (G.run A outer s H args us vs Q E hr he hb hv)⟩
theorem adj_pw {ss : List Str} (h : ∀ i (hi : i + 1 < ss.length), nlt ss[i] ss[i + 1]) : ss.Pairwise nlt := by
  rw [List.pairwise_iff_getElem]
  have key : ∀ (k i : Nat) (hk : i + k + 1 < ss.length), nlt ss[i] (ss[i + k + 1]'hk) := by
    intro k
    induction k with
    | zero => intro i hk; exact h i hk
    | succ k ih =>
      intro i hk
      have h1 := ih i (by omega)
      have h2 := h (i + k + 1) (by omega)
      exact List.lt_trans h1 h2
  intro i j hi hj hij
  have := key (j - i - 1) i (by omega)
  have e : i + (j - i - 1) + 1 = j := by omega
  simpa [e] using this
section
variable {P : Program} {w : World} {K : PySem.W.Frag} {mg : Str → Option Value} {base : Heap}
noncomputable def spRisingN (K : PySem.W.Frag) : Sp := fun vs H Q _ => ∃ (p : Addr) (ss : List Str), vs = [.ref p] ∧ Sq K H p (ss.map V.str) ∧ ¬ ss.Pairwise nlt ∧ ss.length ≤ 1000 ∧ ∀ H', Same H H' → Q (.bl false) H'
theorem ok_is_risingN {f : Addr} {fd : FuncData} (F : Fun K "is_rising" "is_rising" (top 17) f fd) (B : Bl mg) : FnOk P w K mg base CX0 1 f fd ["names"] (spRisingN K) := by
  refine F.ok sc17 (fun vs H Q E h => ?_) (fun cdv A outer s H vs Q E hr h => ?_)
  · obtain ⟨p, ss, rfl, _⟩ := h
    rfl
  · obtain ⟨p, ss, rfl, hq, hp, hz, k⟩ := h
    refine ⟨_, pss_one (ps_ret (pe_callB (call_allB rfl) rfl B.all b_all (pa_cons (pe_lc (N := ["at", "names"]) (ix := [none, some 0]) ⟨rfl, rfl, rfl, by decide⟩ rfl
      (pi_range2 rfl B.range (pa_cons pe_int (pa_cons (pe_callB call_len_seq rfl B.len PySem.boot_len (pa_cons (pv 0) pa_nil)) pa_nil))) (fun _ _ _ _ => pg_lc 0 (by decide) rfl rfl) (fun _ _ _ _ => pts_nil)
      (fun _ _ _ _ => pe_cmpR op_lt_str (pe_ix (ix_seqK K) (pv 1) (pe_op op_sub (pv 0) pe_int) (fun _ _ => rfl)) (pe_ix (ix_seqK K) (pv 1) (pv 0) (fun _ _ => rfl)) (nomark _))) pa_nil))), ?_⟩
    have hz' : (ss.map V.str).length ≤ 1000 := by simpa using hz
    let at' : Nat → Bool := fun j => decide ((ss.getD j default).cps.toList < (ss.getD (j + 1) default).cps.toList)
    refine ⟨_, rfl, p, ss.map V.str, rfl, hq, 1, _, rfl, ⟨by decide, by decide, by omega, by omega⟩, lcw_range0 (fits (by omega)) (fun i ys σ H1 => ys = ((List.range i).map at').map V.bl ∧ Same H H1 ∧ ∃ v, σ = [v, some (.ref p)])
      ⟨rfl, Same.refl _, _, rfl⟩ (fun i ys σ H1 _ q => by rw [q.1]; simp) ?_ ?_⟩
    · rintro i ys σ H1 hi ⟨rfl, hs, v, rfl⟩
      have hl : i + 1 < ss.length := by rw [List.length_map] at hi; omega
      refine ⟨_, rfl, _, rfl, _, _, rfl, rfl, rix_of (j := i) (hq.same hs) (by omega) (strAt (by omega)) ⟨_, rfl, _, rfl, rix_of (j := i + 1) (hq.same hs) (by push_cast; omega) (strAt hl) ⟨_, _, rfl, rfl, ?_, hs, _, rfl⟩⟩⟩
      have e1 : ss.getD i default = ss[i] := by rw [List.getD_eq_getElem?_getD, List.getElem?_eq_getElem (by omega)]; rfl
      have e2 : ss.getD (i + 1) default = ss[i + 1] := by rw [List.getD_eq_getElem?_getD, List.getElem?_eq_getElem hl]; rfl
      show _ ++ [V.bl (decide (ss[i].cps.toList < ss[i + 1].cps.toList))] = _
      rw [List.range_succ, List.map_append, List.map_append]
      show _ = _ ++ [V.bl (decide ((ss.getD i default).cps.toList < (ss.getD (i + 1) default).cps.toList))]
      rw [e1, e2]
    · rintro ys σ H1 ⟨rfl, hs, v, rfl⟩ q hqn
      refine ⟨q, _, rfl, SqL.of upd_same, ?_⟩
      have e : (((List.range (((ss.map V.str).length : Int) - 1).toNat).map at').all id) = false := by
        cases c : (((List.range (((ss.map V.str).length : Int) - 1).toNat).map at').all id) with
        | false => rfl
        | true =>
          refine absurd (adj_pw fun i hi => ?_) hp
          have := List.all_eq_true.mp c (at' i) (List.mem_map.mpr ⟨i, List.mem_range.mpr (by rw [List.length_map]; omega), rfl⟩)
          have h2 : (ss.getD i default).cps.toList < (ss.getD (i + 1) default).cps.toList := of_decide_eq_true this
          have e1 : ss.getD i default = ss[i] := by rw [List.getD_eq_getElem?_getD, List.getElem?_eq_getElem (by omega)]; rfl
          have e2 : ss.getD (i + 1) default = ss[i + 1] := by rw [List.getD_eq_getElem?_getD, List.getElem?_eq_getElem hi]; rfl
          rw [e1, e2] at h2
          exact h2
      rw [e]
      exact k _ (same_upd hs hqn)
noncomputable def risB (ss : List Str) : Bool := @decide (ss.Pairwise nlt) (Classical.propDecidable _)
theorem risB_t {ss : List Str} : risB ss = true ↔ ss.Pairwise nlt := @decide_eq_true_iff _ (Classical.propDecidable _)
theorem risB_f {ss : List Str} (h : ¬ ss.Pairwise nlt) : risB ss = false := @decide_eq_false _ (Classical.propDecidable _) h
noncomputable def spRisingD (K : PySem.W.Frag) : Sp := fun vs H Q _ => ∃ (p : Addr) (ss : List Str), vs = [.ref p] ∧ Sq K H p (ss.map V.str) ∧ ss.length ≤ 1000 ∧ ∀ H', Same H H' → Q (.bl (risB ss)) H'
theorem ok_risingD {f : Addr} {fd : FuncData} (F : Fun K "is_rising" "is_rising" (top 17) f fd) (B : Bl mg) : FnOk P w K mg base CX0 1 f fd ["names"] (spRisingD K) :=
  (FnOk.or (ok_is_rising F B) (ok_is_risingN F B)).imp fun vs H Q E h => by
    obtain ⟨p, ss, e, hq, hz, k⟩ := h
    by_cases c : ss.Pairwise nlt
    · exact .inl ⟨p, ss, e, hq, c, hz, fun H' s => by have := k H' s; rw [risB_t.mpr c] at this; exact this⟩
    · exact .inr ⟨p, ss, e, hq, c, hz, fun H' s => by have := k H' s; rw [risB_f c] at this; exact this⟩
/-! ### sorted names -/
noncomputable def txts (ds : List PyData) : List Str := ds.filterMap fun | .str s => some s | _ => none
theorem txts_map (ss : List Str) : txts (ss.map PyData.str) = ss := by
  unfold txts
  induction ss with
  | nil => rfl
  | cons s r ih => rw [List.map_cons, List.filterMap_cons]; simp only [ih]
noncomputable def sortedD : PyData → Bool
  | .tuple ds => ds.all nameD && risB (txts ds)
  | _ => false
theorem sortedD_t {d : PyData} (h : sortedD d = true) : ∃ ss : List Str, d = .tuple (ss.map PyData.str) ∧ (∀ x ∈ ss, NameP x) ∧ ss.Pairwise nlt := by
  cases d with
  | tuple ds =>
    unfold sortedD at h
    rw [Bool.and_eq_true] at h
    obtain ⟨ss, rfl, hs⟩ := all_names h.1
    exact ⟨ss, rfl, hs, by have := risB_t.mp h.2; rwa [txts_map] at this⟩
  | _ => cases h
noncomputable def spSortedD : Sp := fun vs H Q _ => ∃ (x : V) (d : PyData), vs = [x] ∧ DV H x d ∧ Dok d ∧ ∀ H', Same H H' → Q (.bl (sortedD d)) H'
theorem ok_sortedD {f : Addr} {fd : FuncData} (F : Fun K "is_sorted_names" "is_sorted_names" (top 18) f fd) (B : Bl mg) (F1 : Fn P w K mg base 1 "is_name" ["thing"] spNameD) (F2 : Fn P w K mg base 1 "is_rising" ["names"] (spRisingD K)) :
    FnOk P w K mg base CX0 2 f fd ["thing"] spSortedD := by
  refine F.ok sc18 (fun vs H Q E h => ?_) (fun cdv A outer s H vs Q E hr h => ?_)
  · obtain ⟨x, d, rfl, _⟩ := h
    rfl
  · obtain ⟨x, d, rfl, hx, hd, k⟩ := h
    refine ⟨_, pss_cons (ps_if (pt_not (pt_val (pe_callB (call_isinst (T := "tuple")) rfl B.isinstance b_isinstance (pa_cons (pv 0) (pa_cons (pe_bltn (v := .ty "tuple") rfl B.tuple b_tuple rfl) pa_nil))))) (pss_one (ps_ret pe_bl)) pss_nil)
      (pss_one (ps_ret (pe_and (pe_callB (call_allB rfl) rfl B.all b_all (pa_cons (pe_lc (N := ["name"]) (ix := [none]) ⟨rfl, rfl, rfl, by decide⟩ rfl (pi_tup (pv 0)) (fun _ _ _ _ => pg_lc 0 (by decide) rfl rfl) (fun _ _ _ _ => pts_nil)
        (fun _ _ _ _ => pe_fn F1 hr (pa_cons (pv 0) pa_nil))) pa_nil)) (pe_one (pe_fn F2 hr (pa_cons (pv 0) pa_nil)))))), ?_⟩
    have kF : sortedD d = false → Q (.bl false) H := fun e => by have := k H (Same.refl _); rw [e] at this; exact this
    cases hx with
    | non => exact ⟨_, rfl, _, _, false, rfl, .non, rfl, false, rfl, iteT (kF rfl)⟩
    | int i => exact ⟨_, rfl, _, _, false, rfl, .int i, rfl, false, rfl, iteT (kF rfl)⟩
    | bl b => exact ⟨_, rfl, _, _, false, rfl, .bl b, rfl, false, rfl, iteT (kF rfl)⟩
    | str z => exact ⟨_, rfl, _, _, false, rfl, .str z, rfl, false, rfl, iteT (kF rfl)⟩
    | lst e _ => exact ⟨_, rfl, _, _, false, rfl, .lst e, rfl, false, rfl, iteT (kF rfl)⟩
    | @tup p xs ds hp q =>
      obtain ⟨hz, hds⟩ : ds.length ≤ 60 ∧ ∀ d ∈ ds, Dok d := by cases hd with | tup _ a b => exact ⟨a, b⟩
      have hxl := DVs.len q
      refine ⟨_, rfl, _, _, true, rfl, .tup hp, rfl, true, rfl, iteF ?_⟩
      refine ⟨_, rfl, p, rfl, ⟨_, SqT.of hp⟩, lcw_tup0 (xs := xs) (fits (by omega)) (fun i ys σ H1 => ys = (ds.take i).map (fun d => V.bl (nameD d)) ∧ Same H H1 ∧ ∃ v, σ = [v]) ⟨rfl, Same.refl _, _, rfl⟩
        (fun i ys σ H1 _ q => ⟨by rw [q.1]; simp; omega, same_tup q.2.1 (SqT.of hp)⟩) ?_ ?_⟩
      · rintro i x ys σ H1 hx ⟨rfl, hs1, v, rfl⟩
        obtain ⟨d', hd', dv⟩ := DVs.at q hx
        exact ⟨_, rfl, x, d', rfl, DV.same hs1 dv, hds d' (List.mem_of_getElem? hd'), fun H2 hs2 => ⟨(take_map_succ _ _ _ _ hd').symm, hs1.trans hs2, _, rfl⟩⟩
      · rintro ys σ H1 ⟨rfl, hs1, v, rfl⟩ r hr'
        have ea : (ds.take xs.length).map (fun d => V.bl (nameD d)) = (ds.map nameD).map V.bl := by rw [hxl, List.take_length, List.map_map]; rfl
        rw [ea]
        have hs2 := same_upd (o := .lst ((ds.map nameD).map V.bl)) hs1 hr'
        refine ⟨r, ds.map nameD, rfl, SqL.of upd_same, _, rfl, ?_⟩
        have e2 : (ds.map nameD).all id = ds.all nameD := by rw [List.all_map]; rfl
        rw [e2]
        cases c : ds.all nameD with
        | false =>
          have := k _ hs2
          have e : sortedD (.tuple ds) = false := by show (ds.all nameD && _) = false; rw [c]; rfl
          rw [e] at this
          exact iteF this
        | true =>
          obtain ⟨ss, rfl, hss⟩ := all_names c
          have ex := DVs.txt q
          subst ex
          refine iteT ⟨_, rfl, p, ss, rfl, .inr (same_tup hs2 (SqT.of hp)), by simp at hz; omega, fun H3 hs3 => ?_⟩
          have := k _ (hs2.trans hs3)
          have e : sortedD (.tuple (ss.map PyData.str)) = risB ss := by show ((ss.map PyData.str).all nameD && risB (txts _)) = _; rw [c, txts_map]; rfl
          rw [e] at this
          exact this
/-! ### among -/
noncomputable def amongD (d : PyData) (ss : List Str) : Bool := match d with | .str s => decide (s ∈ ss) | _ => false
noncomputable def spAmongD (K : PySem.W.Frag) : Sp := fun vs H Q _ => ∃ (x : V) (d : PyData) (p : Addr) (ss : List Str), vs = [x, .ref p] ∧ DV H x d ∧ Sq K H p (ss.map V.str) ∧ Q (.bl (amongD d ss)) H
theorem ok_amongD {f : Addr} {fd : FuncData} (F : Fun K "is_among" "is_among" (top 19) f fd) (B : Bl mg) : FnOk P w K mg base CX0 1 f fd ["thing", "names"] (spAmongD K) := by
  refine F.ok sc19 (fun vs H Q E h => ?_) (fun cdv A outer s H vs Q E hr h => ?_)
  · obtain ⟨x, d, p, ss, rfl, _⟩ := h
    rfl
  · obtain ⟨x, d, p, ss, rfl, hx, hp, k⟩ := h
    refine ⟨_, pss_one (ps_ret (pe_and (pe_callB (call_isinst (T := "str")) rfl B.isinstance b_isinstance (pa_cons (pv 0) (pa_cons (pe_bltn (v := .ty "str") rfl B.str b_str rfl) pa_nil)))
      (pe_one (pe_cmpR op_in_seq (pv 0) (pv 1) (by with_unfolding_all rfl))))), ?_⟩
    cases hx with
    | non => exact ⟨_, rfl, _, _, false, rfl, .non, rfl, false, rfl, iteF k⟩
    | int i => exact ⟨_, rfl, _, _, false, rfl, .int i, rfl, false, rfl, iteF k⟩
    | bl b => exact ⟨_, rfl, _, _, false, rfl, .bl b, rfl, false, rfl, iteF k⟩
    | tup e _ => exact ⟨_, rfl, _, _, false, rfl, .tup e, rfl, false, rfl, iteF k⟩
    | lst e _ => exact ⟨_, rfl, _, _, false, rfl, .lst e, rfl, false, rfl, iteF k⟩
    | str x =>
      refine ⟨_, rfl, _, _, true, rfl, .str x, rfl, true, rfl, iteT ⟨_, rfl, _, rfl, p, ss.map V.str, rfl, hp, rfl, flat_strs ss, ?_⟩⟩
      show Q (.bl (inV (.str x) (ss.map V.str))) H
      rw [in_strs]
      exact k
end
end K34

set_option Elab.async false
set_option linter.all false
set_option maxRecDepth 100000
set_option maxHeartbeats 4000000
namespace K34
open PySem L2
/-! ### rows and webs -/
noncomputable def tieD (ps : List Str) : PyData → Bool
  | .tuple [a, .str s, .str t] => nameD a && (decide (s ∈ ps) && (decide (t ∈ ps) && !decide (s = t)))
  | _ => false
theorem tieD_t {ps : List Str} {d : PyData} (h : tieD ps d = true) : ∃ n s t : Str, d = .tuple [.str n, .str s, .str t] ∧ NameP n ∧ s ∈ ps ∧ t ∈ ps ∧ s ≠ t := by
  unfold tieD at h
  split at h
  · rename_i a s t
    simp only [Bool.and_eq_true, decide_eq_true_eq, Bool.not_eq_true', decide_eq_false_iff_not] at h
    obtain ⟨n, rfl, hn⟩ := nameD_str h.1
    exact ⟨n, s, t, rfl, hn, h.2.1, h.2.2.1, h.2.2.2⟩
  · cases h
theorem tieD_len {ps : List Str} {ds : List PyData} (h : ds.length ≠ 3) : tieD ps (.tuple ds) = false := by
  unfold tieD
  split
  · rename_i e; cases e; exact absurd rfl h
  · rfl
noncomputable def neD : PyData → PyData → Bool
  | .str s, .str t => !decide (s = t)
  | _, _ => false
theorem tieD_3 {ps : List Str} (a b e : PyData) : tieD ps (.tuple [a, b, e]) = (nameD a && (amongD b ps && (amongD e ps && neD b e))) := by
  cases b with
  | str s =>
    cases e with
    | str t => rfl
    | _ => show false = (nameD a && (decide (s ∈ ps) && (false && _))); simp
  | _ => show false = (nameD a && (false && _)); simp
section
variable {P : Program} {w : World} {K : PySem.W.Frag} {mg : Str → Option Value} {base : Heap}
noncomputable def spTieD : Sp := fun vs H Q _ => ∃ (x : V) (d : PyData) (q : Addr) (ps : List Str), vs = [x, .ref q] ∧ DV H x d ∧ Dok d ∧ H q = some (.tup (ps.map V.str)) ∧ ∀ H', Same H H' → Q (.bl (tieD ps d)) H'
theorem ok_tieD {f : Addr} {fd : FuncData} (F : Fun K "is_tie_row" "is_tie_row" (top 20) f fd) (B : Bl mg) (F1 : Fn P w K mg base 1 "is_name" ["thing"] spNameD) (F2 : Fn P w K mg base 1 "is_among" ["thing", "names"] (spAmongD K)) :
    FnOk P w K mg base CX0 2 f fd ["thing", "places"] spTieD := by
  refine F.ok sc20 (fun vs H Q E h => ?_) (fun cdv A outer s H vs Q E hr h => ?_)
  · obtain ⟨x, d, q, ps, rfl, _⟩ := h
    rfl
  · obtain ⟨x, d, q, ps, rfl, hx, hd, hq, k⟩ := h
    refine ⟨_, pss_cons (ps_if (PW.pt (pw_or (pt_not (pt_val (pe_callB (call_isinst (T := "tuple")) rfl B.isinstance b_isinstance (pa_cons (pv 0) (pa_cons (pe_bltn (v := .ty "tuple") rfl B.tuple b_tuple rfl) pa_nil)))))
        (pw_or1 (pt_cmpR op_ne (pe_callB call_len_seq rfl B.len PySem.boot_len (pa_cons (pv 0) pa_nil)) pe_int (nomark _))))) (pss_one (ps_ret pe_bl)) pss_nil)
      (pss_cons (ps_asg (pv 0) (pg_tup rfl (n := 3) (pgs_cons (pg_name (i := 2) sc20.nd rfl (Or.inl rfl)) (pgs_cons (pg_name (i := 3) sc20.nd rfl (Or.inl rfl)) (pgs_cons (pg_name (i := 4) sc20.nd rfl (Or.inl rfl)) pgs_nil)))))
      (pss_one (ps_ret (pe_and (pe_fn F1 hr (pa_cons (pv 2) pa_nil)) (pe_and (pe_fn F2 hr (pa_cons (pv 3) (pa_cons (pv 1) pa_nil))) (pe_and (pe_fn F2 hr (pa_cons (pv 4) (pa_cons (pv 1) pa_nil))) (pe_one (pe_cmpR op_ne (pv 3) (pv 4) (nomark _))))))))), ?_⟩
    have kF : tieD ps d = false → ∀ H', Same H H' → Q (.bl false) H' := fun e H' s => by have := k H' s; rw [e] at this; exact this
    cases hx with
    | non => exact ⟨_, rfl, _, _, false, rfl, .non, rfl, false, rfl, iteT (iteT (kF rfl H (Same.refl _)))⟩
    | int i => exact ⟨_, rfl, _, _, false, rfl, .int i, rfl, false, rfl, iteT (iteT (kF rfl H (Same.refl _)))⟩
    | bl b => exact ⟨_, rfl, _, _, false, rfl, .bl b, rfl, false, rfl, iteT (iteT (kF rfl H (Same.refl _)))⟩
    | str z => exact ⟨_, rfl, _, _, false, rfl, .str z, rfl, false, rfl, iteT (iteT (kF rfl H (Same.refl _)))⟩
    | lst e _ => exact ⟨_, rfl, _, _, false, rfl, .lst e, rfl, false, rfl, iteT (iteT (kF rfl H (Same.refl _)))⟩
    | @tup p xs ds hp' qs =>
      have hxl := DVs.len qs
      refine ⟨_, rfl, _, _, true, rfl, .tup hp', rfl, true, rfl, iteF ⟨_, rfl, p, _, rfl, .inr (SqT.of hp'), rfl, _, rfl, ?_⟩⟩
      by_cases c : ds.length = 3
      · obtain ⟨a, b, e, rfl⟩ : ∃ a b e, ds = [a, b, e] := by
          match ds, c with
          | [a, b, e], _ => exact ⟨a, b, e, rfl⟩
        cases qs with
        | @cons x1 _ _ _ d1 r =>
          cases r with
          | @cons x2 _ _ _ d2 r =>
            cases r with
            | @cons x3 _ _ _ d3 r =>
              cases r
              obtain ⟨k1, k2, k3⟩ : Dok a ∧ Dok b ∧ Dok e := by cases hd with | tup _ _ z => exact ⟨z _ (by simp), z _ (by simp), z _ (by simp)⟩
              refine iteNS rfl ?_
              refine ⟨_, rfl, p, _, rfl, SqT.of hp', rfl, _, _, rfl, _, _, rfl, _, _, rfl, rfl, ?_⟩
              rw [tieD_3] at k
              refine ⟨_, rfl, x1, a, rfl, d1, k1, fun H1 s1 => ⟨nameD a, rfl, ?_⟩⟩
              cases n1 : nameD a with
              | false => rw [n1] at k; exact iteF (k H1 s1)
              | true =>
                rw [n1] at k
                refine iteT ⟨_, rfl, _, rfl, x2, b, q, ps, rfl, DV.same s1 d2, .inr (same_tup s1 (SqT.of hq)), amongD b ps, rfl, ?_⟩
                cases n2 : amongD b ps with
                | false => rw [n2] at k; exact iteF (k H1 s1)
                | true =>
                  rw [n2] at k
                  refine iteT ⟨_, rfl, _, rfl, x3, e, q, ps, rfl, DV.same s1 d3, .inr (same_tup s1 (SqT.of hq)), amongD e ps, rfl, ?_⟩
                  cases n3 : amongD e ps with
                  | false => rw [n3] at k; exact iteF (k H1 s1)
                  | true =>
                    rw [n3] at k
                    refine iteT ?_
                    cases d2 with
                    | str s' =>
                      cases d3 with
                      | str t' =>
                        refine ⟨_, rfl, _, rfl, rfl, ?_⟩
                        have e : (!decide (V.str s' = V.str t')) = neD (PyData.str s') (PyData.str t') := by
                          show _ = !decide (s' = t')
                          by_cases z : s' = t'
                          · subst z; simp
                          · rw [decide_eq_false (fun w => z (V.str.inj w)), decide_eq_false z]
                        rw [e]
                        exact k H1 s1
                      | _ => cases n3
                    | _ => cases n2
      · refine iteNT (fun z => c ?_) (kF (tieD_len c) H (Same.refl _))
        have := V.int.inj z
        rw [hxl] at this
        omega
end
end K34

set_option Elab.async false
set_option linter.all false
set_option maxRecDepth 100000
set_option maxHeartbeats 4000000
namespace K34
open PySem L2
noncomputable def subD : PyData → List PyData
  | .tuple ds => ds
  | _ => []
noncomputable def isTupD : PyData → Bool
  | .tuple _ => true
  | _ => false
noncomputable def rowNm : PyData → Str
  | .tuple (.str n :: _) => n
  | _ => ""
noncomputable def webB : PyData → Bool
  | .tuple [a, b] => sortedD a && (!(subD a).isEmpty && (isTupD b && ((subD b).all (tieD (txts (subD a))) && risB ((subD b).map rowNm))))
  | _ => false
theorem webB_len {ds : List PyData} (h : ds.length ≠ 2) : webB (.tuple ds) = false := by
  unfold webB
  split
  · rename_i e; cases e; exact absurd rfl h
  · rfl
/-- rows that are rows: their names -/
theorem row_nm {H : Hp} {ps : List Str} : ∀ {xs : List V} {ds : List PyData}, DVs H xs ds → ds.all (tieD ps) = true → ∀ {i : Nat} {x : V}, xs[i]? = some x → ∃ (d : PyData) (a : Addr) (ys : List V), ds[i]? = some d ∧ x = .ref a ∧ H a = some (.tup (V.str (rowNm d) :: ys)) := by
  intro xs ds q h i x hx
  obtain ⟨d, hd, dv⟩ := DVs.at q hx
  obtain ⟨n, s, t, rfl, hn, _⟩ := tieD_t (List.all_eq_true.mp h d (List.mem_of_getElem? hd))
  cases dv with
  | @tup a ys _ e r =>
    cases r with
    | cons r1 r2 =>
      cases r1
      exact ⟨_, a, _, hd, rfl, e⟩
section
variable {P : Program} {w : World} {K : PySem.W.Frag} {mg : Str → Option Value} {base : Heap}
noncomputable def spWebD : Sp := fun vs H Q _ => (∃ (x : V) (d : PyData), vs = [x] ∧ DV H x d ∧ Dok d ∧ ∀ H', Same H H' → Q (.bl (webB d)) H') ∨ ∃ a : Addr, vs = [.ref a] ∧ H a = some (.dK []) ∧ Q (.bl false) H
theorem ok_webD {f : Addr} {fd : FuncData} (F : Fun K "is_web" "is_web" (top 21) f fd) (B : Bl mg) (F1 : Fn P w K mg base 2 "is_sorted_names" ["thing"] spSortedD) (F2 : Fn P w K mg base 2 "is_tie_row" ["thing", "places"] spTieD)
    (F3 : Fn P w K mg base 1 "is_rising" ["names"] (spRisingD K)) : FnOk P w K mg base CX0 3 f fd ["thing"] spWebD := by
  refine F.ok sc21 (fun vs H Q E h => ?_) (fun cdv A outer s H vs Q E hr h => ?_)
  · rcases h with ⟨x, d, rfl, _⟩ | ⟨a, rfl, _⟩ <;> rfl
  · have hr1 : Room 1 _ := hr.mono (by decide)
    refine ⟨_, pss_cons (ps_if (PW.pt (pw_or (pt_not (pt_val (pe_callB (call_isinst (T := "tuple")) rfl B.isinstance b_isinstance (pa_cons (pv 0) (pa_cons (pe_bltn (v := .ty "tuple") rfl B.tuple b_tuple rfl) pa_nil)))))
        (pw_or1 (pt_cmpR op_ne (pe_callB call_len_seq rfl B.len PySem.boot_len (pa_cons (pv 0) pa_nil)) pe_int (nomark _))))) (pss_one (ps_ret pe_bl)) pss_nil)
      (pss_cons (ps_asg (pv 0) (pg_tup rfl (n := 2) (pgs_cons (pg_name (i := 1) sc21.nd rfl (Or.inr rfl)) (pgs_cons (pg_name (i := 2) sc21.nd rfl (Or.inl rfl)) pgs_nil))))
      (pss_cons (ps_if (PW.pt (pw_or (pt_not (pt_val (pe_fn F1 hr (pa_cons (pv 1) pa_nil)))) (pw_or (pt_cmpR op_eq (pe_callB call_len_seq rfl B.len PySem.boot_len (pa_cons (pv 1) pa_nil)) pe_int (nomark _))
        (pw_or1 (pt_not (pt_val (pe_callB (call_isinst (T := "tuple")) rfl B.isinstance b_isinstance (pa_cons (pv 2) (pa_cons (pe_bltn (v := .ty "tuple") rfl B.tuple b_tuple rfl) pa_nil))))))))) (pss_one (ps_ret pe_bl)) pss_nil)
      (pss_one (ps_ret (pe_and (pe_callB (call_allB rfl) rfl B.all b_all (pa_cons (pe_lc (N := ["row", "places"]) (ix := [none, some 1]) ⟨rfl, rfl, rfl, by decide⟩ rfl (pi_tup (pv 2)) (fun _ _ _ _ => pg_lc 0 (by decide) rfl rfl) (fun _ _ _ _ => pts_nil)
        (fun _ _ _ _ => pe_fn F2 hr (pa_cons (pv 0) (pa_cons (pv 1) pa_nil)))) pa_nil))
        (pe_one (pe_fn F3 hr1 (pa_cons (pe_lc (N := ["row"]) (ix := [none]) ⟨rfl, rfl, rfl, by decide⟩ rfl (pi_tup (pv 2)) (fun _ _ _ _ => pg_lc 0 (by decide) rfl rfl) (fun _ _ _ _ => pts_nil)
          (fun _ _ _ _ => pe_ix (ix_seqK K) (pv 0) pe_int (fun _ _ => rfl))) pa_nil)))))))), ?_⟩
    rcases h with ⟨x, d, rfl, hx, hd, k⟩ | ⟨a, rfl, ha, k⟩
    rotate_left
    · exact ⟨_, rfl, _, _, false, rfl, .dK ha, rfl, false, rfl, iteT (iteT k)⟩
    have kF : webB d = false → ∀ H', Same H H' → Q (.bl false) H' := fun e H' s => by have := k H' s; rw [e] at this; exact this
    cases hx with
    | non => exact ⟨_, rfl, _, _, false, rfl, .non, rfl, false, rfl, iteT (iteT (kF rfl H (Same.refl _)))⟩
    | int i => exact ⟨_, rfl, _, _, false, rfl, .int i, rfl, false, rfl, iteT (iteT (kF rfl H (Same.refl _)))⟩
    | bl b => exact ⟨_, rfl, _, _, false, rfl, .bl b, rfl, false, rfl, iteT (iteT (kF rfl H (Same.refl _)))⟩
    | str z => exact ⟨_, rfl, _, _, false, rfl, .str z, rfl, false, rfl, iteT (iteT (kF rfl H (Same.refl _)))⟩
    | lst e _ => exact ⟨_, rfl, _, _, false, rfl, .lst e, rfl, false, rfl, iteT (iteT (kF rfl H (Same.refl _)))⟩
    | @tup v xs ds hv qs =>
      have hxl := DVs.len qs
      refine ⟨_, rfl, _, _, true, rfl, .tup hv, rfl, true, rfl, iteF ⟨_, rfl, v, _, rfl, .inr (SqT.of hv), rfl, _, rfl, ?_⟩⟩
      by_cases c : ds.length = 2
      rotate_left
      · refine iteNT (fun z => c ?_) (kF (webB_len c) H (Same.refl _))
        have := V.int.inj z
        rw [hxl] at this
        omega
      obtain ⟨a, b, rfl⟩ : ∃ a b, ds = [a, b] := by
        match ds, c with
        | [a, b], _ => exact ⟨a, b, rfl⟩
      cases qs with
      | @cons x1 _ _ _ d1 r =>
        cases r with
        | @cons x2 _ _ _ d2 r =>
          cases r
          obtain ⟨ka, kb⟩ : Dok a ∧ Dok b := by cases hd with | tup _ _ z => exact ⟨z _ (by simp), z _ (by simp)⟩
          refine iteNS rfl ?_
          refine ⟨_, rfl, v, _, rfl, SqT.of hv, rfl, _, _, rfl, _, _, rfl, rfl, ?_⟩
          have ew : webB (.tuple [a, b]) = (sortedD a && (!(subD a).isEmpty && (isTupD b && ((subD b).all (tieD (txts (subD a))) && risB ((subD b).map rowNm))))) := rfl
          refine ⟨_, rfl, x1, a, rfl, d1, ka, fun H1 s1 => ⟨sortedD a, rfl, ?_⟩⟩
          cases ca : sortedD a with
          | false => exact iteT (iteT (kF (by rw [ew, ca]; rfl) H1 s1))
          | true =>
            obtain ⟨ps, rfl, pnm, pso⟩ := sortedD_t ca
            cases d1 with
            | @tup pa ys _ hpa qp =>
              have ex := DVs.txt qp
              subst ex
              have hpz : ps.length ≤ 60 := by cases ka with | tup _ z _ => simpa using z
              refine iteF ⟨_, rfl, pa, _, rfl, .inr (SqT.of (s1 _ _ hpa)), rfl, _, rfl, ?_⟩
              have et : txts (subD (.tuple (ps.map PyData.str))) = ps := txts_map ps
              cases ps with
              | nil => exact iteT (iteT (kF (by rw [ew, ca]; rfl) H1 s1))
              | cons p0 pr =>
                generalize hps : p0 :: pr = ps at *
                refine iteDN (fun z => ?_) ?_
                · have z' := V.int.inj z
                  rw [List.length_map, ← hps] at z'
                  simp at z'
                  omega
                have en : (!(subD (.tuple (ps.map PyData.str))).isEmpty) = true := by rw [← hps]; rfl
                rw [ca, en, et] at ew
                cases d2 with
                | non => exact ⟨_, rfl, _, _, false, rfl, .non, rfl, false, rfl, iteT (kF (by rw [ew]; rfl) H1 s1)⟩
                | int i => exact ⟨_, rfl, _, _, false, rfl, .int i, rfl, false, rfl, iteT (kF (by rw [ew]; rfl) H1 s1)⟩
                | bl b => exact ⟨_, rfl, _, _, false, rfl, .bl b, rfl, false, rfl, iteT (kF (by rw [ew]; rfl) H1 s1)⟩
                | str z => exact ⟨_, rfl, _, _, false, rfl, .str z, rfl, false, rfl, iteT (kF (by rw [ew]; rfl) H1 s1)⟩
                | lst e _ => exact ⟨_, rfl, _, _, false, rfl, .lst (s1 _ _ e), rfl, false, rfl, iteT (kF (by rw [ew]; rfl) H1 s1)⟩
                | @tup ra zs rs hra qr =>
                  have hzl := DVs.len qr
                  obtain ⟨hrz, hrd⟩ : rs.length ≤ 60 ∧ ∀ d ∈ rs, Dok d := by cases kb with | tup _ y z => exact ⟨y, z⟩
                  have ew2 : webB (.tuple [.tuple (ps.map PyData.str), .tuple rs]) = (rs.all (tieD ps) && risB (rs.map rowNm)) := by rw [ew]; rfl
                  refine ⟨_, rfl, _, _, true, rfl, .tup (s1 _ _ hra), rfl, true, rfl, iteF ?_⟩
                  refine ⟨_, rfl, ra, rfl, ⟨_, SqT.of (s1 _ _ hra)⟩, lcw_tup0 (xs := zs) (fits (by omega)) (fun i ys σ H2 => ys = (rs.take i).map (fun d => V.bl (tieD ps d)) ∧ Same H H2 ∧ ∃ x, σ = [x, some (.ref pa)]) ⟨rfl, s1, _, rfl⟩
                    (fun i ys σ H2 _ q => ⟨by rw [q.1]; simp; omega, SqT.of (q.2.1 _ _ hra)⟩) ?_ ?_⟩
                  · rintro i x ys σ H2 hx ⟨rfl, s2, y, rfl⟩
                    obtain ⟨d', hd', dv⟩ := DVs.at qr hx
                    exact ⟨_, rfl, _, rfl, x, d', pa, ps, rfl, DV.same s2 dv, hrd d' (List.mem_of_getElem? hd'), s2 _ _ hpa, fun H3 s3 => ⟨(take_map_succ _ _ _ _ hd').symm, s2.trans s3, _, rfl⟩⟩
                  · rintro ys σ H2 ⟨rfl, s2, y, rfl⟩ q hqn
                    have ea : (rs.take zs.length).map (fun d => V.bl (tieD ps d)) = (rs.map (tieD ps)).map V.bl := by rw [hzl, List.take_length, List.map_map]; rfl
                    rw [ea]
                    have s3 := same_upd (o := .lst ((rs.map (tieD ps)).map V.bl)) s2 hqn
                    refine ⟨q, rs.map (tieD ps), rfl, SqL.of upd_same, _, rfl, ?_⟩
                    have e2 : (rs.map (tieD ps)).all id = rs.all (tieD ps) := by rw [List.all_map]; rfl
                    rw [e2]
                    cases cr : rs.all (tieD ps) with
                    | false => exact iteF (kF (by rw [ew2, cr]; rfl) _ s3)
                    | true =>
                      rw [cr] at ew2
                      refine iteT ⟨_, rfl, ra, rfl, ⟨_, SqT.of (s3 _ _ hra)⟩, lcw_tup0 (xs := zs) (fits (by omega)) (fun i ys σ H4 => ys = (rs.take i).map (fun d => V.str (rowNm d)) ∧ Same H H4 ∧ ∃ x, σ = [x]) ⟨rfl, s3, _, rfl⟩
                        (fun i ys σ H4 _ q => ⟨by rw [q.1]; simp; omega, SqT.of (q.2.1 _ _ hra)⟩) ?_ ?_⟩
                      · rintro i x ys σ H4 hx ⟨rfl, s4, z, rfl⟩
                        obtain ⟨d', a', ys', hd', rfl, ha'⟩ := row_nm qr cr hx
                        exact ⟨_, rfl, rix_of (j := 0) (.inr (SqT.of (s4 _ _ ha'))) rfl rfl ⟨(take_map_succ _ _ _ _ hd').symm, s4, _, rfl⟩⟩
                      · rintro ys σ H4 ⟨rfl, s4, z, rfl⟩ q2 hq2
                        have eb : (rs.take zs.length).map (fun d => V.str (rowNm d)) = (rs.map rowNm).map V.str := by rw [hzl, List.take_length, List.map_map]; rfl
                        rw [eb]
                        refine ⟨q2, rs.map rowNm, rfl, .inl (SqL.of upd_same), by simp; omega, fun H5 s5 => ?_⟩
                        have := k H5 ((same_upd s4 hq2).trans s5)
                        rw [ew2] at this
                        exact this
end
end K34

set_option Elab.async false
set_option linter.all false
set_option maxRecDepth 100000
set_option maxHeartbeats 4000000
namespace K34
open PySem L2
/-! ### what is refused -/
noncomputable abbrev orSp (a b : Sp) : Sp := fun vs H Q E => a vs H Q E ∨ b vs H Q E
noncomputable def NoWebV (x : V) (H : Hp) : Prop := (∃ d, DV H x d ∧ Dok d ∧ webB d = false) ∨ ∃ a, x = .ref a ∧ H a = some (.dK [])
noncomputable def NoPlV (ps : List Str) (x : V) (H : Hp) : Prop := (∃ d, DV H x d ∧ Dok d ∧ amongD d ps = false) ∨ ∃ a, x = .ref a ∧ H a = some (.dK [])
noncomputable def NoNumV (lo hi : Int) (x : V) (H : Hp) : Prop := (∃ d, DV H x d ∧ Dok d ∧ ∀ i, d = .int i → ¬ (lo ≤ i ∧ i ≤ hi)) ∨ ∃ a, x = .ref a ∧ H a = some (.dK [])
theorem NoWebV.same {x : V} {H H' : Hp} (h : NoWebV x H) (s : Same H H') : NoWebV x H' := by
  rcases h with ⟨d, a, b⟩ | ⟨a, e, ha⟩
  · exact .inl ⟨d, DV.same s a, b⟩
  · exact .inr ⟨a, e, s _ _ ha⟩
theorem NoPlV.same {ps : List Str} {x : V} {H H' : Hp} (h : NoPlV ps x H) (s : Same H H') : NoPlV ps x H' := by
  rcases h with ⟨d, a, b⟩ | ⟨a, e, ha⟩
  · exact .inl ⟨d, DV.same s a, b⟩
  · exact .inr ⟨a, e, s _ _ ha⟩
theorem NoNumV.same {lo hi : Int} {x : V} {H H' : Hp} (h : NoNumV lo hi x H) (s : Same H H') : NoNumV lo hi x H' := by
  rcases h with ⟨d, a, b⟩ | ⟨a, e, ha⟩
  · exact .inl ⟨d, DV.same s a, b⟩
  · exact .inr ⟨a, e, s _ _ ha⟩
section
variable {P : Program} {w : World} {K : PySem.W.Frag} {mg : Str → Option Value} {base : Heap}
/-! ### is_among, is_whole of things that are none -/
noncomputable def spAmongN (K : PySem.W.Frag) : Sp := fun vs H Q _ => ∃ (x : V) (p : Addr) (ss : List Str), vs = [x, .ref p] ∧ NoPlV ss x H ∧ Sq K H p (ss.map V.str) ∧ Q (.bl false) H
theorem ok_amongN {f : Addr} {fd : FuncData} (F : Fun K "is_among" "is_among" (top 19) f fd) (B : Bl mg) : FnOk P w K mg base CX0 1 f fd ["thing", "names"] (spAmongN K) := by
  refine F.ok sc19 (fun vs H Q E h => ?_) (fun cdv A outer s H vs Q E hr h => ?_)
  · obtain ⟨x, p, ss, rfl, _⟩ := h
    rfl
  · obtain ⟨x, p, ss, rfl, hx, hp, k⟩ := h
    refine ⟨_, pss_one (ps_ret (pe_and (pe_callB (call_isinst (T := "str")) rfl B.isinstance b_isinstance (pa_cons (pv 0) (pa_cons (pe_bltn (v := .ty "str") rfl B.str b_str rfl) pa_nil)))
      (pe_one (pe_cmpR op_in_seq (pv 0) (pv 1) (by with_unfolding_all rfl))))), ?_⟩
    rcases hx with ⟨d, dv, _, hd⟩ | ⟨a, rfl, ha⟩
    · cases dv with
      | non => exact ⟨_, rfl, _, _, false, rfl, .non, rfl, false, rfl, iteF k⟩
      | int i => exact ⟨_, rfl, _, _, false, rfl, .int i, rfl, false, rfl, iteF k⟩
      | bl b => exact ⟨_, rfl, _, _, false, rfl, .bl b, rfl, false, rfl, iteF k⟩
      | tup e _ => exact ⟨_, rfl, _, _, false, rfl, .tup e, rfl, false, rfl, iteF k⟩
      | lst e _ => exact ⟨_, rfl, _, _, false, rfl, .lst e, rfl, false, rfl, iteF k⟩
      | str z =>
        refine ⟨_, rfl, _, _, true, rfl, .str z, ?kit, true, rfl, iteT ⟨_, rfl, _, rfl, ?_⟩⟩
        case kit => rfl
        refine ⟨p, _, rfl, hp, rfl, flat_strs _, ?_⟩
        have : decide (z ∈ ss) = false := hd
        rw [in_strs, this]
        exact k
    · exact ⟨_, rfl, _, _, false, rfl, .dK ha, rfl, false, rfl, iteF k⟩
noncomputable def spWholeN : Sp := fun vs H Q _ => ∃ x : V, vs = [x] ∧ ((∃ d, DV H x d ∧ ∀ i, d ≠ .int i) ∨ ∃ a, x = .ref a ∧ H a = some (.dK [])) ∧ Q (.bl false) H
theorem ok_wholeN {f : Addr} {fd : FuncData} (F : Fun K "is_whole" "is_whole" (top 16) f fd) (B : Bl mg) : FnOk P w K mg base CX0 1 f fd ["thing"] spWholeN := by
  refine F.ok sc16 (fun vs H Q E h => ?_) (fun cdv A outer s H vs Q E hr h => ?_)
  · obtain ⟨x, rfl, _⟩ := h
    rfl
  · obtain ⟨x, rfl, hx, k⟩ := h
    refine ⟨_, pss_one (ps_ret (pe_and (pe_callB (call_isinst (T := "int")) rfl B.isinstance b_isinstance (pa_cons (pv 0) (pa_cons (pe_bltn (v := .ty "int") rfl B.int b_int rfl) pa_nil)))
      (pe_one (pe_not (pe_callB (call_isinst (T := "bool")) rfl B.isinstance b_isinstance (pa_cons (pv 0) (pa_cons (pe_bltn (v := .ty "bool") rfl B.bool b_bool rfl) pa_nil))))))), ?_⟩
    rcases hx with ⟨d, dv, hd⟩ | ⟨a, rfl, ha⟩
    · cases dv with
      | non => exact ⟨_, rfl, _, _, false, rfl, .non, rfl, false, rfl, iteF k⟩
      | int i => exact absurd rfl (hd i)
      | bl b => exact ⟨_, rfl, _, _, true, rfl, .bl b, rfl, true, rfl, iteT ⟨_, rfl, _, _, true, rfl, .bl b, rfl, true, rfl, k⟩⟩
      | tup e _ => exact ⟨_, rfl, _, _, false, rfl, .tup e, rfl, false, rfl, iteF k⟩
      | lst e _ => exact ⟨_, rfl, _, _, false, rfl, .lst e, rfl, false, rfl, iteF k⟩
      | str z => exact ⟨_, rfl, _, _, false, rfl, .str z, rfl, false, rfl, iteF k⟩
    · exact ⟨_, rfl, _, _, false, rfl, .dK ha, rfl, false, rfl, iteF k⟩
/-! ### need_web, need_place, need_number that raise -/
noncomputable def spWebN (C : Addr) : Sp := fun vs H _ E => ∃ x : V, vs = [x] ∧ NoWebV x H ∧ ∀ H', Same H H' → E (.ref C) none H'
theorem ok_need_webN {f C : Addr} {fd : FuncData} (F : Fun K "need_web" "need_web" (top 22) f fd) (hx : mg "NoWeb" = some (.ref C)) (hC : ExcC base C) (F1 : Fn P w K mg base 3 "is_web" ["thing"] spWebD) : FnOk P w K mg base (CXE P w) 4 f fd ["thing"] (spWebN C) := by
  refine F.okX sc22 (fun vs H Q E h => ?_) (fun cdv A outer s H vs Q E hr h => ?_)
  · obtain ⟨x, rfl, _⟩ := h
    rfl
  · obtain ⟨x, rfl, hx', k⟩ := h
    refine ⟨_, pss_one (ps_if (pt_not (pt_val (pe_fn F1 hr (pa_cons (pv 0) pa_nil)))) (pss_one (ps_raise (W := fun H => E (.ref C) none H) hx hC hr.hd (pa_cons pe_str pa_nil) (fun pins σ H s h' ea args I m hW => raiseE I m hW))) pss_nil), ?_⟩
    rcases hx' with ⟨d, dv, hd, hw⟩ | ⟨a, rfl, ha⟩
    · refine ⟨_, rfl, .inl ⟨x, d, rfl, dv, hd, fun H1 s1 => ⟨_, rfl, ?_⟩⟩⟩
      rw [hw]
      exact iteT ⟨by show 1 ≤ sizeLine; decide, k H1 s1⟩
    · exact ⟨_, rfl, .inr ⟨a, rfl, ha, _, rfl, iteT ⟨by show 1 ≤ sizeLine; decide, k H (Same.refl _)⟩⟩⟩
noncomputable def spPlaceN (C : Addr) : Sp := fun vs H _ E => ∃ (v pa ra : Addr) (ps : List Str) (rs : List (Addr × Row)) (x : V), vs = [.ref v, x] ∧ WebAt H v pa ra ps rs ∧ NoPlV ps x H ∧ E (.ref C) none H
theorem ok_need_placeN {f C : Addr} {fd : FuncData} (F : Fun K "need_place" "need_place" (top 24) f fd) (hx : mg "NoPlace" = some (.ref C)) (hC : ExcC base C) (F1 : Fn P w K mg base 1 "is_among" ["thing", "names"] (spAmongN K)) : FnOk P w K mg base (CXE P w) 2 f fd ["web", "thing"] (spPlaceN C) := by
  refine F.okX sc24 (fun vs H Q E h => ?_) (fun cdv A outer s H vs Q E hr h => ?_)
  · obtain ⟨v, pa, ra, ps, rs, x, rfl, _⟩ := h
    rfl
  · obtain ⟨v, pa, ra, ps, rs, x, rfl, W, hx', k⟩ := h
    refine ⟨_, pss_one (ps_if (pt_not (pt_val (pe_fn F1 hr (pa_cons (pv 1) (pa_cons (pe_ix ix_seq (pv 0) pe_int (fun _ _ => rfl)) pa_nil))))) (pss_one (ps_raise (W := fun H => E (.ref C) none H) hx hC hr.hd (pa_cons pe_str pa_nil) (fun pins σ H s h' ea args I m hW => raiseE I m hW))) pss_nil), ?_⟩
    exact ⟨_, rfl, _, rfl, rix_of (j := 0) (.inr (SqT.of W.tp)) rfl rfl ⟨x, pa, ps, rfl, hx', .inr (SqT.of W.pl), _, rfl, iteT ⟨by show 1 ≤ sizeLine; decide, k⟩⟩⟩
noncomputable def spNumberN (C : Addr) : Sp := fun vs H _ E => ∃ (x : V) (lo hi : Int), vs = [x, .int lo, .int hi] ∧ NoNumV lo hi x H ∧ lo.natAbs.log2 < 1920 ∧ hi.natAbs.log2 < 1920 ∧ (Str.ofString (toString lo)).length ≤ 100 ∧ (Str.ofString (toString hi)).length ≤ 100 ∧ E (.ref C) none H
theorem ok_need_numberN {f C : Addr} {fd : FuncData} (F : Fun K "need_number" "need_number" (top 23) f fd) (B : Bl mg) (hx : mg "NoNumber" = some (.ref C)) (hC : ExcC base C) (F1 : Fn P w K mg base 1 "is_whole" ["thing"] (orSp spWhole spWholeN)) : FnOk P w K mg base (CXE P w) 2 f fd ["thing", "low", "high"] (spNumberN C) := by
  refine F.okX sc23 (fun vs H Q E h => ?_) (fun cdv A outer s H vs Q E hr h => ?_)
  · obtain ⟨x, lo, hi, rfl, _⟩ := h
    rfl
  · obtain ⟨x, lo, hi, rfl, hx', h1, h2, h3, h4, k⟩ := h
    refine ⟨_, pss_one (ps_if (PW.pt (pw_or (pt_not (pt_val (pe_fn F1 hr (pa_cons (pv 0) pa_nil)))) (pw_or1 (pt_not (pt_chain op_le op_le (pv 1) (pv 0) (pv 2))))))
      (pss_one (ps_raise (W := fun H => E (.ref C) none H) hx hC hr.hd (pa_cons (pe_op op_add_str (pe_op op_add_str (pe_op op_add_str pe_str (pe_callTy call_str_int rfl B.str b_str (pa_cons (pv 1) pa_nil))) pe_str) (pe_callTy call_str_int rfl B.str b_str (pa_cons (pv 2) pa_nil))) pa_nil) (fun pins σ H s h' ea args I m hW => raiseE I m hW))) pss_nil), ?_⟩
    have sz : ∀ n : Nat, n ≤ 1000 → n ≤ sizeLine := fun n h => Nat.le_of_lt (fits h)
    have l1 : (Str.ofString "this is no number from ").length = 23 := by decide +kernel
    have l2 : (Str.ofString " to ").length = 4 := by decide +kernel
    have e1 : (Str.ofString "this is no number from " ++ Str.ofString (toString lo)).length = 23 + (Str.ofString (toString lo)).length := by rw [Str.length_append, l1]
    have e2 : (Str.ofString "this is no number from " ++ Str.ofString (toString lo) ++ Str.ofString " to ").length = 23 + (Str.ofString (toString lo)).length + 4 := by rw [Str.length_append, e1, l2]
    have raise : ∀ H1 : Hp, H1 = H → ∀ D : Ends, tRaise (tCons
        (tOp (fun x y H Q => ∃ i j, x = V.str i ∧ y = V.str j ∧ i.length + j.length ≤ sizeLine ∧ Q (V.str (i ++ j)) H)
          (tOp (fun x y H Q => ∃ i j, x = V.str i ∧ y = V.str j ∧ i.length + j.length ≤ sizeLine ∧ Q (V.str (i ++ j)) H)
            (tOp (fun x y H Q => ∃ i j, x = V.str i ∧ y = V.str j ∧ i.length + j.length ≤ sizeLine ∧ Q (V.str (i ++ j)) H)
              (tC (V.str (Str.ofString "this is no number from ")))
              (tCB (fun xs H Q => ∃ i, xs = [V.int i] ∧ i.natAbs.log2 < 1920 ∧ Q (V.str (Str.ofString (toString i))) H) (tCons (tVar 1) tNil)))
            (tC (V.str (Str.ofString " to "))))
          (tCB (fun xs H Q => ∃ i, xs = [V.int i] ∧ i.natAbs.log2 < 1920 ∧ Q (V.str (Str.ofString (toString i))) H) (tCons (tVar 2) tNil)))
        tNil) (fun H => E (Value.ref C) none H) D (L2.start [Str.ofString "thing", Str.ofString "low", Str.ofString "high"] [x, V.int lo, V.int hi]) H1 := fun H1 e D => by
      subst e
      refine ⟨_, rfl, lo, rfl, h1, _, _, rfl, rfl, sz _ (by rw [l1]; omega), _, _, rfl, rfl, sz _ (by rw [e1, l2]; omega), _, rfl, hi, rfl, h2, _, _, rfl, rfl, sz _ (by rw [e2]; omega), by show 1 ≤ sizeLine; decide, k⟩
    rcases hx' with ⟨d, dv, _, hd⟩ | z
    · by_cases c : ∃ i, d = .int i
      · obtain ⟨i, rfl⟩ := c
        cases dv
        have hn := hd i rfl
        refine ⟨_, rfl, .inl ⟨i, rfl, true, rfl, iteF ⟨_, rfl, _, rfl, _, _, rfl, rfl, _, rfl, ?_⟩⟩⟩
        by_cases c1 : lo ≤ i
        · refine iteD c1 ⟨_, rfl, _, _, rfl, rfl, _, rfl, ?_⟩
          have c2 : ¬ i ≤ hi := fun z => hn ⟨c1, z⟩
          exact iteNT c2 (raise H rfl _)
        · refine iteDN c1 ⟨_, rfl, ?_⟩
          exact iteT (raise H rfl _)
      · exact ⟨_, rfl, .inr ⟨x, rfl, .inl ⟨d, dv, fun i e => c ⟨i, e⟩⟩, false, rfl, iteT (iteT (raise H rfl _))⟩⟩
    · exact ⟨_, rfl, .inr ⟨x, rfl, .inr z, false, rfl, iteT (iteT (raise H rfl _))⟩⟩
end
end K34

set_option Elab.async false
set_option linter.all false
set_option maxRecDepth 100000
set_option maxHeartbeats 4000000
namespace K34
open PySem L2
section
variable {P : Program} {w : World} {K : PySem.W.Frag} {mg : Str → Option Value} {base : Heap}
theorem ok_leastG {f CW CP : Addr} {fd : FuncData} (F : Fun K "least" "least" (top 37) f fd) (B : Bl mg) (F1 : FnX P w K mg base 4 "need_web" ["thing"] (orSp (spWeb .non) (spWebN CW))) (F2 : FnX P w K mg base 2 "need_place" ["web", "thing"] (orSp spNeedPlace (spPlaceN CP))) (F3 : Fn P w K mg base 2 "lots_without" ["web", "root"] spLotsW)
    (F4 : Fn P w K mg base 2 "counts_into" ["rows", "lots"] spCounts) : FnOk P w K mg base (CXE P w) 5 f fd ["web", "root"] spLeast := by
  refine F.okX sc37 (fun vs H Q E h => ?_) (fun cdv A outer s H vs Q E hr h => ?_)
  · obtain ⟨v, pa, ra, ps, rs, root, rfl, _⟩ := h
    rfl
  · obtain ⟨v, pa, ra, ps, rs, root, rfl, W, G, p8, hroot, k1, k2⟩ := h
    have hr2 : Room 2 _ := hr.mono (by decide)
    refine ⟨_, pss_cons (ps_expr (pe_fnX (E := E) F1 hr passE (pa_cons (pv 0) pa_nil))) (pss_cons (ps_expr (pe_fnX (E := E) F2 hr2 passE (pa_cons (pv 0) (pa_cons (pv 1) pa_nil)))) (pss_cons (ps_set (i := 2) sc37.nd rfl (Or.inl rfl) (pe_fn F3 hr2 (pa_cons (pv 0) (pa_cons (pv 1) pa_nil))))
      (pss_cons (ps_if (pt_cmpR op_eq (pe_callB call_len_seq rfl B.len PySem.boot_len (pa_cons (pv 2) pa_nil)) pe_int (nomark _)) (pss_one (ps_ret pe_non)) pss_nil)
      (pss_cons (ps_set (i := 3) sc37.nd rfl (Or.inr rfl) (pe_fn F4 hr2 (pa_cons (pe_ix ix_seq (pv 0) pe_int (fun _ _ => rfl)) (pa_cons (pv 2) pa_nil))))
      (pss_one (ps_ret (pe_callB (call_minP hr rfl) rfl B.min b_min (pa_cons (pe_lc (N := ["lot", "counts"]) (ix := [none, some 3]) ⟨rfl, rfl, rfl, by decide⟩ rfl (pi_list (pv 2)) (fun _ _ _ _ => pg_lc 0 (by decide) rfl rfl) (fun _ _ _ _ => pts_nil)
        (fun _ _ _ _ => pe_tup (pa_cons (pe_dget (lt1' hr) (pv 1) (pv 0) (fun _ _ => rfl)) (pa_cons (pv 0) pa_nil)))) pa_nil)))))))), ?_⟩
    have hz : rs.length ≤ 60 := by have := G.rz; simpa using this
    refine ⟨_, rfl, .inl ⟨v, pa, ra, ps, rs, rfl, W, G, fun H1 s1 => ⟨_, rfl, _, rfl, .inl ⟨v, pa, ra, ps, rs, root, rfl, W.same s1, hroot, ?_⟩⟩⟩⟩
    refine ⟨_, rfl, _, rfl, v, pa, ra, ps, rs, root, rfl, W.same s1, p8, fun lo lts H2 s2 lo2 A2 e2 => ?_⟩
    have s12 := s1.trans s2
    have W2 := W.same s12
    have hll : (trefs lts).length = lts.length := by simp
    have hnd0 : ps.Nodup := pw_nodup G.so
    have hnd : (lts.map (·.2)).Nodup := by rw [e2]; exact lots_nodup (hnd0.filter _)
    have hl255 : lts.length ≤ 255 := by
      have q := lots_len (others ps root)
      have q2 := congrArg List.length e2
      rw [List.length_map] at q2
      have q3 := pow_le (Nat.le_trans (others_len ps root) p8)
      omega
    have hnm : ∀ x ∈ lts, ∀ y ∈ x.2, NameP y := fun x hx y hy => by
      have q := (lots_sub (by rw [← e2]; exact List.mem_map_of_mem (f := fun z : Addr × List Str => z.2) hx)).subset hy
      exact G.nm y (List.mem_filter.mp q).1
    refine ⟨_, rfl, lo, _, rfl, .inl (SqL.of lo2), rfl, _, rfl, ?_⟩
    refine ite2 (fun c => ?_) (fun c => ?_)
    · have c' : (((trefs lts).length : Nat) : Int) = 0 := V.int.inj (of_decide_eq_true c)
      have hl0 : lts = [] := List.length_eq_zero_iff.mp (by omega)
      exact k1 (by rw [← e2, hl0]; rfl) H2 s12
    · have hne : lts ≠ [] := fun z => by
        simp only [decide_eq_true_eq] at c
        exact c (by rw [z]; rfl)
      refine ⟨_, rfl, rix_of (j := 1) (.inr (SqT.of W2.tp)) rfl rfl ⟨_, rfl, ra, lo, rs, lts, rfl, .inr W2.rl, W2.rows, hz, lo2, A2, hnd, hl255, fun D kvs H3 s3 d3 v3 => ?_⟩⟩
      have s13 := s12.trans s3
      have A3 := A2.same s3
      have lo3 := s3 _ _ lo2
      refine ⟨_, rfl, lo, rfl, ⟨_, SqL.of lo3⟩, lcw_list0 (xs := trefs lts) (fits (by omega)) (fun j ys σ H4 => (∃ qs : List Pl, ys = plrefs qs ∧ (∀ x ∈ qs, H4 x.1 = some (.tup [.int x.2.1, .ref x.2.2.1]) ∧ H4 x.2.2.1 = some (.tup (x.2.2.2.map V.str)) ∧ ∀ y ∈ x.2.2.2, NameP y) ∧ (qs.map fun x => (x.2.1, x.2.2.2)) = (lts.take j).map fun x => ((cnt rs x.2 : Int), x.2)) ∧ Same H3 H4 ∧ ∃ x, σ = [x, some (.ref D)])
        ⟨⟨[], rfl, by simp, rfl⟩, Same.refl _, _, rfl⟩ (fun j ys σ H4 _ q => ?_) ?_ ?_⟩
      · obtain ⟨⟨qs, rfl, _, e⟩, s4, _⟩ := q
        have q := congrArg List.length e
        simp only [List.length_map, List.length_take] at q
        exact ⟨by rw [List.length_map]; omega, SqL.of (s4 _ _ lo3)⟩
      · rintro j y ys σ H4 hy ⟨⟨qs, rfl, O4, e4⟩, s4, v, rfl⟩
        obtain ⟨lt, hlt, rfl⟩ := tref_get hy
        have hm := List.mem_of_getElem? hlt
        have l4 := s4 _ _ (A3 lt hm)
        have g : DGet H4 D (.ref lt.1) (some (.int (cnt rs lt.2))) := by
          have q := DGet.t (k := keyL lt.2) (b := lt.1) (s4 _ _ d3) (by rw [keyL_kV]; exact l4)
          rw [v3 lt hm] at q
          exact q
        refine ⟨_, rfl, _, rfl, D, _, rfl, g, _, rfl, by show 2 ≤ sizeLine; decide, fun t ht => ?_⟩
        have s5 := same_upd (o := .tup [.int (cnt rs lt.2), .ref lt.1]) (Same.refl H4) ht
        refine ⟨⟨qs ++ [(t, (cnt rs lt.2 : Int), lt.1, lt.2)], by simp [plrefs], fun x hx => ?_, ?_⟩, s4.trans s5, _, rfl⟩
        · rcases List.mem_append.mp hx with z | z
          · obtain ⟨o1, o2, o3⟩ := O4 x z
            exact ⟨s5 _ _ o1, s5 _ _ o2, o3⟩
          · have ex : x = (t, (cnt rs lt.2 : Int), lt.1, lt.2) := by simpa using z
            subst ex
            exact ⟨upd_same, s5 _ _ l4, hnm lt hm⟩
        · rw [List.map_append, e4, take_map_succ _ _ _ _ hlt]; rfl
      · rintro ys σ H4 ⟨⟨qs, rfl, O4, e4⟩, s4, v, rfl⟩ t ht
        rw [take_all lts (by simp)] at e4
        have ed : (qs.map fun x => (x.2.1, x.2.2.2)) = datL rs (lotsOf (others ps root)) := by
          rw [e4, ← e2]
          simp [datL, List.map_map, Function.comp_def]
        have s5 := same_upd (o := .lst (plrefs qs)) (Same.refl H4) ht
        have hqne : qs ≠ [] := fun z => by
          rw [z] at e4
          have := congrArg List.length e4
          simp at this
          exact hne (by simpa using this.symm)
        have hql : qs.length = (datL rs (lotsOf (others ps root))).length := by rw [← ed]; simp
        refine ⟨t, qs, rfl, SqL.of upd_same, hqne, fun x hx => ?_, fun x hx => ?_⟩
        · obtain ⟨o1, o2, o3⟩ := O4 x hx
          exact ⟨s5 _ _ o1, s5 _ _ o2, o3⟩
        · rw [bt_dat ed, hql] at hx
          have hb : bestD (datL rs (lotsOf (others ps root))) = (x.2.1, x.2.2.2) := by
            unfold bestD
            rw [← ed, List.getElem?_map, ed, hx]
            rfl
          obtain ⟨o1, o2, o3⟩ := O4 x (List.mem_of_getElem? hx)
          have hlne : lotsOf (others ps root) ≠ [] := fun z => hne (by
            rw [z] at e2
            have := congrArg List.length e2
            simp at this
            simpa using this)
          exact k2 hlne x.1 x.2.2.1 _ (s13.trans (s4.trans s5)) (by rw [hb]; exact s5 _ _ o1) (by rw [hb]; exact s5 _ _ o2)

/-! ### no tree asked for -/
noncomputable def spEnough0 : Sp := fun vs H Q _ => ∃ (v pa ra a : Addr) (ps : List Str) (rs : List (Addr × Row)), vs = [.ref v, .ref a] ∧ WebAt H v pa ra ps rs ∧ ps.Nodup ∧ ps.length ≤ 8 ∧ rs.length ≤ 60 ∧ H a = some (.tup []) ∧ ∀ H', Same H H' → Q .non H'
noncomputable abbrev N35 : List Str := ["web", "roots", "spare", "lot"]
theorem sc35 : FnScope N35 ["web", "roots"] (defScope (top 35)) := ⟨rfl, rfl, rfl, by decide +kernel, rfl, by decide +kernel, by decide +kernel⟩
theorem spr_none (rs : List (Addr × Row)) (l : List Str) : 0 ≤ spr rs [] l := by
  unfold spr need
  simp
theorem ok_enough0 {f : Addr} {fd : FuncData} (F : Fun K "need_enough" "need_enough" (top 35) f fd)
    (F1 : Fn P w K mg base 3 "spare_into" ["rows", "lots", "roots"] spSpare) (F2 : Fn P w K mg base 1 "lots_among" ["places"] spAmongL) : FnOk P w K mg base CX0 4 f fd ["web", "roots"] spEnough0 := by
  refine F.ok sc35 (fun vs H Q E h => ?_) (fun cdv A outer s H vs Q E hr h => ?_)
  · obtain ⟨v, pa, ra, a, ps, rs, rfl, _⟩ := h
    rfl
  · obtain ⟨v, pa, ra, a, ps, rs, rfl, W, hnd, h7, hrz, ha, k⟩ := h
    have hr1 : Room 1 _ := hr.mono (by decide)
    have hr2 : Room 2 _ := hr.mono (by decide)
    refine ⟨_, pss_cons (ps_set (i := 2) sc35.nd rfl (Or.inl rfl) (pe_fn F1 hr (pa_cons (pe_ix ix_seq (pv 0) pe_int (fun _ _ => rfl)) (pa_cons (pe_fn F2 hr1 (pa_cons (pe_ix ix_seq (pv 0) pe_int (fun _ _ => rfl)) pa_nil)) (pa_cons (pv 1) pa_nil)))))
      (pss_one (ps_for PassesOwn.never rfl (pi_dict (pv 2)) (pg_name (i := 3) sc35.nd rfl (Or.inl rfl))
        (pss_one (ps_if (pt_cmpR op_lt (pe_dget (lt1' hr) (pv 2) (pv 3) (fun _ _ => rfl)) pe_int (nomark _)) pss_never pss_nil)))), ?_⟩
    refine ⟨_, rfl, rix_of (j := 1) (.inr (SqT.of W.tp)) rfl rfl ⟨_, rfl, rix_of (j := 0) (.inr (SqT.of W.tp)) rfl rfl ⟨pa, ps, rfl, .inr W.pl, by omega, fun q lts H1 s1 q1 A1 e1 => ?_⟩⟩⟩
    have W1 := W.same s1
    have hll : lts.length ≤ 255 := by
      have e2 := congrArg List.length e1
      rw [List.length_map] at e2
      have e3 := lots_len ps
      have e4 := pow_le (show ps.length ≤ 8 by omega)
      omega
    refine ⟨_, rfl, ra, q, a, rs, lts, [], rfl, .inr W1.rl, W1.rows, hrz, q1, A1, by rw [e1]; exact lots_nodup hnd, hll, s1 _ _ ha, by simp, fun sd H2 s2 hsd0 d2 => ?_⟩
    rw [e1] at d2
    have s02 := s1.trans s2
    have hsd : H sd = none := s1.free hsd0
    refine ⟨_, rfl, sd, _, rfl, d2, fun o => ?_⟩
    have s3 : Same H (upd H2 sd (.frz o (.dT (kvSp rs [] (lotsOf ps))))) := Same.upd0 s02 hsd
    have d3 : upd H2 sd (.frz o (.dT (kvSp rs [] (lotsOf ps)))) sd = some (.frz o (.dT (kvSp rs [] (lotsOf ps)))) := upd_same
    generalize upd H2 sd (.frz o (.dT (kvSp rs [] (lotsOf ps)))) = H3 at s3 d3 ⊢
    refine for_dict (a := sd) (o := o) (kvs := kvSp rs [] (lotsOf ps)) (fun i σ H4 => (∃ g, σ = [some (.ref v), some (.ref a), some (.ref sd), g]) ∧ Same H3 H4)
      ⟨⟨_, rfl⟩, Same.refl _⟩ (fun i σ H4 _ p => p.2 _ _ d3) ?_ ?_
    · rintro i p b σ H4 hp hb ⟨⟨g, rfl⟩, s4⟩
      rw [List.getElem?_map] at hp
      cases hc : (lotsOf ps)[i]? with
      | none => rw [hc] at hp; cases hp
      | some l =>
        rw [hc] at hp
        cases hp
        have hl : l ∈ lotsOf ps := List.mem_of_getElem? hc
        have gd : DGet H4 sd (.ref b) (some (.int (spr rs [] l))) := .inr ⟨_, keyL l, b, .inr ⟨o, s4 _ _ d3⟩, rfl, hb, (kvSp_some hl).symm⟩
        refine ⟨_, rfl, _, rfl, sd, _, rfl, gd, _, _, rfl, rfl, _, rfl, ?_⟩
        rw [decide_eq_false (by have := spr_none rs l; omega)]
        exact iteF ⟨⟨_, rfl⟩, s4⟩
    · rintro σ H4 ⟨⟨g, rfl⟩, s4⟩
      exact k H4 (s3.trans s4)
noncomputable def spTrees0 : Sp := fun vs H Q _ => ∃ (v pa ra a : Addr) (ps : List Str) (rs : List (Addr × Row)), vs = [.ref v, .ref a] ∧ WebAt H v pa ra ps rs ∧ Good ps (rs.map (·.2)) ∧ ps.length ≤ 8 ∧ H a = some (.tup []) ∧ ∀ (q : Addr) (H' : Hp), Same H H' → H' q = some (.lst []) → Q (.ref q) H'
noncomputable abbrev N36 : List Str := ["web", "roots", "places", "rows", "trees", "at", "root", "tree"]
theorem sc36 : FnScope N36 ["web", "roots"] (defScope (top 36)) := ⟨rfl, rfl, rfl, by decide +kernel, rfl, by decide +kernel, by decide +kernel⟩
theorem ok_trees0 {f : Addr} {fd : FuncData} (F : Fun K "trees_from" "trees_from" (top 36) f fd) (B : Bl mg) (F1 : Fn P w K mg base 4 "need_enough" ["web", "roots"] spEnough0) : FnOk P w K mg base CX0 5 f fd ["web", "roots"] spTrees0 := by
  refine F.ok sc36 (fun vs H Q E h => ?_) (fun cdv A outer s H vs Q E hr h => ?_)
  · obtain ⟨v, pa, ra, a, ps, rs, rfl, _⟩ := h
    rfl
  · obtain ⟨v, pa, ra, a, ps, rs, rfl, W, G, h8, ha, k⟩ := h
    refine ⟨_, pss_cons (ps_expr (pe_fn F1 hr (pa_cons (pv 0) (pa_cons (pv 1) pa_nil))))
      (pss_cons (ps_asg (pv 0) (pg_tup rfl (n := 2) (pgs_cons (pg_name (i := 2) sc36.nd rfl (Or.inl rfl)) (pgs_cons (pg_name (i := 3) sc36.nd rfl (Or.inl rfl)) pgs_nil))))
      (pss_cons (ps_set (i := 4) sc36.nd rfl (Or.inl rfl) (pe_lst pa_nil))
      (pss_cons (ps_for PassesOwn.never rfl (pi_enT rfl B.enumerate (pa_cons (pv 1) pa_nil)) (pg_tup rfl (n := 2) (pgs_cons (pg_name (i := 5) sc36.nd rfl (Or.inl rfl)) (pgs_cons (pg_name (i := 6) sc36.nd rfl (Or.inl rfl)) pgs_nil))) pss_never)
      (pss_one (ps_ret (pv 4)))))), ?_⟩
    have hnd := pw_nodup G.so
    have hrz : rs.length ≤ 60 := by have := G.rz; simpa using this
    refine ⟨_, rfl, _, rfl, v, pa, ra, a, ps, rs, rfl, W, hnd, h8, hrz, ha, fun H1 s1 => ?_⟩
    have W1 := W.same s1
    refine ⟨_, rfl, v, _, rfl, SqT.of W1.tp, rfl, _, _, rfl, _, _, rfl, rfl, Nat.zero_le _, fun tk htk => ?_⟩
    have s2 := same_upd (o := .lst []) s1 htk
    have t2 : upd H1 tk (.lst []) tk = some (.lst []) := upd_same
    generalize upd H1 tk (.lst []) = H2 at s2 t2 ⊢
    refine ⟨_, rfl, a, _, rfl, SqT.of (s2 _ _ ha), for_enT (K := K) (a := a) (xs := []) (fun i σ H3 => Same H2 H3 ∧ σ[4]? = some (some (.ref tk))) ⟨Same.refl _, rfl⟩ (fun i σ H3 _ p => SqT.of (p.1 _ _ (s2 _ _ ha))) (fun i x σ H3 T hx => by simp at hx) (fun σ H3 p => ⟨_, p.2, k tk H3 (s2.trans p.1) (p.1 _ _ t2)⟩)⟩
/-! ### least, shares refused -/
noncomputable def spLeastN (CW CP : Addr) : Sp := fun vs H _ E => (∃ x y : V, vs = [x, y] ∧ NoWebV x H ∧ ∀ H', Same H H' → E (.ref CW) none H') ∨
  ∃ (v pa ra : Addr) (ps : List Str) (rs : List (Addr × Row)) (y : V), vs = [.ref v, y] ∧ WebAt H v pa ra ps rs ∧ Good ps (rs.map (·.2)) ∧ NoPlV ps y H ∧ ∀ H', Same H H' → E (.ref CP) none H'
theorem ok_leastN {f CW CP : Addr} {fd : FuncData} (F : Fun K "least" "least" (top 37) f fd) (F1 : FnX P w K mg base 4 "need_web" ["thing"] (orSp (spWeb .non) (spWebN CW))) (F2 : FnX P w K mg base 2 "need_place" ["web", "thing"] (orSp spNeedPlace (spPlaceN CP))) : FnOk P w K mg base (CXE P w) 5 f fd ["web", "root"] (spLeastN CW CP) := by
  refine F.okX sc37 (fun vs H Q E h => ?_) (fun cdv A outer s H vs Q E hr h => ?_)
  · rcases h with ⟨x, y, rfl, _⟩ | ⟨v, pa, ra, ps, rs, y, rfl, _⟩ <;> rfl
  · have hr2 : Room 2 _ := hr.mono (by decide)
    refine ⟨_, pss_cons (ps_expr (pe_fnX (E := E) F1 hr passE (pa_cons (pv 0) pa_nil))) (pss_cons (ps_expr (pe_fnX (E := E) F2 hr2 passE (pa_cons (pv 0) (pa_cons (pv 1) pa_nil)))) pss_never), ?_⟩
    rcases h with ⟨x, y, rfl, hw, k⟩ | ⟨v, pa, ra, ps, rs, y, rfl, W, G, hp, k⟩
    · exact ⟨_, rfl, .inr ⟨x, rfl, hw, k⟩⟩
    · exact ⟨_, rfl, .inl ⟨v, pa, ra, ps, rs, rfl, W, G, fun H1 s1 => ⟨_, rfl, _, rfl, .inr ⟨v, pa, ra, ps, rs, y, rfl, W.same s1, hp.same s1, k H1 s1⟩⟩⟩⟩
theorem sc38 : FnScope ["web", "root", "many"] ["web", "root", "many"] (defScope (top 38)) := ⟨rfl, rfl, rfl, by decide +kernel, rfl, by decide +kernel, by decide +kernel⟩
noncomputable def spSharesN (CW CP CN : Addr) : Sp := fun vs H _ E => (∃ x y z : V, vs = [x, y, z] ∧ NoWebV x H ∧ ∀ H', Same H H' → E (.ref CW) none H') ∨
  (∃ (v pa ra : Addr) (ps : List Str) (rs : List (Addr × Row)) (y z : V), vs = [.ref v, y, z] ∧ WebAt H v pa ra ps rs ∧ Good ps (rs.map (·.2)) ∧ NoPlV ps y H ∧ ∀ H', Same H H' → E (.ref CP) none H') ∨
  ∃ (v pa ra : Addr) (ps : List Str) (rs : List (Addr × Row)) (root : Str) (z : V), vs = [.ref v, .str root, z] ∧ WebAt H v pa ra ps rs ∧ Good ps (rs.map (·.2)) ∧ root ∈ ps ∧ NoNumV 0 6 z H ∧ ∀ H', Same H H' → E (.ref CN) none H'
theorem ok_sharesN {f CW CP CN : Addr} {fd : FuncData} (F : Fun K "shares" "shares" (top 38) f fd) (B : Bl mg) (F1 : FnX P w K mg base 4 "need_web" ["thing"] (orSp (spWeb .non) (spWebN CW))) (F2 : FnX P w K mg base 2 "need_place" ["web", "thing"] (orSp spNeedPlace (spPlaceN CP))) (F3 : FnX P w K mg base 2 "need_number" ["thing", "low", "high"] (orSp spNumber (spNumberN CN))) :
    FnOk P w K mg base (CXE P w) 6 f fd ["web", "root", "many"] (spSharesN CW CP CN) := by
  refine F.okX sc38 (fun vs H Q E h => ?_) (fun cdv A outer s H vs Q E hr h => ?_)
  · rcases h with ⟨x, y, z, rfl, _⟩ | ⟨v, pa, ra, ps, rs, y, z, rfl, _⟩ | ⟨v, pa, ra, ps, rs, root, z, rfl, _⟩ <;> rfl
  · have hr4 : Room 4 _ := hr.mono (by decide)
    have hr2 : Room 2 _ := hr.mono (by decide)
    obtain ⟨tm, hmost⟩ := B.most
    refine ⟨_, pss_cons (ps_expr (pe_fnX (E := E) F1 hr4 passE (pa_cons (pv 0) pa_nil))) (pss_cons (ps_expr (pe_fnX (E := E) F2 hr2 passE (pa_cons (pv 0) (pa_cons (pv 1) pa_nil))))
      (pss_cons (ps_expr (pe_fnX (E := E) F3 hr2 passE (pa_cons (pv 2) (pa_cons pe_int (pa_cons (pe_glob (v := .int 6) rfl hmost ⟨_, rfl⟩) pa_nil))))) pss_never)), ?_⟩
    rcases h with ⟨x, y, z, rfl, hw, k⟩ | ⟨v, pa, ra, ps, rs, y, z, rfl, W, G, hp, k⟩ | ⟨v, pa, ra, ps, rs, root, z, rfl, W, G, hroot, hz, k⟩
    · exact ⟨_, rfl, .inr ⟨x, rfl, hw, k⟩⟩
    · exact ⟨_, rfl, .inl ⟨v, pa, ra, ps, rs, rfl, W, G, fun H1 s1 => ⟨_, rfl, _, rfl, .inr ⟨v, pa, ra, ps, rs, y, rfl, W.same s1, hp.same s1, k H1 s1⟩⟩⟩⟩
    · exact ⟨_, rfl, .inl ⟨v, pa, ra, ps, rs, rfl, W, G, fun H1 s1 => ⟨_, rfl, _, rfl, .inl ⟨v, pa, ra, ps, rs, root, rfl, W.same s1, hroot, _, rfl, .inr ⟨z, 0, 6, rfl, hz.same s1, by decide +kernel, by decide +kernel, by decide +kernel, by decide +kernel, k H1 s1⟩⟩⟩⟩⟩
noncomputable def spShares0 : Sp := fun vs H Q _ => ∃ (v pa ra : Addr) (ps : List Str) (rs : List (Addr × Row)) (root : Str), vs = [.ref v, .str root, .int 0] ∧ WebAt H v pa ra ps rs ∧ Good ps (rs.map (·.2)) ∧ ps.length ≤ 8 ∧ root ∈ ps ∧ ∀ (q : Addr) (H' : Hp), Same H H' → H' q = some (.lst []) → Q (.ref q) H'
theorem ok_shares0 {f CW CP CN : Addr} {fd : FuncData} (F : Fun K "shares" "shares" (top 38) f fd) (B : Bl mg) (F1 : FnX P w K mg base 4 "need_web" ["thing"] (orSp (spWeb .non) (spWebN CW))) (F2 : FnX P w K mg base 2 "need_place" ["web", "thing"] (orSp spNeedPlace (spPlaceN CP))) (F3 : FnX P w K mg base 2 "need_number" ["thing", "low", "high"] (orSp spNumber (spNumberN CN)))
    (F4 : Fn P w K mg base 5 "trees_from" ["web", "roots"] spTrees0) : FnOk P w K mg base (CXE P w) 6 f fd ["web", "root", "many"] spShares0 := by
  refine F.okX sc38 (fun vs H Q E h => ?_) (fun cdv A outer s H vs Q E hr h => ?_)
  · obtain ⟨v, pa, ra, ps, rs, root, rfl, _⟩ := h
    rfl
  · obtain ⟨v, pa, ra, ps, rs, root, rfl, W, G, h8, hroot, k⟩ := h
    have hr4 : Room 4 _ := hr.mono (by decide)
    have hr2 : Room 2 _ := hr.mono (by decide)
    obtain ⟨tm, hmost⟩ := B.most
    refine ⟨_, pss_cons (ps_expr (pe_fnX (E := E) F1 hr4 passE (pa_cons (pv 0) pa_nil))) (pss_cons (ps_expr (pe_fnX (E := E) F2 hr2 passE (pa_cons (pv 0) (pa_cons (pv 1) pa_nil))))
      (pss_cons (ps_expr (pe_fnX (E := E) F3 hr2 passE (pa_cons (pv 2) (pa_cons pe_int (pa_cons (pe_glob (v := .int 6) rfl hmost ⟨_, rfl⟩) pa_nil)))))
      (pss_one (ps_ret (pe_fn F4 hr (pa_cons (pv 0) (pa_cons (pe_op op_repU (pe_tup (pa_cons (pv 1) pa_nil)) (pv 2)) pa_nil))))))), ?_⟩
    refine ⟨_, rfl, .inl ⟨v, pa, ra, ps, rs, rfl, W, G, fun H1 s1 => ⟨_, rfl, _, rfl, .inl ⟨v, pa, ra, ps, rs, root, rfl, W.same s1, hroot, _, rfl, .inl ⟨0, 0, 6, rfl, by decide, by decide, ?_⟩⟩⟩⟩⟩
    refine ⟨_, rfl, _, rfl, by show 1 ≤ sizeLine; decide, fun t0 ht0 => ?_⟩
    have s2 := same_upd (o := .tup [.str root]) s1 ht0
    have t1 : upd H1 t0 (.tup [.str root]) t0 = some (.tup [.str root]) := upd_same
    generalize upd H1 t0 (.tup [.str root]) = H2 at s2 t1 ⊢
    refine ⟨_, rfl, t0, 0, [.str root], rfl, rfl, t1, by simp, by show 1 ≤ 1000; decide, by omega, by omega, fun a H3 s3 a3 => ?_⟩
    have s03 := s2.trans s3
    exact ⟨v, pa, ra, a, ps, rs, rfl, W.same s03, G, h8, a3, fun q H4 s4 e4 => k q H4 (s03.trans s4) e4⟩
end
end K34

set_option Elab.async false
set_option linter.all false
set_option maxRecDepth 100000
set_option maxHeartbeats 4000000
namespace K34
open PySem L2
theorem rcat_tup {K : PySem.W.Frag} {H : Hp} {a b : Addr} {xs ys : List V} {Q : VK} (ha : H a = some (.tup xs)) (hb : H b = some (.tup ys)) (hz : xs.length + ys.length ≤ sizeLine) (h : ∀ p H', Same H H' → H' p = some (.tup (xs ++ ys)) → Q (.ref p) H') : rCatA K (.ref a) (.ref b) H Q :=
  ⟨a, b, xs, ys, rfl, rfl, SqT.of ha, SqT.of hb, hz, fun e => h b H (Same.refl _) (by subst e; exact hb), fun e => h a H (Same.refl _) (by subst e; rw [List.append_nil]; exact ha), fun p hp => h p _ (same_upd (Same.refl _) hp) upd_same⟩
noncomputable def Yd (t : TE) (σ : St) (H : Hp) (f : V → Hp → Prop) : Prop := ∀ H', Same H H' → ∀ Q : VK, (∀ x H2, Same H' H2 → f x H2 → Q x H2) → t σ H' Q
noncomputable def Ya (f : V → Hp → Prop) (t : TA) (σ : St) (H : Hp) (n : Nat) : Prop := ∀ H', Same H H' → ∀ Q : List V → Hp → Prop, (∀ xs H2, Same H' H2 → (∀ x ∈ xs, f x H2) → xs.length = n → Q xs H2) → t σ H' Q
noncomputable abbrev Keeps (f : V → Hp → Prop) : Prop := ∀ x H H', f x H → Same H H' → f x H'
theorem Yd.imp {t : TE} {σ : St} {H : Hp} {f g : V → Hp → Prop} (h : Yd t σ H f) (i : ∀ x H', f x H' → g x H') : Yd t σ H g := fun H' s Q k => h H' s Q fun x H2 s2 hx => k x H2 s2 (i x H2 hx)
theorem Yd.var {σ : St} {i : Nat} {v : V} {H : Hp} {f : V → Hp → Prop} (h : σ[i]? = some (some v)) (hf : ∀ H', Same H H' → f v H') : Yd (tVar i) σ H f := fun H' s Q k => ⟨v, h, k v H' (Same.refl _) (hf H' s)⟩
theorem Yd.con {σ : St} {H : Hp} {v : V} {f : V → Hp → Prop} (h : ∀ H', f v H') : Yd (tC v) σ H f := fun H' s Q k => k _ _ (Same.refl _) (h _)
theorem DVs.append {H : Hp} : ∀ {xs ys : List V} {ds es : List PyData}, DVs H xs ds → DVs H ys es → DVs H (xs ++ ys) (ds ++ es)
  | _, _, _, _, .nil, h => h
  | _, _, _, _, .cons a b, h => .cons a (DVs.append b h)
theorem DVs.rev {H : Hp} : ∀ {xs : List V} {ds : List PyData}, DVs H xs ds → DVs H xs.reverse ds.reverse
  | _, _, .nil => .nil
  | _, _, .cons a b => by rw [List.reverse_cons, List.reverse_cons]; exact DVs.append (DVs.rev b) (.cons a .nil)
theorem Ya.nil {f : V → Hp → Prop} {σ : St} {H : Hp} : Ya f tNil σ H 0 := fun H' s Q k => k _ _ (Same.refl _) (fun x hx => (by cases hx)) rfl
theorem Ya.cons {f : V → Hp → Prop} (kf : Keeps f) {te : TE} {t : TA} {σ : St} {H : Hp} {n : Nat} (h : Yd te σ H f) (hs : Ya f t σ H n) : Ya f (tCons te t) σ H (n + 1) := fun H' s Q k => h H' s _ fun x H1 s1 hx => hs H1 (s.trans s1) _ fun xs H2 s2 hxs hl => k _ _ (s1.trans s2) (fun y hy => by
  rcases List.mem_cons.mp hy with e | e
  · subst e; exact kf _ _ _ hx s2
  · exact hxs y e) (by simp [hl])
theorem sq_lst {f : V → Hp → Prop} (kf : Keeps f) {t : TA} {g : TG} {u : TS} {D : Ends} {σ : St} {H : Hp} {n : Nat} (h : Ya f t σ H n) (hn : n ≤ 900) (k : ∀ (p : Addr) (xs : List V) (H' : Hp), Same H H' → H' p = some (.lst xs) → (∀ x ∈ xs, f x H') → xs.length = n → H p = none → g (.ref p) σ H' (u D)) : tSeq (tAsg (tLst t) g) u D σ H :=
  h H (Same.refl _) _ fun xs H2 s2 hx hl => ⟨Nat.le_of_lt (fits (by omega)), fun p hp => k p xs _ (same_upd s2 hp) upd_same (fun x hm => kf _ _ _ (hx x hm) (same_upd (Same.refl _) hp)) hl (by
    cases hc : H p with
    | none => rfl
    | some o => have := s2 _ _ hc; rw [hp] at this; cases this)⟩
theorem sq_cat {f : V → Hp → Prop} (kf : Keeps f) {t : TA} {g : TG} {u : TS} {D : Ends} {σ : St} {H : Hp} {n i : Nat} {q : Addr} {ys : List V} (hi : σ[i]? = some (some (.ref q))) (hq : H q = some (.lst ys)) (hy : ∀ x ∈ ys, f x H) (h : Ya f t σ H n) (hn : ys.length + n ≤ 900)
    (k : ∀ (p : Addr) (xs : List V) (H' : Hp), Same H H' → H' p = some (.lst xs) → (∀ x ∈ xs, f x H') → xs.length = ys.length + n → H p = none → g (.ref p) σ H' (u D)) : tSeq (tAsg (tOp rCat (tVar i) (tLst t)) g) u D σ H :=
  ⟨_, hi, h H (Same.refl _) _ fun xs H2 s2 hx hl => ⟨Nat.le_of_lt (fits (by omega)), fun p hp => by
    have s3 := same_upd (o := .lst xs) s2 hp
    have h3 : upd H2 p (.lst xs) p = some (.lst xs) := upd_same
    have x3 : ∀ x ∈ xs, f x (upd H2 p (.lst xs)) := fun x hm => kf _ _ _ (hx x hm) (same_upd (Same.refl _) hp)
    generalize upd H2 p (.lst xs) = H3 at s3 h3 x3 ⊢
    refine ⟨q, p, _, _, rfl, rfl, s3 _ _ hq, h3, Nat.le_of_lt (fits (by omega)), fun r hr => ?_⟩
    have s4 := same_upd (o := .lst (ys ++ xs)) (Same.refl H3) hr
    refine k r (ys ++ xs) _ (s3.trans s4) upd_same (fun x hm => ?_) (by simp [hl]) ?_
    · rcases List.mem_append.mp hm with z | z
      · exact kf _ _ _ (hy x z) (s3.trans s4)
      · exact kf _ _ _ (x3 x z) s4
    · cases hc : H r with
      | none => rfl
      | some o => have := s3 _ _ hc; rw [hr] at this; cases this⟩⟩
theorem Pot.same {H H' : Hp} {p : Addr} (h : Pot H p) (s : Same H H') : Pot H' p := h.keep fun o e => s _ _ e
end K34

set_option Elab.async false
set_option linter.all false
set_option maxRecDepth 100000
set_option maxHeartbeats 4000000
namespace K34
open PySem L2
/-! ### data and the pot -/
mutual
theorem DV.kp {H H' : Hp} {p : Addr} (k : Kp [p] H H') (hp : Pot H p) : ∀ {x : V} {d : PyData}, DV H x d → Dok d → DV H' x d
  | _, _, .non, _ => .non
  | _, _, .bl b, _ => .bl b
  | _, _, .int i, _ => .int i
  | _, _, .str x, _ => .str x
  | _, _, .tup (a := a) (xs := xs) e q, hd => .tup (k _ _ e fun z => by
      have z : a = p := by simpa using z
      subst z
      obtain ⟨i, j, q, _⟩ := hp
      rw [e] at q; cases q) (DVs.kp k hp q (by cases hd with | tup _ _ h => exact h))
  | _, _, .lst (a := a) (xs := xs) e q, hd => .lst (k _ _ e fun z => by
      have z : a = p := by simpa using z
      subst z
      obtain ⟨i, j, q', _⟩ := hp
      rw [e] at q'
      cases q'
      cases hd with
      | lst _ _ _ hn =>
        cases q with
        | cons r1 r =>
          cases r with
          | cons r2 r3 =>
            cases r3
            cases r1
            cases r2
            exact hn _ _ rfl) (DVs.kp k hp q (by cases hd with | lst _ _ h _ => exact h))
theorem DVs.kp {H H' : Hp} {p : Addr} (k : Kp [p] H H') (hp : Pot H p) : ∀ {xs : List V} {ds : List PyData}, DVs H xs ds → (∀ d ∈ ds, Dok d) → DVs H' xs ds
  | _, _, .nil, _ => .nil
  | _, _, .cons a b, h => .cons (DV.kp k hp a (h _ List.mem_cons_self)) (DVs.kp k hp b fun d hd => h d (List.mem_cons_of_mem _ hd))
end
end K34

set_option Elab.async false
set_option linter.all false
set_option maxRecDepth 100000
set_option maxHeartbeats 4000000
namespace K34
open PySem L2
/-! ### things whose data is known -/
theorem se_C {c : Const} {k : Nat} {p : Pos} {es : List Expr} {env : Env} : starEach (.Constant c k p :: es) env = (false, eval (.Constant c k p) env) :: starEach es env := rfl
theorem se_T {xs : List Expr} {k : Nat} {p : Pos} {es : List Expr} {env : Env} : starEach (.Tuple xs k p :: es) env = (false, eval (.Tuple xs k p) env) :: starEach es env := rfl
theorem se_L {xs : List Expr} {p : Pos} {es : List Expr} {env : Env} : starEach (.List xs p :: es) env = (false, eval (.List xs p) env) :: starEach es env := rfl
theorem se_D {xs : List (Option Expr)} {ys : List Expr} {p : Pos} {es : List Expr} {env : Env} : starEach (.Dict xs ys p :: es) env = (false, eval (.Dict xs ys p) env) :: starEach es env := rfl
noncomputable abbrev Dv (d : PyData) (x : V) (H : Hp) : Prop := DV H x d
noncomputable def Yas (t : TA) (σ : St) (H : Hp) (ds : List PyData) : Prop := ∀ H', Same H H' → ∀ Q : List V → Hp → Prop, (∀ xs H2, Same H' H2 → DVs H2 xs ds → Q xs H2) → t σ H' Q
theorem Yas.nil {σ : St} {H : Hp} : Yas tNil σ H [] := fun H' s Q k => k _ _ (Same.refl _) .nil
theorem Yas.cons {te : TE} {t : TA} {σ : St} {H : Hp} {d : PyData} {ds : List PyData} (h : Yd te σ H (Dv d)) (hs : Yas t σ H ds) : Yas (tCons te t) σ H (d :: ds) := fun H' s Q k => h H' s _ fun x H1 s1 hx => hs H1 (s.trans s1) _ fun xs H2 s2 hxs => k _ _ (s1.trans s2) (.cons (DV.same s2 hx) hxs)
theorem Yd.tupD {t : TA} {σ : St} {H : Hp} {ds : List PyData} (h : Yas t σ H ds) (hn : ds.length ≤ 60) : Yd (tTup t) σ H (Dv (.tuple ds)) := fun H' s Q k => h H' s _ fun xs H1 s1 hx => by
  have := DVs.len hx
  refine ⟨Nat.le_of_lt (fits (by omega)), fun p hp => ?_⟩
  have s2 := same_upd (o := .tup xs) (Same.refl H1) hp
  exact k _ _ (s1.trans s2) (.tup upd_same (DVs.same s2 hx))
theorem Yd.lsD {t : TA} {σ : St} {H : Hp} {ds : List PyData} (h : Yas t σ H ds) (hn : ds.length ≤ 60) : Yd (tLst t) σ H (Dv (.list ds)) := fun H' s Q k => h H' s _ fun xs H1 s1 hx => by
  have := DVs.len hx
  refine ⟨Nat.le_of_lt (fits (by omega)), fun p hp => ?_⟩
  have s2 := same_upd (o := .lst xs) (Same.refl H1) hp
  exact k _ _ (s1.trans s2) (.lst upd_same (DVs.same s2 hx))
theorem pot_dict {H H' : Hp} {p a : Addr} (k : Kp [p] H H') (hp : Pot H p) (h : H a = some (.dK [])) : H' a = some (.dK []) := k a _ h fun z => by
  have z : a = p := by simpa using z
  subst z
  obtain ⟨i, j, q, _⟩ := hp
  rw [h] at q; cases q
theorem NoWebV.kp {x : V} {H H' : Hp} {p : Addr} (h : NoWebV x H) (k : Kp [p] H H') (hp : Pot H p) : NoWebV x H' := by
  rcases h with ⟨d, a, b, c⟩ | ⟨a, e, ha⟩
  · exact .inl ⟨d, DV.kp k hp a b, b, c⟩
  · exact .inr ⟨a, e, pot_dict k hp ha⟩
theorem NoPlV.kp {ps : List Str} {x : V} {H H' : Hp} {p : Addr} (h : NoPlV ps x H) (k : Kp [p] H H') (hp : Pot H p) : NoPlV ps x H' := by
  rcases h with ⟨d, a, b, c⟩ | ⟨a, e, ha⟩
  · exact .inl ⟨d, DV.kp k hp a b, b, c⟩
  · exact .inr ⟨a, e, pot_dict k hp ha⟩
theorem NoNumV.kp {lo hi : Int} {x : V} {H H' : Hp} {p : Addr} (h : NoNumV lo hi x H) (k : Kp [p] H H') (hp : Pot H p) : NoNumV lo hi x H' := by
  rcases h with ⟨d, a, b, c⟩ | ⟨a, e, ha⟩
  · exact .inl ⟨d, DV.kp k hp a b, b, c⟩
  · exact .inr ⟨a, e, pot_dict k hp ha⟩
theorem web_of {t : TE} {σ : St} {H : Hp} {d : PyData} (h : Yd t σ H (Dv d)) (ok : Dok d) (n : webB d = false) : Yd t σ H NoWebV := h.imp fun x H' z => .inl ⟨d, z, ok, n⟩
theorem pl_of {ps : List Str} {t : TE} {σ : St} {H : Hp} {d : PyData} (h : Yd t σ H (Dv d)) (ok : Dok d) (n : amongD d ps = false) : Yd t σ H (NoPlV ps) := h.imp fun x H' z => .inl ⟨d, z, ok, n⟩
theorem num_of {lo hi : Int} {t : TE} {σ : St} {H : Hp} {d : PyData} (h : Yd t σ H (Dv d)) (ok : Dok d) (n : ∀ i, d = .int i → ¬ (lo ≤ i ∧ i ≤ hi)) : Yd t σ H (NoNumV lo hi) := h.imp fun x H' z => .inl ⟨d, z, ok, n⟩
theorem dict_new {σ : St} {H : Hp} {f : V → Hp → Prop} (h : ∀ p H', H' p = some (.dK []) → f (.ref p) H') : Yd tDNewK σ H f := fun H' s Q k p hp => k _ _ (same_upd (Same.refl _) hp) (h _ _ upd_same)
theorem Yd.i {σ : St} {H : Hp} (i : Int) : Yd (tC (.int i)) σ H (Dv (.int i)) := Yd.con fun _ => .int i
theorem Yd.s {σ : St} {H : Hp} (x : Str) : Yd (tC (.str x)) σ H (Dv (.str x)) := Yd.con fun _ => .str x
theorem Yd.b {σ : St} {H : Hp} (b : Bool) : Yd (tC (.bl b)) σ H (Dv (.bool b)) := Yd.con fun _ => .bl b
theorem Yd.n {σ : St} {H : Hp} : Yd (tC .non) σ H (Dv .none) := Yd.con fun _ => .non
end K34

set_option Elab.async false
set_option linter.all false
set_option maxRecDepth 100000
set_option maxHeartbeats 4000000
namespace K34
open PySem L2
theorem se_U {op : UnaryOp} {a : Expr} {p : Pos} {es : List Expr} {env : Env} : starEach (.UnaryOp op a p :: es) env = (false, eval (.UnaryOp op a p) env) :: starEach es env := rfl
theorem se_B {a : Expr} {op : Operator} {b : Expr} {p : Pos} {es : List Expr} {env : Env} : starEach (.BinOp a op b p :: es) env = (false, eval (.BinOp a op b p) env) :: starEach es env := rfl
theorem se_S {a b : Expr} {p : Pos} {es : List Expr} {env : Env} : starEach (.Subscript a b p :: es) env = (false, eval (.Subscript a b p) env) :: starEach es env := rfl
theorem se_N {x : Str} {p : Pos} {es : List Expr} {env : Env} : starEach (.Name x p :: es) env = (false, eval (.Name x p) env) :: starEach es env := rfl
theorem Yd.neg {t : TE} {σ : St} {H : Hp} {i : Int} (h : Yd t σ H (Dv (.int i))) : Yd (tUn (rU fun i => .int (-i)) t) σ H (Dv (.int (-i))) := fun H' s Q k => h H' s _ fun x H1 s1 hx => by
  cases hx
  exact ⟨i, rfl, k _ _ s1 (.int _)⟩
theorem Yd.pow {σ : St} {H : Hp} (i j : Int) (h : CPow i j) : Yd (tOp (rI CPow fun i j => .int (i ^ j.toNat)) (tC (.int i)) (tC (.int j))) σ H (Dv (.int (i ^ j.toNat))) := fun H' s Q k => ⟨i, j, rfl, rfl, h, k _ _ (Same.refl _) (.int _)⟩
section
variable {P : Program} {w : World} {K : PySem.W.Frag} {mg : Str → Option Value} {base : Heap}
noncomputable def spNoNum : Sp := fun vs H Q _ => ∃ (p : Addr), vs = [.ref p] ∧ Pot H p ∧ ∀ (x : V) (H' : Hp), Pot H' p → Kp [p] H H' → NoNumV 0 6 x H' → Q x H'
noncomputable abbrev N50 : List Str := ["_law_pot_here", "_law_some"]
theorem sc50 : FnScope N50 ["_law_pot_here"] (defScope (top 50)) := ⟨rfl, rfl, rfl, by decide +kernel, rfl, by decide +kernel, by decide +kernel⟩
theorem NoNumV.keeps {lo hi : Int} : Keeps (NoNumV lo hi) := fun x H H' h s => h.same s
theorem NoPlV.keeps {ps : List Str} : Keeps (NoPlV ps) := fun x H H' h s => h.same s
theorem NoWebV.keeps : Keeps NoWebV := fun x H H' h s => h.same s
theorem ok_no_number {f : Addr} {fd : FuncData} (F : Fun K "_law_no_number" "_law_no_number" (top 50) f fd) (B : Bl mg) (Ft : Fn P w K mg base 1 "_law_take" ["_law_pot_here", "_law_many"] spTake) : FnOk P w K mg base CX0 2 f fd ["_law_pot_here"] spNoNum := by
  refine F.ok sc50 (fun vs H Q E h => ?_) (fun cdv A outer s H vs Q E hr h => ?_)
  · obtain ⟨p, rfl, _⟩ := h
    rfl
  · obtain ⟨p, rfl, hp, k⟩ := h
    refine' ⟨_, pss_cons ?s1 ?r1, ?main⟩
    case s1 =>
      refine' ps_set (i := 1) ?nd ?x ?y ?z ?hs ?hf
      case nd => exact sc50.nd
      case x => exact rfl
      case y => exact Or.inl rfl
      case hf => first | exact .inl rfl | exact .inr rfl
      case' z => refine' pe_lst ?l0
      case' l0 => refine' pa_cons ?i0 ?l1 ?h0
      case i0 => exact pe_non
      case h0 => exact se_C
      case' l1 => refine' pa_cons ?i1 ?l2 ?h1
      case i1 => exact pe_un un_neg pe_int
      case h1 => exact se_U
      case' l2 => refine' pa_cons ?i2 ?l3 ?h2
      case i2 => exact pe_int
      case h2 => exact se_C
      case' l3 => refine' pa_cons ?i3 ?l4 ?h3
      case i3 => exact pe_bl
      case h3 => exact se_C
      case' l4 => refine' pa_cons ?i4 ?l5 ?h4
      case i4 => exact pe_bl
      case h4 => exact se_C
      case' l5 => refine' pa_cons ?i5 ?l6 ?h5
      case i5 => exact pe_str
      case h5 => exact se_C
      case' l6 => refine' pa_cons ?i6 ?l7 ?h6
      case i6 => exact pe_str
      case h6 => exact se_C
      case' l7 => refine' pa_cons ?i7 ?l8 ?h7
      case i7 => exact pe_tup (pa_cons pe_int pa_nil se_C)
      case h7 => exact se_T
      case' l8 => refine' pa_cons ?i8 ?l9 ?h8
      case i8 => exact pe_lst (pa_cons pe_int pa_nil se_C)
      case h8 => exact se_L
      case' l9 => refine' pa_cons ?i9 ?l10 ?h9
      case i9 => exact pe_dnewK
      case h9 => exact se_D
      case' l10 => refine' pa_cons ?i10 ?l11 ?h10
      case i10 => exact pe_op op_pow pe_int pe_int
      case h10 => exact se_B
      case' l11 => refine' pa_cons ?i11 ?l12 ?h11
      case i11 => exact pe_un un_neg (pe_op op_pow pe_int pe_int)
      case h11 => exact se_U
      case l12 => exact pa_nil
      case hs => kernel_rfl
    case r1 => exact pss_one (ps_ret (pe_ix ix_seq (pv 1) (pe_fn Ft hr (pa_cons (pv 0) (pa_cons (pe_callB call_len_seq rfl B.len PySem.boot_len (pa_cons (pv 1) pa_nil)) pa_nil))) (fun _ _ => rfl)))
    case main =>
      have a12 : Ya (NoNumV 0 6) tNil [some (.ref p), none] H 0 := .nil
      have a11 := Ya.cons NoNumV.keeps (num_of (lo := 0) (hi := 6) (Yd.neg (Yd.pow 10 29 ⟨by decide, by decide, by decide⟩)) (.int _) (fun i e => by first | (cases e; done) | (cases e; decide))) a12
      have a10 := Ya.cons NoNumV.keeps (num_of (lo := 0) (hi := 6) (Yd.pow 10 29 ⟨by decide, by decide, by decide⟩) (.int _) (fun i e => by first | (cases e; done) | (cases e; decide))) a11
      have a9 := Ya.cons NoNumV.keeps (dict_new (f := NoNumV 0 6) fun p H z => .inr ⟨p, rfl, z⟩) a10
      have a8 := Ya.cons NoNumV.keeps (num_of (lo := 0) (hi := 6) (Yd.lsD (.cons (Yd.i 1) .nil) (by decide)) (.lst _ (by decide) (by simp; exact .int _) (by simp)) (fun i e => by first | (cases e; done) | (cases e; decide))) a9
      have a7 := Ya.cons NoNumV.keeps (num_of (lo := 0) (hi := 6) (Yd.tupD (.cons (Yd.i 1) .nil) (by decide)) (.tup _ (by decide) (by simp; exact .int _)) (fun i e => by first | (cases e; done) | (cases e; decide))) a8
      have a6 := Ya.cons NoNumV.keeps (num_of (lo := 0) (hi := 6) (Yd.s (Str.ofString "")) (.str _ ⟨by decide +kernel, by decide +kernel⟩) (fun i e => by first | (cases e; done) | (cases e; decide))) a7
      have a5 := Ya.cons NoNumV.keeps (num_of (lo := 0) (hi := 6) (Yd.s (Str.ofString "1")) (.str _ ⟨by decide +kernel, by decide +kernel⟩) (fun i e => by first | (cases e; done) | (cases e; decide))) a6
      have a4 := Ya.cons NoNumV.keeps (num_of (lo := 0) (hi := 6) (Yd.b false) (.bl _) (fun i e => by first | (cases e; done) | (cases e; decide))) a5
      have a3 := Ya.cons NoNumV.keeps (num_of (lo := 0) (hi := 6) (Yd.b true) (.bl _) (fun i e => by first | (cases e; done) | (cases e; decide))) a4
      have a2 := Ya.cons NoNumV.keeps (num_of (lo := 0) (hi := 6) (Yd.i 7) (.int _) (fun i e => by first | (cases e; done) | (cases e; decide))) a3
      have a1 := Ya.cons NoNumV.keeps (num_of (lo := 0) (hi := 6) (Yd.neg (Yd.i 1)) (.int _) (fun i e => by first | (cases e; done) | (cases e; decide))) a2
      have a0 := Ya.cons NoNumV.keeps (num_of (lo := 0) (hi := 6) Yd.n .non (fun i e => by first | (cases e; done) | (cases e; decide))) a1
      refine sq_lst NoNumV.keeps a0 (by decide) fun q xs H1 s1 h1 t1 l1 n1 => ?_
      have nqp : q ≠ p := fun z => by obtain ⟨i, j, e, _⟩ := hp; rw [← z, n1] at e; cases e
      have P1 := hp.same s1
      refine ⟨_, rfl, _, rfl, _, rfl, q, _, rfl, .inl (SqL.of h1), p, _, rfl, P1, by omega, by omega, fun i H2 b0 b1 P2 K2 => ?_⟩
      have hi : i.toNat < xs.length := by omega
      refine rix_of (j := i.toNat) (.inl (SqL.of (K2.at nqp h1))) (by omega) (List.getElem?_eq_getElem hi) ?_
      exact k _ H2 P2 ((Kp.same s1).trans K2) ((t1 _ (List.getElem_mem hi)).kp K2 P1)
end
end K34

set_option Elab.async false
set_option linter.all false
set_option maxRecDepth 100000
set_option maxHeartbeats 4000000
namespace K34
open PySem L2
noncomputable abbrev rowDt (r : Addr × Row) : PyData := .tuple [.str r.2.1, .str r.2.2.1, .str r.2.2.2]
noncomputable abbrev webDt (ps : List Str) (rs : List (Addr × Row)) : PyData := .tuple [.tuple (ps.map PyData.str), .tuple (rs.map rowDt)]
theorem rows_dv {H : Hp} : ∀ {rs : List (Addr × Row)}, (∀ r ∈ rs, RowAt H r.1 r.2) → DVs H (rrefs rs) (rs.map rowDt)
  | [], _ => .nil
  | r :: t, h => .cons (.tup (h r List.mem_cons_self) (.cons (.str _) (.cons (.str _) (.cons (.str _) .nil)))) (rows_dv fun x hx => h x (List.mem_cons_of_mem _ hx))
theorem WebAt.dv {H : Hp} {v pa ra : Addr} {ps : List Str} {rs : List (Addr × Row)} (W : WebAt H v pa ra ps rs) : DV H (.ref v) (webDt ps rs) := .tup W.tp (.cons (.tup W.pl (DVs.strs _)) (.cons (.tup W.rl (rows_dv W.rows)) .nil))
theorem dok_name {x : Str} (h : NameP x) : Dok (.str x) := .str x ⟨by have := h.hi; omega, h.ascii⟩
theorem dok_names {ps : List Str} (h : ∀ x ∈ ps, NameP x) (hl : ps.length ≤ 60) : Dok (.tuple (ps.map PyData.str)) := .tup _ (by simpa using hl) fun d hd => by
  obtain ⟨x, hx, rfl⟩ := List.mem_map.mp hd
  exact dok_name (h x hx)
theorem dok_rows {ps : List Str} {rs : List (Addr × Row)} (G : Good ps (rs.map (·.2))) : ∀ d ∈ rs.map rowDt, Dok d := fun d hd => by
  obtain ⟨r, hr, rfl⟩ := List.mem_map.mp hd
  obtain ⟨h1, h2, h3, _⟩ := G.rn r.2 (List.mem_map_of_mem hr)
  refine .tup _ (by simp) fun d hd => ?_
  simp only [List.mem_cons, List.not_mem_nil, or_false] at hd
  rcases hd with rfl | rfl | rfl
  · exact dok_name h1
  · exact dok_name (G.nm _ h2)
  · exact dok_name (G.nm _ h3)
theorem dok_web {ps : List Str} {rs : List (Addr × Row)} (G : Good ps (rs.map (·.2))) (hl : ps.length ≤ 60) : Dok (webDt ps rs) := .tup _ (by simp) fun d hd => by
  simp only [List.mem_cons, List.not_mem_nil, or_false] at hd
  rcases hd with rfl | rfl
  · exact dok_names G.nm hl
  · exact .tup _ (by have := G.rz; simpa using this) (dok_rows G)
theorem not_in {ps : List Str} {x : Str} (G : ∀ y ∈ ps, NameP y) (h : ¬ NameP x) : amongD (.str x) ps = false := decide_eq_false fun z => h (G x z)
theorem Yd.addS {t : TE} {σ : St} {H : Hp} {x : Str} (h : Yd t σ H (Dv (.str x))) (y : Str) (hl : x.length + y.length ≤ 1000) : Yd (tOp (fun x y H Q => ∃ i j, x = V.str i ∧ y = V.str j ∧ i.length + j.length ≤ sizeLine ∧ Q (V.str (i ++ j)) H) t (tC (.str y))) σ H (Dv (.str (x ++ y))) := fun H' s Q k => h H' s _ fun z H1 s1 hz => by
  cases hz
  exact ⟨x, y, rfl, rfl, Nat.le_of_lt (fits hl), k _ _ s1 (.str _)⟩
theorem Yd.ix00 {K : PySem.W.Frag} {σ : St} {H : Hp} {i : Nat} {v pa ra : Addr} {p0 : Str} {r : List V} (hi : σ[i]? = some (some (.ref v))) (h1 : H v = some (.tup [.ref pa, .ref ra])) (h2 : H pa = some (.tup (.str p0 :: r))) : Yd (tOp (rIx K) (tOp (rIx K) (tVar i) (tC (.int 0))) (tC (.int 0))) σ H (Dv (.str p0)) := fun H' s Q k =>
  ⟨_, hi, rix_of (j := 0) (.inr (SqT.of (s _ _ h1))) rfl rfl (rix_of (j := 0) (.inr (SqT.of (s _ _ h2))) rfl rfl (k _ _ (Same.refl _) (.str _)))⟩
section
variable {P : Program} {w : World} {K : PySem.W.Frag} {mg : Str → Option Value} {base : Heap}
noncomputable def spNoPlace : Sp := fun vs H Q _ => ∃ (p v pa ra : Addr) (ps : List Str) (rs : List (Addr × Row)), vs = [.ref p, .ref v] ∧ Pot H p ∧ WebAt H v pa ra ps rs ∧ Good ps (rs.map (·.2)) ∧ ps.length ≤ 8 ∧ (∀ x ∈ ps, x.length ≤ 7) ∧ ∀ (x : V) (H' : Hp), Pot H' p → Kp [p] H H' → NoPlV ps x H' → Q x H'
noncomputable abbrev N49 : List Str := ["_law_pot_here", "_law_web_here", "_law_some"]
theorem sc49 : FnScope N49 ["_law_pot_here", "_law_web_here"] (defScope (top 49)) := ⟨rfl, rfl, rfl, by decide +kernel, rfl, by decide +kernel, by decide +kernel⟩
theorem ok_no_place {f : Addr} {fd : FuncData} (F : Fun K "_law_no_place" "_law_no_place" (top 49) f fd) (B : Bl mg) (Ft : Fn P w K mg base 1 "_law_take" ["_law_pot_here", "_law_many"] spTake) : FnOk P w K mg base CX0 2 f fd ["_law_pot_here", "_law_web_here"] spNoPlace := by
  refine F.ok sc49 (fun vs H Q E h => ?_) (fun cdv A outer s H vs Q E hr h => ?_)
  · obtain ⟨p, v, pa, ra, ps, rs, rfl, _⟩ := h
    rfl
  · obtain ⟨p, v, pa, ra, ps, rs, rfl, hp, W, G, h8, h7, k⟩ := h
    refine' ⟨_, pss_cons ?s1 ?r1, ?main⟩
    case s1 =>
      refine' ps_set (i := 2) ?nd ?x ?y ?z ?hs ?hf
      case nd => exact sc49.nd
      case x => exact rfl
      case y => exact Or.inl rfl
      case hf => first | exact .inl rfl | exact .inr rfl
      case' z => refine' pe_lst ?l0
      case' l0 => refine' pa_cons ?i0 ?l1 ?h0
      case i0 => exact pe_non
      case h0 => exact se_C
      case' l1 => refine' pa_cons ?i1 ?l2 ?h1
      case i1 => exact pe_int
      case h1 => exact se_C
      case' l2 => refine' pa_cons ?i2 ?l3 ?h2
      case i2 => exact pe_bl
      case h2 => exact se_C
      case' l3 => refine' pa_cons ?i3 ?l4 ?h3
      case i3 => exact pe_str
      case h3 => exact se_C
      case' l4 => refine' pa_cons ?i4 ?l5 ?h4
      case i4 => exact pe_str
      case h4 => exact se_C
      case' l5 => refine' pa_cons ?i5 ?l6 ?h5
      case i5 => exact pe_str
      case h5 => exact se_C
      case' l6 => refine' pa_cons ?i6 ?l7 ?h6
      case i6 => exact pe_tup (pa_cons (pe_ix ix_seq (pe_ix ix_seq (pv 1) pe_int (fun _ _ => rfl)) pe_int (fun _ _ => rfl)) pa_nil se_S)
      case h6 => exact se_T
      case' l7 => refine' pa_cons ?i7 ?l8 ?h7
      case i7 => exact pe_lst (pa_cons (pe_ix ix_seq (pe_ix ix_seq (pv 1) pe_int (fun _ _ => rfl)) pe_int (fun _ _ => rfl)) pa_nil se_S)
      case h7 => exact se_L
      case' l8 => refine' pa_cons ?i8 ?l9 ?h8
      case i8 => exact pe_dnewK
      case h8 => exact se_D
      case' l9 => refine' pa_cons ?i9 ?l10 ?h9
      case i9 => exact pe_op op_add_str (pe_ix ix_seq (pe_ix ix_seq (pv 1) pe_int (fun _ _ => rfl)) pe_int (fun _ _ => rfl)) pe_str
      case h9 => exact se_B
      case' l10 => refine' pa_cons ?i10 ?l11 ?h10
      case i10 => exact pv 1
      case h10 => exact se_N
      case l11 => exact pa_nil
      case hs => kernel_rfl
    case r1 => exact pss_one (ps_ret (pe_ix ix_seq (pv 2) (pe_fn Ft hr (pa_cons (pv 0) (pa_cons (pe_callB call_len_seq rfl B.len PySem.boot_len (pa_cons (pv 2) pa_nil)) pa_nil))) (fun _ _ => rfl)))
    case main =>
      obtain ⟨p0, pr, hps⟩ : ∃ p0 pr, ps = p0 :: pr := by
        cases ps with
        | nil => exact absurd rfl G.ne
        | cons a b => exact ⟨a, b, rfl⟩
      have hp0 : NameP p0 := G.nm p0 (by rw [hps]; simp)
      have hpa : H pa = some (.tup (.str p0 :: pr.map V.str)) := by rw [W.pl, hps]; rfl
      have n1 : amongD (.str (Str.ofString "")) ps = false := not_in G.nm fun z => by have := z.lo; revert this; decide +kernel
      have n2 : amongD (.str (Str.ofString "nowheres")) ps = false := decide_eq_false fun z => by have := h7 _ z; revert this; decide +kernel
      have n3 : amongD (.str (Str.ofString "A")) ps = false := not_in G.nm fun z => by have := z.az 65 (by decide +kernel); revert this; decide
      have n4 : amongD (.str (p0 ++ Str.ofString "~")) ps = false := not_in G.nm fun z => by
        have := z.az 126 (by rw [Str.cps_append, Array.toList_append]; exact List.mem_append_right _ (by decide +kernel))
        revert this; decide
      have hl0 := hp0.hi
      have kp : Dok (.str p0) := dok_name hp0
      have kw := dok_web G (by omega)
      have kt : Dok (.str (p0 ++ Str.ofString "~")) := .str _ ⟨by rw [Str.length_append, show (Str.ofString "~").length = 1 by decide +kernel]; omega, by
        have := hp0.ascii
        rw [Str.cps_append, Array.all_append, this]
        decide +kernel⟩
      have yp : Yd (tOp (rIx (cxOf CX0 P w K mg base N49 (Str.ofString "_law_no_place") (defScope (top 49)) f cdv A outer s H E).nox.K) (tOp (rIx (cxOf CX0 P w K mg base N49 (Str.ofString "_law_no_place") (defScope (top 49)) f cdv A outer s H E).nox.K) (tVar 1) (tC (.int 0))) (tC (.int 0))) [some (.ref p), some (.ref v), none] H (Dv (.str p0)) := Yd.ix00 rfl W.tp hpa
      have yw : Yd (tVar 1) [some (.ref p), some (.ref v), none] H (Dv (webDt ps rs)) := Yd.var rfl fun H' s => (W.same s).dv
      have a11 : Ya (NoPlV ps) tNil [some (.ref p), some (.ref v), none] H 0 := .nil
      have a10 := Ya.cons NoPlV.keeps (pl_of (ps := ps) yw kw rfl) a11
      have a9 := Ya.cons NoPlV.keeps (pl_of (ps := ps) (Yd.addS yp (Str.ofString "~") (by rw [show (Str.ofString "~").length = 1 by decide +kernel]; omega)) kt n4) a10
      have a8 := Ya.cons NoPlV.keeps (dict_new (f := NoPlV ps) fun p H z => .inr ⟨p, rfl, z⟩) a9
      have a7 := Ya.cons NoPlV.keeps (pl_of (ps := ps) (Yd.lsD (.cons yp .nil) (by simp)) (.lst _ (by simp) (by simp; exact kp) (by simp)) rfl) a8
      have a6 := Ya.cons NoPlV.keeps (pl_of (ps := ps) (Yd.tupD (.cons yp .nil) (by simp)) (.tup _ (by simp) (by simp; exact kp)) rfl) a7
      have a5 := Ya.cons NoPlV.keeps (pl_of (ps := ps) (Yd.s (Str.ofString "A")) (.str _ ⟨by decide +kernel, by decide +kernel⟩) n3) a6
      have a4 := Ya.cons NoPlV.keeps (pl_of (ps := ps) (Yd.s (Str.ofString "nowheres")) (.str _ ⟨by decide +kernel, by decide +kernel⟩) n2) a5
      have a3 := Ya.cons NoPlV.keeps (pl_of (ps := ps) (Yd.s (Str.ofString "")) (.str _ ⟨by decide +kernel, by decide +kernel⟩) n1) a4
      have a2 := Ya.cons NoPlV.keeps (pl_of (ps := ps) (Yd.b true) (.bl _) rfl) a3
      have a1 := Ya.cons NoPlV.keeps (pl_of (ps := ps) (Yd.i 0) (.int _) rfl) a2
      have a0 := Ya.cons NoPlV.keeps (pl_of (ps := ps) Yd.n .non rfl) a1
      refine sq_lst NoPlV.keeps a0 (by decide) fun q xs H1 s1 h1 t1 l1 n1 => ?_
      have nqp : q ≠ p := fun z => by obtain ⟨i, j, e, _⟩ := hp; rw [← z, n1] at e; cases e
      have P1 := hp.same s1
      refine ⟨_, rfl, _, rfl, _, rfl, q, _, rfl, .inl (SqL.of h1), p, _, rfl, P1, by omega, by omega, fun i H2 b0 b1 P2 K2 => ?_⟩
      have hi : i.toNat < xs.length := by omega
      refine rix_of (j := i.toNat) (.inl (SqL.of (K2.at nqp h1))) (by omega) (List.getElem?_eq_getElem hi) ?_
      exact k _ H2 P2 ((Kp.same s1).trans K2) ((t1 _ (List.getElem_mem hi)).kp K2 P1)
end
end K34

set_option Elab.async false
set_option linter.all false
set_option maxRecDepth 100000
set_option maxHeartbeats 4000000
namespace K34
open PySem L2
/-! ### webs that are none -/
theorem wb1 {a b : PyData} (h : sortedD a = false) : webB (.tuple [a, b]) = false := by
  show (sortedD a && _) = false
  rw [h]; rfl
theorem wb2 {a b : PyData} (h : (subD a).isEmpty = true) : webB (.tuple [a, b]) = false := by
  show (sortedD a && (!(subD a).isEmpty && _)) = false
  rw [h]; simp
theorem wb3 {a b : PyData} (h : isTupD b = false) : webB (.tuple [a, b]) = false := by
  show (sortedD a && (!(subD a).isEmpty && (isTupD b && _))) = false
  rw [h]; simp
theorem wb4 {a : PyData} {ds : List PyData} {d : PyData} (hd : d ∈ ds) (h : tieD (txts (subD a)) d = false) : webB (.tuple [a, .tuple ds]) = false := by
  show (sortedD a && (!(subD a).isEmpty && (isTupD (.tuple ds) && (ds.all (tieD (txts (subD a))) && _)))) = false
  have : ds.all (tieD (txts (subD a))) = false := by
    rw [List.all_eq_false]
    exact ⟨d, hd, by rw [h]; simp⟩
  rw [this]; simp
theorem wb5 {a : PyData} {ds : List PyData} (h : ¬ (ds.map rowNm).Pairwise nlt) : webB (.tuple [a, .tuple ds]) = false := by
  show (sortedD a && (!(subD a).isEmpty && (isTupD (.tuple ds) && (_ && risB (ds.map rowNm))))) = false
  rw [risB_f h]; simp
theorem so1 {ds : List PyData} {d : PyData} (hd : d ∈ ds) (h : nameD d = false) : sortedD (.tuple ds) = false := by
  show (ds.all nameD && _) = false
  have : ds.all nameD = false := by
    rw [List.all_eq_false]
    exact ⟨d, hd, by rw [h]; simp⟩
  rw [this]; rfl
theorem so2 {ss : List Str} (h : ¬ ss.Pairwise nlt) : sortedD (.tuple (ss.map PyData.str)) = false := by
  show ((ss.map PyData.str).all nameD && risB (txts (ss.map PyData.str))) = false
  rw [txts_map, risB_f h]; simp
theorem dok0 : Dok (.tuple []) := .tup _ (by simp) (by simp)
theorem dok1 {a : PyData} (h : Dok a) : Dok (.tuple [a]) := .tup _ (by simp) (by simpa using h)
theorem dok2 {a b : PyData} (h : Dok a) (g : Dok b) : Dok (.tuple [a, b]) := .tup _ (by simp) (by simp; exact ⟨h, g⟩)
theorem dok3 {a b c : PyData} (h : Dok a) (g : Dok b) (i : Dok c) : Dok (.tuple [a, b, c]) := .tup _ (by simp) (by simp; exact ⟨h, g, i⟩)
theorem dok4 {a b c d : PyData} (h : Dok a) (g : Dok b) (i : Dok c) (j : Dok d) : Dok (.tuple [a, b, c, d]) := .tup _ (by simp) (by simp; exact ⟨h, g, i, j⟩)
theorem dokS {x : Str} (h1 : x.length ≤ 100) (h2 : x.cps.all (· < 128) = true) : Dok (.str x) := .str x ⟨h1, h2⟩
theorem rev_not {ps : List Str} (h : ps.Pairwise nlt) (h2 : 1 < ps.length) : ¬ ps.reverse.Pairwise nlt := fun z => by
  rw [List.pairwise_reverse] at z
  match ps, h2 with
  | a :: b :: r, _ =>
    have h3 := (List.pairwise_cons.mp h).1 b (by simp)
    have h4 := (List.pairwise_cons.mp z).1 b (by simp)
    exact List.lt_irrefl _ (List.lt_trans (show a.cps.toList < b.cps.toList from h3) h4)
theorem last_not {ps : List Str} {x : Str} (h : x ∈ ps) : ¬ (ps ++ [x]).Pairwise nlt := fun z => by
  have := (List.pairwise_append.mp z).2.2 x h x (by simp)
  exact List.lt_irrefl _ (show x.cps.toList < x.cps.toList from this)
structure Cn (σ : St) (H : Hp) (pa ra : Addr) (ps : List Str) (rs : List (Addr × Row)) (p0 : Str) : Prop where
  s2 : σ[2]? = some (some (.ref pa))
  s3 : σ[3]? = some (some (.ref ra))
  s4 : σ[4]? = some (some (.str p0))
  h2 : H pa = some (.tup (ps.map V.str))
  h3 : H ra = some (.tup (rrefs rs))
  rw : ∀ r ∈ rs, RowAt H r.1 r.2
section
variable {σ : St} {H : Hp} {pa ra : Addr} {ps : List Str} {rs : List (Addr × Row)} {p0 : Str}
theorem Cn.P (c : Cn σ H pa ra ps rs p0) : Yd (tVar 2) σ H (Dv (.tuple (ps.map PyData.str))) := Yd.var c.s2 fun H' s => .tup (s _ _ c.h2) (DVs.strs _)
theorem Cn.R (c : Cn σ H pa ra ps rs p0) : Yd (tVar 3) σ H (Dv (.tuple (rs.map rowDt))) := Yd.var c.s3 fun H' s => .tup (s _ _ c.h3) (rows_dv fun r hr => s _ _ (c.rw r hr))
theorem Cn.F (c : Cn σ H pa ra ps rs p0) : Yd (tVar 4) σ H (Dv (.str p0)) := Yd.var c.s4 fun H' s => .str _
theorem Yd.lsO {K : PySem.W.Frag} {te : TE} {ds : List PyData} (h : Yd te σ H (Dv (.tuple ds))) : Yd (tCB (fun xs H Q => ∃ p ys, xs = [.ref p] ∧ (SqL K H p ys ∨ SqT K H p ys) ∧ ∀ l, H l = none → Q (.ref l) (upd H l (.lst ys))) (tCons te tNil)) σ H (Dv (.list ds)) := fun H' s Q k => h H' s _ fun x H1 s1 hx => by
  cases hx with
  | @tup a xs _ e q =>
    refine ⟨a, _, rfl, .inr (SqT.of e), fun l hl => ?_⟩
    have s2 := same_upd (o := .lst xs) (Same.refl H1) hl
    exact k _ _ (s1.trans s2) (.lst upd_same (DVs.same s2 q))
theorem Yd.catD {K : PySem.W.Frag} {ta tb : TE} {ds es : List PyData} (ha : Yd ta σ H (Dv (.tuple ds))) (hb : Yd tb σ H (Dv (.tuple es))) (hz : ds.length + es.length ≤ 900) : Yd (tOp (rCatA K) ta tb) σ H (Dv (.tuple (ds ++ es))) := fun H' s Q k => ha H' s _ fun x H1 s1 hx => hb H1 (s.trans s1) _ fun y H2 s2 hy => by
  cases hx with
  | @tup a xs _ e q =>
    cases hy with
    | @tup b ys _ e' q' =>
      have l1 := DVs.len q
      have l2 := DVs.len q'
      exact rcat_tup (s2 _ _ e) e' (Nat.le_of_lt (fits (by omega))) fun r H3 s3 hr => k _ _ (s1.trans (s2.trans s3)) (.tup hr (DVs.append (DVs.same (s2.trans s3) q) (DVs.same s3 q')))
end
end K34

set_option Elab.async false
set_option linter.all false
set_option maxRecDepth 100000
set_option maxHeartbeats 4000000
namespace K34
open PySem L2
theorem se_A {f : Expr} {as : List Expr} {ks : List Keyword} {p : Pos} {es : List Expr} {env : Env} : starEach (.Call f as ks p :: es) env = (false, eval (.Call f as ks p) env) :: starEach es env := rfl
theorem cut_last (xs : List V) (x : V) : cutV (xs ++ [x]) (some (-1)) none = [x] := by
  unfold cutV
  simp [HT.sIx]
  have e : (-1 + ((xs.length : Int) + 1)).toNat = xs.length := by omega
  rw [e]
  simp
theorem Yd.last {K : PySem.W.Frag} {σ : St} {H : Hp} {pa : Addr} {ps ini : List Str} {l : Str} (s2 : σ[2]? = some (some (.ref pa))) (h2 : H pa = some (.tup (ps.map V.str))) (e : ps = ini ++ [l]) : Yd (tSl (rSlA K) (tVar 2) (tPart (tUn (rU fun i => .int (-i)) (tC (.int 1)))) tNoPart) σ H (Dv (.tuple [.str l])) := fun H' s Q k => by
  have hc : cutV (ps.map V.str) (some (-1)) none = [.str l] := by rw [e, List.map_append]; exact cut_last _ _
  refine ⟨_, s2, 1, rfl, _, rfl, pa, _, rfl, SqT.of (s _ _ h2), fun z => ?_, fun p hp => ?_⟩
  · have z' : ps.map V.str = [.str l] := z.symm.trans hc
    exact k _ _ (Same.refl _) (.tup (by rw [← z']; exact s _ _ h2) (.cons (.str _) .nil))
  · have z' : cutV (ps.map V.str) (some (-1)) none = [V.str l] := hc
    have s3 := same_upd (o := .tup [V.str l]) (Same.refl H') hp
    show Q (.ref p) (upd H' p (.tup (cutV (ps.map V.str) (some (-1)) none)))
    rw [z']
    exact k _ _ s3 (.tup upd_same (.cons (.str _) .nil))
theorem Yd.revD {K : PySem.W.Frag} {te : TE} {σ : St} {H : Hp} {ds : List PyData} (h : Yd te σ H (Dv (.tuple ds))) : Yd (tRevT K te (tPart (tUn (rU fun i => .int (-i)) (tC (.int 1))))) σ H (Dv (.tuple ds.reverse)) := fun H' s Q k => h H' s _ fun x H1 s1 hx => by
  cases hx with
  | @tup a xs _ e q =>
    refine ⟨1, rfl, _, rfl, rfl, a, _, rfl, SqT.of e, fun p hp => ?_⟩
    have s2 := same_upd (o := .tup xs.reverse) (Same.refl H1) hp
    exact k _ _ (s1.trans s2) (.tup upd_same (DVs.same s2 (DVs.rev q)))
section
variable {P : Program} {w : World} {K : PySem.W.Frag} {mg : Str → Option Value} {base : Heap}
noncomputable def spNoWeb : Sp := fun vs H Q _ => ∃ (p v pa ra : Addr) (ps : List Str) (rs : List (Addr × Row)), vs = [.ref p, .ref v] ∧ Pot H p ∧ WebAt H v pa ra ps rs ∧ Good ps (rs.map (·.2)) ∧ ps.length ≤ 8 ∧ (∀ x ∈ ps, x.length ≤ 7) ∧ ∀ (x : V) (H' : Hp), Pot H' p → Kp [p] H H' → NoWebV x H' → Q x H'
noncomputable abbrev N48 : List Str := ["_law_pot_here", "_law_web_here", "_law_places", "_law_rows", "_law_first", "_law_some", "_law_other"]
theorem sc48 : FnScope N48 ["_law_pot_here", "_law_web_here"] (defScope (top 48)) := ⟨rfl, rfl, rfl, by decide +kernel, rfl, by decide +kernel, by decide +kernel⟩
theorem ok_no_web {f : Addr} {fd : FuncData} (F : Fun K "_law_no_web" "_law_no_web" (top 48) f fd) (B : Bl mg) (Ft : Fn P w K mg base 1 "_law_take" ["_law_pot_here", "_law_many"] spTake) : FnOk P w K mg base CX0 2 f fd ["_law_pot_here", "_law_web_here"] spNoWeb := by
  refine F.ok sc48 (fun vs H Q E h => ?_) (fun cdv A outer s H vs Q E hr h => ?_)
  · obtain ⟨p, v, pa, ra, ps, rs, rfl, _⟩ := h
    rfl
  · obtain ⟨p, v, pa, ra, ps, rs, rfl, hp, W, G, h8, h7, k⟩ := h
    refine' ⟨_, ?d0, ?main⟩
    case' d0 => refine' pss_cons ?s0 ?d1
    case' d1 => refine' pss_cons ?sf ?d2
    case' d2 => refine' pss_cons ?s1 ?d3
    case' d3 => refine' pss_cons ?s2 ?d4
    case' d4 => refine' pss_cons ?s3 ?d5
    case' d5 => refine' pss_cons ?s4 ?d6
    case' d6 => refine' pss_cons ?si ?r1
    case' si => refine' ps_if ?ct ?e0 pss_nil
    case' e0 => refine' pss_cons ?so ?e1
    case' e1 => refine' pss_cons ?s5 ?e2
    case' e2 => refine' pss_cons ?s6 ?e3
    case' e3 => refine' pss_cons ?s7 pss_nil
    case s0 => exact ps_asg (pv 1) (pg_tup rfl (n := 2) (pgs_cons (pg_name (i := 2) sc48.nd rfl (Or.inl rfl)) (pgs_cons (pg_name (i := 3) sc48.nd rfl (Or.inl rfl)) pgs_nil)))
    case sf => exact ps_set (i := 4) sc48.nd rfl (Or.inl rfl) (pe_ix ix_seq (pv 2) pe_int (fun _ _ => rfl))
    case s1 =>
      refine' ps_set (i := 5) ?kand ?kax ?kay ?kaz ?kahs ?kahf
      case kand => exact sc48.nd
      case kax => exact rfl
      case kay => exact Or.inl rfl
      case kahf => first | exact .inl rfl | exact .inr rfl
      case' kaz => refine' pe_lst ?kal0
      case' kal0 => refine' pa_cons ?kai0 ?kal1 ?kah0
      case kai0 => exact pe_non
      case kah0 => exact se_C
      case' kal1 => refine' pa_cons ?kai1 ?kal2 ?kah1
      case kai1 => exact pe_int
      case kah1 => exact se_C
      case' kal2 => refine' pa_cons ?kai2 ?kal3 ?kah2
      case kai2 => exact pe_str
      case kah2 => exact se_C
      case' kal3 => refine' pa_cons ?kai3 ?kal4 ?kah3
      case kai3 => exact pe_tup pa_nil
      case kah3 => exact se_T
      case' kal4 => refine' pa_cons ?kai4 ?kal5 ?kah4
      case kai4 => exact pe_lst pa_nil
      case kah4 => exact se_L
      case' kal5 => refine' pa_cons ?kai5 ?kal6 ?kah5
      case kai5 => exact pe_dnewK
      case kah5 => exact se_D
      case' kal6 => refine' pa_cons ?kai6 ?kal7 ?kah6
      case kai6 => exact pe_tup (pa_cons (pv 2) pa_nil se_N)
      case kah6 => exact se_T
      case' kal7 => refine' pa_cons ?kai7 ?kal8 ?kah7
      case kai7 => exact pe_tup (pa_cons (pv 2) (pa_cons (pv 3) (pa_cons (pe_tup pa_nil) pa_nil se_T) se_N) se_N)
      case kah7 => exact se_T
      case' kal8 => refine' pa_cons ?kai8 ?kal9 ?kah8
      case kai8 => exact pe_lst (pa_cons (pv 2) (pa_cons (pv 3) pa_nil se_N) se_N)
      case kah8 => exact se_L
      case' kal9 => refine' pa_cons ?kai9 ?kal10 ?kah9
      case kai9 => exact pe_tup (pa_cons (pe_callTy call_list_of rfl B.list b_list (pa_cons (pv 2) pa_nil)) (pa_cons (pv 3) pa_nil se_N) se_A)
      case kah9 => exact se_T
      case' kal10 => refine' pa_cons ?kai10 ?kal11 ?kah10
      case kai10 => exact pe_tup (pa_cons (pe_tup pa_nil) (pa_cons (pe_tup pa_nil) pa_nil se_T) se_T)
      case kah10 => exact se_T
      case kal11 => exact pa_nil
      case kahs => kernel_rfl
    case s2 =>
      refine' ps_set (i := 5) ?kbnd ?kbx ?kby ?kbz ?kbhs ?kbhf
      case kbnd => exact sc48.nd
      case kbx => exact rfl
      case kby => exact Or.inl rfl
      case kbhf => first | exact .inl rfl | exact .inr rfl
      case' kbz => refine' pe_op ?kbo ?kba ?kbb
      case kbo => exact op_cat
      case kba => exact pv 5
      case' kbb => refine' pe_lst ?kbl0
      case' kbl0 => refine' pa_cons ?kbi0 ?kbl1 ?kbh0
      case kbi0 => exact pe_tup (pa_cons (pv 2) (pa_cons (pe_callTy call_list_of rfl B.list b_list (pa_cons (pv 3) pa_nil)) pa_nil se_A) se_N)
      case kbh0 => exact se_T
      case' kbl1 => refine' pa_cons ?kbi1 ?kbl2 ?kbh1
      case kbi1 => exact pe_tup (pa_cons (pe_op op_catA (pv 2) (pe_slice sl_tupA (pv 2) (po_some (pe_un un_neg pe_int)) po_none)) (pa_cons (pv 3) pa_nil se_N) se_B)
      case kbh1 => exact se_T
      case' kbl2 => refine' pa_cons ?kbi2 ?kbl3 ?kbh2
      case kbi2 => exact pe_tup (pa_cons (pe_tup (pa_cons (pe_str) (pa_cons (pe_str) pa_nil se_C) se_C)) (pa_cons (pe_tup pa_nil) pa_nil se_T) se_T)
      case kbh2 => exact se_T
      case' kbl3 => refine' pa_cons ?kbi3 ?kbl4 ?kbh3
      case kbi3 => exact pe_tup (pa_cons (pe_op op_catA (pv 2) (pe_tup (pa_cons (pe_str) pa_nil se_C))) (pa_cons (pv 3) pa_nil se_N) se_B)
      case kbh3 => exact se_T
      case kbl4 => exact pa_nil
      case kbhs => kernel_rfl
    case s3 =>
      refine' ps_set (i := 5) ?kcnd ?kcx ?kcy ?kcz ?kchs ?kchf
      case kcnd => exact sc48.nd
      case kcx => exact rfl
      case kcy => exact Or.inl rfl
      case kchf => first | exact .inl rfl | exact .inr rfl
      case' kcz => refine' pe_op ?kco ?kca ?kcb
      case kco => exact op_cat
      case kca => exact pv 5
      case' kcb => refine' pe_lst ?kcl0
      case' kcl0 => refine' pa_cons ?kci0 ?kcl1 ?kch0
      case kci0 => exact pe_tup (pa_cons (pv 2) (pa_cons (pe_tup (pa_cons (pe_tup (pa_cons (pv 4) (pa_cons (pv 4) (pa_cons (pv 4) pa_nil se_N) se_N) se_N)) pa_nil se_T)) pa_nil se_T) se_N)
      case kch0 => exact se_T
      case' kcl1 => refine' pa_cons ?kci1 ?kcl2 ?kch1
      case kci1 => exact pe_tup (pa_cons (pv 2) (pa_cons (pe_tup (pa_cons (pe_tup (pa_cons (pe_str) (pa_cons (pv 4) (pa_cons (pe_str) pa_nil se_C) se_N) se_C)) pa_nil se_T)) pa_nil se_T) se_N)
      case kch1 => exact se_T
      case' kcl2 => refine' pa_cons ?kci2 ?kcl3 ?kch2
      case kci2 => exact pe_tup (pa_cons (pv 2) (pa_cons (pe_tup (pa_cons (pe_str) pa_nil se_C)) pa_nil se_T) se_N)
      case kch2 => exact se_T
      case kcl3 => exact pa_nil
      case kchs => kernel_rfl
    case s4 =>
      refine' ps_set (i := 5) ?kdnd ?kdx ?kdy ?kdz ?kdhs ?kdhf
      case kdnd => exact sc48.nd
      case kdx => exact rfl
      case kdy => exact Or.inl rfl
      case kdhf => first | exact .inl rfl | exact .inr rfl
      case' kdz => refine' pe_op ?kdo ?kda ?kdb
      case kdo => exact op_cat
      case kda => exact pv 5
      case' kdb => refine' pe_lst ?kdl0
      case' kdl0 => refine' pa_cons ?kdi0 ?kdl1 ?kdh0
      case kdi0 => exact pe_tup (pa_cons (pv 2) (pa_cons (pe_tup (pa_cons (pe_tup (pa_cons (pe_str) (pa_cons (pv 4) pa_nil se_N) se_C)) pa_nil se_T)) pa_nil se_T) se_N)
      case kdh0 => exact se_T
      case' kdl1 => refine' pa_cons ?kdi1 ?kdl2 ?kdh1
      case kdi1 => exact pe_tup (pa_cons (pv 2) (pa_cons (pe_tup (pa_cons (pe_tup (pa_cons (pe_int) (pa_cons (pv 4) (pa_cons (pv 4) pa_nil se_N) se_N) se_C)) pa_nil se_T)) pa_nil se_T) se_N)
      case kdh1 => exact se_T
      case' kdl2 => refine' pa_cons ?kdi2 ?kdl3 ?kdh2
      case kdi2 => exact pe_tup (pa_cons (pe_tup (pa_cons (pe_int) pa_nil se_C)) (pa_cons (pe_tup pa_nil) pa_nil se_T) se_T)
      case kdh2 => exact se_T
      case' kdl3 => refine' pa_cons ?kdi3 ?kdl4 ?kdh3
      case kdi3 => exact pe_tup (pa_cons (pv 4) (pa_cons (pv 3) pa_nil se_N) se_N)
      case kdh3 => exact se_T
      case kdl4 => exact pa_nil
      case kdhs => kernel_rfl
    case ct => exact pt_cmpR op_gt (pe_callB call_len_seq rfl B.len PySem.boot_len (pa_cons (pv 2) pa_nil)) pe_int (nomark _)
    case so => exact ps_set (i := 6) sc48.nd rfl (Or.inl rfl) (pe_ix ix_seq (pv 2) pe_int (fun _ _ => rfl))
    case s5 =>
      refine' ps_set (i := 5) ?kend ?kex ?key ?kez ?kehs ?kehf
      case kend => exact sc48.nd
      case kex => exact rfl
      case key => exact Or.inl rfl
      case kehf => first | exact .inl rfl | exact .inr rfl
      case' kez => refine' pe_op ?keo ?kea ?keb
      case keo => exact op_cat
      case kea => exact pv 5
      case' keb => refine' pe_lst ?kel0
      case' kel0 => refine' pa_cons ?kei0 ?kel1 ?keh0
      case kei0 => exact pe_tup (pa_cons (pe_revT (fun o i => [o, i]) (pv 2) (po_some (pe_un un_neg pe_int)) (fun _ _ => by with_unfolding_all rfl)) (pa_cons (pe_tup pa_nil) pa_nil se_T) se_S)
      case keh0 => exact se_T
      case' kel1 => refine' pa_cons ?kei1 ?kel2 ?keh1
      case kei1 => exact pe_tup (pa_cons (pv 2) (pa_cons (pe_tup (pa_cons (pe_tup (pa_cons (pe_str) (pa_cons (pv 4) (pa_cons (pv 6) pa_nil se_N) se_N) se_C)) (pa_cons (pe_tup (pa_cons (pe_str) (pa_cons (pv 4) (pa_cons (pv 6) pa_nil se_N) se_N) se_C)) pa_nil se_T) se_T)) pa_nil se_T) se_N)
      case keh1 => exact se_T
      case kel2 => exact pa_nil
      case kehs => kernel_rfl
    case s6 =>
      refine' ps_set (i := 5) ?kfnd ?kfx ?kfy ?kfz ?kfhs ?kfhf
      case kfnd => exact sc48.nd
      case kfx => exact rfl
      case kfy => exact Or.inl rfl
      case kfhf => first | exact .inl rfl | exact .inr rfl
      case' kfz => refine' pe_op ?kfo ?kfa ?kfb
      case kfo => exact op_cat
      case kfa => exact pv 5
      case' kfb => refine' pe_lst ?kfl0
      case' kfl0 => refine' pa_cons ?kfi0 ?kfl1 ?kfh0
      case kfi0 => exact pe_tup (pa_cons (pv 2) (pa_cons (pe_tup (pa_cons (pe_tup (pa_cons (pe_str) (pa_cons (pv 4) (pa_cons (pv 6) pa_nil se_N) se_N) se_C)) (pa_cons (pe_tup (pa_cons (pe_str) (pa_cons (pv 6) (pa_cons (pv 4) pa_nil se_N) se_N) se_C)) pa_nil se_T) se_T)) pa_nil se_T) se_N)
      case kfh0 => exact se_T
      case' kfl1 => refine' pa_cons ?kfi1 ?kfl2 ?kfh1
      case kfi1 => exact pe_tup (pa_cons (pv 2) (pa_cons (pe_tup (pa_cons (pe_lst (pa_cons (pe_str) (pa_cons (pv 4) (pa_cons (pv 6) pa_nil se_N) se_N) se_C)) pa_nil se_L)) pa_nil se_T) se_N)
      case kfh1 => exact se_T
      case kfl2 => exact pa_nil
      case kfhs => kernel_rfl
    case s7 =>
      refine' ps_set (i := 5) ?kgnd ?kgx ?kgy ?kgz ?kghs ?kghf
      case kgnd => exact sc48.nd
      case kgx => exact rfl
      case kgy => exact Or.inl rfl
      case kghf => first | exact .inl rfl | exact .inr rfl
      case' kgz => refine' pe_op ?kgo ?kga ?kgb
      case kgo => exact op_cat
      case kga => exact pv 5
      case' kgb => refine' pe_lst ?kgl0
      case' kgl0 => refine' pa_cons ?kgi0 ?kgl1 ?kgh0
      case kgi0 => exact pe_tup (pa_cons (pv 2) (pa_cons (pe_tup (pa_cons (pe_tup (pa_cons (pe_str) (pa_cons (pv 4) (pa_cons (pv 6) (pa_cons (pv 6) pa_nil se_N) se_N) se_N) se_C)) pa_nil se_T)) pa_nil se_T) se_N)
      case kgh0 => exact se_T
      case' kgl1 => refine' pa_cons ?kgi1 ?kgl2 ?kgh1
      case kgi1 => exact pe_tup (pa_cons (pv 2) (pa_cons (pe_tup (pa_cons (pe_tup (pa_cons (pe_str) (pa_cons (pv 4) (pa_cons (pv 6) pa_nil se_N) se_N) se_C)) pa_nil se_T)) pa_nil se_T) se_N)
      case kgh1 => exact se_T
      case kgl2 => exact pa_nil
      case kghs => kernel_rfl
    case r1 => exact pss_one (ps_ret (pe_ix ix_seq (pv 5) (pe_fn Ft hr (pa_cons (pv 0) (pa_cons (pe_callB call_len_seq rfl B.len PySem.boot_len (pa_cons (pv 5) pa_nil)) pa_nil))) (fun _ _ => rfl)))
    case main =>
      obtain ⟨p0, pr, hps⟩ : ∃ p0 pr, ps = p0 :: pr := by
        cases ps with
        | nil => exact absurd rfl G.ne
        | cons a b => exact ⟨a, b, rfl⟩
      obtain ⟨ini, lst, hlast⟩ : ∃ ini l, ps = ini ++ [l] := ⟨ps.dropLast, ps.getLast G.ne, (List.dropLast_concat_getLast G.ne).symm⟩
      have hp0 : NameP p0 := G.nm p0 (by rw [hps]; simp)
      have hps0 : (ps.map V.str)[0]? = some (.str p0) := by rw [hps]; rfl
      have n2 : decide (Str.ofString "nowheres" ∈ ps) = false := decide_eq_false fun z => by have := h7 _ z; revert this; decide +kernel
      have et : txts (subD (.tuple (ps.map PyData.str))) = ps := txts_map ps
      have hz : (rs.map rowDt).length ≤ 60 := by have := G.rz; simpa using this
      have hlm : lst ∈ ps := by rw [hlast]; simp
      have nl : sortedD (.tuple (ps.map PyData.str ++ [.str lst])) = false := by
        have := so2 (last_not hlm)
        rwa [List.map_append] at this
      have nz : sortedD (.tuple [.str (Str.ofString "zz"), .str (Str.ofString "a")]) = false := so2 (ss := [Str.ofString "zz", Str.ofString "a"]) (fun z => by
        have := (List.pairwise_cons.mp z).1 _ (List.mem_singleton.mpr rfl)
        revert this; unfold nlt; decide +kernel)
      have kP : Dok (.tuple (ps.map PyData.str)) := dok_names G.nm (by omega)
      have kR : Dok (.tuple (rs.map rowDt)) := .tup _ hz (dok_rows G)
      have kF : Dok (.str p0) := dok_name hp0
      have kLP : Dok (.list (ps.map PyData.str)) := .lst _ (by simp; omega) (fun d hd => by obtain ⟨x, hx, rfl⟩ := List.mem_map.mp hd; exact dok_name (G.nm x hx)) (fun i j e => by rw [hps] at e; cases pr <;> simp at e)
      have kLR : Dok (.list (rs.map rowDt)) := .lst _ hz (dok_rows G) (fun i j e => by cases rs with
        | nil => simp at e
        | cons r t => cases t <;> simp at e)
      have kPl : Dok (.tuple (ps.map PyData.str ++ [.str lst])) := by
        have := dok_names (ps := ps ++ [lst]) (fun x hx => by rcases List.mem_append.mp hx with z | z
                                                              · exact G.nm x z
                                                              · rw [List.mem_singleton.mp z]; exact G.nm _ hlm) (by simp; omega)
        rwa [List.map_append] at this
      have kPz : Dok (.tuple (ps.map PyData.str ++ [.str (Str.ofString "Zz")])) := .tup _ (by simp; omega) fun d hd => by
        rcases List.mem_append.mp hd with z | z
        · obtain ⟨x, hx, rfl⟩ := List.mem_map.mp z; exact dok_name (G.nm x hx)
        · rw [List.mem_singleton.mp z]; exact dokS (by decide +kernel) (by decide +kernel)
      refine ⟨_, rfl, v, _, rfl, SqT.of W.tp, rfl, _, _, rfl, _, _, rfl, rfl, ?_⟩
      refine ⟨_, rfl, rix_of (j := 0) (.inr (SqT.of W.pl)) rfl hps0 ?_⟩
      have c1 : Cn [some (.ref p), some (.ref v), some (.ref pa), some (.ref ra), some (.str p0), none, none] H pa ra ps rs p0 := ⟨rfl, rfl, rfl, W.pl, W.rl, W.rows⟩
      have ua11 : Ya NoWebV tNil [some (.ref p), some (.ref v), some (.ref pa), some (.ref ra), some (.str p0), none, none] H 0 := .nil
      have ua10 := Ya.cons NoWebV.keeps (web_of (Yd.tupD (.cons (Yd.tupD .nil (by simp)) (.cons (Yd.tupD .nil (by simp)) .nil)) (by simp)) (by repeat (first | assumption | exact .non | exact .int _ | exact dokS (by decide +kernel) (by decide +kernel) | exact dok0 | apply dok1 | apply dok2 | apply dok3 | apply dok4)) (wb2 rfl)) ua11
      have ua9 := Ya.cons NoWebV.keeps (web_of (Yd.tupD (.cons (Yd.lsO (K := (cxOf CX0 P w K mg base N48 (Str.ofString "_law_no_web") (defScope (top 48)) f cdv A outer s H E).nox.K) c1.P) (.cons c1.R .nil)) (by simp)) (dok2 kLP kR) (wb1 rfl)) ua10
      have ua8 := Ya.cons NoWebV.keeps (web_of (Yd.lsD (.cons c1.P (.cons c1.R .nil)) (by simp)) (.lst _ (by simp) (by simp; exact ⟨kP, kR⟩) (by simp)) rfl) ua9
      have ua7 := Ya.cons NoWebV.keeps (web_of (Yd.tupD (.cons c1.P (.cons c1.R (.cons (Yd.tupD .nil (by simp)) .nil))) (by simp)) (by repeat (first | assumption | exact .non | exact .int _ | exact dokS (by decide +kernel) (by decide +kernel) | exact dok0 | apply dok1 | apply dok2 | apply dok3 | apply dok4)) (webB_len (by simp))) ua8
      have ua6 := Ya.cons NoWebV.keeps (web_of (Yd.tupD (.cons c1.P .nil) (by simp)) (by repeat (first | assumption | exact .non | exact .int _ | exact dokS (by decide +kernel) (by decide +kernel) | exact dok0 | apply dok1 | apply dok2 | apply dok3 | apply dok4)) (webB_len (by simp))) ua7
      have ua5 := Ya.cons NoWebV.keeps (dict_new (f := NoWebV) fun p H z => .inr ⟨p, rfl, z⟩) ua6
      have ua4 := Ya.cons NoWebV.keeps (web_of (Yd.lsD .nil (by simp)) (.lst _ (by simp) (by simp) (by simp)) rfl) ua5
      have ua3 := Ya.cons NoWebV.keeps (web_of (Yd.tupD .nil (by simp)) (by repeat (first | assumption | exact .non | exact .int _ | exact dokS (by decide +kernel) (by decide +kernel) | exact dok0 | apply dok1 | apply dok2 | apply dok3 | apply dok4)) (webB_len (by decide))) ua4
      have ua2 := Ya.cons NoWebV.keeps (web_of (Yd.s (Str.ofString "web")) (by repeat (first | assumption | exact .non | exact .int _ | exact dokS (by decide +kernel) (by decide +kernel) | exact dok0 | apply dok1 | apply dok2 | apply dok3 | apply dok4)) rfl) ua3
      have ua1 := Ya.cons NoWebV.keeps (web_of (Yd.i 7) (by repeat (first | assumption | exact .non | exact .int _ | exact dokS (by decide +kernel) (by decide +kernel) | exact dok0 | apply dok1 | apply dok2 | apply dok3 | apply dok4)) rfl) ua2
      have ua0 := Ya.cons NoWebV.keeps (web_of Yd.n (by repeat (first | assumption | exact .non | exact .int _ | exact dokS (by decide +kernel) (by decide +kernel) | exact dok0 | apply dok1 | apply dok2 | apply dok3 | apply dok4)) rfl) ua1
      refine sq_lst NoWebV.keeps ua0 (by decide) fun q1 x1 H1 s1 h1 t1 l1 _ => ?_
      have w1 := W.same s1
      have c2 : Cn [some (.ref p), some (.ref v), some (.ref pa), some (.ref ra), some (.str p0), some (.ref q1), none] H1 pa ra ps rs p0 := ⟨rfl, rfl, rfl, w1.pl, w1.rl, w1.rows⟩
      have ub4 : Ya NoWebV tNil [some (.ref p), some (.ref v), some (.ref pa), some (.ref ra), some (.str p0), some (.ref q1), none] H1 0 := .nil
      have ub3 := Ya.cons NoWebV.keeps (web_of (Yd.tupD (.cons (Yd.catD (K := (cxOf CX0 P w K mg base N48 (Str.ofString "_law_no_web") (defScope (top 48)) f cdv A outer s H E).nox.K) c2.P (Yd.tupD (.cons (Yd.s (Str.ofString "Zz")) .nil) (by simp)) (by simp; omega)) (.cons c2.R .nil)) (by simp)) (dok2 kPz kR) (wb1 (so1 (List.mem_append_right _ (List.mem_singleton.mpr rfl)) (by decide +kernel)))) ub4
      have ub2 := Ya.cons NoWebV.keeps (web_of (Yd.tupD (.cons (Yd.tupD (.cons (Yd.s (Str.ofString "zz")) (.cons (Yd.s (Str.ofString "a")) .nil)) (by simp)) (.cons (Yd.tupD .nil (by simp)) .nil)) (by simp)) (by repeat (first | assumption | exact .non | exact .int _ | exact dokS (by decide +kernel) (by decide +kernel) | exact dok0 | apply dok1 | apply dok2 | apply dok3 | apply dok4)) (wb1 nz)) ub3
      have ub1 := Ya.cons NoWebV.keeps (web_of (Yd.tupD (.cons (Yd.catD (K := (cxOf CX0 P w K mg base N48 (Str.ofString "_law_no_web") (defScope (top 48)) f cdv A outer s H E).nox.K) c2.P (Yd.last (K := (cxOf CX0 P w K mg base N48 (Str.ofString "_law_no_web") (defScope (top 48)) f cdv A outer s H E).nox.K) c2.s2 c2.h2 hlast) (by simp; omega)) (.cons c2.R .nil)) (by simp)) (dok2 kPl kR) (wb1 nl)) ub2
      have ub0 := Ya.cons NoWebV.keeps (web_of (Yd.tupD (.cons c2.P (.cons (Yd.lsO (K := (cxOf CX0 P w K mg base N48 (Str.ofString "_law_no_web") (defScope (top 48)) f cdv A outer s H E).nox.K) c2.R) .nil)) (by simp)) (dok2 kP kLR) (wb3 rfl)) ub1
      refine sq_cat NoWebV.keeps (ys := x1) rfl h1 t1 ub0 (by omega) fun q2 x2 H2 s2' h2 t2 l2 m2 => ?_
      have s2 := s1.trans s2'
      have u2 : H q2 = none := s1.free m2
      have w2 := W.same s2
      have c3 : Cn [some (.ref p), some (.ref v), some (.ref pa), some (.ref ra), some (.str p0), some (.ref q2), none] H2 pa ra ps rs p0 := ⟨rfl, rfl, rfl, w2.pl, w2.rl, w2.rows⟩
      have uc3 : Ya NoWebV tNil [some (.ref p), some (.ref v), some (.ref pa), some (.ref ra), some (.str p0), some (.ref q2), none] H2 0 := .nil
      have uc2 := Ya.cons NoWebV.keeps (web_of (Yd.tupD (.cons c3.P (.cons (Yd.tupD (.cons (Yd.s (Str.ofString "abc")) .nil) (by simp)) .nil)) (by simp)) (by repeat (first | assumption | exact .non | exact .int _ | exact dokS (by decide +kernel) (by decide +kernel) | exact dok0 | apply dok1 | apply dok2 | apply dok3 | apply dok4)) (wb4 (List.mem_singleton.mpr rfl) (by rw [et]; exact rfl))) uc3
      have uc1 := Ya.cons NoWebV.keeps (web_of (Yd.tupD (.cons c3.P (.cons (Yd.tupD (.cons (Yd.tupD (.cons (Yd.s (Str.ofString "zz")) (.cons c3.F (.cons (Yd.s (Str.ofString "nowheres")) .nil))) (by simp)) .nil) (by simp)) .nil)) (by simp)) (by repeat (first | assumption | exact .non | exact .int _ | exact dokS (by decide +kernel) (by decide +kernel) | exact dok0 | apply dok1 | apply dok2 | apply dok3 | apply dok4)) (wb4 (List.mem_singleton.mpr rfl) (by rw [et]; exact (by rw [tieD_3]; show (_ && (_ && (decide (Str.ofString "nowheres" ∈ ps) && _))) = false; rw [n2]; simp)))) uc2
      have uc0 := Ya.cons NoWebV.keeps (web_of (Yd.tupD (.cons c3.P (.cons (Yd.tupD (.cons (Yd.tupD (.cons c3.F (.cons c3.F (.cons c3.F .nil))) (by simp)) .nil) (by simp)) .nil)) (by simp)) (by repeat (first | assumption | exact .non | exact .int _ | exact dokS (by decide +kernel) (by decide +kernel) | exact dok0 | apply dok1 | apply dok2 | apply dok3 | apply dok4)) (wb4 (List.mem_singleton.mpr rfl) (by rw [et]; exact (by rw [tieD_3]; show (_ && (_ && (_ && !decide (p0 = p0)))) = false; simp)))) uc1
      refine sq_cat NoWebV.keeps (ys := x2) rfl h2 t2 uc0 (by omega) fun q3 x3 H3 s3' h3 t3 l3 m3 => ?_
      have s3 := s2.trans s3'
      have u3 : H q3 = none := s2.free m3
      have w3 := W.same s3
      have c4 : Cn [some (.ref p), some (.ref v), some (.ref pa), some (.ref ra), some (.str p0), some (.ref q3), none] H3 pa ra ps rs p0 := ⟨rfl, rfl, rfl, w3.pl, w3.rl, w3.rows⟩
      have ud4 : Ya NoWebV tNil [some (.ref p), some (.ref v), some (.ref pa), some (.ref ra), some (.str p0), some (.ref q3), none] H3 0 := .nil
      have ud3 := Ya.cons NoWebV.keeps (web_of (Yd.tupD (.cons c4.F (.cons c4.R .nil)) (by simp)) (by repeat (first | assumption | exact .non | exact .int _ | exact dokS (by decide +kernel) (by decide +kernel) | exact dok0 | apply dok1 | apply dok2 | apply dok3 | apply dok4)) (wb1 rfl)) ud4
      have ud2 := Ya.cons NoWebV.keeps (web_of (Yd.tupD (.cons (Yd.tupD (.cons (Yd.i 1) .nil) (by simp)) (.cons (Yd.tupD .nil (by simp)) .nil)) (by simp)) (by repeat (first | assumption | exact .non | exact .int _ | exact dokS (by decide +kernel) (by decide +kernel) | exact dok0 | apply dok1 | apply dok2 | apply dok3 | apply dok4)) (wb1 (so1 (List.mem_singleton.mpr rfl) rfl))) ud3
      have ud1 := Ya.cons NoWebV.keeps (web_of (Yd.tupD (.cons c4.P (.cons (Yd.tupD (.cons (Yd.tupD (.cons (Yd.i 1) (.cons c4.F (.cons c4.F .nil))) (by simp)) .nil) (by simp)) .nil)) (by simp)) (by repeat (first | assumption | exact .non | exact .int _ | exact dokS (by decide +kernel) (by decide +kernel) | exact dok0 | apply dok1 | apply dok2 | apply dok3 | apply dok4)) (wb4 (List.mem_singleton.mpr rfl) (by rw [et]; exact (by rw [tieD_3]; rfl)))) ud2
      have ud0 := Ya.cons NoWebV.keeps (web_of (Yd.tupD (.cons c4.P (.cons (Yd.tupD (.cons (Yd.tupD (.cons (Yd.s (Str.ofString "zz")) (.cons c4.F .nil)) (by simp)) .nil) (by simp)) .nil)) (by simp)) (by repeat (first | assumption | exact .non | exact .int _ | exact dokS (by decide +kernel) (by decide +kernel) | exact dok0 | apply dok1 | apply dok2 | apply dok3 | apply dok4)) (wb4 (List.mem_singleton.mpr rfl) (by rw [et]; exact (tieD_len (by simp))))) ud1
      refine sq_cat NoWebV.keeps (ys := x3) rfl h3 t3 ud0 (by omega) fun q4 x4 H4 s4' h4 t4 l4 m4 => ?_
      have s4 := s3.trans s4'
      have u4 : H q4 = none := s3.free m4
      have fin : ∀ (g : Option V) (q : Addr) (xs : List V) (H1 : Hp), Same H H1 → H1 q = some (.lst xs) → (∀ x ∈ xs, NoWebV x H1) → 0 < xs.length → xs.length < 900 → H q = none → tRet (tOp (rIx (cxOf CX0 P w K mg base N48 (Str.ofString "_law_no_web") (defScope (top 48)) f cdv A outer s H E).nox.K) (tVar 5) (tCall spTake [] E0 (tCons (tVar 0) (tCons (tCB (fun xs H Q => ∃ p ys, xs = [.ref p] ∧ (SqL (cxOf CX0 P w K mg base N48 (Str.ofString "_law_no_web") (defScope (top 48)) f cdv A outer s H E).nox.K H p ys ∨ SqT (cxOf CX0 P w K mg base N48 (Str.ofString "_law_no_web") (defScope (top 48)) f cdv A outer s H E).nox.K H p ys) ∧ Q (.int ys.length) H) (tCons (tVar 5) tNil)) tNil)))) { nx := fun _ H' => Q .non H', rt := Q } [some (.ref p), some (.ref v), some (.ref pa), some (.ref ra), some (.str p0), some (.ref q), g] H1 := by
        intro g q xs H1 s1 h1 t1 l0 l9 hq0
        have nqp : q ≠ p := fun z => by obtain ⟨i, j, e, _⟩ := hp; rw [← z, hq0] at e; cases e
        have P1 := hp.same s1
        refine ⟨_, rfl, _, rfl, _, rfl, q, _, rfl, .inl (SqL.of h1), p, _, rfl, P1, by omega, by omega, fun i H2 b0 b1 P2 K2 => ?_⟩
        have hi : i.toNat < xs.length := by omega
        refine rix_of (j := i.toNat) (.inl (SqL.of (K2.at nqp h1))) (by omega) (List.getElem?_eq_getElem hi) ?_
        exact k _ H2 P2 ((Kp.same s1).trans K2) ((t1 _ (List.getElem_mem hi)).kp K2 P1)
      refine ⟨_, rfl, pa, _, rfl, .inr (SqT.of (s4 _ _ W.pl)), _, _, rfl, rfl, _, rfl, ite2 (fun c => ?_) (fun c => fin _ q4 x4 H4 s4 h4 t4 (by omega) (by omega) u4)⟩
      have hl1 : 1 < ps.length := by have := of_decide_eq_true c; rw [List.length_map] at this; omega
      have hps1 : (ps.map V.str)[1]? = some (.str ps[1]) := strAt hl1
      generalize ho1 : ps[1] = o1 at hps1
      have kO : Dok (.str o1) := dok_name (G.nm _ (by rw [← ho1]; exact List.getElem_mem hl1))
      have nr : sortedD (.tuple (ps.map PyData.str).reverse) = false := by rw [← List.map_reverse]; exact so2 (rev_not G.so hl1)
      have kPr : Dok (.tuple (ps.map PyData.str).reverse) := by rw [← List.map_reverse]; exact dok_names (fun x hx => G.nm x (List.mem_reverse.mp hx)) (by simp; omega)
      have nba : ¬ ([PyData.tuple [.str (Str.ofString "b"), .str p0, .str o1], .tuple [.str (Str.ofString "a"), .str p0, .str o1]].map rowNm).Pairwise nlt := fun z => by
        have := (List.pairwise_cons.mp z).1 _ (List.mem_singleton.mpr rfl)
        revert this; unfold nlt; simp only [rowNm]; decide +kernel
      have naa : ¬ ([PyData.tuple [.str (Str.ofString "a"), .str p0, .str o1], .tuple [.str (Str.ofString "a"), .str o1, .str p0]].map rowNm).Pairwise nlt := fun z => by
        have := (List.pairwise_cons.mp z).1 _ (List.mem_singleton.mpr rfl)
        revert this; unfold nlt; simp only [rowNm]; decide +kernel
      refine ⟨_, rfl, rix_of (j := 1) (.inr (SqT.of (s4 _ _ W.pl))) rfl hps1 ?_⟩
      have w4 := W.same s4
      have c5 : Cn [some (.ref p), some (.ref v), some (.ref pa), some (.ref ra), some (.str p0), some (.ref q4), some (.str o1)] H4 pa ra ps rs p0 := ⟨rfl, rfl, rfl, w4.pl, w4.rl, w4.rows⟩
      have c5o : Yd (tVar 6) [some (.ref p), some (.ref v), some (.ref pa), some (.ref ra), some (.str p0), some (.ref q4), some (.str o1)] H4 (Dv (.str o1)) := Yd.var rfl fun _ _ => .str _
      have ue2 : Ya NoWebV tNil [some (.ref p), some (.ref v), some (.ref pa), some (.ref ra), some (.str p0), some (.ref q4), some (.str o1)] H4 0 := .nil
      have ue1 := Ya.cons NoWebV.keeps (web_of (Yd.tupD (.cons c5.P (.cons (Yd.tupD (.cons (Yd.tupD (.cons (Yd.s (Str.ofString "b")) (.cons c5.F (.cons (c5o) .nil))) (by simp)) (.cons (Yd.tupD (.cons (Yd.s (Str.ofString "a")) (.cons c5.F (.cons (c5o) .nil))) (by simp)) .nil)) (by simp)) .nil)) (by simp)) (by repeat (first | assumption | exact .non | exact .int _ | exact dokS (by decide +kernel) (by decide +kernel) | exact dok0 | apply dok1 | apply dok2 | apply dok3 | apply dok4)) (wb5 nba)) ue2
      have ue0 := Ya.cons NoWebV.keeps (web_of (Yd.tupD (.cons (Yd.revD (K := (cxOf CX0 P w K mg base N48 (Str.ofString "_law_no_web") (defScope (top 48)) f cdv A outer s H E).nox.K) c5.P) (.cons (Yd.tupD .nil (by simp)) .nil)) (by simp)) (dok2 kPr dok0) (wb1 nr)) ue1
      refine sq_cat NoWebV.keeps (ys := x4) rfl h4 t4 ue0 (by omega) fun q5 x5 H5 s5' h5 t5 l5 m5 => ?_
      have s5 := s4.trans s5'
      have u5 : H q5 = none := s4.free m5
      have w5 := W.same s5
      have c6 : Cn [some (.ref p), some (.ref v), some (.ref pa), some (.ref ra), some (.str p0), some (.ref q5), some (.str o1)] H5 pa ra ps rs p0 := ⟨rfl, rfl, rfl, w5.pl, w5.rl, w5.rows⟩
      have c6o : Yd (tVar 6) [some (.ref p), some (.ref v), some (.ref pa), some (.ref ra), some (.str p0), some (.ref q5), some (.str o1)] H5 (Dv (.str o1)) := Yd.var rfl fun _ _ => .str _
      have uf2 : Ya NoWebV tNil [some (.ref p), some (.ref v), some (.ref pa), some (.ref ra), some (.str p0), some (.ref q5), some (.str o1)] H5 0 := .nil
      have uf1 := Ya.cons NoWebV.keeps (web_of (Yd.tupD (.cons c6.P (.cons (Yd.tupD (.cons (Yd.lsD (.cons (Yd.s (Str.ofString "a")) (.cons c6.F (.cons (c6o) .nil))) (by simp)) .nil) (by simp)) .nil)) (by simp)) (dok2 kP (dok1 (.lst _ (by simp) (by simp; exact ⟨dokS (by decide +kernel) (by decide +kernel), kF, kO⟩) (by simp)))) (wb4 (List.mem_singleton.mpr rfl) (by rw [et]; exact rfl))) uf2
      have uf0 := Ya.cons NoWebV.keeps (web_of (Yd.tupD (.cons c6.P (.cons (Yd.tupD (.cons (Yd.tupD (.cons (Yd.s (Str.ofString "a")) (.cons c6.F (.cons (c6o) .nil))) (by simp)) (.cons (Yd.tupD (.cons (Yd.s (Str.ofString "a")) (.cons (c6o) (.cons c6.F .nil))) (by simp)) .nil)) (by simp)) .nil)) (by simp)) (by repeat (first | assumption | exact .non | exact .int _ | exact dokS (by decide +kernel) (by decide +kernel) | exact dok0 | apply dok1 | apply dok2 | apply dok3 | apply dok4)) (wb5 naa)) uf1
      refine sq_cat NoWebV.keeps (ys := x5) rfl h5 t5 uf0 (by omega) fun q6 x6 H6 s6' h6 t6 l6 m6 => ?_
      have s6 := s5.trans s6'
      have u6 : H q6 = none := s5.free m6
      have w6 := W.same s6
      have c7 : Cn [some (.ref p), some (.ref v), some (.ref pa), some (.ref ra), some (.str p0), some (.ref q6), some (.str o1)] H6 pa ra ps rs p0 := ⟨rfl, rfl, rfl, w6.pl, w6.rl, w6.rows⟩
      have c7o : Yd (tVar 6) [some (.ref p), some (.ref v), some (.ref pa), some (.ref ra), some (.str p0), some (.ref q6), some (.str o1)] H6 (Dv (.str o1)) := Yd.var rfl fun _ _ => .str _
      have ug2 : Ya NoWebV tNil [some (.ref p), some (.ref v), some (.ref pa), some (.ref ra), some (.str p0), some (.ref q6), some (.str o1)] H6 0 := .nil
      have ug1 := Ya.cons NoWebV.keeps (web_of (Yd.tupD (.cons c7.P (.cons (Yd.tupD (.cons (Yd.tupD (.cons (Yd.s (Str.ofString "Aa")) (.cons c7.F (.cons (c7o) .nil))) (by simp)) .nil) (by simp)) .nil)) (by simp)) (by repeat (first | assumption | exact .non | exact .int _ | exact dokS (by decide +kernel) (by decide +kernel) | exact dok0 | apply dok1 | apply dok2 | apply dok3 | apply dok4)) (wb4 (List.mem_singleton.mpr rfl) (by rw [et]; exact (by rw [tieD_3]; rw [show nameD (.str (Str.ofString "Aa")) = false by decide +kernel]; rfl)))) ug2
      have ug0 := Ya.cons NoWebV.keeps (web_of (Yd.tupD (.cons c7.P (.cons (Yd.tupD (.cons (Yd.tupD (.cons (Yd.s (Str.ofString "a")) (.cons c7.F (.cons (c7o) (.cons (c7o) .nil)))) (by simp)) .nil) (by simp)) .nil)) (by simp)) (by repeat (first | assumption | exact .non | exact .int _ | exact dokS (by decide +kernel) (by decide +kernel) | exact dok0 | apply dok1 | apply dok2 | apply dok3 | apply dok4)) (wb4 (List.mem_singleton.mpr rfl) (by rw [et]; exact (tieD_len (by simp))))) ug1
      refine sq_cat NoWebV.keeps (ys := x6) rfl h6 t6 ug0 (by omega) fun q7 x7 H7 s7' h7' t7 l7 m7 => ?_
      have s7 := s6.trans s7'
      have u7 : H q7 = none := s6.free m7
      exact fin _ q7 x7 H7 s7 h7' t7 (by omega) (by omega) u7
end
end K34

set_option Elab.async false
set_option linter.all false
set_option maxRecDepth 100000
set_option maxHeartbeats 4000000
namespace K34
open PySem L2
theorem b_ve : bootBuiltins "ValueError" = some (.type "ValueError") := by decide +kernel
theorem b_sum : bootBuiltins "sum" = some (.builtin "sum") := by decide +kernel
/-- the refusals, as they stand -/
structure Cls (mg : Str → Option Value) (CW CP CN d1 d2 d3 d4 d5 d6 d7 d8 : Addr) : Prop where
  mw : mg "NoWeb" = some (.ref CW)
  mp : mg "NoPlace" = some (.ref CP)
  mn : mg "NoNumber" = some (.ref CN)
  m1 : mg "NoCosts" = some (.ref d1)
  m2 : mg "NoLot" = some (.ref d2)
  m3 : mg "NoRoots" = some (.ref d3)
  m4 : mg "NoText" = some (.ref d4)
  m5 : mg "NoTie" = some (.ref d5)
  m6 : mg "NoTree" = some (.ref d6)
  m7 : mg "TooFew" = some (.ref d7)
  m8 : mg "TooMany" = some (.ref d8)
  ve : mg "ValueError" = none
  sum : mg "sum" = none
/-- which of them one is -/
structure Srt (K : PySem.W.Frag) (C CW CP CN d1 d2 d3 d4 d5 d6 d7 d8 : Addr) (b1 b2 b3 : Bool) : Prop where
  kw : PySem.W.kitOne K (.ref C) (.ref CW) = some b1
  kp : PySem.W.kitOne K (.ref C) (.ref CP) = some b2
  kn : PySem.W.kitOne K (.ref C) (.ref CN) = some b3
  ko : PySem.W.kitAny K (.ref C) ([d1, d2, d3, d4, d5, d6, d7, d8].map Value.ref) = some false
  kv : PySem.W.kitOne K (.ref C) (.type "ValueError") = some true
  ke : KitE K C
section
variable {P : Program} {w : World} {K : PySem.W.Frag} {mg : Str → Option Value} {base : Heap} {C CW CP CN d1 d2 d3 d4 d5 d6 d7 d8 : Addr}
noncomputable def spSort (C : Addr) (x : Str) : Option Value → Sp := fun hv vs H Q _ => ∃ a, hv = some (.ref a) ∧ vs = [.ref a] ∧ H a = some (ExcO a C none) ∧ ∀ H', Same H H' → Q (.str x) H'
noncomputable abbrev N46 : List Str := ["_law_e", "_law_sorts"]
theorem sc46 : FnScope N46 ["_law_e"] (defScope (top 46)) := ⟨rfl, rfl, rfl, by decide +kernel, rfl, by decide +kernel, by decide +kernel⟩
theorem ok_sort {f : Addr} {fd : FuncData} {b1 b2 b3 : Bool} {j : Nat} {x : Str} (F : Fun K "_law_sort" "_law_sort" (top 46) f fd) (B : Bl mg) (Z : Cls mg CW CP CN d1 d2 d3 d4 d5 d6 d7 d8) (O : Srt K C CW CP CN d1 d2 d3 d4 d5 d6 d7 d8 b1 b2 b3)
    (h1 : ([b1, b2, b3].map b2i).sum = 1) (h2 : [b1, b2, b3][j]? = some true) (h3 : ∀ m, m < j → [b1, b2, b3][m]? ≠ some true) (h4 : [Str.ofString "web", Str.ofString "place", Str.ofString "number"][j]? = some x) : FnOkG P w K mg base CX0 1 f fd ["_law_e"] (spSort C x) := by
  refine F.okG sc46 (fun hv vs H Q E h => ?_) (fun cdv A outer s H vs Q E hr h => ?_)
  · obtain ⟨a, _, rfl, _⟩ := h
    rfl
  · obtain ⟨a, hh, rfl, ha, k⟩ := h
    refine ⟨_, pss_cons (ps_set (i := 1) sc46.nd rfl (Or.inl rfl) (pe_lst (pa_cons (pe_callB (call_isinstX (c := .ref CW) O.ke (fun _ z => z) O.kw) rfl B.isinstance b_isinstance (pa_cons (pv 0) (pa_cons (pe_glob (v := .ref CW) rfl Z.mw rfl) pa_nil)))
        (pa_cons (pe_callB (call_isinstX (c := .ref CP) O.ke (fun _ z => z) O.kp) rfl B.isinstance b_isinstance (pa_cons (pv 0) (pa_cons (pe_glob (v := .ref CP) rfl Z.mp rfl) pa_nil)))
        (pa_cons (pe_callB (call_isinstX (c := .ref CN) O.ke (fun _ z => z) O.kn) rfl B.isinstance b_isinstance (pa_cons (pv 0) (pa_cons (pe_glob (v := .ref CN) rfl Z.mn rfl) pa_nil))) pa_nil)))))
      (pss_cons (ps_if (pt_val (pe_callB (call_isinstXT O.ke O.ko) rfl B.isinstance b_isinstance (pa_cons (pv 0) (pa_cons (pe_tup (pa_cons (pe_glob (v := .ref d1) rfl Z.m1 rfl) (pa_cons (pe_glob (v := .ref d2) rfl Z.m2 rfl) (pa_cons (pe_glob (v := .ref d3) rfl Z.m3 rfl) (pa_cons (pe_glob (v := .ref d4) rfl Z.m4 rfl) (pa_cons (pe_glob (v := .ref d5) rfl Z.m5 rfl) (pa_cons (pe_glob (v := .ref d6) rfl Z.m6 rfl) (pa_cons (pe_glob (v := .ref d7) rfl Z.m7 rfl) (pa_cons (pe_glob (v := .ref d8) rfl Z.m8 rfl) pa_nil))))))))) pa_nil)))) pss_never pss_nil)
      (pss_cons (ps_if (PW.pt (pw_or (pt_not (pt_val (pe_callB (call_isinstX (c := .ty "ValueError") O.ke (fun _ z => z) O.kv) rfl B.isinstance b_isinstance (pa_cons (pv 0) (pa_cons (pe_bltn (v := .ty "ValueError") rfl Z.ve b_ve rfl) pa_nil)))))
        (pw_or1 (pt_cmpR op_ne (pe_callB (call_sumBH (ea := a) (C := C) (dx := none) hh) rfl Z.sum b_sum (pa_cons (pv 1) pa_nil)) pe_int (nomark _))))) pss_never pss_nil)
      (pss_one (ps_ret (pe_ix ix_seq (pe_lst (pa_cons pe_str (pa_cons pe_str (pa_cons pe_str pa_nil)))) (pe_bm PySem.F.plainAttrs_list PySem.F.slot_list_index PySem.F.type_list_index mt_indexB (pv 1) (pa_cons pe_bl pa_nil)) (fun _ _ => rfl)))))), ?_⟩
    have nx : ∀ d, (none : Option Addr) = some d → ∃ fs, H d = some (.xd fs) := fun d z => nomatch z
    refine ⟨_, rfl, a, none, rfl, ha, (fun d z => nomatch z), _, rfl, a, none, rfl, ha, (fun d z => nomatch z), _, rfl, a, none, rfl, ha, (fun d z => nomatch z), by show 3 ≤ sizeLine; decide, fun p hp => ?_⟩
    have s1 := same_upd (o := .lst [.bl b1, .bl b2, .bl b3]) (Same.refl H) hp
    have p1 : upd H p (.lst [.bl b1, .bl b2, .bl b3]) p = some (.lst [.bl b1, .bl b2, .bl b3]) := upd_same
    generalize upd H p (.lst [.bl b1, .bl b2, .bl b3]) = H1 at s1 p1 ⊢
    refine ⟨_, rfl, by show 8 ≤ sizeLine; decide, fun t1 ht1 => ?_⟩
    have s2 := same_upd (o := .tup [.ref d1, .ref d2, .ref d3, .ref d4, .ref d5, .ref d6, .ref d7, .ref d8]) (Same.refl H1) ht1
    refine ⟨a, none, t1, rfl, s2 _ _ (s1 _ _ ha), (fun d z => nomatch z), upd_same, _, rfl, iteF ?_⟩
    generalize upd H1 t1 (.tup [.ref d1, .ref d2, .ref d3, .ref d4, .ref d5, .ref d6, .ref d7, .ref d8]) = H2 at s2 ⊢
    have p2 := s2 _ _ p1
    have a2 := s2 _ _ (s1 _ _ ha)
    refine ⟨_, rfl, a, none, rfl, a2, (fun d z => nomatch z), _, rfl, iteF ?_⟩
    refine ⟨_, rfl, p, [b1, b2, b3], rfl, SqL.of (xs := [b1, b2, b3].map V.bl) p2, by show 3 ≤ 1000; decide, a2, rfl, _, rfl, ?_⟩
    rw [h1]
    refine iteF ?_
    refine ⟨by show 3 ≤ sizeLine; decide, fun q hq => ?_⟩
    have s3 := same_upd (o := .lst [.str (Str.ofString "web"), .str (Str.ofString "place"), .str (Str.ofString "number")]) (Same.refl H2) hq
    have q3 : upd H2 q (.lst [.str (Str.ofString "web"), .str (Str.ofString "place"), .str (Str.ofString "number")]) q = some (.lst [.str (Str.ofString "web"), .str (Str.ofString "place"), .str (Str.ofString "number")]) := upd_same
    refine ⟨_, rfl, .inl ⟨rfl, _, SqL.of (s3 _ _ p2)⟩, p, [b1, b2, b3], j, true, rfl, rfl, SqL.of (xs := [b1, b2, b3].map V.bl) (s3 _ _ p2), by show 3 ≤ 1000; decide, h2, h3, ?_⟩
    exact rix_of (j := j) (.inl (SqL.of (xs := [Str.ofString "web", Str.ofString "place", Str.ofString "number"].map V.str) q3)) (by rfl) (by rw [List.getElem?_map, h4]; rfl) (k _ (s1.trans (s2.trans s3)))
end
end K34

set_option Elab.async false
set_option linter.all false
set_option maxRecDepth 100000
set_option maxHeartbeats 4000000
namespace K34
open PySem L2
section
variable {P : Program} {w : World} {K : PySem.W.Frag} {mg : Str → Option Value} {base : Heap} {C CW CP CN R : Addr}
theorem FnOkG.or {k : Nat} {f : Addr} {fd : FuncData} {ps : List Str} {a b : Option Value → Sp} (F : FnOkG P w K mg base CX0 k f fd ps a) (G : FnOkG P w K mg base CX0 k f fd ps b) : FnOkG P w K mg base CX0 k f fd ps (fun hv vs H Q E => a hv vs H Q E ∨ b hv vs H Q E) :=
  ⟨fun hv vs H Q E h => h.elim (F.len hv vs H Q E) (G.len hv vs H Q E), fun A outer s H args us vs Q E hr e0 hb r h => h.elim (F.run A outer s H args us vs Q E hr e0 hb r) (G.run A outer s H args us vs Q E hr e0 hb r)⟩
noncomputable abbrev spSorts (CW CP CN : Addr) : Option Value → Sp := fun hv vs H Q E => spSort CW (Str.ofString "web") hv vs H Q E ∨ spSort CP (Str.ofString "place") hv vs H Q E ∨ spSort CN (Str.ofString "number") hv vs H Q E
inductive Said (w0 : Bool) (x y z : V) (H : Hp) : Str → Prop
  | web : NoWebV x H → Said w0 x y z H (Str.ofString "web")
  | place {v pa ra : Addr} {ps : List Str} {rs : List (Addr × Row)} : x = .ref v → WebAt H v pa ra ps rs → Good ps (rs.map (·.2)) → NoPlV ps y H → Said w0 x y z H (Str.ofString "place")
  | number {v pa ra : Addr} {ps : List Str} {rs : List (Addr × Row)} {root : Str} : w0 = false → x = .ref v → WebAt H v pa ra ps rs → Good ps (rs.map (·.2)) → y = .str root → root ∈ ps → NoNumV 0 6 z H → Said w0 x y z H (Str.ofString "number")
  | told {v pa ra : Addr} {ps : List Str} {rs : List (Addr × Row)} {root : Str} : w0 = true → x = .ref v → WebAt H v pa ra ps rs → Good ps (rs.map (·.2)) → ps.length ≤ 8 → y = .str root → root ∈ ps → Said w0 x y z H (Str.ofString "told")
noncomputable def spSaid : Sp := fun vs H Q _ => ∃ (n : Int) (x y z : V) (t : Str), vs = [.int n, x, y, z] ∧ Said (decide (n = 0)) x y z H t ∧ ∀ H', Same H H' → Q (.str t) H'
noncomputable abbrev N47 : List Str := ["_law_way", "_law_web_here", "_law_root", "_law_many", "_law_found", "_law_e"]
theorem sc47 : FnScope N47 ["_law_way", "_law_web_here", "_law_root", "_law_many"] (defScope (top 47)) := ⟨rfl, rfl, rfl, by decide +kernel, rfl, by decide +kernel, by decide +kernel⟩
theorem ok_said {f : Addr} {fd : FuncData} (F : Fun K "_law_said" "_law_said" (top 47) f fd) (hxR : mg "RootError" = some (.ref R)) (hR : ExcC base R) (hW : Under base CW R) (hP : Under base CP R) (hN : Under base CN R)
    (F1 : FnX P w K mg base 5 "least" ["web", "root"] (orSp spLeast (spLeastN CW CP))) (F2 : FnX P w K mg base 6 "shares" ["web", "root", "many"] (orSp spShares0 (spSharesN CW CP CN))) (F3 : FnG P w K mg base 1 "_law_sort" ["_law_e"] (spSorts CW CP CN)) : FnOk P w K mg base CX0 7 f fd ["_law_way", "_law_web_here", "_law_root", "_law_many"] spSaid := by
  refine F.ok sc47 (fun vs H Q E h => ?_) (fun cdv A outer s H vs Q E hr h => ?_)
  · obtain ⟨n, x, y, z, t, rfl, _⟩ := h
    rfl
  · obtain ⟨n, x, y, z, t, rfl, hs, k⟩ := h
    have hr1 : Room 1 _ := hr.mono (by decide)
    have hr5 : Room 5 _ := hr.mono (by decide)
    refine ⟨_, pss_cons (ps_set (i := 4) sc47.nd rfl (Or.inl rfl) pe_str)
      (pss_cons (ps_tryE (j := 5) (px_if (pt_cmpR op_eq (pv 0) pe_int (nomark _)) (pxs_one (px_expr (px_call F1 hr5 (pa_cons (pv 1) (pa_cons (pv 2) pa_nil))))) (pxs_one (px_expr (px_call F2 hr (pa_cons (pv 1) (pa_cons (pv 2) (pa_cons (pv 3) pa_nil))))))) hxR hR
        (fun ea => pss_one (ps_set (i := 4) sc47.nd rfl (Or.inl rfl) (pe_fnG F3 ⟨hr1.dp, hr1.un, hr1.gd⟩ (pa_cons (pv 5) pa_nil)))) sc47.nd rfl rfl rfl rfl rfl)
      (pss_one (ps_ret (pv 4)))), ?_⟩
    refine ⟨_, rfl, rfl, _, rfl, ?_⟩
    have e0' : ∀ {b : Bool}, decide (V.int n = V.int 0) = b → decide (n = 0) = b := fun {b} h => by
      rw [← h]
      exact decide_eq_decide.mpr ⟨fun z => by rw [z], fun z => V.int.inj z⟩
    have end1 : ∀ {t' : Str} {H1 : Hp} {ea C : Addr}, t' = t → Same H H1 → H1 ea = none → ∀ H3, Same (upd H1 ea (ExcO ea C none)) H3 → Q (.str t') H3 := fun {t' H1 ea C} e s1 he H3 s3 => by
      rw [e]
      exact k H3 ((same_upd (o := ExcO ea C none) s1 he).trans s3)
    cases hs with
    | web hw =>
      refine ite2 (fun _ => ?_) (fun _ => ?_)
      · exact ⟨_, rfl, _, rfl, .inr (.inl ⟨x, y, rfl, hw, fun H1 s1 => ⟨CW, rfl, hW, fun ea hea => ⟨_, rfl, .inl ⟨ea, rfl, rfl, upd_same, fun H3 s3 => ⟨_, rfl, end1 rfl s1 hea H3 s3⟩⟩⟩⟩⟩)⟩
      · exact ⟨_, rfl, _, rfl, _, rfl, .inr (.inl ⟨x, y, z, rfl, hw, fun H1 s1 => ⟨CW, rfl, hW, fun ea hea => ⟨_, rfl, .inl ⟨ea, rfl, rfl, upd_same, fun H3 s3 => ⟨_, rfl, end1 rfl s1 hea H3 s3⟩⟩⟩⟩⟩)⟩
    | @place v pa ra ps rs e W G hp =>
      subst e
      refine ite2 (fun _ => ?_) (fun _ => ?_)
      · exact ⟨_, rfl, _, rfl, .inr (.inr ⟨v, pa, ra, ps, rs, y, rfl, W, G, hp, fun H1 s1 => ⟨CP, rfl, hP, fun ea hea => ⟨_, rfl, .inr (.inl ⟨ea, rfl, rfl, upd_same, fun H3 s3 => ⟨_, rfl, end1 rfl s1 hea H3 s3⟩⟩)⟩⟩⟩)⟩
      · exact ⟨_, rfl, _, rfl, _, rfl, .inr (.inr (.inl ⟨v, pa, ra, ps, rs, y, z, rfl, W, G, hp, fun H1 s1 => ⟨CP, rfl, hP, fun ea hea => ⟨_, rfl, .inr (.inl ⟨ea, rfl, rfl, upd_same, fun H3 s3 => ⟨_, rfl, end1 rfl s1 hea H3 s3⟩⟩)⟩⟩⟩))⟩
    | @number v pa ra ps rs root e0 e W G ey hroot hz =>
      subst e ey
      refine ite2 (fun c => absurd (e0' c) (by rw [e0]; decide)) (fun _ => ?_)
      exact ⟨_, rfl, _, rfl, _, rfl, .inr (.inr (.inr ⟨v, pa, ra, ps, rs, root, z, rfl, W, G, hroot, hz, fun H1 s1 => ⟨CN, rfl, hN, fun ea hea => ⟨_, rfl, .inr (.inr ⟨ea, rfl, rfl, upd_same, fun H3 s3 => ⟨_, rfl, end1 rfl s1 hea H3 s3⟩⟩)⟩⟩⟩))⟩
    | @told v pa ra ps rs root e0 e W G h8 ey hroot =>
      subst e ey
      refine ite2 (fun _ => ?_) (fun c => absurd e0 (by rw [e0' (Bool.eq_false_iff.mpr c)]; decide))
      exact ⟨_, rfl, _, rfl, .inl ⟨v, pa, ra, ps, rs, root, rfl, W, G, h8, hroot, fun _ H1 s1 => ⟨_, rfl, k H1 s1⟩, fun _ q u H1 s1 _ _ => ⟨_, rfl, k H1 s1⟩⟩⟩
end
end K34

set_option Elab.async false
set_option linter.all false
set_option maxRecDepth 100000
set_option maxHeartbeats 4000000
namespace K34
open PySem L2
theorem kp_same {p : Addr} {H H1 H2 : Hp} (s : Same H H1) (hp : H p = none) (k : Kp [p] H1 H2) : Same H H2 := fun b o e => k b o (s b o e) (by simp; exact ne_of_none e hp)
theorem WebAt.kp {H H' : Hp} {p v pa ra : Addr} {ps : List Str} {rs : List (Addr × Row)} (W : WebAt H v pa ra ps rs) (k : Kp [p] H H') (hp : Pot H p) : WebAt H' v pa ra ps rs := ⟨k.tup hp W.tp, k.tup hp W.pl, k.tup hp W.rl, fun r hr => k.tup hp (W.rows r hr)⟩
theorem passX0 {X : Cx} : Passes (CXE X.prog X.w) X E0 := fun _ _ _ _ _ _ _ h => by
  obtain ⟨_, _, _, _, _, _, _, _, _, _, _, _, _, _, _, _, f⟩ := h
  exact f.elim
theorem ne_same (t : Str) : (!decide (V.str t = V.str t)) = false := by simp
section
variable {P : Program} {w : World} {K : PySem.W.Frag} {mg : Str → Option Value} {base : Heap} {CW CP CN : Addr}
noncomputable def spLaw (K : PySem.W.Frag) : Sp := fun vs H Q _ => ∃ (a : Addr) (ns : List Int), vs = [.ref a] ∧ SqL K H a (ns.map V.int) ∧ ns.length ≤ 63 ∧ ∀ H', Q (.bl true) H'
noncomputable abbrev N51 : List Str := ["_law_script", "_law_k", "_law_pot_here", "_law_web_here", "_law_places", "_law_root", "_law_wrong", "_law_nowhere", "_law_none", "_law_other"]
theorem sc51 : FnScope N51 ["_law_script"] (defScope (top 51)) := ⟨rfl, rfl, rfl, by decide +kernel, rfl, by decide +kernel, by decide +kernel⟩
theorem ok_law {f : Addr} {fd : FuncData} (F : Fun K "law" "law" (top 51) f fd) (B : Bl mg) (Fp : Fn P w K mg base 1 "_law_pot" ["_law_script", "_law_k"] (spPot K)) (Ft : Fn P w K mg base 1 "_law_take" ["_law_pot_here", "_law_many"] spTake) (Fw : Fn P w K mg base 3 "_law_web" ["_law_pot_here"] spWebG)
    (F1 : Fn P w K mg base 2 "_law_no_web" ["_law_pot_here", "_law_web_here"] spNoWeb) (F2 : Fn P w K mg base 2 "_law_no_place" ["_law_pot_here", "_law_web_here"] spNoPlace) (F3 : Fn P w K mg base 2 "_law_no_number" ["_law_pot_here"] spNoNum)
    (Fs : Fn P w K mg base 7 "_law_said" ["_law_way", "_law_web_here", "_law_root", "_law_many"] spSaid) (Fh : FnX P w K mg base 6 "shares" ["web", "root", "many"] (orSp spShares0 (spSharesN CW CP CN))) : FnOk P w K mg base CX0 8 f fd ["_law_script"] (spLaw K) := by
  refine F.ok sc51 (fun vs H Q E h => ?_) (fun cdv A outer s H vs Q E hr h => ?_)
  · obtain ⟨a, ns, rfl, _⟩ := h
    rfl
  · obtain ⟨a, sc, rfl, hS, hlen, k⟩ := h
    have hr1 : Room 1 _ := hr.mono (by decide)
    have hr2 : Room 2 _ := hr.mono (by decide)
    have hr3 : Room 3 _ := hr.mono (by decide)
    have hr6 : Room 6 _ := hr.mono (by decide)
    refine' ⟨_, ?d0, ?main⟩
    case' d0 => refine' pss_cons ?lp (pss_one (ps_ret pe_bl))
    case' lp => refine' ps_for PassesOwn.never rfl (pi_range1 rfl B.range (pa_cons (pe_callB (call_max2 rfl) rfl B.max b_max (pa_cons pe_int (pa_cons (pe_callB (call_min2 rfl) rfl B.min b_min (pa_cons (pe_callB call_len_seq rfl B.len PySem.boot_len (pa_cons (pv 0) pa_nil)) (pa_cons pe_int pa_nil))) pa_nil))) pa_nil)) (pg_name (i := 1) sc51.nd rfl (Or.inl rfl)) ?b0
    case' b0 => refine' pss_cons (ps_set (i := 2) sc51.nd rfl (Or.inl rfl) (pe_fn Fp hr1 (pa_cons (pv 0) (pa_cons (pv 1) pa_nil)))) ?b1
    case' b1 => refine' pss_cons (ps_asg (pe_fn Fw hr3 (pa_cons (pv 2) pa_nil)) (pg_tup rfl (n := 2) (pgs_cons (pg_name (i := 3) sc51.nd rfl (Or.inl rfl)) (pgs_cons (pg_name (i := 4) sc51.nd rfl (Or.inl rfl)) pgs_nil)))) ?b2
    case' b2 => refine' pss_cons (ps_set (i := 5) sc51.nd rfl (Or.inl rfl) (pe_ix ix_seq (pv 4) (pe_fn Ft hr1 (pa_cons (pv 2) (pa_cons (pe_callB call_len_seq rfl B.len PySem.boot_len (pa_cons (pv 4) pa_nil)) pa_nil))) (fun _ _ => rfl))) ?b3
    case' b3 => refine' pss_cons (ps_par3 (i := 6) (j := 7) (k := 8) rfl sc51.nd rfl rfl rfl (by decide) (by decide) (by decide) rfl rfl rfl (pa_cons (pe_fn F1 hr2 (pa_cons (pv 2) (pa_cons (pv 3) pa_nil))) (pa_cons (pe_fn F2 hr2 (pa_cons (pv 2) (pa_cons (pv 3) pa_nil))) (pa_cons (pe_fn F3 hr2 (pa_cons (pv 2) pa_nil)) pa_nil))) (by first | rfl | decide +kernel)) ?b4
    case' b4 => refine' pss_cons ?fo ?b5
    case' fo => refine' ps_for PassesOwn.never rfl (pi_list (pe_lst (pa_cons (pv 5) (pa_cons (pv 7) pa_nil)))) (pg_name (i := 9) sc51.nd rfl (Or.inl rfl)) ?f0
    case' f0 => refine' pss_cons (ps_if (PW.pt (pw_or (pt_cmpR op_ne (pe_fn Fs hr (pa_cons pe_int (pa_cons (pv 6) (pa_cons (pv 9) (pa_cons pe_int pa_nil))))) pe_str (nomark _)) (pw_or1 (pt_cmpR op_ne (pe_fn Fs hr (pa_cons pe_int (pa_cons (pv 6) (pa_cons (pv 9) (pa_cons (pv 8) pa_nil))))) pe_str (nomark _))))) pss_never pss_nil) ?f1
    case f1 => exact pss_one (ps_if (pt_cmpR op_ne (pe_fn Fs hr (pa_cons pe_int (pa_cons (pv 6) (pa_cons (pv 9) (pa_cons pe_int pa_nil))))) pe_str (nomark _)) pss_never pss_nil)
    case' b5 => refine' pss_cons (ps_if (PW.pt (pw_or (pt_cmpR op_ne (pe_fn Fs hr (pa_cons pe_int (pa_cons (pv 3) (pa_cons (pv 7) (pa_cons pe_int pa_nil))))) pe_str (nomark _)) (pw_or1 (pt_cmpR op_ne (pe_fn Fs hr (pa_cons pe_int (pa_cons (pv 3) (pa_cons (pv 7) (pa_cons pe_int pa_nil))))) pe_str (nomark _))))) pss_never pss_nil) ?b6
    case' b6 => refine' pss_cons (ps_if (PW.pt (pw_or (pt_cmpR op_ne (pe_fn Fs hr (pa_cons pe_int (pa_cons (pv 3) (pa_cons (pv 7) (pa_cons (pv 8) pa_nil))))) pe_str (nomark _)) (pw_or1 (pt_cmpR op_ne (pe_fn Fs hr (pa_cons pe_int (pa_cons (pv 3) (pa_cons (pv 5) (pa_cons (pv 8) pa_nil))))) pe_str (nomark _))))) pss_never pss_nil) ?b7
    case b7 => exact pss_one (ps_if (PW.pt (pw_or (pt_cmpR op_ne (pe_fn Fs hr (pa_cons pe_int (pa_cons (pv 3) (pa_cons (pv 5) (pa_cons pe_int pa_nil))))) pe_str (nomark _)) (pw_or1 (pt_cmpR (op_neD hr) (pe_fnX Fh hr6 passX0 (pa_cons (pv 3) (pa_cons (pv 5) (pa_cons pe_int pa_nil)))) (pe_lst pa_nil) (nomark _))))) pss_never pss_nil)
    case main =>
    refine ⟨_, rfl, a, _, rfl, .inl hS, _, _, rfl, _, _, rfl, _, rfl, ?_, ?_, ?_⟩
    · repeat' split
      all_goals omega
    · repeat' split
      all_goals omega
    have hn9 : ∀ x : Int, x = (if (if (8 : Int) < ((sc.map V.int).length : Int) then 8 else ((sc.map V.int).length : Int)) > 1 then (if (8 : Int) < ((sc.map V.int).length : Int) then 8 else ((sc.map V.int).length : Int)) else 1) → x.toNat ≤ 8 := fun x hx => by
      subst hx
      repeat' split
      all_goals omega
    refine for_range (fun i σ H1 => (∃ g1 g2 g3 g4 g5 g6 g7 g8 g9, σ = [some (.ref a), g1, g2, g3, g4, g5, g6, g7, g8, g9]) ∧ Same H H1) ⟨⟨_, _, _, _, _, _, _, _, _, rfl⟩, Same.refl _⟩ ?_ (fun σ H1 _ => k H1)
    rintro i σ H1 hi ⟨⟨g1, g2, g3, g4, g5, g6, g7, g8, g9, rfl⟩, s1⟩
    have hi8 : i < 8 := Nat.lt_of_lt_of_le hi (hn9 _ rfl)
    refine ⟨_, rfl, _, rfl, a, sc, _, rfl, s1.seq hS, by omega, by omega, fun p H2 s2 p0 P2 => ?_⟩
    have sH2 := s1.trans s2
    have pn : H p = none := s1.free p0
    refine ⟨_, rfl, p, rfl, P2, fun v u pl pa ra ns ps rs H3 P3 v3 W3 G h8 h40 pl3 hin hn1 hn8 h7 K3 => ?_⟩
    have sH3 : Same H H3 := kp_same sH2 pn K3
    refine ⟨v, _, rfl, SqT.of v3, rfl, _, _, rfl, _, _, rfl, rfl, ?_⟩
    have npl := pot_ne P3 pl3
    refine ⟨_, rfl, _, rfl, _, rfl, pl, _, rfl, .inl (SqL.of pl3), p, _, rfl, P3, by rw [List.length_map]; omega, by rw [List.length_map]; omega, fun r H4 r0 r1 P4 K4 => ?_⟩
    obtain ⟨m, rfl⟩ : ∃ m : Nat, r = m := ⟨r.toNat, by omega⟩
    rw [List.length_map] at r1
    have hm : m < ns.length := by omega
    have pl4 := K4.at npl pl3
    have W4 := W3.kp K4 P3
    have sH4 : Same H H4 := kp_same sH3 pn K4
    refine rix_of (j := m) (.inl (SqL.of pl4)) rfl (by rw [List.getElem?_map, List.getElem?_eq_getElem hm]; rfl) ?_
    have hroot : ns[m] ∈ ps := hin _ (List.getElem_mem hm)
    generalize ns[m] = root at hroot ⊢
    refine ⟨_, rfl, _, rfl, p, u, pa, ra, ps, rs, rfl, P4, W4, G, h8, h7, fun x H5 P5 K5 x5 => ?_⟩
    have W5 := W4.kp K5 P4
    refine ⟨_, rfl, _, rfl, p, u, pa, ra, ps, rs, rfl, P5, W5, G, h8, h7, fun y H6 P6 K6 y6 => ?_⟩
    have W6 := W5.kp K6 P5
    refine ⟨_, rfl, p, rfl, P6, fun z H7 P7 K7 z7 => ?_⟩
    have W7 := W6.kp K7 P6
    have x7 := (x5.kp K6 P5).kp K7 P6
    have y7 := y6.kp K7 P6
    have sH7 : Same H H7 := kp_same sH4 pn ((K5.trans K6).trans K7)
    refine ⟨_, _, _, rfl, ?_⟩
    refine ⟨_, rfl, _, rfl, by show 2 ≤ sizeLine; decide, fun lo hlo => ?_⟩
    have s8 := same_upd (o := .lst [.str root, y]) (Same.refl H7) hlo
    have l8 : upd H7 lo (.lst [.str root, y]) lo = some (.lst [.str root, y]) := upd_same
    generalize upd H7 lo (.lst [.str root, y]) = H8 at s8 l8 ⊢
    refine ⟨lo, rfl, ⟨_, SqL.of l8⟩, for_list (xs := [.str root, y]) (fun j σ H9 => (∃ g1 g9, σ = [some (.ref a), g1, some (.ref p), some (.ref u), some (.ref pl), some (.str root), some x, some y, some z, g9]) ∧ Same H8 H9) ⟨⟨_, _, rfl⟩, Same.refl _⟩ (fun j σ H9 _ q => SqL.of (q.2 _ _ l8)) ?_ ?_⟩
    · rintro j t σ H9 ht ⟨⟨g1, g9, rfl⟩, s9⟩
      have x9 := (x7.same s8).same s9
      refine ⟨_, rfl, _, rfl, 0, x, t, .int 0, _, rfl, .web x9, fun H10 s10 => ⟨rfl, _, rfl, ?_⟩⟩
      rw [ne_same]
      refine iteF ⟨_, rfl, _, rfl, _, rfl, 1, x, t, z, _, rfl, .web (x9.same s10), fun H11 s11 => ⟨rfl, _, rfl, ?_⟩⟩
      rw [ne_same]
      refine iteF ⟨_, rfl, _, rfl, 1, x, t, .int 0, _, rfl, .web ((x9.same s10).same s11), fun H12 s12 => ⟨rfl, _, rfl, ?_⟩⟩
      rw [ne_same]
      exact iteF ⟨⟨_, _, rfl⟩, s9.trans (s10.trans (s11.trans s12))⟩
    · rintro σ H9 ⟨⟨g1, g9, rfl⟩, s9⟩
      have s79 := s8.trans s9
      have W9 := W7.same s79
      have y9 := y7.same s79
      have z9 := z7.same s79
      refine ⟨_, rfl, _, rfl, 0, .ref u, y, .int 0, _, rfl, .place rfl W9 G y9, fun H10 s10 => ⟨rfl, _, rfl, ?_⟩⟩
      rw [ne_same]
      refine iteF ⟨_, rfl, _, rfl, 1, .ref u, y, .int 1, _, rfl, .place rfl (W9.same s10) G (y9.same s10), fun H11 s11 => ⟨rfl, _, rfl, ?_⟩⟩
      rw [ne_same]
      have t11 := s10.trans s11
      refine iteF ⟨_, rfl, _, rfl, _, rfl, 1, .ref u, y, z, _, rfl, .place rfl (W9.same t11) G (y9.same t11), fun H12 s12 => ⟨rfl, _, rfl, ?_⟩⟩
      rw [ne_same]
      have t12 := t11.trans s12
      refine iteF ⟨_, rfl, _, rfl, _, rfl, 1, .ref u, .str root, z, _, rfl, .number rfl rfl (W9.same t12) G rfl hroot (z9.same t12), fun H13 s13 => ⟨rfl, _, rfl, ?_⟩⟩
      rw [ne_same]
      have t13 := t12.trans s13
      refine iteF ⟨_, rfl, _, rfl, 0, .ref u, .str root, .int 0, _, rfl, .told rfl rfl (W9.same t13) G h8 rfl hroot, fun H14 s14 => ⟨rfl, _, rfl, ?_⟩⟩
      rw [ne_same]
      have t14 := t13.trans s14
      refine iteF ⟨_, rfl, _, rfl, .inl ⟨u, pa, ra, ps, rs, root, rfl, W9.same t14, G, h8, hroot, fun q H15 s15 q15 => ?_⟩⟩
      refine ⟨Nat.zero_le _, fun l16 hl16 => ?_⟩
      have s16 := same_upd (o := .lst []) (Same.refl H15) hl16
      refine ⟨.list [], .list [], .lst (s16 _ _ q15) .nil, .lst upd_same .nil, ?sh1, ?sh2, _, rfl, ?_⟩
      case sh1 => rfl
      case sh2 => rfl
      have ev : PyData.eqv (.list []) (.list []) = true := by rfl
      rw [ev]
      refine iteF ⟨⟨_, _, _, _, _, _, _, _, _, rfl⟩, sH7.trans (s79.trans (t14.trans (s15.trans s16)))⟩
end
end K34

set_option Elab.async false
set_option linter.all false
set_option maxRecDepth 100000
set_option maxHeartbeats 4000000
namespace K34
open PySem L2
/-- a def of the text as it stands behind the top -/
noncomputable def DefAt (K : PySem.W.Frag) (x : Str) (st : Stmt) : Prop := ∃ (f : Addr) (oc : Value) (od : Option Addr) (kV doc pm : Value) (an : Option Addr) (cd ct : Value) (sl : Array (Option Value)),
  PySem.W.nsIn K mainGlobals x = some (some (.ref f)) ∧ K.lookup f = some ⟨oc, od, .func (PySem.W.fnOf x x (defArgs st) (defBody st) (defScope st) .none kV doc pm an cd ct), sl⟩ ∧ PySem.W.codeIn K cd x = true ∧ PySem.W.keepIn K (.ref f) = true
theorem def_mk {K : PySem.W.Frag} {x : Str} {st : Stmt} {f : Addr} {oc : Value} {od : Option Addr} {kV doc pm : Value} {an : Option Addr} {cd ct : Value} {sl : Array (Option Value)} (a : PySem.W.nsIn K mainGlobals x = some (some (.ref f)))
    (l : K.lookup f = some ⟨oc, od, .func (PySem.W.fnOf x x (defArgs st) (defBody st) (defScope st) .none kV doc pm an cd ct), sl⟩) (c : PySem.W.codeIn K cd x = true) (k : PySem.W.keepIn K (.ref f) = true) : DefAt K x st :=
  ⟨f, oc, od, kV, doc, pm, an, cd, ct, sl, a, l, c, k⟩
theorem fn_def {P : Program} {w : World} {K : PySem.W.Frag} {mg : Str → Option Value} {base h : Heap} {x : Str} {st : Stmt} {k : Nat} {ps : List Str} {sp : Sp} (D : DefAt K x st) (X : K.In h) (G : h.Ns mainGlobals mg)
    (hb : ∀ (kV doc pm : Value) (an : Option Addr) (cdv ct : Value) (us : List Value), us.length = ps.length → bindArgs (PySem.W.fnOf x x (defArgs st) (defBody st) (defScope st) .none kV doc pm an cdv ct) ⟨us, []⟩ = pure (ps.zip us))
    (ok : ∀ (f : Addr) (fd : FuncData), Fun K x x st f fd → FnOk P w K mg base CX0 k f fd ps sp) : Fn P w K mg base k x ps sp := by
  obtain ⟨f, oc, od, kV, doc, pm, an, cd, ct, sl, a, l, c, kk⟩ := D
  have F := fun_mk (st := st) l c kk
  exact ⟨f, _, PySem.W.mg_of X G a, kk, F.binds hb, ok f _ F⟩
theorem fnx_def {P : Program} {w : World} {K : PySem.W.Frag} {mg : Str → Option Value} {base h : Heap} {x : Str} {st : Stmt} {k : Nat} {ps : List Str} {sp : Sp} (D : DefAt K x st) (X : K.In h) (G : h.Ns mainGlobals mg)
    (hb : ∀ (kV doc pm : Value) (an : Option Addr) (cdv ct : Value) (us : List Value), us.length = ps.length → bindArgs (PySem.W.fnOf x x (defArgs st) (defBody st) (defScope st) .none kV doc pm an cdv ct) ⟨us, []⟩ = pure (ps.zip us))
    (ok : ∀ (f : Addr) (fd : FuncData), Fun K x x st f fd → FnOk P w K mg base (CXE P w) k f fd ps sp) : FnX P w K mg base k x ps sp := by
  obtain ⟨f, oc, od, kV, doc, pm, an, cd, ct, sl, a, l, c, kk⟩ := D
  have F := fun_mk (st := st) l c kk
  exact ⟨f, _, PySem.W.mg_of X G a, kk, F.binds hb, ok f _ F⟩
theorem fng_def {P : Program} {w : World} {K : PySem.W.Frag} {mg : Str → Option Value} {base h : Heap} {x : Str} {st : Stmt} {k : Nat} {ps : List Str} {sp : Option Value → Sp} (D : DefAt K x st) (X : K.In h) (G : h.Ns mainGlobals mg)
    (hb : ∀ (kV doc pm : Value) (an : Option Addr) (cdv ct : Value) (us : List Value), us.length = ps.length → bindArgs (PySem.W.fnOf x x (defArgs st) (defBody st) (defScope st) .none kV doc pm an cdv ct) ⟨us, []⟩ = pure (ps.zip us))
    (ok : ∀ (f : Addr) (fd : FuncData), Fun K x x st f fd → FnOkG P w K mg base CX0 k f fd ps sp) : FnG P w K mg base k x ps sp := by
  obtain ⟨f, oc, od, kV, doc, pm, an, cd, ct, sl, a, l, c, kk⟩ := D
  have F := fun_mk (st := st) l c kk
  exact ⟨f, _, PySem.W.mg_of X G a, kk, F.binds hb, ok f _ F⟩
theorem all_mk {l : PySem.W.OpenLaw} {w : World} {K : PySem.W.Frag} {h : Heap} {mg : Str → Option Value} {fa : Addr} (X : K.In h) (G : h.Ns mainGlobals mg) (hfa : mg "law" = some (.ref fa)) (B : Bl mg) {Rc Wc Pc Nc d1a d2a d3a d4a d5a d6a d7a d8a : Addr}
    (cRc : PySem.W.nsIn K mainGlobals "RootError" = some (some (.ref Rc))) (eRc : PySem.W.excIn K Rc veM "ValueError.__new__" = true)
    (cWc : PySem.W.nsIn K mainGlobals "NoWeb" = some (some (.ref Wc))) (eWc : PySem.W.excIn K Wc veM "ValueError.__new__" = true)
    (cPc : PySem.W.nsIn K mainGlobals "NoPlace" = some (some (.ref Pc))) (ePc : PySem.W.excIn K Pc veM "ValueError.__new__" = true)
    (cNc : PySem.W.nsIn K mainGlobals "NoNumber" = some (some (.ref Nc))) (eNc : PySem.W.excIn K Nc veM "ValueError.__new__" = true)
    (uWcRc : underIn K Wc Rc = true)
    (uPcRc : underIn K Pc Rc = true)
    (uNcRc : underIn K Nc Rc = true)
    (cd1a : PySem.W.nsIn K mainGlobals "NoCosts" = some (some (.ref d1a)))
    (cd2a : PySem.W.nsIn K mainGlobals "NoLot" = some (some (.ref d2a)))
    (cd3a : PySem.W.nsIn K mainGlobals "NoRoots" = some (some (.ref d3a)))
    (cd4a : PySem.W.nsIn K mainGlobals "NoText" = some (some (.ref d4a)))
    (cd5a : PySem.W.nsIn K mainGlobals "NoTie" = some (some (.ref d5a)))
    (cd6a : PySem.W.nsIn K mainGlobals "NoTree" = some (some (.ref d6a)))
    (cd7a : PySem.W.nsIn K mainGlobals "TooFew" = some (some (.ref d7a)))
    (cd8a : PySem.W.nsIn K mainGlobals "TooMany" = some (some (.ref d8a)))
    (zve : PySem.W.nsIn K mainGlobals "ValueError" = some none)
    (zsum : PySem.W.nsIn K mainGlobals "sum" = some none)
    (qwa : PySem.W.kitOne K (.ref Wc) (.ref Wc) = some true)
    (qwb : PySem.W.kitOne K (.ref Wc) (.ref Pc) = some false)
    (qwc : PySem.W.kitOne K (.ref Wc) (.ref Nc) = some false)
    (qwo : PySem.W.kitAny K (.ref Wc) ([d1a, d2a, d3a, d4a, d5a, d6a, d7a, d8a].map Value.ref) = some false)
    (qwv : PySem.W.kitOne K (.ref Wc) (.type "ValueError") = some true)
    (qwe : kitEIn K Wc = true)
    (qpa : PySem.W.kitOne K (.ref Pc) (.ref Wc) = some false)
    (qpb : PySem.W.kitOne K (.ref Pc) (.ref Pc) = some true)
    (qpc : PySem.W.kitOne K (.ref Pc) (.ref Nc) = some false)
    (qpo : PySem.W.kitAny K (.ref Pc) ([d1a, d2a, d3a, d4a, d5a, d6a, d7a, d8a].map Value.ref) = some false)
    (qpv : PySem.W.kitOne K (.ref Pc) (.type "ValueError") = some true)
    (qpe : kitEIn K Pc = true)
    (qna : PySem.W.kitOne K (.ref Nc) (.ref Wc) = some false)
    (qnb : PySem.W.kitOne K (.ref Nc) (.ref Pc) = some false)
    (qnc : PySem.W.kitOne K (.ref Nc) (.ref Nc) = some true)
    (qno : PySem.W.kitAny K (.ref Nc) ([d1a, d2a, d3a, d4a, d5a, d6a, d7a, d8a].map Value.ref) = some false)
    (qnv : PySem.W.kitOne K (.ref Nc) (.type "ValueError") = some true)
    (qne : kitEIn K Nc = true)
    (d15 : DefAt K "is_name" (top 15))
    (d16 : DefAt K "is_whole" (top 16))
    (d17 : DefAt K "is_rising" (top 17))
    (d18 : DefAt K "is_sorted_names" (top 18))
    (d19 : DefAt K "is_among" (top 19))
    (d20 : DefAt K "is_tie_row" (top 20))
    (d21 : DefAt K "is_web" (top 21))
    (d22 : DefAt K "need_web" (top 22))
    (d23 : DefAt K "need_number" (top 23))
    (d24 : DefAt K "need_place" (top 24))
    (d25 : DefAt K "leads_into" (top 25))
    (d28 : DefAt K "lots_among" (top 28))
    (d29 : DefAt K "lots_without" (top 29))
    (d30 : DefAt K "counts_into" (top 30))
    (d31 : DefAt K "need_of" (top 31))
    (d32 : DefAt K "spare_into" (top 32))
    (d35 : DefAt K "need_enough" (top 35))
    (d36 : DefAt K "trees_from" (top 36))
    (d37 : DefAt K "least" (top 37))
    (d38 : DefAt K "shares" (top 38))
    (d40 : DefAt K "_law_pot" (top 40))
    (d41 : DefAt K "_law_take" (top 41))
    (d42 : DefAt K "_law_names" (top 42))
    (d43 : DefAt K "_law_pairs" (top 43))
    (d44 : DefAt K "_law_called" (top 44))
    (d45 : DefAt K "_law_web" (top 45))
    (d46 : DefAt K "_law_sort" (top 46))
    (d47 : DefAt K "_law_said" (top 47))
    (d48 : DefAt K "_law_no_web" (top 48))
    (d49 : DefAt K "_law_no_place" (top 49))
    (d50 : DefAt K "_law_no_number" (top 50))
    (d51 : DefAt K "law" (top 51)) :
    ∃ fd : FuncData, (∀ (s : Shared) (v : Value), BindsTo s fd ⟨[v], []⟩ [("_law_script", v)]) ∧ ∀ base : Heap, K.In base → base.Ns mainGlobals mg → FnOk l.prog w K mg base CX0 8 fa fd ["_law_script"] (spLaw K) := by
  obtain ⟨f, oc, od, kV, doc, pm, an, cd, ct, sl, a, lk, c, kk⟩ := d51
  have e := hfa.symm.trans (PySem.W.mg_of X G a)
  cases e
  refine ⟨PySem.W.fnOf "law" "law" (defArgs (top 51)) (defBody (top 51)) (defScope (top 51)) .none kV doc pm an cd ct, fun s v => .of_eq rfl, fun base KB _ => ?_⟩
  have gRc := PySem.W.mg_of X G cRc
  have xRc := excC_ve KB eRc
  have gWc := PySem.W.mg_of X G cWc
  have xWc := excC_ve KB eWc
  have gPc := PySem.W.mg_of X G cPc
  have xPc := excC_ve KB ePc
  have gNc := PySem.W.mg_of X G cNc
  have xNc := excC_ve KB eNc
  have vWcRc := under_in KB uWcRc
  have vPcRc := under_in KB uPcRc
  have vNcRc := under_in KB uNcRc
  have gd1a := PySem.W.mg_of X G cd1a
  have gd2a := PySem.W.mg_of X G cd2a
  have gd3a := PySem.W.mg_of X G cd3a
  have gd4a := PySem.W.mg_of X G cd4a
  have gd5a := PySem.W.mg_of X G cd5a
  have gd6a := PySem.W.mg_of X G cd6a
  have gd7a := PySem.W.mg_of X G cd7a
  have gd8a := PySem.W.mg_of X G cd8a
  have Z : Cls mg Wc Pc Nc d1a d2a d3a d4a d5a d6a d7a d8a := ⟨gWc, gPc, gNc, gd1a, gd2a, gd3a, gd4a, gd5a, gd6a, gd7a, gd8a, PySem.W.mg_none_of X G zve, PySem.W.mg_none_of X G zsum⟩
  have Ow : Srt K Wc Wc Pc Nc d1a d2a d3a d4a d5a d6a d7a d8a true false false := ⟨qwa, qwb, qwc, qwo, qwv, kitE_of qwe⟩
  have Op : Srt K Pc Wc Pc Nc d1a d2a d3a d4a d5a d6a d7a d8a false true false := ⟨qpa, qpb, qpc, qpo, qpv, kitE_of qpe⟩
  have On : Srt K Nc Wc Pc Nc d1a d2a d3a d4a d5a d6a d7a d8a false false true := ⟨qna, qnb, qnc, qno, qnv, kitE_of qne⟩
  have n15 := fn_def (P := l.prog) (w := w) (base := base) d15 X G (ps := ["thing"]) (fun _ _ _ _ _ _ us hl => match us, hl with | [_], _ => rfl) fun f fd F => ok_is_name F B
  have n15D := fn_def (P := l.prog) (w := w) (base := base) d15 X G (ps := ["thing"]) (fun _ _ _ _ _ _ us hl => match us, hl with | [_], _ => rfl) fun f fd F => ok_nameD F B
  have n16 := fn_def (P := l.prog) (w := w) (base := base) d16 X G (ps := ["thing"]) (fun _ _ _ _ _ _ us hl => match us, hl with | [_], _ => rfl) fun f fd F => ok_is_whole F B
  have n16N := fn_def (P := l.prog) (w := w) (base := base) d16 X G (ps := ["thing"]) (fun _ _ _ _ _ _ us hl => match us, hl with | [_], _ => rfl) fun f fd F => FnOk.or (ok_is_whole F B) (ok_wholeN F B)
  have n17 := fn_def (P := l.prog) (w := w) (base := base) d17 X G (ps := ["names"]) (fun _ _ _ _ _ _ us hl => match us, hl with | [_], _ => rfl) fun f fd F => ok_is_rising F B
  have n17D := fn_def (P := l.prog) (w := w) (base := base) d17 X G (ps := ["names"]) (fun _ _ _ _ _ _ us hl => match us, hl with | [_], _ => rfl) fun f fd F => ok_risingD F B
  have n18 := fn_def (P := l.prog) (w := w) (base := base) d18 X G (ps := ["thing"]) (fun _ _ _ _ _ _ us hl => match us, hl with | [_], _ => rfl) fun f fd F => ok_is_sorted F B n15 n17
  have n18D := fn_def (P := l.prog) (w := w) (base := base) d18 X G (ps := ["thing"]) (fun _ _ _ _ _ _ us hl => match us, hl with | [_], _ => rfl) fun f fd F => ok_sortedD F B n15D n17D
  have n19 := fn_def (P := l.prog) (w := w) (base := base) d19 X G (ps := ["thing", "names"]) (fun _ _ _ _ _ _ us hl => match us, hl with | [_, _], _ => rfl) fun f fd F => ok_is_among F B
  have n19D := fn_def (P := l.prog) (w := w) (base := base) d19 X G (ps := ["thing", "names"]) (fun _ _ _ _ _ _ us hl => match us, hl with | [_, _], _ => rfl) fun f fd F => ok_amongD F B
  have n19N := fn_def (P := l.prog) (w := w) (base := base) d19 X G (ps := ["thing", "names"]) (fun _ _ _ _ _ _ us hl => match us, hl with | [_, _], _ => rfl) fun f fd F => ok_amongN F B
  have n20 := fn_def (P := l.prog) (w := w) (base := base) d20 X G (ps := ["thing", "places"]) (fun _ _ _ _ _ _ us hl => match us, hl with | [_, _], _ => rfl) fun f fd F => ok_is_tie_row F B n15 n19
  have n20D := fn_def (P := l.prog) (w := w) (base := base) d20 X G (ps := ["thing", "places"]) (fun _ _ _ _ _ _ us hl => match us, hl with | [_, _], _ => rfl) fun f fd F => ok_tieD F B n15D n19D
  have n21 := fn_def (P := l.prog) (w := w) (base := base) d21 X G (ps := ["thing"]) (fun _ _ _ _ _ _ us hl => match us, hl with | [_], _ => rfl) fun f fd F => ok_is_web F B n18 n20 n17
  have n21D := fn_def (P := l.prog) (w := w) (base := base) d21 X G (ps := ["thing"]) (fun _ _ _ _ _ _ us hl => match us, hl with | [_], _ => rfl) fun f fd F => ok_webD F B n18D n20D n17D
  have n22 := fnx_def (P := l.prog) (w := w) (base := base) d22 X G (ps := ["thing"]) (fun _ _ _ _ _ _ us hl => match us, hl with | [_], _ => rfl) fun f fd F => FnOk.or (ok_need_web F n21).lift (ok_need_webN F gWc xWc n21D)
  have n23 := fnx_def (P := l.prog) (w := w) (base := base) d23 X G (ps := ["thing", "low", "high"]) (fun _ _ _ _ _ _ us hl => match us, hl with | [_, _, _], _ => rfl) fun f fd F => FnOk.or (ok_need_number F n16).lift (ok_need_numberN F B gNc xNc n16N)
  have n24 := fnx_def (P := l.prog) (w := w) (base := base) d24 X G (ps := ["web", "thing"]) (fun _ _ _ _ _ _ us hl => match us, hl with | [_, _], _ => rfl) fun f fd F => FnOk.or (ok_need_place F n19).lift (ok_need_placeN F gPc xPc n19N)
  have n25 := fn_def (P := l.prog) (w := w) (base := base) d25 X G (ps := ["row", "lot"]) (fun _ _ _ _ _ _ us hl => match us, hl with | [_, _], _ => rfl) fun f fd F => ok_leads_into F
  have n28 := fn_def (P := l.prog) (w := w) (base := base) d28 X G (ps := ["places"]) (fun _ _ _ _ _ _ us hl => match us, hl with | [_], _ => rfl) fun f fd F => ok_lots_among F B
  have n29 := fn_def (P := l.prog) (w := w) (base := base) d29 X G (ps := ["web", "root"]) (fun _ _ _ _ _ _ us hl => match us, hl with | [_, _], _ => rfl) fun f fd F => ok_lots_without F n28
  have n30 := fn_def (P := l.prog) (w := w) (base := base) d30 X G (ps := ["rows", "lots"]) (fun _ _ _ _ _ _ us hl => match us, hl with | [_, _], _ => rfl) fun f fd F => ok_counts F n25
  have n31 := fn_def (P := l.prog) (w := w) (base := base) d31 X G (ps := ["roots", "lot"]) (fun _ _ _ _ _ _ us hl => match us, hl with | [_, _], _ => rfl) fun f fd F => ok_need_of F B
  have n32 := fn_def (P := l.prog) (w := w) (base := base) d32 X G (ps := ["rows", "lots", "roots"]) (fun _ _ _ _ _ _ us hl => match us, hl with | [_, _, _], _ => rfl) fun f fd F => ok_spare F n30 n31
  have n35 := fn_def (P := l.prog) (w := w) (base := base) d35 X G (ps := ["web", "roots"]) (fun _ _ _ _ _ _ us hl => match us, hl with | [_, _], _ => rfl) fun f fd F => ok_enough0 F n32 n28
  have n36 := fn_def (P := l.prog) (w := w) (base := base) d36 X G (ps := ["web", "roots"]) (fun _ _ _ _ _ _ us hl => match us, hl with | [_, _], _ => rfl) fun f fd F => ok_trees0 F B n35
  have n37 := fnx_def (P := l.prog) (w := w) (base := base) d37 X G (ps := ["web", "root"]) (fun _ _ _ _ _ _ us hl => match us, hl with | [_, _], _ => rfl) fun f fd F => FnOk.or (ok_leastG F B n22 n24 n29 n30) (ok_leastN F n22 n24)
  have n38 := fnx_def (P := l.prog) (w := w) (base := base) d38 X G (ps := ["web", "root", "many"]) (fun _ _ _ _ _ _ us hl => match us, hl with | [_, _, _], _ => rfl) fun f fd F => FnOk.or (ok_shares0 F B n22 n24 n23 n36) (ok_sharesN F B n22 n24 n23)
  have n40 := fn_def (P := l.prog) (w := w) (base := base) d40 X G (ps := ["_law_script", "_law_k"]) (fun _ _ _ _ _ _ us hl => match us, hl with | [_, _], _ => rfl) fun f fd F => ok_pot F B
  have n41 := fn_def (P := l.prog) (w := w) (base := base) d41 X G (ps := ["_law_pot_here", "_law_many"]) (fun _ _ _ _ _ _ us hl => match us, hl with | [_, _], _ => rfl) fun f fd F => ok_take F B
  have n42 := fn_def (P := l.prog) (w := w) (base := base) d42 X G (ps := ["_law_pot_here", "_law_many"]) (fun _ _ _ _ _ _ us hl => match us, hl with | [_, _], _ => rfl) fun f fd F => ok_names F B n41
  have n43 := fn_def (P := l.prog) (w := w) (base := base) d43 X G (ps := ["_law_pot_here", "_law_many"]) (fun _ _ _ _ _ _ us hl => match us, hl with | [_, _], _ => rfl) fun f fd F => ok_pairs F B n41
  have n44 := fn_def (P := l.prog) (w := w) (base := base) d44 X G (ps := ["_law_pot_here", "_law_ties", "_law_places"]) (fun _ _ _ _ _ _ us hl => match us, hl with | [_, _, _], _ => rfl) fun f fd F => ok_called F B n41
  have n45 := fn_def (P := l.prog) (w := w) (base := base) d45 X G (ps := ["_law_pot_here"]) (fun _ _ _ _ _ _ us hl => match us, hl with | [_], _ => rfl) fun f fd F => ok_web F B n41 n42 n43 n44
  have n46 := fng_def (P := l.prog) (w := w) (base := base) d46 X G (ps := ["_law_e"]) (fun _ _ _ _ _ _ us hl => match us, hl with | [_], _ => rfl) fun f fd F => FnOkG.or (ok_sort (x := Str.ofString "web") (j := 0) F B Z Ow (by decide) rfl (by decide) rfl) (FnOkG.or (ok_sort (x := Str.ofString "place") (j := 1) F B Z Op (by decide) rfl (by decide) rfl) (ok_sort (x := Str.ofString "number") (j := 2) F B Z On (by decide) rfl (by decide) rfl))
  have n47 := fn_def (P := l.prog) (w := w) (base := base) d47 X G (ps := ["_law_way", "_law_web_here", "_law_root", "_law_many"]) (fun _ _ _ _ _ _ us hl => match us, hl with | [_, _, _, _], _ => rfl) fun f fd F => ok_said F gRc xRc vWcRc vPcRc vNcRc n37 n38 n46
  have n48 := fn_def (P := l.prog) (w := w) (base := base) d48 X G (ps := ["_law_pot_here", "_law_web_here"]) (fun _ _ _ _ _ _ us hl => match us, hl with | [_, _], _ => rfl) fun f fd F => ok_no_web F B n41
  have n49 := fn_def (P := l.prog) (w := w) (base := base) d49 X G (ps := ["_law_pot_here", "_law_web_here"]) (fun _ _ _ _ _ _ us hl => match us, hl with | [_, _], _ => rfl) fun f fd F => ok_no_place F B n41
  have n50 := fn_def (P := l.prog) (w := w) (base := base) d50 X G (ps := ["_law_pot_here"]) (fun _ _ _ _ _ _ us hl => match us, hl with | [_], _ => rfl) fun f fd F => ok_no_number F B n41
  exact ok_law (fun_mk (st := top 51) lk c kk) B n40 n41 n45 n48 n49 n50 n47 n38
theorem bl_mk {K : PySem.W.Frag} {h : Heap} {mg : Str → Option Value} (X : K.In h) (G : h.Ns mainGlobals mg) {t_most : Tok} {t_lng : Tok}
    (z_len : PySem.W.nsIn K mainGlobals "len" = some none)
    (z_isinstance : PySem.W.nsIn K mainGlobals "isinstance" = some none)
    (z_all : PySem.W.nsIn K mainGlobals "all" = some none)
    (z_range : PySem.W.nsIn K mainGlobals "range" = some none)
    (z_sorted : PySem.W.nsIn K mainGlobals "sorted" = some none)
    (z_repr : PySem.W.nsIn K mainGlobals "repr" = some none)
    (z_max : PySem.W.nsIn K mainGlobals "max" = some none)
    (z_min : PySem.W.nsIn K mainGlobals "min" = some none)
    (z_str : PySem.W.nsIn K mainGlobals "str" = some none)
    (z_tuple : PySem.W.nsIn K mainGlobals "tuple" = some none)
    (z_list : PySem.W.nsIn K mainGlobals "list" = some none)
    (z_int : PySem.W.nsIn K mainGlobals "int" = some none)
    (z_bool : PySem.W.nsIn K mainGlobals "bool" = some none)
    (z_zip : PySem.W.nsIn K mainGlobals "zip" = some none)
    (z_divmod : PySem.W.nsIn K mainGlobals "divmod" = some none)
    (z_abs : PySem.W.nsIn K mainGlobals "abs" = some none)
    (z_set : PySem.W.nsIn K mainGlobals "set" = some none)
    (z_enumerate : PySem.W.nsIn K mainGlobals "enumerate" = some none)
    (z_most : PySem.W.nsIn K mainGlobals "MOST_TREES" = some (some (.int 6 t_most)))
    (z_lng : PySem.W.nsIn K mainGlobals "LONGEST_NAME" = some (some (.int 8 t_lng)))
    : Bl mg :=
  ⟨PySem.W.mg_none_of X G z_len, PySem.W.mg_none_of X G z_isinstance, PySem.W.mg_none_of X G z_all, PySem.W.mg_none_of X G z_range, PySem.W.mg_none_of X G z_sorted, PySem.W.mg_none_of X G z_repr, PySem.W.mg_none_of X G z_max, PySem.W.mg_none_of X G z_min, PySem.W.mg_none_of X G z_str, PySem.W.mg_none_of X G z_tuple, PySem.W.mg_none_of X G z_list, PySem.W.mg_none_of X G z_int, PySem.W.mg_none_of X G z_bool, PySem.W.mg_none_of X G z_zip, PySem.W.mg_none_of X G z_divmod, PySem.W.mg_none_of X G z_abs, PySem.W.mg_none_of X G z_set, PySem.W.mg_none_of X G z_enumerate, ⟨t_most, PySem.W.mg_of X G z_most⟩, ⟨t_lng, PySem.W.mg_of X G z_lng⟩⟩
theorem walk {l : PySem.W.OpenLaw} {q : Program} {loose : List Str} {XP : (Str → Option Value) → Heap → Prop} {YP : World → Heap → Prop} {d : DefRec} {K : Params → PySem.W.Frag} (hn : l.most = some 63) (hdf : d.params.defaults = [])
    (hY : ∀ (w : World) (h : Heap), YP w h → (K w.params).In h)
    (F : ∀ (w : World) (mg : Str → Option Value) (fa : Addr) (h : Heap), (K w.params).In h → h.Ns mainGlobals mg → mg d.name = some (.ref fa) →
      ∃ fd : FuncData, (∀ (s : Shared) (u : Value), BindsTo s fd ⟨[u], []⟩ [("_law_script", u)]) ∧ ∀ base : Heap, (K w.params).In base → base.Ns mainGlobals mg → FnOk l.prog w (K w.params) mg base CX0 8 fa fd ["_law_script"] (spLaw (K w.params))) :
    PySem.W.WalkO q loose XP YP l.row.toRowW d [] (fun f vs => PySem.call f vs) :=
  L2.walk_of (n := 63) (k := 8) (x := "_law_script") (CX := fun _ => CX0) (sp := fun w => spLaw (K w.params)) hn (by decide) hdf ⟨rfl, by decide, by decide, rfl⟩ hY F (fun _ _ a ns hl _ hS => ⟨a, ns, rfl, hS, hl, fun _ => rfl⟩) fun _ _ _ _ _ z => z
end K34
theorem PySem.W.Fast.tw14941443450742924305 : True := trivial
theorem PySem.W.Fast.tw10688907293220216956 : True := trivial
theorem PySem.W.Fast.tw4508747661594608317 : True := trivial
theorem PySem.W.Fast.tw9779544058199989773 : True := trivial
theorem PySem.W.Fast.tw15336408616387142401 : True := trivial
theorem PySem.W.Fast.tw4837649445671242128 : True := trivial
theorem PySem.W.Fast.tw17776380445298661905 : True := trivial
theorem PySem.W.Fast.tw4718149248102401770 : True := trivial
theorem PySem.W.Fast.tw17628226716206777967 : True := trivial
theorem PySem.W.Fast.tw12099769236816889228 : True := trivial
theorem PySem.W.Fast.tw7038104365253968601 : True := trivial
theorem PySem.W.Fast.tw9383759364755896822 : True := trivial
theorem PySem.W.Fast.tw16795157675331030367 : True := trivial
theorem PySem.W.Fast.tw16654896307860767270 : True := trivial
theorem PySem.W.Fast.tw15045997892980352878 : True := trivial
theorem PySem.W.Fast.tw1138190145519919927 : True := trivial
theorem PySem.W.Fast.tw6043191152574508850 : True := trivial
theorem PySem.W.Fast.tw12462958389387474464 : True := trivial
theorem PySem.W.Fast.tw8404965078657985410 : True := trivial
theorem PySem.W.Fast.tw592158093820793208 : True := trivial
theorem PySem.W.Fast.tw12040128245885431950 : True := trivial
theorem PySem.W.Fast.tw8693228679352957473 : True := trivial
theorem PySem.W.Fast.tw3875642054262290321 : True := trivial
theorem PySem.W.Fast.tw8130016495752262841 : True := trivial
theorem PySem.W.Fast.tw4801055386919224699 : True := trivial
theorem PySem.W.Fast.tw11550854811260528624 : True := trivial
theorem PySem.W.Fast.tw2339180090700823015 : True := trivial
theorem PySem.W.Fast.tw15700524600990466179 : True := trivial
theorem PySem.W.Fast.tw7283872697672722029 : True := trivial
theorem PySem.W.Fast.tw5542406199354566158 : True := trivial
theorem PySem.W.Fast.tw5274068613475144054 : True := trivial
theorem PySem.W.Fast.tw15112015976812472484 : True := trivial
theorem PySem.W.Fast.tw5692680773104847353 : True := trivial
theorem PySem.W.Fast.tw2096124540318184022 : True := trivial
theorem PySem.W.Fast.tw14668896777844433344 : True := trivial
theorem PySem.W.Fast.tw13816109297149313223 : True := trivial
theorem PySem.W.Fast.tw9168715441057499204 : True := trivial
theorem PySem.W.Fast.tw7440730352111431785 : True := trivial
theorem PySem.W.Fast.tw2852386537329964258 : True := trivial
theorem PySem.W.Fast.tw15456566780957655067 : True := trivial
theorem PySem.W.Fast.tw682807557865416304 : True := trivial
theorem PySem.W.Fast.tw10421065032949989235 : True := trivial
theorem PySem.W.Fast.tw5561244166037417047 : True := trivial
theorem PySem.W.Fast.tw10904753988479361231 : True := trivial
open PySem PySem.W PyProof.Rows
set_option maxRecDepth 100000 in
set_option maxHeartbeats 0 in
theorem PySem.Challenge.cw_rootshares_k34_shares_refused_holds : PySem.Challenge.rw_rootshares_k34_shares_refused.Holds := by
  w_on; o_law; k_head; (case hw => w_witness2)
  k_fill
  refine K34.walk (l := PySem.Challenge.rw_rootshares_k34_shares_refused) rfl rfl (fun w h Y => PySem.W.kIn_of Y) ?F
  case F =>
    intro w mg fa h KX G hmg
    have B : K34.Bl mg := by
      refine' K34.bl_mk KX G ?len ?isinstance ?all ?range ?sorted ?repr ?max ?min ?str ?tuple ?list ?int ?bool ?zip ?divmod ?abs ?set ?enumerate ?most ?lng
      (case len => k_is)
      (case isinstance => k_is)
      (case all => k_is)
      (case range => k_is)
      (case sorted => k_is)
      (case repr => k_is)
      (case max => k_is)
      (case min => k_is)
      (case str => k_is)
      (case tuple => k_is)
      (case list => k_is)
      (case int => k_is)
      (case bool => k_is)
      (case zip => k_is)
      (case divmod => k_is)
      (case abs => k_is)
      (case set => k_is)
      (case enumerate => k_is)
      (case most => k_is)
      (case lng => k_is)
    refine' K34.all_mk KX G hmg B ?cRc ?eRc ?cWc ?eWc ?cPc ?ePc ?cNc ?eNc ?uWcRc ?uPcRc ?uNcRc ?cd1a ?cd2a ?cd3a ?cd4a ?cd5a ?cd6a ?cd7a ?cd8a ?zve ?zsum ?qwa ?qwb ?qwc ?qwo ?qwv ?qwe ?qpa ?qpb ?qpc ?qpo ?qpv ?qpe ?qna ?qnb ?qnc ?qno ?qnv ?qne ?d15 ?d16 ?d17 ?d18 ?d19 ?d20 ?d21 ?d22 ?d23 ?d24 ?d25 ?d28 ?d29 ?d30 ?d31 ?d32 ?d35 ?d36 ?d37 ?d38 ?d40 ?d41 ?d42 ?d43 ?d44 ?d45 ?d46 ?d47 ?d48 ?d49 ?d50 ?d51
    (case cRc => k_is)
    (case cWc => k_is)
    (case cPc => k_is)
    (case cNc => k_is)
    (case eRc => kernel_rfl)
    (case eWc => kernel_rfl)
    (case ePc => kernel_rfl)
    (case eNc => kernel_rfl)
    (case uWcRc => kernel_rfl)
    (case uPcRc => kernel_rfl)
    (case uNcRc => kernel_rfl)
    (case cd1a => k_is)
    (case cd2a => k_is)
    (case cd3a => k_is)
    (case cd4a => k_is)
    (case cd5a => k_is)
    (case cd6a => k_is)
    (case cd7a => k_is)
    (case cd8a => k_is)
    (case zve => k_is)
    (case zsum => k_is)
    (case qwa => kernel_rfl)
    (case qwb => kernel_rfl)
    (case qwc => kernel_rfl)
    (case qwo => kernel_rfl)
    (case qwv => kernel_rfl)
    (case qwe => kernel_rfl)
    (case qpa => kernel_rfl)
    (case qpb => kernel_rfl)
    (case qpc => kernel_rfl)
    (case qpo => kernel_rfl)
    (case qpv => kernel_rfl)
    (case qpe => kernel_rfl)
    (case qna => kernel_rfl)
    (case qnb => kernel_rfl)
    (case qnc => kernel_rfl)
    (case qno => kernel_rfl)
    (case qnv => kernel_rfl)
    (case qne => kernel_rfl)
    (case d15 => (refine' K34.def_mk ?a ?l ?c ?k; (case a => k_is); (case l => k_is); (case c => k_is); (case k => k_is)))
    (case d16 => (refine' K34.def_mk ?a ?l ?c ?k; (case a => k_is); (case l => k_is); (case c => k_is); (case k => k_is)))
    (case d17 => (refine' K34.def_mk ?a ?l ?c ?k; (case a => k_is); (case l => k_is); (case c => k_is); (case k => k_is)))
    (case d18 => (refine' K34.def_mk ?a ?l ?c ?k; (case a => k_is); (case l => k_is); (case c => k_is); (case k => k_is)))
    (case d19 => (refine' K34.def_mk ?a ?l ?c ?k; (case a => k_is); (case l => k_is); (case c => k_is); (case k => k_is)))
    (case d20 => (refine' K34.def_mk ?a ?l ?c ?k; (case a => k_is); (case l => k_is); (case c => k_is); (case k => k_is)))
    (case d21 => (refine' K34.def_mk ?a ?l ?c ?k; (case a => k_is); (case l => k_is); (case c => k_is); (case k => k_is)))
    (case d22 => (refine' K34.def_mk ?a ?l ?c ?k; (case a => k_is); (case l => k_is); (case c => k_is); (case k => k_is)))
    (case d23 => (refine' K34.def_mk ?a ?l ?c ?k; (case a => k_is); (case l => k_is); (case c => k_is); (case k => k_is)))
    (case d24 => (refine' K34.def_mk ?a ?l ?c ?k; (case a => k_is); (case l => k_is); (case c => k_is); (case k => k_is)))
    (case d25 => (refine' K34.def_mk ?a ?l ?c ?k; (case a => k_is); (case l => k_is); (case c => k_is); (case k => k_is)))
    (case d28 => (refine' K34.def_mk ?a ?l ?c ?k; (case a => k_is); (case l => k_is); (case c => k_is); (case k => k_is)))
    (case d29 => (refine' K34.def_mk ?a ?l ?c ?k; (case a => k_is); (case l => k_is); (case c => k_is); (case k => k_is)))
    (case d30 => (refine' K34.def_mk ?a ?l ?c ?k; (case a => k_is); (case l => k_is); (case c => k_is); (case k => k_is)))
    (case d31 => (refine' K34.def_mk ?a ?l ?c ?k; (case a => k_is); (case l => k_is); (case c => k_is); (case k => k_is)))
    (case d32 => (refine' K34.def_mk ?a ?l ?c ?k; (case a => k_is); (case l => k_is); (case c => k_is); (case k => k_is)))
    (case d35 => (refine' K34.def_mk ?a ?l ?c ?k; (case a => k_is); (case l => k_is); (case c => k_is); (case k => k_is)))
    (case d36 => (refine' K34.def_mk ?a ?l ?c ?k; (case a => k_is); (case l => k_is); (case c => k_is); (case k => k_is)))
    (case d37 => (refine' K34.def_mk ?a ?l ?c ?k; (case a => k_is); (case l => k_is); (case c => k_is); (case k => k_is)))
    (case d38 => (refine' K34.def_mk ?a ?l ?c ?k; (case a => k_is); (case l => k_is); (case c => k_is); (case k => k_is)))
    (case d40 => (refine' K34.def_mk ?a ?l ?c ?k; (case a => k_is); (case l => k_is); (case c => k_is); (case k => k_is)))
    (case d41 => (refine' K34.def_mk ?a ?l ?c ?k; (case a => k_is); (case l => k_is); (case c => k_is); (case k => k_is)))
    (case d42 => (refine' K34.def_mk ?a ?l ?c ?k; (case a => k_is); (case l => k_is); (case c => k_is); (case k => k_is)))
    (case d43 => (refine' K34.def_mk ?a ?l ?c ?k; (case a => k_is); (case l => k_is); (case c => k_is); (case k => k_is)))
    (case d44 => (refine' K34.def_mk ?a ?l ?c ?k; (case a => k_is); (case l => k_is); (case c => k_is); (case k => k_is)))
    (case d45 => (refine' K34.def_mk ?a ?l ?c ?k; (case a => k_is); (case l => k_is); (case c => k_is); (case k => k_is)))
    (case d46 => (refine' K34.def_mk ?a ?l ?c ?k; (case a => k_is); (case l => k_is); (case c => k_is); (case k => k_is)))
    (case d47 => (refine' K34.def_mk ?a ?l ?c ?k; (case a => k_is); (case l => k_is); (case c => k_is); (case k => k_is)))
    (case d48 => (refine' K34.def_mk ?a ?l ?c ?k; (case a => k_is); (case l => k_is); (case c => k_is); (case k => k_is)))
    (case d49 => (refine' K34.def_mk ?a ?l ?c ?k; (case a => k_is); (case l => k_is); (case c => k_is); (case k => k_is)))
    (case d50 => (refine' K34.def_mk ?a ?l ?c ?k; (case a => k_is); (case l => k_is); (case c => k_is); (case k => k_is)))
    (case d51 => (refine' K34.def_mk ?a ?l ?c ?k; (case a => k_is); (case l => k_is); (case c => k_is); (case k => k_is)))

