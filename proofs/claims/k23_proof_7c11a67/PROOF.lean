import PyProof.Rows.All
import Wide.All
import OpenK.AllK
import Wide.FinOn
import Lean
import PyProof.EqAt
import PyProof.EqKinds
import PyProof.TupleCall
import KE.KSortTup
import KE.KDictSum
import KE.KDictOf
import PyProof.AttrMissHeap
import PyProof.WalksEnum
import PyProof.EnumMake
import PyProof.Draws
import PyProof.Rows.SetFrom
import KE.KTryOn
import KE.KTryDeep
import PySem.Challenge.RW_rootshares_k23_whole_ways
-- CHANGE: your row's module here, as the last of these rows
set_option Elab.async false
set_option linter.all false
set_option maxRecDepth 100000
/-! THE HAND LAYER, for ints, bools, texts, own classes, LISTS and tuples (index, slices, in, append, pop ..), calls, loops. Paste it whole ahead of your own text; what your proof does not reach may be deleted. -/
namespace L2
open PySem PySem.Spec PyProof.Rows

/-- a key: an int or a str -/
noncomputable abbrev Key := Sum Int Str
noncomputable def keyIs : Key → Value → Bool
  | .inl k, v => Value.isInt k v
  | .inr x, v => Value.isStrOf x v
noncomputable def keyH (w : World) : Key → Int
  | .inl k => hashInt k
  | .inr x => hashStr w x
theorem keyIs_shape : ∀ {k : Key} {v : Value}, keyIs k v = true → (∃ i t, k = Sum.inl i ∧ v = Value.int i t) ∨ (∃ x t, k = Sum.inr x ∧ v = Value.str x t)
  | .inl i, v, h => by
    obtain ⟨t, e⟩ := Value.isInt_shape (k := i) (v := v) h
    exact .inl ⟨i, t, rfl, e⟩
  | .inr x, v, h => by
    obtain ⟨t, e⟩ := Value.isStrOf_shape (x := x) (v := v) h
    exact .inr ⟨x, t, rfl, e⟩
theorem keyIs_int (i : Int) (t : Tok) : keyIs (.inl i) (.int i t) = true := by simp [keyIs, Value.isInt]
theorem keyIs_str (x : Str) (t : Tok) : keyIs (.inr x) (.str x t) = true := by simp [keyIs, Value.isStrOf]
theorem key_ll (a b : Int) : decide ((Sum.inl a : Key) = Sum.inl b) = (a == b) := by
  by_cases e : a = b
  · subst e; simp
  · have h : ¬ (Sum.inl a : Key) = Sum.inl b := fun q => e (Sum.inl.inj q)
    rw [decide_eq_false h]
    exact (beq_eq_false_iff_ne.mpr e).symm
theorem key_rr (a b : Str) : decide ((Sum.inr a : Key) = Sum.inr b) = decide (a = b) := by
  by_cases e : a = b
  · subst e; simp
  · have h : ¬ (Sum.inr a : Key) = Sum.inr b := fun q => e (Sum.inr.inj q)
    rw [decide_eq_false h, decide_eq_false e]
theorem key_lr (a : Int) (b : Str) : decide ((Sum.inl a : Key) = Sum.inr b) = false := decide_eq_false (fun q => nomatch q)
theorem key_rl (a : Str) (b : Int) : decide ((Sum.inr a : Key) = Sum.inl b) = false := decide_eq_false (fun q => nomatch q)

noncomputable def mixKind (prog : Program) (w : World) : PySem.KeyKind prog w Key where
  is := keyIs
  hash := keyH w
  inj := fun v a b ha hb => by
    rcases keyIs_shape ha with ⟨i, t, rfl, rfl⟩ | ⟨x, t, rfl, rfl⟩
    · rcases keyIs_shape hb with ⟨j, u, rfl, e⟩ | ⟨y, u, rfl, e⟩
      · injection e with e1 _; rw [e1]
      · exact nomatch e
    · rcases keyIs_shape hb with ⟨j, u, rfl, e⟩ | ⟨y, u, rfl, e⟩
      · exact nomatch e
      · injection e with e1 _; rw [e1]
  byValue := fun k v h => by
    rcases keyIs_shape h with ⟨i, t, rfl, rfl⟩ | ⟨x, t, rfl, rfl⟩ <;> rfl
  pyHash := fun hv h => by
    rcases keyIs_shape hv with ⟨i, t, rfl, rfl⟩ | ⟨x, t, rfl, rfl⟩
    · exact wpAny_pyHash_int h
    · exact wpAny_pyHash_str h
  eqBool := fun hu hv h => by
    rcases keyIs_shape hu with ⟨i, t, rfl, rfl⟩ | ⟨x, t, rfl, rfl⟩
    · rcases keyIs_shape hv with ⟨j, u, rfl, rfl⟩ | ⟨y, u, rfl, rfl⟩
      · rw [key_ll] at h; exact wpAny_eqBool_int h
      · rw [key_lr] at h; exact SeqAt.EqAt.int_str i t y u _ _ _ _ h
    · rcases keyIs_shape hv with ⟨j, u, rfl, rfl⟩ | ⟨y, u, rfl, rfl⟩
      · rw [key_rl] at h; exact SeqAt.EqAt.str_int x t j u _ _ _ _ h
      · rw [key_rr] at h; exact wpAny_eqBool_str h
  «strs» := fun k x t v h => by
    rcases keyIs_shape h with ⟨i, u, rfl, e⟩ | ⟨y, u, rfl, e⟩
    · exact nomatch e
    · injection e with e1 _
      subst e1
      cases v <;> rfl

theorem mixKind_int (prog : Program) (w : World) (i : Int) (t : Tok) : (mixKind prog w).is (.inl i) (.int i t) = true := keyIs_int i t
theorem mixKind_str (prog : Program) (w : World) (x : Str) (t : Tok) : (mixKind prog w).is (.inr x) (.str x t) = true := keyIs_str x t
end L2

namespace L2
open PySem PySem.Spec PyProof.Rows

/-- a value, without the heap -/
inductive V where
  | non | bl (b : Bool) | int (i : Int) | str (x : Str) | byt (b : Array UInt8) | flt (b : UInt64) | ref (a : Addr) | ty (n : String)
  deriving DecidableEq

noncomputable def RelV : V → Value → Prop
  | .non, u => u = Value.none
  | .bl b, u => u = Value.bool b
  | .int i, u => ∃ t, u = Value.int i t
  | .str x, u => ∃ t, u = Value.str x t
  | .byt b, u => ∃ t, u = Value.bytes b t
  | .flt b, u => ∃ t, u = Value.float b t
  | .ref a, u => u = Value.ref a
  | .ty n, u => u = Value.type n

noncomputable abbrev Vals : List V → List Value → Prop := Paired RelV
theorem Vals.length {xs : List V} {us : List Value} (r : Vals xs us) : xs.length = us.length := Paired.length r
theorem Vals.get : ∀ {xs : List V} {us : List Value} {i : Nat} {x : V}, Vals xs us → xs[i]? = some x → ∃ u, us[i]? = some u ∧ RelV x u
  | _, _, _, _, .nil, e => by simp at e
  | _, _, 0, _, .cons r _, e => by simp at e; subst e; exact ⟨_, rfl, r⟩
  | _, _, i + 1, x, .cons _ t, e => by
    obtain ⟨u, h1, h2⟩ := Vals.get (i := i) (x := x) t (by simpa using e)
    exact ⟨u, by simpa using h1, h2⟩
theorem Vals.set {x : V} {u : Value} (r : RelV x u) : ∀ {xs : List V} {us : List Value} (i : Nat), Vals xs us → Vals (xs.set i x) (us.set i u)
  | _, _, _, .nil => .nil
  | _, _, 0, .cons _ t => .cons r t
  | _, _, i + 1, .cons q t => .cons q (Vals.set r i t)
theorem Vals.append : ∀ {xs ys : List V} {us ws : List Value}, Vals xs us → Vals ys ws → Vals (xs ++ ys) (us ++ ws)
  | _, _, _, _, .nil, s => s
  | _, _, _, _, .cons r t, s => .cons r (Vals.append t s)
noncomputable def RelO : Option V → Option Value → Prop
  | some v, some u => RelV v u
  | none, none => True
  | _, _ => False
noncomputable def KV {κ : Type} : List (κ × V) → List (κ × Value) → Prop := Paired fun (p : κ × V) (q : κ × Value) => p.1 = q.1 ∧ RelV p.2 q.2

/-- a key of a dict (00_mix): an int or a text -/
noncomputable def kV : Key → V
  | .inl i => .int i
  | .inr x => .str x

/-- what stands at a tracked address -/
inductive HO where
  /-- a list -/
  | lst (xs : List V)
  /-- a tuple (never changes) -/
  | tup (xs : List V)
  /-- a dict whose keys are ints and texts; one whose keys are tuples of ints and texts (the empty one is both) -/
  | dK (kvs : List (Key × V)) | dT (kvs : List (List Key × V))
  /-- a set of ints: its members, its size -/
  | set (S : Int → Bool) (n : Nat)
  /-- an instance of the class at C, its dict at dx, its attributes -/
  | ins (C dx : Addr) (fs : List (Str × V))
  /-- the dict of the instance at x -/
  | own (x : Addr)
  /-- the dict of an exception -/
  | xd (fs : List (Str × V))
  /-- a bound method, f of x -/
  | met (f x : Addr)
  /-- a range object lo, lo + 1, .. below hi -/
  | rng (lo hi : Int)
  /-- a thing that is known to the object (the script; a dict while a loop walks it): read, never written while it is so -/
  | frz (o : Obj) (u : HO)
  /-- a code object's table -/
  | tbl (ps : Array Value)
  /-- any other thing, by what is true of its one object (a def of one's own: SetO a S n := HO.ext fun h => ..) -/
  | ext (φ : Heap → Prop)

noncomputable abbrev Hp := Addr → Option HO
noncomputable def upd (H : Hp) (a : Addr) (o : HO) : Hp := fun b => if b = a then some o else H b
theorem upd_same {H : Hp} {a : Addr} {o : HO} : upd H a o a = some o := by unfold upd; rw [if_pos rfl]
theorem upd_ne {H : Hp} {a b : Addr} {o : HO} (h : b ≠ a) : upd H a o b = H b := by unfold upd; rw [if_neg h]
/-- two objects of different content stand apart -/
theorem ne_of {H : Hp} {a b : Addr} {o u : HO} (h : H a = some o) (h' : H b = some u) (d : o ≠ u) : a ≠ b := by
  intro e; subst e; rw [h] at h'; exact d (Option.some.inj h')
theorem ne_of_none {H : Hp} {a b : Addr} {o : HO} (h : H a = some o) (h' : H b = none) : a ≠ b := by
  intro e; subst e; rw [h] at h'; cases h'

section
variable (P : Program) (w : World)
noncomputable def ObjOk (H : Hp) (h : Heap) (a : Addr) : HO → Prop
  | .lst xs => xs.length ≤ sizeLine ∧ ∃ (its : List Value) (n : Nat), Vals xs its ∧ h.get? a = some { cls := .type "list", data := .seq its.toArray n }
  | .tup xs => xs.length ≤ sizeLine ∧ ∃ its : List Value, Vals xs its ∧ IsTup h a its.toArray
  | .dK kvs => kvs.length ≤ sizeLine ∧ (a == sysModules) = false ∧ ∃ vs, KV kvs vs ∧ h.DictOf (mixKind P w) a vs
  | .dT kvs => kvs.length ≤ sizeLine ∧ (a == sysModules) = false ∧ ∃ xs : List (List Key × Addr × Value),
      Paired (fun (p : List Key × V) (q : List Key × Addr × Value) => p.1 = q.1 ∧ H q.2.1 = some (.tup (p.1.map kV)) ∧ RelV p.2 q.2.2) kvs xs ∧
      ∃ o es ep, h.get? a = some o ∧ o.ExactDict ∧ o.data = .dict es ep ∧ es.toList = xs.map (entryOfKey (tupleKind (mixKind P w))) ∧ (xs.map (·.1)).Nodup
  | .set S n => h.SetOf (intKind P w) a S n
  | .ins C dx fs => H dx = some (.own a) ∧ fs.length ≤ 1000 ∧ dx ≠ a ∧ h.get? a = some (PySem.W.instObj C dx) ∧
      ∃ mA, h.Ns1 dx mA ∧ (∀ f, RelO (fs.lookup f) (mA f)) ∧ PySem.Within mA (fs.map (·.1))
  | .own _ => ∃ o, h.get? a = some o
  | .xd fs => ∃ mA, h.Ns1 a mA ∧ ∀ f, RelO (fs.lookup f) (mA f)
  | .rng lo hi => ∃ t u v, h.get? a = some { cls := .type "range", data := .fields #[.int lo t, .int hi u, .int 1 v] }
  | .frz o u => h.get? a = some o ∧ ObjOk H h a u
  | .tbl ps => h.get? a = some { cls := .none, data := .fields ps }
  | .met f x => h.get? a = some (PySem.W.methodObj (.ref f) (.ref x))
  | .ext φ => φ h ∧ (∃ o, h.get? a = some o) ∧ ∀ h1 h2 : Heap, φ h1 → (∀ o, h1.get? a = some o → h2.get? a = some o) → φ h2
/-- the abstract heap is held -/
noncomputable def HOk (H : Hp) (h : Heap) : Prop := ∀ a o, H a = some o → ObjOk P w H h a o
end

section
variable {P : Program} {w : World} {H H' : Hp} {h h' : Heap} {a : Addr} {o : HO}
theorem ObjOk.lt (x : ObjOk P w H h a o) : a < h.objs.size := by
  cases o with
  | lst xs => obtain ⟨_, _, _, _, e⟩ := x; exact Heap.lt_size e
  | tup xs => obtain ⟨_, _, _, p⟩ := x; exact p.lt
  | dK kvs => obtain ⟨_, _, _, _, o, _, _, e, _⟩ := x; exact Heap.lt_size e
  | dT kvs => obtain ⟨_, _, _, _, o, _, _, e, _⟩ := x; exact Heap.lt_size e
  | set S n => obtain ⟨o, _, _, _, e, _⟩ := x; exact Heap.lt_size e
  | ins C dx fs => obtain ⟨_, _, _, e, _⟩ := x; exact Heap.lt_size e
  | own y => obtain ⟨_, e⟩ := x; exact Heap.lt_size e
  | xd fs => obtain ⟨_, ⟨_, _, _, e, _⟩, _⟩ := x; exact Heap.lt_size e
  | rng lo hi => obtain ⟨_, _, _, e⟩ := x; exact Heap.lt_size e
  | frz ob u => obtain ⟨e, _⟩ := x; exact Heap.lt_size e
  | tbl ps => exact Heap.lt_size (show h.get? a = some _ from x)
  | met f y => exact Heap.lt_size (show h.get? a = some _ from x)
  | ext φ => obtain ⟨_, ⟨_, e⟩, _⟩ := x; exact Heap.lt_size e
theorem Paired.mapP {α β : Type} {F G : α → β → Prop} : ∀ {l₁ : List α} {l₂ : List β}, Paired F l₁ l₂ → (∀ a b, F a b → G a b) → Paired G l₁ l₂
  | _, _, .nil, _ => .nil
  | _, _, .cons r t, f => .cons (f _ _ r) (Paired.mapP t f)
/-- what an object's description leans on: its own object, its own dict, the tuples -/
theorem ObjOk.stay (x : ObjOk P w H h a o) (k : ∀ b u, (b = a ∨ H b = some (.own a)) → h.get? b = some u → h'.get? b = some u)
    (ho : ∀ b, H b = some (.own a) → H' b = some (.own a)) (ht : ∀ b xs, H b = some (.tup xs) → H' b = some (.tup xs)) : ObjOk P w H' h' a o := by
  induction o with
  | lst xs => obtain ⟨z, its, n, r, e⟩ := x; exact ⟨z, its, n, r, k _ _ (.inl rfl) e⟩
  | tup xs => obtain ⟨z, its, r, ob, e, c⟩ := x; exact ⟨z, its, r, ob, k _ _ (.inl rfl) e, c⟩
  | dK kvs => obtain ⟨z, y, vs, r, ob, es, ep, e, c⟩ := x; exact ⟨z, y, vs, r, ob, es, ep, k _ _ (.inl rfl) e, c⟩
  | dT kvs =>
    obtain ⟨z, y, xs, r, ob, es, ep, e, c⟩ := x
    exact ⟨z, y, xs, Paired.mapP r fun p q z => ⟨z.1, ht _ _ z.2.1, z.2.2⟩, ob, es, ep, k _ _ (.inl rfl) e, c⟩
  | set S n => obtain ⟨ob, es, ep, t, e, c⟩ := x; exact ⟨ob, es, ep, t, k _ _ (.inl rfl) e, c⟩
  | ins C dx fs =>
    obtain ⟨d, z, ne, e, mA, ⟨od, es, ep, e2, c⟩, r⟩ := x
    exact ⟨ho _ d, z, ne, k _ _ (.inl rfl) e, mA, ⟨od, es, ep, k _ _ (.inr d) e2, c⟩, r⟩
  | own y => obtain ⟨ob, e⟩ := x; exact ⟨ob, k _ _ (.inl rfl) e⟩
  | xd fs => obtain ⟨mA, ⟨od, es, ep, e, c⟩, r⟩ := x; exact ⟨mA, ⟨od, es, ep, k _ _ (.inl rfl) e, c⟩, r⟩
  | rng lo hi => obtain ⟨t, u, v, e⟩ := x; exact ⟨t, u, v, k _ _ (.inl rfl) e⟩
  | frz ob u ih => obtain ⟨e, q⟩ := x; exact ⟨k _ _ (.inl rfl) e, ih q⟩
  | tbl ps =>
    have e : h.get? a = some { cls := .none, data := .fields ps } := x
    show h'.get? a = some { cls := .none, data := .fields ps }
    exact k a _ (.inl rfl) e
  | met f y =>
    have e : h.get? a = some (PySem.W.methodObj (.ref f) (.ref y)) := x
    show h'.get? a = some (PySem.W.methodObj (.ref f) (.ref y))
    exact k a _ (.inl rfl) e
  | ext φ => obtain ⟨p, ⟨o, e⟩, st⟩ := x; exact ⟨st _ _ p fun o q => k _ _ (.inl rfl) q, ⟨o, k _ _ (.inl rfl) e⟩, st⟩
theorem HOk.lt (x : HOk P w H h) (e : H a = some o) : a < h.objs.size := (x a o e).lt
theorem HOk.fresh (x : HOk P w H h) (e : h.objs.size ≤ a) : H a = none := by
  cases q : H a with
  | none => rfl
  | some u => exact absurd (Nat.lt_of_lt_of_le (x.lt q) e) (Nat.lt_irrefl _)
/-- every object of the heap is kept -/
theorem HOk.kept (x : HOk P w H h) (k : ∀ b u, h.get? b = some u → h'.get? b = some u) : HOk P w H h' := fun a o e =>
  (x a o e).stay (fun b u _ q => k b u q) (fun _ q => q) fun _ _ q => q
/-- a new object is laid and tracked -/
theorem HOk.laid (x : HOk P w H h) (k : ∀ b u, h.get? b = some u → h'.get? b = some u) (hp : h.objs.size ≤ a) (new : ObjOk P w (upd H a o) h' a o) : HOk P w (upd H a o) h' := fun b u e => by
  have hn := x.fresh hp
  by_cases hb : b = a
  · subst hb; rw [upd_same] at e; cases e; exact new
  · rw [upd_ne hb] at e
    exact (x b u e).stay (fun c v _ q => k c v q) (fun c q => by rw [upd_ne (ne_of_none q hn)]; exact q) fun c xs q => by rw [upd_ne (ne_of_none q hn)]; exact q
end

/-- what may be read as u: it is u, or a known u -/
noncomputable def Rd (H : Hp) (a : Addr) (u : HO) : Prop := H a = some u ∨ ∃ o, H a = some (.frz o u)
theorem Rd.ok {P : Program} {w : World} {H : Hp} {h : Heap} {a : Addr} {u : HO} (r : Rd H a u) (x : HOk P w H h) : ObjOk P w H h a u := by
  rcases r with r | ⟨o, r⟩
  · exact x a u r
  · obtain ⟨_, q⟩ := x a _ r
    exact q
/-- what may be written -/
noncomputable def Mut : Option HO → Prop
  | some (.lst _) => True
  | some (.dK _) => True
  | some (.dT _) => True
  | some (.set _ _) => True
  | some (.ins _ _ _) => True
  | some (.ext _) => True
  | _ => False
section
variable {P : Program} {w : World} {H : Hp} {h h' : Heap} {x e : Addr} {o' : HO}
/-- the object at e is changed: x itself, or the dict of the instance x -/
theorem HOk.write (ok : HOk P w H h) (mu : Mut (H x)) (he : e = x ∨ H e = some (.own x)) (k : ∀ b u, b ≠ e → h.get? b = some u → h'.get? b = some u) (heo : ∃ u, h'.get? e = some u)
    (new : ObjOk P w (upd H x o') h' x o') : HOk P w (upd H x o') h' := fun b u q => by
  have nown : ∀ c y, H c = some (.own y) → c ≠ x := fun c y r z => by subst z; rw [r] at mu; exact mu
  have ntup : ∀ c xs, H c = some (.tup xs) → c ≠ x := fun c xs r z => by subst z; rw [r] at mu; exact mu
  by_cases hb : b = x
  · subst hb; rw [upd_same] at q; cases q; exact new
  · rw [upd_ne hb] at q
    by_cases hbe : b = e
    · have q' : H b = some (.own x) := by
        rcases he with z | z
        · exact absurd (hbe.trans z) hb
        · rw [hbe]; exact z
      rw [q] at q'; cases q'
      obtain ⟨v, hv⟩ := heo
      exact ⟨v, by rw [hbe]; exact hv⟩
    · refine (ok b u q).stay (fun c v hc r => k c v ?_ r) (fun c r => by rw [upd_ne (nown c b r)]; exact r) fun c xs r => by rw [upd_ne (ntup c xs r)]; exact r
      rcases hc with rfl | hc
      · exact hbe
      · rintro rfl
        rcases he with z | z
        · exact nown c b hc z
        · rw [hc] at z; cases z; exact hb rfl
end

/-! ### kept unless tracked; of the frames at fs (the callers') the slots may change (an exception that passes writes there); of the records at ex (iterators) nothing is said -/
structure Un (fs ex : List Addr) (H H' : Hp) (h h' : Heap) : Prop where
  keep : ∀ b o, h.get? b = some o → H b = none → b ∉ fs → b ∉ ex → h'.get? b = some o
  slot : ∀ b o, h.get? b = some o → H b = none → b ∈ fs → b ∉ ex → ∃ sl, h'.get? b = some { o with slots := sl }
  free : ∀ b o, h.get? b = some o → H b = none → b ∉ ex → H' b = none
  there : ∀ b o, h.get? b = some o → b ∉ ex → ∃ o', h'.get? b = some o'
  tups : ∀ b xs, H b = some (.tup xs) → H' b = some (.tup xs)
  frzs : ∀ b o u, H b = some (.frz o u) → H' b = some (.frz o u)
  tbls : ∀ b ps, H b = some (.tbl ps) → ∃ more, H' b = some (.tbl (ps ++ more))
section
variable {fs fs' ex ex' : List Addr} {H H1 H2 : Hp} {h h1 h2 h' : Heap} {a x e : Addr} {o : HO}
theorem Un.any (u : Un fs ex H H1 h h1) {b : Addr} {ob : Obj} (q : h.get? b = some ob) (n : H b = none) (hx : b ∉ ex) : ∃ sl, h1.get? b = some { ob with slots := sl } := by
  by_cases hb : b ∈ fs
  · exact u.slot b ob q n hb hx
  · exact ⟨ob.slots, u.keep b ob q n hb hx⟩
theorem Un.kept (k : ∀ b u, h.get? b = some u → h'.get? b = some u) : Un fs ex H H h h' :=
  ⟨fun b ob q _ _ _ => k b ob q, fun b ob q _ _ _ => ⟨ob.slots, k b ob q⟩, fun _ _ _ n _ => n, fun b ob q _ => ⟨ob, k b ob q⟩, fun _ _ q => q, fun _ _ _ q => q, fun _ ps q => ⟨#[], by rw [q]; simp⟩⟩
theorem Un.refl : Un fs ex H H h h := Un.kept fun _ _ q => q
theorem Un.laid (k : ∀ b u, h.get? b = some u → h'.get? b = some u) (hp : h.objs.size ≤ a) (hn : H a = none) : Un fs ex H (upd H a o) h h' where
  keep := fun b u q _ _ _ => k b u q
  slot := fun b u q _ _ _ => ⟨u.slots, k b u q⟩
  free := fun b u q n _ => by rw [upd_ne (Nat.ne_of_lt (Nat.lt_of_lt_of_le (Heap.lt_size q) hp))]; exact n
  there := fun b u q _ => ⟨u, k b u q⟩
  tups := fun b xs q => by rw [upd_ne (ne_of_none q hn)]; exact q
  frzs := fun b u xs q => by rw [upd_ne (ne_of_none q hn)]; exact q
  tbls := fun b ps q => ⟨#[], by rw [upd_ne (ne_of_none q hn), q]; simp⟩
theorem Un.write (mu : Mut (H x)) (he : e = x ∨ H e = some (.own x)) (k : ∀ b u, b ≠ e → h.get? b = some u → h'.get? b = some u) (heo : ∃ u, h'.get? e = some u) : Un fs ex H (upd H x o) h h' := by
  have hx : ∀ b, H b = none → b ≠ x := fun b n z => by subst z; rw [n] at mu; exact mu
  have hb : ∀ b, H b = none → b ≠ e := fun b n z => by
    subst z
    rcases he with r | r
    · exact hx b n r
    · rw [n] at r; cases r
  have hm : ∀ b u, H b = some u → ¬ Mut (some u) → b ≠ x := fun b u q nm z => by subst z; rw [q] at mu; exact nm mu
  refine ⟨fun b u q n _ _ => k b u (hb b n) q, fun b u q n _ _ => ⟨u.slots, k b u (hb b n) q⟩, fun b u q n _ => by rw [upd_ne (hx b n)]; exact n, fun b u q _ => ?_,
    fun b xs q => by rw [upd_ne (hm b _ q fun z => z)]; exact q, fun b u xs q => by rw [upd_ne (hm b _ q fun z => z)]; exact q, fun b ps q => ⟨#[], by rw [upd_ne (hm b _ q fun z => z), q]; simp⟩⟩
  by_cases hbe : b = e
  · subst hbe; exact heo
  · exact ⟨u, k b u hbe q⟩
end

/-! ### the heap without what is tracked -/
noncomputable def trk (h : Heap) (H : Hp) : List Addr := (List.range h.objs.size).filter fun a => (H a).isSome
noncomputable def hidT (h : Heap) (H : Hp) : Heap := PySem.W.hideAll h (trk h H)
theorem hidT_size (h : Heap) (H : Hp) : (hidT h H).objs.size = h.objs.size := PySem.W.hideAll_size _ _
theorem hidT_get {h : Heap} {H : Hp} {b : Addr} {o : Obj} (e : h.get? b = some o) (n : H b = none) : (hidT h H).get? b = some o :=
  PySem.W.hideAll_get _ e fun hm => by
    have q : (H b).isSome = true := (List.mem_filter.mp hm).2
    rw [n] at q; simp at q
theorem of_hidT {h : Heap} {H : Hp} {b : Addr} {o : Obj} (e : (hidT h H).get? b = some o) : h.get? b = some o ∧ H b = none := by
  have e' : h.get? b = some o := PySem.W.of_hideAll (trk h H) e
  refine ⟨e', ?_⟩
  cases q : H b with
  | none => rfl
  | some x =>
    have hm : b ∈ trk h H := List.mem_filter.mpr ⟨List.mem_range.mpr (Heap.lt_size e'), by simp [q]⟩
    have z : (hidT h H).get? b = none := PySem.W.hideAll_none (trk h H) hm
    rw [z] at e; cases e

/-! ### OpenK's ledger, filled with every new object but one -/
noncomputable def allNews (g h : Heap) (L : Addr) : List (Addr × Obj) := (List.range h.objs.size).filterMap fun a => if a = L ∨ (g.get? a).isSome = true then none else (h.get? a).map fun o => (a, o)
noncomputable def rest (g h : Heap) (L d : Addr) : List (Addr × Obj) := (allNews g h L).filter fun p => decide (p.1 ≠ d)
end L2

namespace L2
open PySem PySem.Spec PyProof.Rows

/-- the module's facts, over the base: the heap at the law's entry without what is tracked there -/
structure Mod (K : PySem.W.Frag) (mg : Str → Option Value) (base : Heap) : Prop where
  kin : K.In base
  glob : base.Ns mainGlobals mg
  blt : ∃ mb, base.Ns builtinsNs mb ∧ ∀ x : Str, x ≠ "__name__" → mb x = bootBuiltins x
  nolimit : base.NoLimit

/-- the context: a def's body (or a comprehension's block) running. base: fixed through the whole law; s₀, H₀: the entry; outer: the frames whose slots others may change (a def's callers); stack: all frames that run;
   ex: iterators that were made ahead of the entry and are walked here (a comprehension's); fn: the names whose cells were made at the entry (a def: all; a comprehension's block: its own); calm: not within an except suite; pn: pins that every state bears; xe: what is wanted of an exception that leaves the code -/
structure Cx where
  prog : Program
  w : World
  K : PySem.W.Frag
  mg : Str → Option Value
  base : Heap
  A : Around
  N : List Str
  s₀ : Shared
  H₀ : Hp
  env : Env
  outer : List Env
  stack : List Env
  ex : List Addr
  fn : Str → Bool
  calm : Bool
  pn : List (Addr × Obj)
  xe : Value → Shared → Prop
/-- the callers' frames -/
noncomputable def frs (l : List Env) : List Addr := l.filterMap (·.frame)
noncomputable abbrev Cx.fs (X : Cx) : List Addr := frs X.outer

noncomputable def Vis (sc : Scope) (x : Str) : Prop := sc.names.lookup x = some .local ∨ sc.names.lookup x = some .cell ∨ sc.names.lookup x = some .free
noncomputable def Loc (sc : Scope) (x : Str) : Prop := sc.names.lookup x = some .local ∨ sc.names.lookup x = some .cell
noncomputable def Look (env : Env) (h : Heap) (m : Str → Option Value) (x : Str) (u : Value) : Prop :=
  (env.kindOf x = some .local ∧ m x = some u) ∨ ((env.kindOf x = some .cell ∨ env.kindOf x = some .free) ∧ ∃ c, env.cells.lookup x = some c ∧ h.IsCell c (some u))

structure Cx.Ok (X : Cx) : Prop where
  mod : Mod X.K X.mg X.base
  kind : X.env.scope.kind = .function
  glob : X.env.globals = mainGlobals
  blt : X.env.builtins = builtinsNs
  above : X.s₀.heap.objs.size ≤ X.env.locals
  inj : ∀ x y c, X.env.cells.lookup x = some c → X.env.cells.lookup y = some c → x = y
  has : ∀ x, (X.env.kindOf x = some .cell ∨ X.env.kindOf x = some .free) → ∃ c, X.env.cells.lookup x = some c
  cab : ∀ x c, X.fn x = true → X.env.cells.lookup x = some c → X.s₀.heap.objs.size ≤ c
  hd : X.calm = true → X.A.handled = none
  frames : X.A.frames = some X.stack
  stk : X.stack = X.outer ∨ (X.stack = X.env :: X.outer ∧ X.env.frame = some X.env.locals)
  exf : ∀ b ∈ X.ex, b ≠ X.env.locals ∧ ∀ x c, X.env.cells.lookup x = some c → c ≠ b
  bs : ∀ b o, X.base.get? b = some o → X.s₀.heap.get? b = some o ∧ X.H₀ b = none
  bsz : X.base.objs.size ≤ X.s₀.heap.objs.size
  noex : ∀ b o, X.base.get? b = some o → b ∉ X.ex
  exfs : ∀ b ∈ X.ex, b ∉ X.fs
  funs : X.s₀.heap.FunFrames X.base X.outer
  frf : ∀ b ∈ X.fs, X.H₀ b = none

structure Inv (X : Cx) (pins : List (Addr × Obj)) (σ : List (Option V)) (H : Hp) (s : Shared) : Prop where
  ok : X.Ok
  os : s.os = X.s₀.os
  bare : AllBare s.gens
  base : Un X.fs X.ex X.H₀ H X.s₀.heap s.heap
  loc : ∃ m, s.heap.Ns X.env.locals m ∧ ∀ (i : Nat) (x : Str) (v : V), X.N[i]? = some x → σ[i]? = some (some v) → Vis X.env.scope x → ∃ u, RelV v u ∧ Look X.env s.heap m x u
  cell : ∀ x c, X.env.cells.lookup x = some c → ∃ v, s.heap.IsCell c v
  free : H X.env.locals = none
  freeC : ∀ x c, X.env.cells.lookup x = some c → H c = none
  pin : ∀ p ∈ X.pn ++ pins, s.heap.get? p.1 = some p.2 ∧ H p.1 = none ∧ p.1 ≠ X.env.locals ∧ p.1 ∉ X.fs ∧ ∀ v, p.2.data ≠ .cell v
  hok : HOk X.prog X.w H s.heap
  len : σ.length = X.N.length

section
variable {X : Cx} {pins : List (Addr × Obj)} {σ : List (Option V)} {H H' : Hp} {s : Shared} {h' : Heap}

theorem Cx.Ok.nofr (ok : X.Ok) {b : Addr} {o : Obj} (e : X.base.get? b = some o) : b ∉ X.fs := fun hb => by
  have := (ok.funs.mem hb).1
  rw [e] at this; cases this
theorem Inv.bs (I : Inv X pins σ H s) : ∀ b o, X.base.get? b = some o → s.heap.get? b = some o ∧ H b = none := fun b o e =>
  ⟨I.base.keep b o (I.ok.bs b o e).1 (I.ok.bs b o e).2 (I.ok.nofr e) (I.ok.noex b o e), I.base.free b o (I.ok.bs b o e).1 (I.ok.bs b o e).2 (I.ok.noex b o e)⟩
theorem Inv.bk (I : Inv X pins σ H s) : ∀ b o, X.base.get? b = some o → s.heap.get? b = some o := fun b o e => (I.bs b o e).1
theorem Inv.mod (I : Inv X pins σ H s) : Mod X.K X.mg X.base := I.ok.mod
theorem Inv.kIn (I : Inv X pins σ H s) : X.K.In s.heap := I.ok.mod.kin.keeps I.bk
theorem Inv.lt (I : Inv X pins σ H s) : X.env.locals < s.heap.objs.size := let ⟨_, hn, _⟩ := I.loc; hn.lt
theorem Inv.sz (I : Inv X pins σ H s) : X.s₀.heap.objs.size ≤ s.heap.objs.size := Nat.le_trans I.ok.above (Nat.le_of_lt I.lt)
theorem Inv.nofs (I : Inv X pins σ H s) {a : Addr} (h : s.heap.objs.size ≤ a) : a ∉ X.fs := fun hb => by
  obtain ⟨_, o, ho, _⟩ := I.ok.funs.mem hb
  exact absurd (Nat.lt_of_lt_of_le (Heap.lt_size ho) (Nat.le_trans I.sz h)) (Nat.lt_irrefl _)
theorem Inv.cne (I : Inv X pins σ H s) : ∀ x c, X.env.cells.lookup x = some c → c ≠ X.env.locals := fun x c e z => by
  obtain ⟨v, o, ho, hd⟩ := I.cell x c e
  obtain ⟨m, ⟨o', es, ep, ho', hd', _⟩, _⟩ := I.loc
  rw [z, ho'] at ho; cases ho; rw [hd'] at hd; cases hd
theorem Inv.funs (I : Inv X pins σ H s) : s.heap.FunFrames X.base X.outer := by
  have all : ∀ (l : List Env), (∀ b ∈ frs l, b ∈ X.fs) → X.s₀.heap.FunFrames X.base l → s.heap.FunFrames X.base l := by
    intro l
    induction l with
    | nil => intro _ _; trivial
    | cons env r ih =>
      intro hs hl
      obtain ⟨hk, ⟨L, o, hf, hn, ho, hd⟩, hr⟩ := hl
      have hL : L ∈ X.fs := hs L (by unfold frs; rw [List.filterMap_cons, hf]; exact List.mem_cons_self)
      obtain ⟨sl, e⟩ := I.base.slot L o ho (I.ok.frf L hL) hL fun z => I.ok.exfs L z hL
      exact ⟨hk, ⟨L, _, hf, hn, e, hd⟩, ih (fun b hb => hs b (by unfold frs; rw [List.filterMap_cons, hf]; exact List.mem_cons_of_mem _ hb)) hr⟩
  exact all X.outer (fun _ hb => hb) I.ok.funs

/-- the frames that run, for a call -/
theorem Inv.stack (I : Inv X pins σ H s) : s.heap.FunFrames X.base X.stack := by
  rcases I.ok.stk with e | ⟨e, hf⟩
  · rw [e]; exact I.funs
  · rw [e]
    obtain ⟨m, hn, _⟩ := I.loc
    refine .cons (by rw [I.ok.kind]; decide) hf hn ?_ I.funs
    exact Heap.get?_none_of_le (Nat.le_trans I.ok.bsz I.ok.above)
theorem Inv.stkSub (I : Inv X pins σ H s) : ∀ b ∈ frs X.stack, b ∈ X.env.locals :: X.fs := fun b hb => by
  rcases I.ok.stk with e | ⟨e, hf⟩
  · rw [e] at hb; exact List.mem_cons_of_mem _ hb
  · rw [e] at hb
    unfold frs at hb
    rw [List.filterMap_cons, hf] at hb
    exact hb
theorem Inv.stkFree (I : Inv X pins σ H s) : ∀ b ∈ frs X.stack, H b = none := fun b hb => by
  rcases List.mem_cons.mp (I.stkSub b hb) with e | hb
  · rw [e]; exact I.free
  · obtain ⟨_, o, ho, _⟩ := I.ok.funs.mem hb
    exact I.base.free b o ho (I.ok.frf b hb) fun z => I.ok.exfs b z hb

/-- THE STEP: the untracked objects but the frame and the records at ch are kept (the callers' frames up to slots), the frame's map is kept, the new abstract heap is held -/
theorem Inv.step {g' : Array GenState} {t' : Nat} {d' : Drawn} {ch : List Addr} (I : Inv X pins σ H s)
    (hch : ∀ b ∈ ch, (b ∈ X.ex ∨ X.s₀.heap.objs.size ≤ b) ∧ b ≠ X.env.locals ∧ (∀ x c, X.env.cells.lookup x = some c → c ≠ b) ∧ ∀ p ∈ X.pn ++ pins, p.1 ≠ b)
    (keep : ∀ b o, b ≠ X.env.locals → b ∉ X.fs → b ∉ ch → s.heap.get? b = some o → H b = none → h'.get? b = some o)
    (slot : ∀ b o, b ≠ X.env.locals → b ∈ X.fs → b ∉ ch → s.heap.get? b = some o → H b = none → ∃ sl, h'.get? b = some { o with slots := sl }) (free : ∀ b o, b ∉ ch → s.heap.get? b = some o → H b = none → H' b = none)
    (there : ∀ b o, b ∉ ch → s.heap.get? b = some o → ∃ o', h'.get? b = some o')
    (tups : ∀ b xs, H b = some (.tup xs) → H' b = some (.tup xs)) (frzs : ∀ b o u, H b = some (.frz o u) → H' b = some (.frz o u)) (tbls : ∀ b ps, H b = some (.tbl ps) → ∃ more, H' b = some (.tbl (ps ++ more)))
    (ns : ∀ m, s.heap.Ns X.env.locals m → h'.Ns X.env.locals m) (hok : HOk X.prog X.w H' h') (hg : AllBare g') :
    Inv X pins σ H' { s with heap := h', gens := g', drawn := d', toks := t' } := by
  have neL : ∀ b o, X.s₀.heap.get? b = some o → b ≠ X.env.locals := fun b o e => Nat.ne_of_lt (Nat.lt_of_lt_of_le (Heap.lt_size e) I.ok.above)
  have neC : ∀ b o, X.s₀.heap.get? b = some o → b ∉ X.ex → b ∉ ch := fun b o e hx hb => by
    rcases (hch b hb).1 with z | z
    · exact hx z
    · exact absurd (Nat.lt_of_lt_of_le (Heap.lt_size e) z) (Nat.lt_irrefl _)
  have cellK : ∀ x c, X.env.cells.lookup x = some c → ∀ v, s.heap.IsCell c v → h'.IsCell c v := fun x c e v ⟨o, ho, hd⟩ => by
    have nch : c ∉ ch := fun z => (hch c z).2.2.1 x c e rfl
    by_cases hc : c ∈ X.fs
    · obtain ⟨sl, q⟩ := slot c o (I.cne x c e) hc nch ho (I.freeC x c e)
      exact ⟨_, q, hd⟩
    · exact ⟨o, keep c o (I.cne x c e) hc nch ho (I.freeC x c e), hd⟩
  refine ⟨I.ok, I.os, hg, ⟨fun b o e n hb hx => ?_, fun b o e n hb hx => ?_, fun b o e n hx => ?_, fun b o e hx => ?_, fun b xs e => tups b xs (I.base.tups b xs e), fun b o xs e => frzs b o xs (I.base.frzs b o xs e), fun b ps e => ?_⟩, ?_, fun x c e => ?_, ?_, fun x c e => ?_, fun p hp => ?_, hok, I.len⟩
  · exact keep b o (neL b o e) hb (neC b o e hx) (I.base.keep b o e n hb hx) (I.base.free b o e n hx)
  · obtain ⟨sl, e1⟩ := I.base.slot b o e n hb hx
    obtain ⟨sl', e2⟩ := slot b _ (neL b o e) hb (neC b o e hx) e1 (I.base.free b o e n hx)
    exact ⟨sl', e2⟩
  · obtain ⟨o', e1⟩ := I.base.there b o e hx
    exact free b o' (neC b o e hx) e1 (I.base.free b o e n hx)
  · obtain ⟨o', e1⟩ := I.base.there b o e hx
    exact there b o' (neC b o e hx) e1
  · obtain ⟨m1, e1⟩ := I.base.tbls b ps e
    obtain ⟨m2, e2⟩ := tbls b _ e1
    exact ⟨m1 ++ m2, by rw [e2, Array.append_assoc]⟩
  · obtain ⟨m, hn, hl⟩ := I.loc
    refine ⟨m, ns m hn, fun i x v e1 e2 e3 => ?_⟩
    obtain ⟨u, r, l⟩ := hl i x v e1 e2 e3
    refine ⟨u, r, ?_⟩
    rcases l with l | ⟨k, c, e, z⟩
    · exact .inl l
    · exact .inr ⟨k, c, e, cellK x c e _ z⟩
  · obtain ⟨v, z⟩ := I.cell x c e
    exact ⟨v, cellK x c e v z⟩
  · obtain ⟨m, ⟨o, _, _, ho, _⟩, _⟩ := I.loc
    exact free _ o (fun z => (hch _ z).2.1 rfl) ho I.free
  · obtain ⟨v, o, ho, hd⟩ := I.cell x c e
    exact free c o (fun z => (hch c z).2.2.1 x c e rfl) ho (I.freeC x c e)
  · obtain ⟨e, n, ne, nf, d⟩ := I.pin p hp
    have nch : p.1 ∉ ch := fun z => (hch p.1 z).2.2.2 p hp rfl
    exact ⟨keep p.1 p.2 ne nf nch e n, free p.1 p.2 nch e n, ne, nf, d⟩
/-- .. where the frame's own object is kept too -/
theorem Inv.un {t' : Nat} (I : Inv X pins σ H s) (u : Un X.fs [] H H' s.heap h') (hok : HOk X.prog X.w H' h') : Inv X pins σ H' { s with heap := h', toks := t' } := by
  obtain ⟨m, ⟨o, es, ep, ho, r⟩, _⟩ := id I.loc
  obtain ⟨sl, hL⟩ := u.any ho I.free (by simp)
  exact I.step (g' := s.gens) (d' := s.drawn) (ch := []) (fun _ z => nomatch z) (fun b o _ hb _ e n => u.keep b o e n hb (by simp)) (fun b o _ hb _ e n => u.slot b o e n hb (by simp)) (fun b o _ e n => u.free b o e n (by simp)) (fun b o _ e => u.there b o e (by simp)) u.tups u.frzs u.tbls (fun m' hm => by
    obtain ⟨o', es', ep', ho', r'⟩ := hm
    rw [ho] at ho'; cases ho'
    exact ⟨_, es', ep', hL, r'⟩) hok I.bare
/-- behind a call (or a comprehension's block): the slots of this frame may have changed too, the records at ch may have turned -/
theorem Inv.call {g' : Array GenState} {t' : Nat} {d' : Drawn} {ch : List Addr} (I : Inv X pins σ H s) (u : Un (frs X.stack) ch H H' s.heap h') (hok : HOk X.prog X.w H' h') (hg : AllBare g')
    (hch : ∀ b ∈ ch, (b ∈ X.ex ∨ X.s₀.heap.objs.size ≤ b) ∧ b ≠ X.env.locals ∧ (∀ x c, X.env.cells.lookup x = some c → c ≠ b) ∧ ∀ p ∈ X.pn ++ pins, p.1 ≠ b) :
    Inv X pins σ H' { s with heap := h', gens := g', drawn := d', toks := t' } := by
  obtain ⟨m, ⟨o, es, ep, ho, r⟩, _⟩ := id I.loc
  obtain ⟨sl, hL⟩ := u.any ho I.free fun z => (hch _ z).2.1 rfl
  exact I.step (ch := ch) hch (fun b o hL hb hc e n => u.keep b o e n (fun z => (List.mem_cons.mp (I.stkSub b z)).elim hL hb) hc) (fun b o _ _ hc e n => u.any e n hc) (fun b o hc e n => u.free b o e n hc) (fun b o hc e => u.there b o e hc) u.tups u.frzs u.tbls (fun m' hm => by
    obtain ⟨o', es', ep', ho', r'⟩ := hm
    rw [ho] at ho'; cases ho'
    exact ⟨_, es', ep', hL, r'⟩) hok hg
/-- an untracked record of ours (an iterator) has turned -/
theorem Inv.turned {t' : Nat} {it : Addr} (I : Inv X pins σ H s) (k : ∀ b o, b ≠ it → s.heap.get? b = some o → h'.get? b = some o) (hn : H it = none) (hL : it ≠ X.env.locals)
    (h1 : it ∈ X.ex ∨ X.s₀.heap.objs.size ≤ it) (h2 : ∀ x c, X.env.cells.lookup x = some c → c ≠ it) (h3 : ∀ p ∈ X.pn ++ pins, p.1 ≠ it) : Inv X pins σ H { s with heap := h', toks := t' } := by
  have nit : ∀ b u, H b = some u → b ≠ it := fun b u e z => by rw [z, hn] at e; cases e
  refine I.step (g' := s.gens) (d' := s.drawn) (ch := [it]) (fun b hb => ?_) (fun b o _ _ hc e _ => k b o (fun z => hc (by simp [z])) e) (fun b o _ _ hc e _ => ⟨o.slots, k b o (fun z => hc (by simp [z])) e⟩) (fun _ _ _ _ n => n)
    (fun b o hc e => ⟨o, k b o (fun z => hc (by simp [z])) e⟩) (fun _ _ e => e) (fun _ _ _ e => e) (fun b ps e => ⟨#[], by rw [e]; simp⟩) (fun m hm => ?_) (fun b u e => ?_) I.bare
  · have e : b = it := by simpa using hb
    subst e
    exact ⟨h1, hL, h2, h3⟩
  · obtain ⟨o, es, ep, ho, r⟩ := hm
    exact ⟨o, es, ep, k _ o (Ne.symm hL) ho, r⟩
  · refine (I.hok b u e).stay (fun c v hc q => k c v ?_ q) (fun _ q => q) fun _ _ q => q
    rcases hc with z | z
    · rw [z]; exact nit b u e
    · exact nit c _ z
theorem Inv.tok (I : Inv X pins σ H s) (t : Nat) : Inv X pins σ H { s with toks := t } := I.un (h' := s.heap) (t' := t) Un.refl I.hok
/-- all objects kept -/
theorem Inv.kept {t' : Nat} (I : Inv X pins σ H s) (k : ∀ b u, s.heap.get? b = some u → h'.get? b = some u) : Inv X pins σ H { s with heap := h', toks := t' } := I.un (Un.kept k) (I.hok.kept k)
/-- a new object laid and tracked -/
theorem Inv.laid {a : Addr} {o : HO} {t' : Nat} (I : Inv X pins σ H s) (k : ∀ b u, s.heap.get? b = some u → h'.get? b = some u) (hp : s.heap.objs.size ≤ a) (new : ObjOk X.prog X.w (upd H a o) h' a o) :
    Inv X pins σ (upd H a o) { s with heap := h', toks := t' } := I.un (Un.laid k hp (I.hok.fresh hp)) (I.hok.laid k hp new)
/-- an object written -/
theorem Inv.write {x e : Addr} {o : HO} {t' : Nat} (I : Inv X pins σ H s) (mu : Mut (H x)) (he : e = x ∨ H e = some (.own x)) (k : ∀ b u, b ≠ e → s.heap.get? b = some u → h'.get? b = some u) (heo : ∃ u, h'.get? e = some u)
    (new : ObjOk X.prog X.w (upd H x o) h' x o) : Inv X pins σ (upd H x o) { s with heap := h', toks := t' } := I.un (Un.write mu he k heo) (I.hok.write mu he k heo new)
theorem Inv.pins_of {pins' : List (Addr × Obj)} (I : Inv X pins σ H s) (h : ∀ p ∈ pins', s.heap.get? p.1 = some p.2 ∧ H p.1 = none ∧ p.1 ≠ X.env.locals ∧ p.1 ∉ X.fs ∧ ∀ v, p.2.data ≠ .cell v) : Inv X pins' σ H s :=
  ⟨I.ok, I.os, I.bare, I.base, I.loc, I.cell, I.free, I.freeC, fun p hp => (List.mem_append.mp hp).elim (fun z => I.pin p (List.mem_append_left _ z)) (h p), I.hok, I.len⟩

theorem nodup_ix {N : List Str} (hN : N.Nodup) {i j : Nat} {x : Str} (a : N[i]? = some x) (b : N[j]? = some x) : i = j := by
  obtain ⟨h1, e1⟩ := List.getElem?_eq_some_iff.mp a
  obtain ⟨h2, e2⟩ := List.getElem?_eq_some_iff.mp b
  exact (List.getElem_inj hN).mp (e1.trans e2.symm)

/-- a name is stored; what changed -/
theorem store_ok2 {M : Model} {A : Around} {E : Value → Shared → Prop} {i : Nat} {x : Str} {v : V} {u : Value} {Q : Unit → Shared → Prop} (I : Inv X pins σ H s) (hN : X.N.Nodup) (hi : X.N[i]? = some x) (hx : Loc X.env.scope x) (r : RelV v u)
    (h : ∀ s', Inv X pins (σ.set i (some v)) H s' → (∃ a, Heap.SameBut a s.heap s'.heap ∧ (a = X.env.locals ∨ X.env.cells.lookup x = some a)) → Q () s') (hf : X.fn x = true ∨ X.env.scope.names.lookup x = some .local := by first | exact .inl rfl | exact .inr rfl | assumption) : wpAny M A (storeName X.env x u) Q E s := by
  obtain ⟨m, hn, hl⟩ := id I.loc
  have hcls : (X.env.scope.kind == .class || (X.env.scope.kind == .module && X.env.locals != X.env.globals)) = false := by rw [I.ok.kind]; rfl
  have hiσ : i < σ.length := by rw [I.len]; exact (List.getElem?_eq_some_iff.mp hi).1
  have cne := I.cne
  have tracked : ∀ {a : Addr} {h' : Heap}, (∃ o, s.heap.get? a = some o ∧ H a = none) → Heap.SameBut a s.heap h' → HOk X.prog X.w H h' := fun {a h'} ha hs b ob e => by
    obtain ⟨_, _, hfree⟩ := ha
    refine (I.hok b ob e).stay (fun c w' hc q => (hs.2 c ?_).trans q) (fun _ q => q) fun _ _ q => q
    rintro rfl
    rcases hc with rfl | hc
    · rw [hfree] at e; cases e
    · rw [hfree] at hc; cases hc
  rcases hx with hk | hk
  · refine wpAny_storeName_local hk hn (fun h' hn' hs => ?_) hcls
    obtain ⟨oL, _, _, hoL, _⟩ := id hn
    refine h _ ⟨I.ok, I.os, I.bare, ⟨fun b o e n hb hx => ?_, fun b o e n hb hx => ?_, I.base.free, fun b o e hx => ?_, I.base.tups, I.base.frzs, I.base.tbls⟩, ⟨_, hn', fun j y v' e1 e2 e3 => ?_⟩, fun y c e => ?_, I.free, I.freeC, fun p hp => ?_, tracked ⟨oL, hoL, I.free⟩ hs, by simpa using I.len⟩ ⟨_, hs, .inl rfl⟩
    · exact (hs.2 b (Nat.ne_of_lt (Nat.lt_of_lt_of_le (Heap.lt_size e) I.ok.above))).trans (I.base.keep b o e n hb hx)
    · obtain ⟨sl, e1⟩ := I.base.slot b o e n hb hx
      exact ⟨sl, (hs.2 b (Nat.ne_of_lt (Nat.lt_of_lt_of_le (Heap.lt_size e) I.ok.above))).trans e1⟩
    · obtain ⟨o', e1⟩ := I.base.there b o e hx
      exact ⟨o', (hs.2 b (Nat.ne_of_lt (Nat.lt_of_lt_of_le (Heap.lt_size e) I.ok.above))).trans e1⟩
    · by_cases hj : j = i
      · subst hj
        rw [hi] at e1; cases e1
        rw [List.getElem?_set_self hiσ] at e2
        cases e2
        exact ⟨u, r, .inl ⟨hk, by simp⟩⟩
      · rw [List.getElem?_set_ne (Ne.symm hj)] at e2
        obtain ⟨u', r', q⟩ := hl j y v' e1 e2 e3
        refine ⟨u', r', ?_⟩
        rcases q with ⟨k, e⟩ | ⟨k, c, e, z⟩
        · refine .inl ⟨k, ?_⟩
          have : y ≠ x := fun e => hj (nodup_ix hN e1 (e ▸ hi))
          simp [this, e]
        · exact .inr ⟨k, c, e, z.sameBut hs (cne y c e)⟩
    · obtain ⟨w', z⟩ := I.cell y c e
      exact ⟨w', z.sameBut hs (cne y c e)⟩
    · obtain ⟨e, n, ne, nf, d⟩ := I.pin p hp
      exact ⟨(hs.2 p.1 ne).trans e, n, ne, nf, d⟩
  · have hfn : X.fn x = true := by
      rcases hf with z | z
      · exact z
      · rw [z] at hk; cases hk
    obtain ⟨c, hc⟩ := I.ok.has x (.inl hk)
    obtain ⟨w', z⟩ := I.cell x c hc
    refine wpAny_storeName_cell I.ok.kind hk hc z (fun h' hc' hs => ?_)
    obtain ⟨oc, hoc, hocd⟩ := id z
    refine h { s with heap := h' } ⟨I.ok, I.os, I.bare, ⟨fun b o e n hb hx => ?_, fun b o e n hb hx => ?_, I.base.free, fun b o e hx => ?_, I.base.tups, I.base.frzs, I.base.tbls⟩, ⟨m, hn.sameBut hs (Ne.symm (cne x c hc)), fun j y v' e1 e2 e3 => ?_⟩, fun y c' e => ?_, I.free, I.freeC, fun p hp => ?_, tracked ⟨oc, hoc, I.freeC x c hc⟩ hs, by simpa using I.len⟩ ⟨c, hs, .inr hc⟩
    · exact (hs.2 b (Nat.ne_of_lt (Nat.lt_of_lt_of_le (Heap.lt_size e) (I.ok.cab x c hfn hc)))).trans (I.base.keep b o e n hb hx)
    · obtain ⟨sl, e1⟩ := I.base.slot b o e n hb hx
      exact ⟨sl, (hs.2 b (Nat.ne_of_lt (Nat.lt_of_lt_of_le (Heap.lt_size e) (I.ok.cab x c hfn hc)))).trans e1⟩
    · obtain ⟨o', e1⟩ := I.base.there b o e hx
      exact ⟨o', (hs.2 b (Nat.ne_of_lt (Nat.lt_of_lt_of_le (Heap.lt_size e) (I.ok.cab x c hfn hc)))).trans e1⟩
    · by_cases hj : j = i
      · subst hj
        rw [hi] at e1; cases e1
        rw [List.getElem?_set_self hiσ] at e2
        cases e2
        exact ⟨u, r, .inr ⟨.inl hk, c, hc, hc'⟩⟩
      · rw [List.getElem?_set_ne (Ne.symm hj)] at e2
        obtain ⟨u', r', q⟩ := hl j y v' e1 e2 e3
        refine ⟨u', r', ?_⟩
        rcases q with q | ⟨k, c', e, z'⟩
        · exact .inl q
        · refine .inr ⟨k, c', e, z'.sameBut hs ?_⟩
          rintro rfl
          exact hj (nodup_ix hN e1 (I.ok.inj _ _ _ e hc ▸ hi))
    · by_cases hcc : c' = c
      · subst hcc; exact ⟨_, hc'⟩
      · obtain ⟨w2, z2⟩ := I.cell y c' e
        exact ⟨w2, z2.sameBut hs hcc⟩
    · obtain ⟨e, n, ne, nf, d⟩ := I.pin p hp
      refine ⟨(hs.2 p.1 ?_).trans e, n, ne, nf, d⟩
      intro q
      rw [q, hoc] at e
      have q' : oc = p.2 := Option.some.inj e
      exact d w' (by rw [← q']; exact hocd)
theorem store_ok {M : Model} {A : Around} {E : Value → Shared → Prop} {i : Nat} {x : Str} {v : V} {u : Value} {Q : Unit → Shared → Prop} (I : Inv X pins σ H s) (hN : X.N.Nodup) (hi : X.N[i]? = some x) (hx : Loc X.env.scope x) (r : RelV v u)
    (h : ∀ s', Inv X pins (σ.set i (some v)) H s' → Q () s') (hf : X.fn x = true ∨ X.env.scope.names.lookup x = some .local := by first | exact .inl rfl | exact .inr rfl | assumption) : wpAny M A (storeName X.env x u) Q E s :=
  store_ok2 I hN hi hx r (fun s' I' _ => h s' I') hf
/-- behind a call or a block, the state as it is -/
theorem Inv.call' {s' : Shared} {ch : List Addr} (I : Inv X pins σ H s) (ho : s'.os = s.os) (u : Un (frs X.stack) ch H H' s.heap s'.heap) (hok : HOk X.prog X.w H' s'.heap) (hg : AllBare s'.gens)
    (hch : ∀ b ∈ ch, (b ∈ X.ex ∨ X.s₀.heap.objs.size ≤ b) ∧ b ≠ X.env.locals ∧ (∀ x c, X.env.cells.lookup x = some c → c ≠ b) ∧ ∀ p ∈ X.pn ++ pins, p.1 ≠ b) : Inv X pins σ H' s' := by
  obtain ⟨h', g', d', t', o'⟩ := s'
  have e : o' = s.os := ho
  subst e
  exact I.call (g' := g') (t' := t') (d' := d') u hok hg hch
end

/-! ### the judgements -/
/-- an exception: its class, its own dict's address (where it has one), the abstract heap behind it -/
noncomputable abbrev XK := Value → Option Addr → Hp → Prop
noncomputable abbrev St := List (Option V)
noncomputable abbrev VK := V → Hp → Prop
/-- an expression's reading; a test's; an argument list's -/
noncomputable abbrev TE := St → Hp → VK → Prop
noncomputable abbrev TT := St → Hp → (Bool → Hp → Prop) → Prop
noncomputable abbrev TA := St → Hp → (List V → Hp → Prop) → Prop
/-- what is wanted behind a statement -/
structure Ends where
  nx : St → Hp → Prop
  rt : VK
  bk : St → Hp → Prop := fun _ _ => False
  ct : St → Hp → Prop := fun _ _ => False
noncomputable abbrev TS := Ends → St → Hp → Prop

noncomputable def EP (X : Cx) (pins : List (Addr × Obj)) (σ : St) (Q : VK) (u : Value) (s' : Shared) : Prop := ∃ v H', Inv X pins σ H' s' ∧ RelV v u ∧ Q v H'
noncomputable def TP (X : Cx) (pins : List (Addr × Obj)) (σ : St) (Q : Bool → Hp → Prop) (b : Bool) (s' : Shared) : Prop := ∃ H', Inv X pins σ H' s' ∧ Q b H'
noncomputable def AP (X : Cx) (pins : List (Addr × Obj)) (σ : St) (Q : List V → Hp → Prop) (us : List Value) (s' : Shared) : Prop := ∃ vs H', Inv X pins σ H' s' ∧ Vals vs us ∧ Q vs H'
noncomputable def SP (X : Cx) (pins : List (Addr × Obj)) (D : Ends) (f : Flow) (s' : Shared) : Prop :=
  match f with
  | .next => ∃ σ' H', Inv X pins σ' H' s' ∧ D.nx σ' H'
  | .brk => ∃ σ' H', Inv X pins σ' H' s' ∧ D.bk σ' H'
  | .cont => ∃ σ' H', Inv X pins σ' H' s' ∧ D.ct σ' H'
  | .ret u => ∃ v σ' H', Inv X pins σ' H' s' ∧ RelV v u ∧ D.rt v H'

noncomputable def PE (X : Cx) (e : Expr) (t : TE) : Prop :=
  ∀ (pins : List (Addr × Obj)) (s : Shared) (σ : St) (H : Hp) (Q : VK), Inv X pins σ H s → t σ H Q → wpAny (model X.prog X.w) X.A (eval e X.env) (EP X pins σ Q) X.xe s
noncomputable def PT (X : Cx) (e : Expr) (t : TT) : Prop :=
  ∀ (pins : List (Addr × Obj)) (s : Shared) (σ : St) (H : Hp) (Q : Bool → Hp → Prop), Inv X pins σ H s → t σ H Q → wpAny (model X.prog X.w) X.A (isTrue e X.env (eval e X.env)) (TP X pins σ Q) X.xe s
/-- a test whatever its 'whole' is (and, or) -/
noncomputable def PW (X : Cx) (e : Expr) (t : TT) : Prop :=
  ∀ (whole : Sem Value) (pins : List (Addr × Obj)) (s : Shared) (σ : St) (H : Hp) (Q : Bool → Hp → Prop), Inv X pins σ H s → t σ H Q → wpAny (model X.prog X.w) X.A (isTrue e X.env whole) (TP X pins σ Q) X.xe s
theorem PW.pt {X : Cx} {e : Expr} {t : TT} (h : PW X e t) : PT X e t := h _
/-- an argument list (no star), from the left -/
noncomputable def PA (X : Cx) (es : List Expr) (t : TA) : Prop :=
  ∀ (pos : Pos) (pins : List (Addr × Obj)) (s : Shared) (σ : St) (H : Hp) (Q : List V → Hp → Prop), Inv X pins σ H s → t σ H Q → wpAny (model X.prog X.w) X.A (spliced (backTo pos (starEach es X.env))) (AP X pins σ Q) X.xe s
noncomputable def PS (X : Cx) (st : Stmt) (t : TS) : Prop :=
  ∀ (pins : List (Addr × Obj)) (s : Shared) (σ : St) (H : Hp) (D : Ends), Inv X pins σ H s → t D σ H → wpAny (model X.prog X.w) X.A (exec st X.env) (SP X pins D) X.xe s
noncomputable def PSs (X : Cx) (st : List Stmt) (t : TS) : Prop :=
  ∀ (pins : List (Addr × Obj)) (s : Shared) (σ : St) (H : Hp) (D : Ends), Inv X pins σ H s → t D σ H → wpAny (model X.prog X.w) X.A (execs st X.env) (SP X pins D) X.xe s
/-- weaken the end -/
theorem thn {α : Type} {t : Sem α} {Q Q' : α → Shared → Prop} {M : Model} {A : Around} {E : Value → Shared → Prop} {s : Shared} (h : wpAny M A t Q E s) (hQ : ∀ a s, Q a s → Q' a s) : wpAny M A t Q' E s := wpAny_mono h hQ fun _ _ x => x
end L2

namespace L2
open PySem PySem.Spec PyProof.Rows
section
variable {X : Cx}

/-! ### names and constants -/
noncomputable def tVar (i : Nat) : TE := fun σ H Q => ∃ v, σ[i]? = some (some v) ∧ Q v H
noncomputable def tC (v : V) : TE := fun _ H Q => Q v H
theorem pe_var {i : Nat} {x : Str} {pos : Pos} (hN : X.N[i]? = some x) (hv : Vis X.env.scope x) (hd : (x == ("__debug__" : Str)) = false := by decide) (hcd : (x == ("__classdict__" : Str)) = false := by decide) : PE X (.Name x pos) (tVar i) := by
  intro pins s σ H Q I h
  obtain ⟨v, e, h⟩ := h
  obtain ⟨m, hn, hl⟩ := I.loc
  obtain ⟨u, r, l⟩ := hl i x v hN e hv
  have fin : EP X pins σ Q u s := ⟨v, H, I, r, h⟩
  rcases l with ⟨hk, hm⟩ | ⟨hk, c, hc, hcell⟩
  · exact wpAny_Name (wpAny_loadName_local I.ok.kind hk hn hm fin) hd
  · rcases hk with hk | hk
    · exact wpAny_Name (wpAny_loadName_cell I.ok.kind hk hc hcell fin) hd
    · exact wpAny_Name (wpAny_loadName_free I.ok.kind hk hc hcell fin hcd) hd
theorem pe_int {i j pos} : PE X (.Constant (.int i) j pos) (tC (.int i)) := fun _ _ _ H _ I h => wpAny_Constant_int ⟨.int i, H, I.tok _, ⟨_, rfl⟩, h⟩
theorem pe_bl {b j pos} : PE X (.Constant (.bool b) j pos) (tC (.bl b)) := fun _ _ _ H _ I h => Constant_bool ⟨.bl b, H, I, rfl, h⟩
theorem pe_non {j pos} : PE X (.Constant .none j pos) (tC .non) := fun _ _ _ H _ I h => Constant_none ⟨.non, H, I, rfl, h⟩
theorem pe_str {x j pos} : PE X (.Constant (.str x) j pos) (tC (.str x)) := fun _ _ _ H _ I h => Calls.Constant_str ⟨.str x, H, I.tok _, ⟨_, rfl⟩, h⟩

/-- a global name of the def -/
noncomputable def Gl (X : Cx) (x : Str) : Prop := X.env.kindOf x = some .globalImplicit
theorem ld_glob {E : Value → Shared → Prop} {pins : List (Addr × Obj)} {s : Shared} {σ : St} {H : Hp} {x : Str} {u : Value} {pos : Pos} {Q : Value → Shared → Prop} (I : Inv X pins σ H s) (hg : Gl X x) (hm : X.mg x = some u) (h : Q u s)
    (hd : (x == ("__debug__" : Str)) = false := by decide) : wpAny (model X.prog X.w) X.A (eval (.Name x pos) X.env) Q E s :=
  Calls.Name_function_global I.ok.kind hg (Calls.loadGlobal_global (by rw [I.ok.glob]; exact I.mod.glob.keeps I.bk) hm h) hd
theorem ld_blt {E : Value → Shared → Prop} {pins : List (Addr × Obj)} {s : Shared} {σ : St} {H : Hp} {x : Str} {u : Value} {pos : Pos} {Q : Value → Shared → Prop} (I : Inv X pins σ H s) (hg : Gl X x) (hm : X.mg x = none) (hv : bootBuiltins x = some u) (h : Q u s)
    (hn : x ≠ "__name__" := by decide) (hd : (x == ("__debug__" : Str)) = false := by decide) : wpAny (model X.prog X.w) X.A (eval (.Name x pos) X.env) Q E s := by
  obtain ⟨mb, h1, h2⟩ := I.mod.blt
  exact Calls.Name_function_global I.ok.kind hg (Calls.loadGlobal_builtin (by rw [I.ok.glob]; exact I.mod.glob.keeps I.bk) hm (by rw [I.ok.blt]; exact h1.keeps I.bk) ((h2 x hn).trans hv) h) hd
/-- a module's constant, a class, a function, as a value -/
theorem pe_glob {x : Str} {v : V} {u : Value} {pos : Pos} (hg : Gl X x) (hm : X.mg x = some u) (r : RelV v u) (hd : (x == ("__debug__" : Str)) = false := by decide) : PE X (.Name x pos) (tC v) :=
  fun _ _ _ H _ I h => ld_glob I hg hm ⟨v, H, I, r, h⟩ hd
theorem pe_bltn {x : Str} {v : V} {u : Value} {pos : Pos} (hg : Gl X x) (hm : X.mg x = none) (hv : bootBuiltins x = some u) (r : RelV v u) (hn : x ≠ "__name__" := by decide) (hd : (x == ("__debug__" : Str)) = false := by decide) : PE X (.Name x pos) (tC v) :=
  fun _ _ _ H _ I h => ld_blt I hg hm hv ⟨v, H, I, r, h⟩ hn hd

/-! ### arithmetic -/
variable {a b : Expr} {ta tb : TE} {pos : Pos}
/-! ### comparisons -/
noncomputable def PC (X : Cx) (op : CmpOp) (a b : Expr) (t : TE) : Prop :=
  ∀ (pins : List (Addr × Obj)) (s : Shared) (σ : St) (H : Hp) (Q : VK), Inv X pins σ H s → t σ H Q →
    wpAny (model X.prog X.w) X.A (eval a X.env) (fun v s₁ => wpAny (model X.prog X.w) X.A (eval b X.env) (fun u s₂ => wpAny (model X.prog X.w) X.A (compareOp op v u) (EP X pins σ Q) X.xe s₂) X.xe s₁) X.xe s
/-- a comparison as a value, as a test -/
noncomputable def tB (t : TE) : TT := fun σ H Q => t σ H fun x H1 => ∃ c, x = .bl c ∧ Q c H1
theorem pt_cmp {op : CmpOp} {t : TE} (h : PC X op a b t) (h1 : behindInMarks op b = false := by first | exact nobehind _ (by decide) (by decide) | rfl) : PT X (.Compare a [op] [b] pos) (tB t) := by
  intro pins s σ H Q I hw
  refine wpAny_isTrue_Compare1 (thn (h pins s σ H _ I hw) fun v s1 h1 => thn h1 fun u s2 h2 => thn h2 fun c s3 ⟨x, H1, I1, r1, q1⟩ => ?_) h1
  obtain ⟨d, rfl, q⟩ := q1
  cases r1
  exact wpAny_truthy_bool ⟨H1, I1, q⟩
/-- an expression whose value is a bool, as a test -/
theorem pt_val {e : Expr} {t : TE} (h : PE X e t) (he : ∀ whole, isTrue e X.env whole = (do let v ← whole; standAt e.pos; holding [v] (truthy v)) := by intro _; rfl) : PT X e (tB t) := by
  intro pins s σ H Q I hw
  refine isTrue_plain (thn (h pins s σ H _ I hw) fun v s1 ⟨x, H1, I1, r1, q1⟩ => ?_) (he _)
  obtain ⟨d, rfl, q⟩ := q1
  cases r1
  exact wpAny_truthy_bool ⟨H1, I1, q⟩

/-! ### and, or, not -/
variable {tA tB' : TT} {rest : List Expr}
noncomputable def tAnd (t u : TT) : TT := fun σ H Q => t σ H fun c H1 => if c = true then u σ H1 Q else Q false H1
noncomputable def tOr (t u : TT) : TT := fun σ H Q => t σ H fun c H1 => if c = true then Q true H1 else u σ H1 Q
noncomputable def tNot (t : TT) : TT := fun σ H Q => t σ H fun c H1 => Q (!c) H1
theorem pw_and1 (ha : PT X a tA) : PW X (.BoolOp .And [a] pos) tA := by
  intro wh pins s σ H Q I h
  refine isTrue_and (thn (ha pins s σ H Q I h) fun c s1 e => ?_)
  cases c with
  | true => exact isTrue_and_nil e
  | false => exact e
theorem pw_or1 (ha : PT X a tA) : PW X (.BoolOp .Or [a] pos) tA := by
  intro wh pins s σ H Q I h
  refine isTrue_or (thn (ha pins s σ H Q I h) fun c s1 e => ?_)
  cases c with
  | false => exact isTrue_or_nil e
  | true => exact e
theorem pw_and (ha : PT X a tA) (hb : PW X (.BoolOp .And (b :: rest) pos) tB') : PW X (.BoolOp .And (a :: b :: rest) pos) (tAnd tA tB') := by
  intro wh pins s σ H Q I h
  refine isTrue_and (thn (ha pins s σ H _ I h) fun c s1 ⟨H1, I1, q1⟩ => ?_)
  cases c with
  | true => exact hb wh pins s1 σ H1 Q I1 q1
  | false => exact ⟨H1, I1, q1⟩
theorem pw_or (ha : PT X a tA) (hb : PW X (.BoolOp .Or (b :: rest) pos) tB') : PW X (.BoolOp .Or (a :: b :: rest) pos) (tOr tA tB') := by
  intro wh pins s σ H Q I h
  refine isTrue_or (thn (ha pins s σ H _ I h) fun c s1 ⟨H1, I1, q1⟩ => ?_)
  cases c with
  | true => exact ⟨H1, I1, q1⟩
  | false => exact hb wh pins s1 σ H1 Q I1 q1
theorem pt_not (ha : PT X a tA) : PT X (.UnaryOp .Not a pos) (tNot tA) := by
  intro pins s σ H Q I h
  exact isTrue_not (ha pins s σ H (fun c H1 => Q (!c) H1) I h)
/-- .. as values (bools) -/
noncomputable def tAndV (ta tb : TE) : TE := fun σ H Q => ta σ H fun x H1 => ∃ c, x = .bl c ∧ if c = true then tb σ H1 Q else Q (.bl false) H1
theorem pe_one {op} {t : TE} (h : PE X a t) : PE X (.BoolOp op [a] pos) t := fun pins s σ H Q I hw => BoolOp_one (h pins s σ H Q I hw)
theorem pe_and (ha : PE X a ta) (hb : PE X (.BoolOp .And (b :: rest) pos) tb) : PE X (.BoolOp .And (a :: b :: rest) pos) (tAndV ta tb) := by
  intro pins s σ H Q I h
  refine BoolOp_and (thn (ha pins s σ H _ I h) fun v s1 ⟨x, H1, I1, r1, q1⟩ => ?_)
  obtain ⟨c, rfl, q1⟩ := q1
  cases r1
  refine wpAny_truthy_bool ?_
  cases c with
  | true => exact hb pins s1 σ H1 Q I1 q1
  | false => exact ⟨.bl false, H1, I1, rfl, q1⟩
end
end L2

namespace L2
open PySem PySem.Spec PyProof.Rows

/-! ### a list, a tuple that is read: tracked, frozen, or an object of the module -/
noncomputable def SqL (K : PySem.W.Frag) (H : Hp) (a : Addr) (xs : List V) : Prop :=
  Rd H a (.lst xs) ∨
    ∃ (o : Obj) (its : Array Value) (n : Nat), K.lookup a = some o ∧ o.cls = .type "list" ∧ o.dict = none ∧ o.data = .seq its n ∧ its.size ≤ sizeLine ∧ Vals xs its.toList
noncomputable def SqT (K : PySem.W.Frag) (H : Hp) (a : Addr) (xs : List V) : Prop :=
  Rd H a (.tup xs) ∨
    ∃ (o : Obj) (its : Array Value) (n : Nat), K.lookup a = some o ∧ o.cls = .type "tuple" ∧ o.data = .seq its n ∧ its.size ≤ sizeLine ∧ Vals xs its.toList
noncomputable def absV : Value → Option V
  | .none => some .non
  | .bool b => some (.bl b)
  | .int i _ => some (.int i)
  | .str x _ => some (.str x)
  | .bytes b _ => some (.byt b)
  | .float b _ => some (.flt b)
  | .ref a => some (.ref a)
  | .type n => some (.ty n)
  | _ => none
theorem RelV.abs {x : V} {u : Value} (r : RelV x u) : absV u = some x := by
  cases x with
  | non => cases r; rfl
  | bl _ => cases r; rfl
  | int _ => obtain ⟨t, rfl⟩ := r; rfl
  | str _ => obtain ⟨t, rfl⟩ := r; rfl
  | byt _ => obtain ⟨t, rfl⟩ := r; rfl
  | flt _ => obtain ⟨t, rfl⟩ := r; rfl
  | ref _ => cases r; rfl
  | ty _ => cases r; rfl
theorem RelV.inj {x y : V} {u : Value} (r : RelV x u) (q : RelV y u) : x = y := Option.some.inj (r.abs.symm.trans q.abs)
theorem Vals.inj : ∀ {xs ys : List V} {us : List Value}, Vals xs us → Vals ys us → xs = ys
  | _, _, _, .nil, .nil => rfl
  | _, _, _, .cons r t, .cons r' t' => by rw [r.inj r', Vals.inj t t']
section
variable {X : Cx} {pins : List (Addr × Obj)} {σ : St} {H : Hp} {s : Shared} {a : Addr} {xs ys : List V}
theorem SqL.of {K : PySem.W.Frag} (h : H a = some (.lst xs)) : SqL K H a xs := .inl (.inl h)
theorem SqT.of {K : PySem.W.Frag} (h : H a = some (.tup xs)) : SqT K H a xs := .inl (.inl h)
theorem Inv.list (I : Inv X pins σ H s) (h : SqL X.K H a xs) : ∃ its : List Value, Vals xs its ∧ PlainL s.heap a its.toArray ∧ xs.length ≤ sizeLine := by
  rcases h with h | ⟨o, its, n, hk, hc, hd, hs, hz, r⟩
  · obtain ⟨z, its, n, r, e⟩ := h.ok I.hok
    exact ⟨its, r, ⟨_, n, e, rfl, rfl, rfl⟩, z⟩
  · refine ⟨its.toList, r, ⟨o, n, I.kIn a o hk, hc, hd, by simpa using hs⟩, ?_⟩
    have e := r.length
    simp only [Array.length_toList] at e
    omega
theorem Inv.tuple (I : Inv X pins σ H s) (h : SqT X.K H a xs) : ∃ its : List Value, Vals xs its ∧ IsTup s.heap a its.toArray ∧ xs.length ≤ sizeLine := by
  rcases h with h | ⟨o, its, n, hk, hc, hs, hz, r⟩
  · obtain ⟨z, its, r, p⟩ := h.ok I.hok
    exact ⟨its, r, p, z⟩
  · refine ⟨its.toList, r, ⟨o, I.kIn a o hk, hc, n, by simpa using hs⟩, ?_⟩
    have e := r.length
    simp only [Array.length_toList] at e
    omega
theorem Inv.list_inj (I : Inv X pins σ H s) (h : SqL X.K H a xs) (h' : SqL X.K H a ys) : xs = ys := by
  obtain ⟨its, r, ⟨o, n, e, _, _, d⟩, _⟩ := I.list h
  obtain ⟨its', r', ⟨o', n', e', _, _, d'⟩, _⟩ := I.list h'
  rw [e] at e'; cases e'
  rw [d] at d'
  injection d' with d1 _
  have : its = its' := by simpa using congrArg Array.toList d1
  subst this
  exact r.inj r'
theorem Inv.tuple_inj (I : Inv X pins σ H s) (h : SqT X.K H a xs) (h' : SqT X.K H a ys) : xs = ys := by
  obtain ⟨its, r, ⟨o, e, _, n, d⟩, _⟩ := I.tuple h
  obtain ⟨its', r', ⟨o', e', _, n', d'⟩, _⟩ := I.tuple h'
  rw [e] at e'; cases e'
  rw [d] at d'
  injection d' with d1 _
  have : its = its' := by simpa using congrArg Array.toList d1
  subst this
  exact r.inj r'
end

/-! ### another wish about exceptions -/
noncomputable abbrev Cx.wish (X : Cx) (E : Value → Shared → Prop) : Cx := { X with xe := E }
/-- no exception leaves -/
noncomputable abbrev Cx.nox (X : Cx) : Cx := X.wish fun _ _ => False
theorem Cx.Ok.wish {X : Cx} (ok : X.Ok) (E : Value → Shared → Prop) : (X.wish E).Ok :=
  ⟨ok.mod, ok.kind, ok.glob, ok.blt, ok.above, ok.inj, ok.has, ok.cab, ok.hd, ok.frames, ok.stk, ok.exf, ok.bs, ok.bsz, ok.noex, ok.exfs, ok.funs, ok.frf⟩
theorem Cx.Ok.unwish {X : Cx} {E : Value → Shared → Prop} (ok : (X.wish E).Ok) : X.Ok :=
  ⟨ok.mod, ok.kind, ok.glob, ok.blt, ok.above, ok.inj, ok.has, ok.cab, ok.hd, ok.frames, ok.stk, ok.exf, ok.bs, ok.bsz, ok.noex, ok.exfs, ok.funs, ok.frf⟩
section
variable {X : Cx} {pins : List (Addr × Obj)} {σ : St} {H : Hp} {s : Shared} {E : Value → Shared → Prop}
theorem Inv.wish (I : Inv X pins σ H s) (E : Value → Shared → Prop) : Inv (X.wish E) pins σ H s := ⟨I.ok.wish E, I.os, I.bare, I.base, I.loc, I.cell, I.free, I.freeC, I.pin, I.hok, I.len⟩
theorem Inv.unwish (I : Inv (X.wish E) pins σ H s) : Inv X pins σ H s := ⟨I.ok.unwish, I.os, I.bare, I.base, I.loc, I.cell, I.free, I.freeC, I.pin, I.hok, I.len⟩
theorem SP.unwish {D : Ends} {f : Flow} {s' : Shared} (h : SP (X.wish E) pins D f s') : SP X pins D f s' := by
  cases f with
  | next => obtain ⟨σ', H', I, q⟩ := h; exact ⟨σ', H', I.unwish, q⟩
  | brk => obtain ⟨σ', H', I, q⟩ := h; exact ⟨σ', H', I.unwish, q⟩
  | cont => obtain ⟨σ', H', I, q⟩ := h; exact ⟨σ', H', I.unwish, q⟩
  | ret u => obtain ⟨v, σ', H', I, r, q⟩ := h; exact ⟨v, σ', H', I.unwish, r, q⟩
theorem PSs.nox {st : List Stmt} {t : TS} (h : PSs X.nox st t) : PSs X st t := fun pins s σ H D I hw =>
  wpAny_mono (h pins s σ H D (I.wish _) hw) (fun _ _ q => q.unwish) fun _ _ z => False.elim z
end

/-! ### blocks and small statements -/
section
variable {X : Cx} {st : Stmt} {rest : List Stmt} {t u : TS} {e : Expr} {te : TE} {pos : Pos}
noncomputable def tNext : TS := fun D σ H => D.nx σ H
noncomputable def tSeq (t u : TS) : TS := fun D σ H => t { D with nx := u D } σ H
theorem pss_nil : PSs X [] tNext := fun _ _ σ H _ I h => wpAny_execs_nil ⟨σ, H, I, h⟩
theorem pss_cons (h1 : PS X st t) (h2 : PSs X rest u) : PSs X (st :: rest) (tSeq t u) := by
  intro pins s σ H D I h
  refine wpAny_execs_cons (thn (h1 pins s σ H { D with nx := u D } I h) fun f s1 q => ?_)
  cases f with
  | next =>
    obtain ⟨σ', H', I', q⟩ := q
    exact h2 pins s1 σ' H' D I' q
  | ret v => exact q
  | brk => exact q
  | cont => exact q
theorem pss_one (h1 : PS X st t) : PSs X [st] t := by
  intro pins s σ H D I h
  refine wpAny_execs_cons (thn (h1 pins s σ H D I h) fun f s1 q => ?_)
  cases f with
  | next => exact wpAny_execs_nil q
  | ret v => exact q
  | brk => exact q
  | cont => exact q
/-- in a def's body nothing is shown -/
theorem Inv.quiet {pins : List (Addr × Obj)} {σ : St} {H : Hp} {s : Shared} (I : Inv X pins σ H s) : interactive X.env = false := by simp [interactive, I.ok.kind]
/-- an expression whose value is dropped -/
noncomputable def tDrop (te : TE) : TS := fun D σ H => te σ H fun _ H1 => D.nx σ H1
theorem ps_expr (he : PE X e te) (hs : swapsWith e none pos.line X.env = pure false := by rfl) : PS X (.Expr e pos) (tDrop te) := by
  intro pins s σ H D I h
  exact wpAny_Expr_any (thn (he pins s σ H _ I h) fun v s1 ⟨x, H1, I1, r1, q1⟩ => ⟨σ, H1, I1, q1⟩) I.quiet hs
noncomputable def tRet (te : TE) : TS := fun D σ H => te σ H D.rt
theorem ps_ret (he : PE X e te) : PS X (.Return (some e) pos) (tRet te) := by
  intro pins s σ H D I h
  exact wpAny_Return_some (thn (he pins s σ H _ I h) fun v s1 ⟨x, H1, I1, r1, q1⟩ => ⟨x, σ, H1, I1, r1, q1⟩)
noncomputable def tIfS (c : TT) (t u : TS) : TS := fun D σ H => c σ H fun b H1 => if b = true then t D σ H1 else u D σ H1
theorem ps_if {c : Expr} {a b : List Stmt} {tc : TT} (hc : PT X c tc) (ha : PSs X a t) (hb : PSs X b u) : PS X (.If c a b pos) (tIfS tc t u) := by
  intro pins s σ H D I h
  refine wpAny_If (thn (hc pins s σ H _ I h) fun d s1 ⟨H1, I1, q1⟩ => ?_)
  cases d with
  | true => exact ha pins s1 σ H1 D I1 q1
  | false => exact hb pins s1 σ H1 D I1 q1
/-- code that the proof never comes to -/
noncomputable def tNever : TS := fun _ _ _ => False
theorem pss_never {sts : List Stmt} : PSs X sts tNever := fun _ _ _ _ _ _ h => h.elim
end

/-! ### targets -/
noncomputable abbrev TG := V → St → Hp → (St → Hp → Prop) → Prop
noncomputable abbrev TGs := List V → St → Hp → (St → Hp → Prop) → Prop
noncomputable def PG (X : Cx) (target : Expr) (t : TG) : Prop :=
  ∀ (pins : List (Addr × Obj)) (s : Shared) (σ : St) (H : Hp) (v : V) (u : Value) (Q : St → Hp → Prop), Inv X pins σ H s → RelV v u → t v σ H Q →
    wpAny (model X.prog X.w) X.A (assign target X.env u) (fun _ s' => ∃ σ' H', Inv X pins σ' H' s' ∧ Q σ' H') X.xe s
/-- several targets, one after another -/
noncomputable def PGs (X : Cx) (ts : List Expr) (t : TGs) : Prop :=
  ∀ (pins : List (Addr × Obj)) (s : Shared) (σ : St) (H : Hp) (vs : List V) (us : List Value) (Q : St → Hp → Prop), Inv X pins σ H s → Vals vs us → t vs σ H Q →
    wpAny (model X.prog X.w) X.A (assignInOrder ((assignEach ts X.env).map (·.2)) us) (fun _ s' => ∃ σ' H', Inv X pins σ' H' s' ∧ Q σ' H') X.xe s
/-- o[i] = v, by values -/
noncomputable abbrev TSet := V → V → V → Hp → (Hp → Prop) → Prop
noncomputable def PSet (X : Cx) (t : TSet) : Prop :=
  ∀ (pins : List (Addr × Obj)) (s : Shared) (σ : St) (H : Hp) (o i v : V) (ov iv u : Value) (Q : Hp → Prop), Inv X pins σ H s → RelV o ov → RelV i iv → RelV v u → t o i v H Q →
    wpAny (model X.prog X.w) X.A (setItem ov iv u) (fun _ s' => ∃ H', Inv X pins σ H' s' ∧ Q H') X.xe s
/-- a op= b, by values -/
noncomputable abbrev TIp := V → V → Hp → VK → Prop
noncomputable def PIp (X : Cx) (op : Operator) (t : TIp) : Prop :=
  ∀ (pins : List (Addr × Obj)) (s : Shared) (σ : St) (H : Hp) (x y : V) (v u : Value) (Q : VK), Inv X pins σ H s → RelV x v → RelV y u → t x y H Q →
    wpAny (model X.prog X.w) X.A (inplaceOp op v u) (EP X pins σ Q) X.xe s
section
variable {X : Cx} {pos : Pos}
noncomputable def gName (i : Nat) : TG := fun v σ H Q => Q (σ.set i (some v)) H
theorem pg_name {i : Nat} {x : Str} (hN : X.N.Nodup) (hi : X.N[i]? = some x) (hx : Loc X.env.scope x) (hf : X.fn x = true ∨ X.env.scope.names.lookup x = some .local := by first | exact .inl rfl | exact .inr rfl | assumption) : PG X (.Name x pos) (gName i) := by
  intro pins s σ H v u Q I r h
  exact wpAny_assign_Name (store_ok I hN hi hx r (fun s' I' => ⟨_, H, I', h⟩) hf)
noncomputable def gNil : TGs := fun vs σ H Q => vs = [] ∧ Q σ H
noncomputable def gCons (t : TG) (u : TGs) : TGs := fun vs σ H Q => ∃ v r, vs = v :: r ∧ t v σ H fun σ' H' => u r σ' H' Q
theorem pgs_nil : PGs X [] gNil := by
  intro pins s σ H vs us Q I r h
  obtain ⟨e, h⟩ := h
  subst e
  cases r
  exact assignInOrder_nil ⟨σ, H, I, h⟩
theorem pgs_cons {e : Expr} {es : List Expr} {t : TG} {u : TGs} (h1 : PG X e t) (h2 : PGs X es u)
    (hs : (assignEach (e :: es) X.env).map (·.2) = assign e X.env :: (assignEach es X.env).map (·.2) := by rfl) : PGs X (e :: es) (gCons t u) := by
  intro pins s σ H vs us Q I r h
  obtain ⟨v, vr, e1, h⟩ := h
  subst e1
  cases r with
  | cons r rr =>
    rw [hs]
    refine assignInOrder_cons (thn (h1 pins s σ H _ _ _ I r h) fun _ s1 ⟨σ1, H1, I1, q1⟩ => ?_)
    exact h2 pins s1 σ1 H1 _ _ Q I1 rr q1
/-- (a, b, ..) = a tuple of that length -/
noncomputable def gTup (K : PySem.W.Frag) (n : Nat) (t : TGs) : TG := fun v σ H Q => ∃ a xs, v = .ref a ∧ SqT K H a xs ∧ xs.length = n ∧ t xs σ H Q
theorem pg_tup {es : List Expr} {k : Nat} {t : TGs} {n : Nat} (hc : X.calm = true) (h : PGs X es t)
    (hn : (assignEach es X.env).length = n := by rfl) (hst : (assignEach es X.env).findIdx? (·.1) = none := by rfl) : PG X (.Tuple es k pos) (gTup X.K n t) := by
  intro pins s σ H v u Q I r hw
  obtain ⟨a, xs, e1, hq, hl, hw⟩ := hw
  subst e1
  cases r
  obtain ⟨its, rv, ht, hz⟩ := I.tuple hq
  refine assign_Tuple_tuple (I.ok.hd hc) ht (by simp [hn, ← hl, rv.length]) hst fun h' hx => ?_
  have I1 : Inv X pins σ H { s with heap := h' } := I.kept (t' := s.toks) fun b o e => hx b o (Nat.ne_of_lt (Heap.lt_size e)) e
  exact h pins _ σ H xs _ Q I1 (by simpa using rv) hw
/-- o[i] = .. -/
noncomputable def gSub (to ti : TE) (t : TSet) : TG := fun v σ H Q => to σ H fun o H1 => ti σ H1 fun i H2 => t o i v H2 fun H3 => Q σ H3
theorem pg_sub {o i : Expr} {to ti : TE} {t : TSet} (ho : PE X o to) (hi : PE X i ti) (hs : PSet X t)
    (ha : ∀ v, assign (.Subscript o i pos) X.env v = (do
      let ov ← holding [v] (eval o X.env)
      let iv ← holding [v, ov] (eval i X.env)
      standAt pos
      holding [v, ov, iv] (setItem ov iv v)
      release [v, ov, iv] []) := by intro _; rfl) : PG X (.Subscript o i pos) (gSub to ti t) := by
  intro pins s σ H v u Q I r h
  rw [ha]
  refine wpAny_bind (wpAny_holding (thn (ho pins s σ H _ I h) fun ov s1 ⟨x, H1, I1, r1, q1⟩ => ?_))
  refine wpAny_bind (wpAny_holding (thn (hi pins s1 σ H1 _ I1 q1) fun iv s2 ⟨y, H2, I2, r2, q2⟩ => ?_))
  refine wpAny_bind (wpAny_standAt (wpAny_bind (wpAny_holding (thn (hs pins s2 σ H2 x y v ov iv u _ I2 r1 r2 r q2) fun _ s3 ⟨H3, I3, q3⟩ => ?_))))
  exact wpAny_release ⟨σ, H3, I3, q3⟩
/-- target = value -/
noncomputable def tAsg (te : TE) (g : TG) : TS := fun D σ H => te σ H fun x H1 => g x σ H1 D.nx
theorem ps_asg {tg e : Expr} {te : TE} {g : TG} (he : PE X e te) (hg : PG X tg g) (hs : swapsWithSole [tg] e pos.line X.env = pure false := by rfl) (hw : swappedStores [tg] e X.env = pure none := by rfl)
    (h1 : (assignEach [tg] X.env).map (·.2) = [assign tg X.env] := by rfl) : PS X (.Assign [tg] e pos) (tAsg te g) := by
  intro pins s σ H D I h
  refine wpAny_Assign_stores (thn (he pins s σ H _ I h) fun v s1 ⟨x, H1, I1, r1, q1⟩ => ?_) hs hw
  rw [h1]
  exact thn (hg pins s1 σ H1 x v _ I1 r1 q1) fun _ s2 q => q
/-- name = value -/
theorem ps_set {i : Nat} {x : Str} {e : Expr} {te : TE} {pos' : Pos} (hN : X.N.Nodup) (hi : X.N[i]? = some x) (hx : Loc X.env.scope x) (he : PE X e te) (hs : swapsWith e (some (.Name x pos')) pos.line X.env = pure false := by rfl) (hf : X.fn x = true ∨ X.env.scope.names.lookup x = some .local := by first | exact .inl rfl | exact .inr rfl | assumption) :
    PS X (.Assign [.Name x pos'] e pos) (tAsg te (gName i)) := by
  intro pins s σ H D I h
  refine wpAny_Assign_Name (thn (he pins s σ H _ I h) fun v s1 ⟨y, H1, I1, r1, q1⟩ => ?_) hs
  exact store_ok I1 hN hi hx r1 (fun s2 I2 => ⟨_, H1, I2, q1⟩) hf
/-- name op= e -/
noncomputable def tAug (i : Nat) (te : TE) (ti : TIp) : TS := fun D σ H => ∃ x, σ[i]? = some (some x) ∧ te σ H fun y H1 => ti x y H1 fun z H2 => D.nx (σ.set i (some z)) H2
theorem ps_aug {i : Nat} {x : Str} {e : Expr} {te : TE} {op : Operator} {ti : TIp} {pos' : Pos} (hN : X.N.Nodup) (hi : X.N[i]? = some x) (hx : Loc X.env.scope x) (he : PE X e te) (ho : PIp X op ti) (hf : X.fn x = true ∨ X.env.scope.names.lookup x = some .local := by first | exact .inl rfl | exact .inr rfl | assumption) :
    PS X (.AugAssign (.Name x pos') op e pos) (tAug i te ti) := by
  intro pins s σ H D I h
  obtain ⟨v, e1, h⟩ := h
  obtain ⟨m, hn, hl⟩ := I.loc
  have vis : Vis X.env.scope x := by rcases hx with k | k; exact .inl k; exact .inr (.inl k)
  obtain ⟨u, r, l⟩ := hl i x v hi e1 vis
  refine wpAny_AugAssign_Name ?_
  have go : wpAny (model X.prog X.w) X.A (eval e X.env) (fun w s₂ => wpAny (model X.prog X.w) X.A (inplaceOp op u w) (fun r s₃ => wpAny (model X.prog X.w) X.A (storeName X.env x r) (fun _ => SP X pins D .next) X.xe s₃) X.xe s₂) X.xe s := by
    refine thn (he pins s σ H _ I h) fun w s1 ⟨y, H1, I1, r1, q1⟩ => ?_
    refine thn (ho pins s1 σ H1 v y u w _ I1 r r1 q1) fun z s2 ⟨zv, H2, I2, r2, q2⟩ => ?_
    exact store_ok I2 hN hi hx r2 (fun s3 I3 => ⟨_, H2, I3, q2⟩) hf
  rcases l with ⟨hk, hm⟩ | ⟨hk, c, hc, hcell⟩
  · exact wpAny_loadName_local I.ok.kind hk hn hm go
  · rcases hk with hk | hk
    · exact wpAny_loadName_cell I.ok.kind hk hc hcell go
    · rcases hx with k | k
      · have : X.env.scope.names.lookup x = some .free := hk
        rw [k] at this; cases this
      · have : X.env.scope.names.lookup x = some .free := hk
        rw [k] at this; cases this
/-- ints -/
noncomputable def ipI (f : Int → Int → Int) : TIp := fun x y H Q => ∃ i j, x = .int i ∧ y = .int j ∧ Q (.int (f i j)) H
theorem ip_add : PIp X .Add (ipI fun i j => i + j) := by
  intro pins s σ H x y v u Q I r1 r2 h
  obtain ⟨i, j, e1, e2, q⟩ := h
  subst e1; subst e2
  obtain ⟨t, rfl⟩ := r1
  obtain ⟨t', rfl⟩ := r2
  exact iadd_int ⟨.int _, H, I.tok _, ⟨_, rfl⟩, q⟩
end

/-! ### while -/
section
variable {X : Cx} {pos : Pos}
/-- the invariant W with its measure -/
noncomputable def tWhile (c : TT) (tb : TS) : TS := fun D σ H => ∃ W : Nat → St → Hp → Prop, (∃ m, W m σ H) ∧ ∀ m σ H, W m σ H →
  c σ H fun b H1 => if b = true then ∃ N : St → Hp → Prop, (∀ σ' H', N σ' H' → ∃ m', m' < m ∧ W m' σ' H') ∧ tb { D with nx := N, ct := N, bk := D.nx } σ H1 else D.nx σ H1
theorem ps_while {c : Expr} {body : List Stmt} {tc : TT} {tb : TS} (hp : PassesOwn (model X.prog X.w) X.A X.env X.xe) (hc : PT X c tc) (hb : PSs X body tb) : PS X (.While c body [] pos) (tWhile tc tb) := by
  intro pins s σ H D I h
  obtain ⟨W, ⟨m0, w0⟩, turn⟩ := h
  refine wpAny_While (codeAny_whileLoop (fun n s' => ∃ σ' H', Inv X pins σ' H' s' ∧ W n σ' H') ?_ m0 ⟨σ, H, I, w0⟩)
  rintro n s1 ⟨σ1, H1, I1, w1⟩
  refine wpAny_passesOwn hp (thn (hc pins s1 σ1 H1 _ I1 (turn n σ1 H1 w1)) fun b s2 ⟨H2, I2, q2⟩ => ?_)
  cases b with
  | true =>
    obtain ⟨N, hN, q2⟩ := q2
    rw [if_pos rfl]
    refine wpAny_passesOwn hp (thn (hb pins s2 σ1 H2 _ I2 q2) fun f s3 q3 => ?_)
    cases f with
    | next =>
      obtain ⟨σ3, H3, I3, n3⟩ := q3
      obtain ⟨m', hm, w3⟩ := hN σ3 H3 n3
      exact ⟨m', hm, σ3, H3, I3, w3⟩
    | cont =>
      obtain ⟨σ3, H3, I3, n3⟩ := q3
      obtain ⟨m', hm, w3⟩ := hN σ3 H3 n3
      exact ⟨m', hm, σ3, H3, I3, w3⟩
    | brk => exact q3
    | ret v => exact q3
  | false =>
    rw [if_neg Bool.false_ne_true]
    exact wpAny_execs_nil ⟨σ1, H2, I2, q2⟩
end

/-! ### what a loop or a comprehension walks -/
/-- at turn i: it yields x (the heap may grow), or it stops -/
structure It where
  go : Nat → Hp → Prop
  yld : Nat → Hp → V → Hp → Prop
  stop : Nat → Hp → Prop
/-- the iterator's own objects may turn: they are not the frame's, not pinned, younger than the entry (or a comprehension's own) -/
noncomputable def FpOk (X : Cx) (pins : List (Addr × Obj)) (H : Hp) (b : Addr) : Prop :=
  H b = none ∧ b ≠ X.env.locals ∧ b ∉ X.fs ∧ (b ∈ X.ex ∨ X.s₀.heap.objs.size ≤ b) ∧ (∀ x c, X.env.cells.lookup x = some c → c ≠ b) ∧ ∀ p ∈ X.pn ++ pins, p.1 ≠ b
theorem Inv.fpOk {X : Cx} {pins : List (Addr × Obj)} {σ : St} {H H' : Hp} {s : Shared} {b : Addr} (I : Inv X pins σ H s) (hb : s.heap.objs.size ≤ b) (hn : H' b = none) : FpOk X pins H' b := by
  refine ⟨hn, Nat.ne_of_gt (Nat.lt_of_lt_of_le I.lt hb), I.nofs hb, .inr (Nat.le_trans I.sz hb), fun x c e z => ?_, fun p hp z => ?_⟩
  · obtain ⟨v, q⟩ := I.cell x c e
    exact absurd (Nat.lt_of_lt_of_le q.lt (by rw [z]; exact hb)) (Nat.lt_irrefl _)
  · exact absurd (Nat.lt_of_lt_of_le (Heap.lt_size (I.pin p hp).1) (by rw [z]; exact hb)) (Nat.lt_irrefl _)
structure Turn (P : Program) (w : World) (K : PySem.W.Frag) (tg : Expr) (J : It) (fp : List Addr) (it : Addr) (tn : Nat → Heap → Prop) : Prop where
  mem : it ∈ fp
  obj : ∀ i h, tn i h → ∀ b ∈ fp, ∃ o, h.get? b = some o ∧ ∀ v, o.data ≠ .cell v
  keep : ∀ i h h', tn i h → (∀ b ∈ fp, ∀ o, h.get? b = some o → h'.get? b = some o) → tn i h'
  item : ∀ (X : Cx), X.prog = P → X.w = w → X.K = K → X.calm = true → ∀ (i : Nat) (pins : List (Addr × Obj)) (s : Shared) (σ : St) (H : Hp) (E : Value → Shared → Prop), Inv X pins σ H s → (∀ b ∈ fp, FpOk X pins H b) → tn i s.heap → J.go i H →
    wpAny (model P w) X.A (pyNext (.ref it)) (fun r s1 => ∃ u, r = some u ∧
      wpAny (model P w) X.A (letOwnedTupleGo tg (.ref it) u) (fun _ s2 => ∃ x H', Inv X pins σ H' s2 ∧ RelV x u ∧ J.yld i H x H' ∧ tn (i + 1) s2.heap ∧ ∀ b ∈ fp, H' b = none) E s1) E s
  done : ∀ (X : Cx), X.prog = P → X.w = w → X.K = K → X.calm = true → ∀ (i : Nat) (pins : List (Addr × Obj)) (s : Shared) (σ : St) (H : Hp) (E : Value → Shared → Prop), Inv X pins σ H s → (∀ b ∈ fp, FpOk X pins H b) → tn i s.heap → J.stop i H →
    wpAny (model P w) X.A (pyNext (.ref it)) (fun r s1 => r = none ∧ Inv X pins σ H s1) E s
  self : ∀ (A : Around) (i : Nat) (s : Shared) (Q : Value → Shared → Prop) (E : Value → Shared → Prop), tn i s.heap → Q (.ref it) s → wpAny (model P w) A (pyIter (.ref it)) Q E s
noncomputable abbrev TI := St → Hp → (It → Hp → Prop) → Prop
/-- an iterator has come -/
noncomputable def PIE (X : Cx) (pins : List (Addr × Obj)) (σ : St) (tg : Expr) (R : It → Hp → Prop) (itv : Value) (s2 : Shared) : Prop :=
  ∃ (it : Addr) (fp : List Addr) (tn : Nat → Heap → Prop) (J : It) (H' : Hp), itv = .ref it ∧ Inv X pins σ H' s2 ∧ Turn X.prog X.w X.K tg J fp it tn ∧ tn 0 s2.heap ∧ (∀ b ∈ fp, FpOk X pins H' b) ∧ R J H'
noncomputable def PI (X : Cx) (tg iter : Expr) (wi : TI) : Prop :=
  ∀ (pins : List (Addr × Obj)) (s : Shared) (σ : St) (H : Hp) (R : It → Hp → Prop), Inv X pins σ H s → wi σ H R →
    wpAny (model X.prog X.w) X.A (eval iter X.env) (fun v s1 => wpAny (model X.prog X.w) X.A (pyIter v) (PIE X pins σ tg R) X.xe s1) X.xe s

/-- the step ahead of the store is nothing for an iterator that keeps no tuple -/
theorem go_of {M : Model} {A : Around} {E : Value → Shared → Prop} {s : Shared} {tg : Expr} {it : Addr} {u : Value} {o : Obj} {n : String} {vs : Array Value} {Q : Unit → Shared → Prop} (ho : s.heap.get? it = some o) (hc : o.cls = .type n) (hd : o.data = .fields vs)
    (hn : ["enumerate", "zip", "dict_itemiterator", "dict_reverseitemiterator", "odict_iterator", "itertools.zip_longest", "itertools.pairwise"].contains n = false) (hQ : Q () s) : wpAny M A (letOwnedTupleGo tg (.ref it) u) Q E s := by
  unfold letOwnedTupleGo
  cases tg <;> first
    | exact wpAny_pure hQ
    | (cases u <;> first
        | exact wpAny_pure hQ
        | (refine wpAny_bind (wpAny_load ho ?_)
           rw [hc, hd]
           show wpAny M A (if (["enumerate", "zip", "dict_itemiterator", "dict_reverseitemiterator", "odict_iterator", "itertools.zip_longest", "itertools.pairwise"].contains n && vs[0]? == some (rawInt _)) = true then _ else _) Q E s
           rw [if_neg (by intro h; rw [hn, Bool.false_and] at h; cases h)]
           exact wpAny_pure hQ))

/-- the list at a, as it stands at each turn (a loop may append to it) -/
noncomputable def Itl (K : PySem.W.Frag) (a : Addr) : It :=
  ⟨fun i H => ∃ xs x, SqL K H a xs ∧ xs[i]? = some x, fun i H x H' => H' = H ∧ ∀ xs, SqL K H a xs → xs[i]? = some x, fun i H => ∃ xs, SqL K H a xs ∧ xs.length ≤ i⟩
noncomputable def Itt (K : PySem.W.Frag) (a : Addr) : It :=
  ⟨fun i H => ∃ xs x, SqT K H a xs ∧ xs[i]? = some x, fun i H x H' => H' = H ∧ ∀ xs, SqT K H a xs → xs[i]? = some x, fun i H => ∃ xs, SqT K H a xs ∧ xs.length ≤ i⟩
/-- lo, lo + 1, .. (n of them) -/
noncomputable def Itr (lo : Int) (n : Nat) : It := ⟨fun i _ => i < n, fun i H x H' => H' = H ∧ x = .int (lo + i), fun i _ => n ≤ i⟩
theorem turn_list {P : Program} {w : World} {K : PySem.W.Frag} {tg : Expr} (a it : Addr) : Turn P w K tg (Itl K a) [it] it (fun i h => h.IsListIter it a i) where
  mem := by simp
  obj := fun i h st b hb => by
    have e : b = it := by simpa using hb
    subst e
    obtain ⟨o, e, c, d⟩ := st
    exact ⟨o, e, fun v z => by rw [d] at z; cases z⟩
  keep := fun i h h' st k => st.at fun o e => k it (by simp) o e
  item := by
    intro X hP hw hK hc i pins s σ H E I hf st hg
    subst hP hw hK
    obtain ⟨xs, x, hq, hx⟩ := hg
    obtain ⟨its, rv, p, hz⟩ := I.list hq
    obtain ⟨u, hu, ru⟩ := rv.get hx
    obtain ⟨f0, f1, f2, f3, f4, f5⟩ := hf it (by simp)
    refine wpAny_pyNext_list_item st p.isList (x := u) (by simpa using hu) fun h' st' sb => ?_
    have I1 : Inv X pins σ H { s with heap := h' } := I.turned (t' := s.toks) (fun b o hb e => (sb.2 b hb).trans e) f0 f1 f3 f4 f5
    obtain ⟨o, e, c, d⟩ := id st'
    exact ⟨u, rfl, go_of (s := { s with heap := h' }) e c d (by decide) ⟨x, H, I1, ru, ⟨rfl, fun ys hy => by rw [I.list_inj hy hq]; exact hx⟩, st', fun b hb => (hf b hb).1⟩⟩
  done := by
    intro X hP hw hK hc i pins s σ H E I hf st hg
    subst hP hw hK
    obtain ⟨xs, hq, hx⟩ := hg
    obtain ⟨its, rv, p, hz⟩ := I.list hq
    obtain ⟨f0, f1, f2, f3, f4, f5⟩ := hf it (by simp)
    have hl := rv.length
    exact wpAny_pyNext_list_end (I.ok.hd hc) st p.isList (by simp; omega) fun h' eb => ⟨rfl, I.turned (t' := s.toks) (fun b o hb e => eb b o hb e) f0 f1 f3 f4 f5⟩
  self := fun _ _ _ _ _ st h => wpAny_pyIter_listiter st h
theorem turn_tuple {P : Program} {w : World} {K : PySem.W.Frag} {tg : Expr} (a it : Addr) : Turn P w K tg (Itt K a) [it] it (fun i h => h.IsTupleIter it a i) where
  mem := by simp
  obj := fun i h st b hb => by
    have e : b = it := by simpa using hb
    subst e
    obtain ⟨o, e, c, d⟩ := st
    exact ⟨o, e, fun v z => by rw [d] at z; cases z⟩
  keep := fun i h h' st k => st.at fun o e => k it (by simp) o e
  item := by
    intro X hP hw hK hc i pins s σ H E I hf st hg
    subst hP hw hK
    obtain ⟨xs, x, hq, hx⟩ := hg
    obtain ⟨its, rv, p, hz⟩ := I.tuple hq
    obtain ⟨u, hu, ru⟩ := rv.get hx
    obtain ⟨f0, f1, f2, f3, f4, f5⟩ := hf it (by simp)
    refine wpAny_pyNext_tuple_item st (show s.heap.IsTuple a its.toArray from p) (x := u) (by simpa using hu) fun h' st' sb => ?_
    have I1 : Inv X pins σ H { s with heap := h' } := I.turned (t' := s.toks) (fun b o hb e => (sb.2 b hb).trans e) f0 f1 f3 f4 f5
    obtain ⟨o, e, c, d⟩ := id st'
    exact ⟨u, rfl, go_of (s := { s with heap := h' }) e c d (by decide) ⟨x, H, I1, ru, ⟨rfl, fun ys hy => by rw [I.tuple_inj hy hq]; exact hx⟩, st', fun b hb => (hf b hb).1⟩⟩
  done := by
    intro X hP hw hK hc i pins s σ H E I hf st hg
    subst hP hw hK
    obtain ⟨xs, hq, hx⟩ := hg
    obtain ⟨its, rv, p, hz⟩ := I.tuple hq
    obtain ⟨f0, f1, f2, f3, f4, f5⟩ := hf it (by simp)
    have hl := rv.length
    exact wpAny_pyNext_tuple_end (I.ok.hd hc) st (show s.heap.IsTuple a its.toArray from p) (by simp; omega) fun h' eb => ⟨rfl, I.turned (t' := s.toks) (fun b o hb e => eb b o hb e) f0 f1 f3 f4 f5⟩
  self := fun _ _ _ _ _ st h => wpAny_pyIter_tupleiter st h
theorem turn_range {P : Program} {w : World} {K : PySem.W.Frag} {tg : Expr} (it : Addr) (lo : Int) (n : Nat) : Turn P w K tg (Itr lo n) [it] it (fun i h => IsRangeIter h it (lo + (i : Nat) * 1) ((n : Int) - (i : Nat)) 1) where
  mem := by simp
  obj := fun i h st b hb => by
    have e : b = it := by simpa using hb
    subst e
    exact ⟨_, st, fun v z => by
      have z' : Data.fields _ = Data.cell v := z
      cases z'⟩
  keep := fun i h h' st k => k it (by simp) _ st
  item := by
    intro X hP hw hK hc i pins s σ H E I hf st hg
    subst hP hw hK
    obtain ⟨f0, f1, f2, f3, f4, f5⟩ := hf it (by simp)
    have W := Walks.range (prog := X.prog) (w := X.w) (I.ok.hd hc) it lo 1 n
    refine W.item i s _ _ hg st fun v h' tk hv st' kk => ?_
    obtain ⟨t, rfl⟩ := hv
    have I1 : Inv X pins σ H { s with heap := h', toks := tk } := I.turned (fun b o hb e => kk b o (by simpa using hb) e) f0 f1 f3 f4 f5
    refine ⟨_, rfl, go_of (s := { s with heap := h', toks := tk }) (n := "range_iterator") st' rfl rfl (by decide) ⟨.int (lo + i), H, I1, ⟨t, ?_⟩, ⟨rfl, rfl⟩, st', fun b hb => (hf b hb).1⟩⟩
    rw [Int.mul_one]
  done := by
    intro X hP hw hK hc i pins s σ H E I hf st hg
    subst hP hw hK
    obtain ⟨f0, f1, f2, f3, f4, f5⟩ := hf it (by simp)
    exact wpAny_pyNext_range_end (I.ok.hd hc) st (by have : n ≤ i := hg; omega) fun h' eb => ⟨rfl, I.turned (t' := s.toks) (fun b o hb e => eb b o hb e) f0 f1 f3 f4 f5⟩
  self := fun _ _ _ _ _ st h => wpAny_pyIter_rangeiter st h
end L2

namespace L2
open PySem PySem.Spec PyProof.Rows
section
variable {X : Cx} {tg : Expr}
noncomputable def iList (K : PySem.W.Frag) (tl : TE) : TI := fun σ H R => tl σ H fun x H1 => ∃ a, x = .ref a ∧ (∃ xs, SqL K H1 a xs) ∧ R (Itl K a) H1
noncomputable def iTup (K : PySem.W.Frag) (tl : TE) : TI := fun σ H R => tl σ H fun x H1 => ∃ a, x = .ref a ∧ (∃ xs, SqT K H1 a xs) ∧ R (Itt K a) H1
theorem pi_list {l : Expr} {tl : TE} (hl : PE X l tl) : PI X tg l (iList X.K tl) := by
  intro pins s σ H R I h
  refine thn (hl pins s σ H _ I h) fun v s1 ⟨x, H1, I1, r1, q1⟩ => ?_
  obtain ⟨a, e, ⟨xs, hq⟩, q⟩ := q1
  subst e
  cases r1
  obtain ⟨its, rv, p, hz⟩ := I1.list hq
  refine wpAny_pyIter_list p.isList ?_
  refine ⟨s1.heap.objs.size, [s1.heap.objs.size], _, _, H1, rfl, I1.kept (t' := s1.toks) fun b o e => Heap.get?_push_of_some _ e, turn_list a _, ⟨_, Heap.get?_push_size _ rfl, rfl, rfl⟩, fun b hb => ?_, q⟩
  have e : b = s1.heap.objs.size := by simpa using hb
  subst e
  exact I1.fpOk (Nat.le_refl _) (I1.hok.fresh (Nat.le_refl _))
theorem pi_tup {l : Expr} {tl : TE} (hl : PE X l tl) : PI X tg l (iTup X.K tl) := by
  intro pins s σ H R I h
  refine thn (hl pins s σ H _ I h) fun v s1 ⟨x, H1, I1, r1, q1⟩ => ?_
  obtain ⟨a, e, ⟨xs, hq⟩, q⟩ := q1
  subst e
  cases r1
  obtain ⟨its, rv, p, hz⟩ := I1.tuple hq
  refine wpAny_pyIter_tuple (show s1.heap.IsTuple a its.toArray from p) ?_
  refine ⟨s1.heap.objs.size, [s1.heap.objs.size], _, _, H1, rfl, I1.kept (t' := s1.toks) fun b o e => Heap.get?_push_of_some _ e, turn_tuple a _, ⟨_, Heap.get?_push_size _ rfl, rfl, rfl⟩, fun b hb => ?_, q⟩
  have e : b = s1.heap.objs.size := by simpa using hb
  subst e
  exact I1.fpOk (Nat.le_refl _) (I1.hok.fresh (Nat.le_refl _))
/-- a range object just made, walked -/
theorem range_it {pins : List (Addr × Obj)} {σ : St} {H : Hp} {s : Shared} {R : It → Hp → Prop} {E : Value → Shared → Prop} {lo hi : Int} {t u v : Tok} {tk : Nat} (I : Inv X pins σ H s) (h1 : -(2 ^ 62) ≤ lo) (h2 : lo < 2 ^ 62) (h3 : -(2 ^ 62) ≤ hi) (h4 : hi < 2 ^ 62)
    (q : R (Itr lo (hi - lo).toNat) H) : wpAny (model X.prog X.w) X.A (pyIter (.ref s.heap.objs.size)) (PIE X pins σ tg R) E { s with heap := s.heap.push { cls := .type "range", data := .fields #[.int lo t, .int hi u, .int 1 v] }, toks := tk } := by
  refine wpAny_pyIter_range (IsRange.new ..) (small_one h1 h2 h3 h4) ?_
  have I1 : Inv X pins σ H { s with heap := s.heap.push { cls := .type "range", data := .fields #[.int lo t, .int hi u, .int 1 v] }, toks := tk } := I.kept fun b o e => Heap.get?_push_of_some _ e
  refine ⟨(s.heap.push { cls := .type "range", data := .fields #[.int lo t, .int hi u, .int 1 v] }).objs.size, [(s.heap.push { cls := .type "range", data := .fields #[.int lo t, .int hi u, .int 1 v] }).objs.size], _, _, H, rfl,
    I1.kept (t' := tk) fun b o e => Heap.get?_push_of_some _ e, turn_range _ lo (hi - lo).toNat, ?_, fun b hb => ?_, q⟩
  · have e1 : lo + ((0 : Nat) : Int) * 1 = lo := by simp
    have e2 : (((hi - lo).toNat : Nat) : Int) - ((0 : Nat) : Int) = Builtin.Range.rangeSize lo hi 1 := by rw [rangeSize_one]; split <;> omega
    show IsRangeIter _ _ (lo + ((0 : Nat) : Int) * 1) ((((hi - lo).toNat : Nat) : Int) - ((0 : Nat) : Int)) 1
    rw [e1, e2]
    exact Heap.get?_push_size _ rfl
  · have e : b = (s.heap.push { cls := .type "range", data := .fields #[.int lo t, .int hi u, .int 1 v] }).objs.size := by simpa using hb
    subst e
    exact I1.fpOk (Nat.le_refl _) (I1.hok.fresh (Nat.le_refl _))
noncomputable def iRng1 (ta : TA) : TI := fun σ H R => ta σ H fun vs H1 => ∃ j : Int, vs = [.int j] ∧ -(2 ^ 62) ≤ j ∧ j < 2 ^ 62 ∧ R (Itr 0 j.toNat) H1
noncomputable def iRng2 (ta : TA) : TI := fun σ H R => ta σ H fun vs H1 => ∃ i j : Int, vs = [.int i, .int j] ∧ (-(2 ^ 62) ≤ i ∧ i < 2 ^ 62 ∧ -(2 ^ 62) ≤ j ∧ j < 2 ^ 62) ∧ R (Itr i (j - i).toNat) H1
theorem pi_range1 {a : Expr} {ta : TA} {p pos : Pos} (hg : Gl X "range") (hm : X.mg "range" = none) (ha : PA X [a] ta) (hs : starEach [a] X.env = [(false, eval a X.env)] := by rfl) : PI X tg (.Call (.Name "range" p) [a] [] pos) (iRng1 ta) := by
  intro pins s σ H R I h
  refine Call_ (ld_blt I hg hm boot_range (PyProof.Rows.callWith_type1 (thn (ha pos pins s σ H _ I h) fun us s1 ⟨vs, H1, I1, r1, q1⟩ => ?_) hs rfl))
  obtain ⟨j, e, q1, q2, q⟩ := q1
  subst e
  cases r1 with
  | cons r rr =>
    cases rr
    obtain ⟨t, rfl⟩ := r
    exact call_range_1 (range_it I1 (by omega) (by omega) q1 q2 (by simpa using q))
theorem pi_range2 {a b : Expr} {ta : TA} {p pos : Pos} (hg : Gl X "range") (hm : X.mg "range" = none) (ha : PA X [a, b] ta) (hs : starEach [a, b] X.env = [(false, eval a X.env), (false, eval b X.env)] := by rfl) (hs2 : starEach [b] X.env = [(false, eval b X.env)] := by rfl) :
    PI X tg (.Call (.Name "range" p) [a, b] [] pos) (iRng2 ta) := by
  intro pins s σ H R I h
  refine Call_ (ld_blt I hg hm boot_range (PyProof.Rows.callWith_type1 (thn (ha pos pins s σ H _ I h) fun us s1 ⟨vs, H1, I1, r1, q1⟩ => ?_) (by rw [hs, hs2]) (by rw [hs2]; rfl)))
  obtain ⟨i, j, e, ⟨q1, q2, q3, q4⟩, q⟩ := q1
  subst e
  cases r1 with
  | cons r rr =>
    cases rr with
    | cons r' rr =>
      cases rr
      obtain ⟨t, rfl⟩ := r
      obtain ⟨t', rfl⟩ := r'
      exact call_range_2 (range_it I1 q1 q2 q3 q4 q)

/-! ### for -/
/-- W: the invariant by the turn and a measure; N: what the body is to reach -/
noncomputable def tFor (wi : TI) (g : TG) (tb : TS) : TS := fun D σ H => wi σ H fun J H1 => ∃ W : Nat → Nat → St → Hp → Prop, (∃ m, W 0 m σ H1) ∧ ∀ i m σ H, W i m σ H →
  (J.stop i H ∧ D.nx σ H) ∨ (J.go i H ∧ ∃ N : St → Hp → Prop, (∀ σ' H', N σ' H' → ∃ m', m' < m ∧ W (i + 1) m' σ' H') ∧ ∀ x H', J.yld i H x H' → g x σ H' fun σ2 H2 => tb { D with nx := N, ct := N, bk := D.nx } σ2 H2)
/-- the records at fp as they stand -/
noncomputable def pinsAt (fp : List Addr) (h : Heap) : List (Addr × Obj) := fp.filterMap fun b => (h.get? b).map fun o => (b, o)
theorem mem_pinsAt {fp : List Addr} {h : Heap} {b : Addr} {o : Obj} (hb : b ∈ fp) (e : h.get? b = some o) : (b, o) ∈ pinsAt fp h := List.mem_filterMap.mpr ⟨b, hb, by rw [e]; rfl⟩
theorem of_pinsAt {fp : List Addr} {h : Heap} {p : Addr × Obj} (hp : p ∈ pinsAt fp h) : p.1 ∈ fp ∧ h.get? p.1 = some p.2 := by
  obtain ⟨b, hb, e⟩ := List.mem_filterMap.mp hp
  cases q : h.get? b with
  | none => rw [q] at e; cases e
  | some o =>
    rw [q] at e
    have e' : (b, o) = p := Option.some.inj e
    subst e'
    exact ⟨hb, q⟩
theorem Inv.pinned {pins : List (Addr × Obj)} {σ : St} {H : Hp} {s : Shared} {fp : List Addr} (I : Inv X pins σ H s) (hf : ∀ b ∈ fp, FpOk X pins H b) (ho : ∀ b ∈ fp, ∃ o, s.heap.get? b = some o ∧ ∀ v, o.data ≠ .cell v) : Inv X (pins ++ pinsAt fp s.heap) σ H s :=
  I.pins_of fun p hp => (List.mem_append.mp hp).elim (fun z => I.pin p (List.mem_append_right _ z)) fun z => by
    obtain ⟨hb, e⟩ := of_pinsAt z
    obtain ⟨f0, f1, f2, _⟩ := hf p.1 hb
    obtain ⟨o, e', d⟩ := ho p.1 hb
    rw [e] at e'; cases e'
    exact ⟨e, f0, f1, f2, d⟩
theorem Inv.unpinned {pins pl : List (Addr × Obj)} {σ : St} {H : Hp} {s : Shared} (I : Inv X (pins ++ pl) σ H s) : Inv X pins σ H s := I.pins_of fun p hp => I.pin p (List.mem_append_right _ (List.mem_append_left _ hp))
theorem ps_for {iter : Expr} {body : List Stmt} {wi : TI} {g : TG} {tb : TS} {pos : Pos} (hp : PassesOwn (model X.prog X.w) X.A X.env X.xe) (hc : X.calm = true) (hi : PI X tg iter wi) (hg : PG X tg g) (hb : PSs X body tb)
    (hs : ∀ x, foldedSetIterable iter X.env x = pure x := by intro _; rfl) : PS X (.For tg iter body [] pos) (tFor wi g tb) := by
  intro pins s σ H D I h
  refine wpAny_For (thn (hi pins s σ H _ I h) fun v s1 h1 => thn h1 fun itv s2 h2 => ?_) hs
  obtain ⟨it, fp, tn, J, H2, e, I2, T, st2, f2, W, ⟨m0, w0⟩, turn⟩ := h2
  subst e
  -- what stays true of the iterator's objects through the loop
  have stat : ∀ {H' : Hp}, (∀ b ∈ fp, H' b = none) → ∀ b ∈ fp, FpOk X pins H' b := fun hn b hb => ⟨hn b hb, (f2 b hb).2⟩
  refine codeAny_forLoop_any (fun n s' => ∃ i σ' H', Inv X pins σ' H' s' ∧ tn i s'.heap ∧ (∀ b ∈ fp, H' b = none) ∧ W i n σ' H') ?_ m0 ⟨0, σ, H2, I2, st2, fun b hb => (f2 b hb).1, w0⟩
  rintro n s3 ⟨i, σ3, H3, I3, st3, fr3, w3⟩
  rcases turn i n σ3 H3 w3 with ⟨stop, qn⟩ | ⟨go, N, hN, step⟩
  · refine wpAny_passesOwn hp (thn (T.done X rfl rfl rfl hc i pins s3 σ3 H3 X.xe I3 (stat fr3) st3 stop) fun r s4 ⟨hr, I4⟩ => ?_)
    subst hr
    exact wpAny_execs_nil ⟨σ3, H3, I4, qn⟩
  · refine wpAny_passesOwn hp (thn (T.item X rfl rfl rfl hc i pins s3 σ3 H3 X.xe I3 (stat fr3) st3 go) fun r s4 ⟨u, hr, h4⟩ => ?_)
    subst hr
    refine wpAny_passesOwn hp (thn h4 fun _ s5 ⟨x, H5, I5, r5, y5, st5, fr5⟩ => ?_)
    have I5' := I5.pinned (stat fr5) (T.obj _ _ st5)
    refine wpAny_passesOwn hp (thn (hg _ s5 σ3 H5 x u _ I5' r5 (step x H5 y5)) fun _ s6 ⟨σ6, H6, I6, q6⟩ => ?_)
    refine wpAny_passesOwn hp (thn (hb _ s6 σ6 H6 _ I6 q6) fun f s7 q7 => ?_)
    have again : ∀ {σ7 : St} {H7 : Hp}, Inv X (pins ++ pinsAt fp s5.heap) σ7 H7 s7 → N σ7 H7 → ∃ m, m < n ∧ ∃ i σ' H', Inv X pins σ' H' s7 ∧ tn i s7.heap ∧ (∀ b ∈ fp, H' b = none) ∧ W i m σ' H' := fun {σ7 H7} I7 n7 => by
      obtain ⟨m', hm, w7⟩ := hN σ7 H7 n7
      refine ⟨m', hm, i + 1, σ7, H7, I7.unpinned, T.keep _ _ _ st5 fun b hb o e => (I7.pin (b, o) (List.mem_append_right _ (List.mem_append_right _ (mem_pinsAt hb e)))).1, fun b hb => ?_, w7⟩
      obtain ⟨o, e, d⟩ := T.obj _ _ st5 b hb
      exact (I7.pin (b, o) (List.mem_append_right _ (List.mem_append_right _ (mem_pinsAt hb e)))).2.1
    cases f with
    | next => obtain ⟨σ7, H7, I7, n7⟩ := q7; exact again I7 n7
    | cont => obtain ⟨σ7, H7, I7, n7⟩ := q7; exact again I7 n7
    | brk => obtain ⟨σ7, H7, I7, q7⟩ := q7; exact ⟨σ7, H7, I7.unpinned, q7⟩
    | ret v => obtain ⟨x7, σ7, H7, I7, r7, q7⟩ := q7; exact ⟨x7, σ7, H7, I7.unpinned, r7, q7⟩
end

/-! ### the forms one uses -/
/-- over a list that the body leaves as it is -/
theorem for_list {K : PySem.W.Frag} {a : Addr} {xs : List V} {g : TG} {tb : TS} {D : Ends} {σ : St} {H : Hp} (Pv : Nat → St → Hp → Prop) (h0 : Pv 0 σ H) (hl : ∀ i σ H, i ≤ xs.length → Pv i σ H → SqL K H a xs)
    (hs : ∀ i x σ H, xs[i]? = some x → Pv i σ H → g x σ H fun σ2 H2 => tb { D with nx := Pv (i + 1), ct := Pv (i + 1), bk := D.nx } σ2 H2) (hd : ∀ σ H, Pv xs.length σ H → D.nx σ H) :
    ∃ W : Nat → Nat → St → Hp → Prop, (∃ m, W 0 m σ H) ∧ ∀ i m σ H, W i m σ H →
      ((Itl K a).stop i H ∧ D.nx σ H) ∨ ((Itl K a).go i H ∧ ∃ N : St → Hp → Prop, (∀ σ' H', N σ' H' → ∃ m', m' < m ∧ W (i + 1) m' σ' H') ∧ ∀ x H', (Itl K a).yld i H x H' → g x σ H' fun σ2 H2 => tb { D with nx := N, ct := N, bk := D.nx } σ2 H2) := by
  refine ⟨fun i m σ H => m = xs.length - i ∧ i ≤ xs.length ∧ Pv i σ H, ⟨xs.length, by simp, Nat.zero_le _, h0⟩, ?_⟩
  rintro i m σ H ⟨rfl, hi, p⟩
  have q := hl i σ H hi p
  by_cases hlt : i < xs.length
  · refine .inr ⟨⟨xs, xs[i], q, by simp [hlt]⟩, Pv (i + 1), fun σ' H' p' => ⟨xs.length - (i + 1), by omega, rfl, hlt, p'⟩, fun x H' y => ?_⟩
    obtain ⟨e, y⟩ := y
    subst e
    exact hs i x σ _ (y xs q) p
  · have e : i = xs.length := by omega
    subst e
    exact .inl ⟨⟨xs, q, Nat.le_refl _⟩, hd σ H p⟩
theorem for_tup {K : PySem.W.Frag} {a : Addr} {xs : List V} {g : TG} {tb : TS} {D : Ends} {σ : St} {H : Hp} (Pv : Nat → St → Hp → Prop) (h0 : Pv 0 σ H) (hl : ∀ i σ H, i ≤ xs.length → Pv i σ H → SqT K H a xs)
    (hs : ∀ i x σ H, xs[i]? = some x → Pv i σ H → g x σ H fun σ2 H2 => tb { D with nx := Pv (i + 1), ct := Pv (i + 1), bk := D.nx } σ2 H2) (hd : ∀ σ H, Pv xs.length σ H → D.nx σ H) :
    ∃ W : Nat → Nat → St → Hp → Prop, (∃ m, W 0 m σ H) ∧ ∀ i m σ H, W i m σ H →
      ((Itt K a).stop i H ∧ D.nx σ H) ∨ ((Itt K a).go i H ∧ ∃ N : St → Hp → Prop, (∀ σ' H', N σ' H' → ∃ m', m' < m ∧ W (i + 1) m' σ' H') ∧ ∀ x H', (Itt K a).yld i H x H' → g x σ H' fun σ2 H2 => tb { D with nx := N, ct := N, bk := D.nx } σ2 H2) := by
  refine ⟨fun i m σ H => m = xs.length - i ∧ i ≤ xs.length ∧ Pv i σ H, ⟨xs.length, by simp, Nat.zero_le _, h0⟩, ?_⟩
  rintro i m σ H ⟨rfl, hi, p⟩
  have q := hl i σ H hi p
  by_cases hlt : i < xs.length
  · refine .inr ⟨⟨xs, xs[i], q, by simp [hlt]⟩, Pv (i + 1), fun σ' H' p' => ⟨xs.length - (i + 1), by omega, rfl, hlt, p'⟩, fun x H' y => ?_⟩
    obtain ⟨e, y⟩ := y
    subst e
    exact hs i x σ _ (y xs q) p
  · have e : i = xs.length := by omega
    subst e
    exact .inl ⟨⟨xs, q, Nat.le_refl _⟩, hd σ H p⟩
theorem for_range {lo : Int} {n : Nat} {g : TG} {tb : TS} {D : Ends} {σ : St} {H : Hp} (Pv : Nat → St → Hp → Prop) (h0 : Pv 0 σ H)
    (hs : ∀ i σ H, i < n → Pv i σ H → g (.int (lo + i)) σ H fun σ2 H2 => tb { D with nx := Pv (i + 1), ct := Pv (i + 1), bk := D.nx } σ2 H2) (hd : ∀ σ H, Pv n σ H → D.nx σ H) :
    ∃ W : Nat → Nat → St → Hp → Prop, (∃ m, W 0 m σ H) ∧ ∀ i m σ H, W i m σ H →
      ((Itr lo n).stop i H ∧ D.nx σ H) ∨ ((Itr lo n).go i H ∧ ∃ N : St → Hp → Prop, (∀ σ' H', N σ' H' → ∃ m', m' < m ∧ W (i + 1) m' σ' H') ∧ ∀ x H', (Itr lo n).yld i H x H' → g x σ H' fun σ2 H2 => tb { D with nx := N, ct := N, bk := D.nx } σ2 H2) := by
  refine ⟨fun i m σ H => m = n - i ∧ i ≤ n ∧ Pv i σ H, ⟨n, by simp, Nat.zero_le _, h0⟩, ?_⟩
  rintro i m σ H ⟨rfl, hi, p⟩
  by_cases hlt : i < n
  · refine .inr ⟨hlt, Pv (i + 1), fun σ' H' p' => ⟨n - (i + 1), by omega, rfl, hlt, p'⟩, fun x H' y => ?_⟩
    obtain ⟨e, y⟩ := y
    subst e y
    exact hs i σ _ hlt p
  · have e : i = n := by omega
    subst e
    exact .inl ⟨Nat.le_refl _, hd σ H p⟩
end L2

namespace L2
open PySem PySem.Spec PyProof.Rows

noncomputable abbrev R2 := V → V → Hp → VK → Prop
/-- a two-place operation on values: f is binaryOp op, inplaceOp op or compareOp op -/
noncomputable def OpR (X : Cx) (f : Value → Value → Sem Value) (r : R2) : Prop :=
  ∀ (pins : List (Addr × Obj)) (s : Shared) (σ : St) (H : Hp) (x y : V) (v u : Value) (Q : VK), Inv X pins σ H s → RelV x v → RelV y u → r x y H Q →
    wpAny (model X.prog X.w) X.A (f v u) (EP X pins σ Q) X.xe s
/-- a one-place operation -/
noncomputable def UnR (X : Cx) (f : Value → Sem Value) (r : V → Hp → VK → Prop) : Prop :=
  ∀ (pins : List (Addr × Obj)) (s : Shared) (σ : St) (H : Hp) (x : V) (v : Value) (Q : VK), Inv X pins σ H s → RelV x v → r x H Q →
    wpAny (model X.prog X.w) X.A (f v) (EP X pins σ Q) X.xe s
/-- a call of a value that is known (a builtin, a type) with values -/
noncomputable def CallR (X : Cx) (f : Value) (r : List V → Hp → VK → Prop) : Prop :=
  ∀ (pins : List (Addr × Obj)) (s : Shared) (σ : St) (H : Hp) (xs : List V) (us : List Value) (Q : VK), Inv X pins σ H s → Vals xs us → r xs H Q →
    wpAny (model X.prog X.w) X.A (call f us) (EP X pins σ Q) X.xe s
noncomputable def tOp (r : R2) (ta tb : TE) : TE := fun σ H Q => ta σ H fun x H1 => tb σ H1 fun y H2 => r x y H2 Q
noncomputable def tUn (r : V → Hp → VK → Prop) (ta : TE) : TE := fun σ H Q => ta σ H fun x H1 => r x H1 Q
/-- ints in, under C, and a value out -/
noncomputable def rI (C : Int → Int → Prop) (g : Int → Int → V) : R2 := fun x y H Q => ∃ i j, x = .int i ∧ y = .int j ∧ C i j ∧ Q (g i j) H
noncomputable def rI0 (g : Int → Int → V) : R2 := fun x y H Q => ∃ i j, x = .int i ∧ y = .int j ∧ Q (g i j) H
noncomputable def rU (g : Int → V) : V → Hp → VK → Prop := fun x H Q => ∃ i, x = .int i ∧ Q (g i) H

section
variable {X : Cx} {a b c : Expr} {ta tb tc : TE} {pos : Pos}

theorem binT (ha : PE X a ta) (hb : PE X b tb) {pins : List (Addr × Obj)} {s : Shared} {σ : St} {H : Hp} {R : V → V → Hp → Prop} (I : Inv X pins σ H s)
    (h : ta σ H fun x H1 => tb σ H1 fun y H2 => R x y H2) {Q : Value → Shared → Prop} {f : Value → Value → Sem Value}
    (hf : ∀ v u s2 x y H2, Inv X pins σ H2 s2 → RelV x v → RelV y u → R x y H2 → wpAny (model X.prog X.w) X.A (f v u) Q X.xe s2) :
    wpAny (model X.prog X.w) X.A (eval a X.env) (fun v s₁ => wpAny (model X.prog X.w) X.A (eval b X.env) (fun u s₂ => wpAny (model X.prog X.w) X.A (f v u) Q X.xe s₂) X.xe s₁) X.xe s := by
  refine thn (ha pins s σ H _ I h) fun v s1 ⟨x, H1, I1, r1, q1⟩ => ?_
  refine thn (hb pins s1 σ H1 _ I1 q1) fun u s2 ⟨y, H2, I2, r2, q2⟩ => ?_
  exact hf v u s2 x y H2 I2 r1 r2 q2

theorem pe_op {op : Operator} {r : R2} (ho : OpR X (binaryOp op) r) (ha : PE X a ta) (hb : PE X b tb) : PE X (.BinOp a op b pos) (tOp r ta tb) := by
  intro pins s σ H Q I h
  exact wpAny_BinOp (binT ha hb I h fun v u s2 x y H2 I2 rx ry q => ho pins s2 σ H2 x y v u Q I2 rx ry q)
theorem pe_un {op : UnaryOp} {r : V → Hp → VK → Prop} (ho : UnR X (unaryOp op) r) (ha : PE X a ta) : PE X (.UnaryOp op a pos) (tUn r ta) := by
  intro pins s σ H Q I h
  exact UnaryOp_ (thn (ha pins s σ H _ I h) fun v s1 ⟨x, H1, I1, r1, q1⟩ => ho pins s1 σ H1 x v Q I1 r1 q1)
/-! ### ints -/
theorem opI {f : Value → Value → Sem Value} {C : Int → Int → Prop} {g : Int → Int → Int}
    (rule : ∀ (i j : Int) (t u : Tok) (s : Shared) (Q : Value → Shared → Prop) (E : Value → Shared → Prop), C i j → Q (.int (g i j) s.toks) { s with toks := s.toks + 1 } → wpAny (model X.prog X.w) X.A (f (.int i t) (.int j u)) Q E s) :
    OpR X f (rI C fun i j => .int (g i j)) := by
  intro pins s σ H x y v u Q I rx ry h
  obtain ⟨i, j, rfl, rfl, hc, q⟩ := h
  obtain ⟨t, rfl⟩ := rx
  obtain ⟨t', rfl⟩ := ry
  exact rule i j t t' s _ _ hc ⟨.int (g i j), H, I.tok _, ⟨_, rfl⟩, q⟩
theorem opI0 {f : Value → Value → Sem Value} {g : Int → Int → Int}
    (rule : ∀ (i j : Int) (t u : Tok) (s : Shared) (Q : Value → Shared → Prop) (E : Value → Shared → Prop), Q (.int (g i j) s.toks) { s with toks := s.toks + 1 } → wpAny (model X.prog X.w) X.A (f (.int i t) (.int j u)) Q E s) :
    OpR X f (rI0 fun i j => .int (g i j)) := by
  intro pins s σ H x y v u Q I rx ry h
  obtain ⟨i, j, rfl, rfl, q⟩ := h
  obtain ⟨t, rfl⟩ := rx
  obtain ⟨t', rfl⟩ := ry
  exact rule i j t t' s _ _ ⟨.int (g i j), H, I.tok _, ⟨_, rfl⟩, q⟩
theorem opB0 {f : Value → Value → Sem Value} {g : Int → Int → Bool}
    (rule : ∀ (i j : Int) (t u : Tok) (s : Shared) (Q : Value → Shared → Prop) (E : Value → Shared → Prop), Q (.bool (g i j)) s → wpAny (model X.prog X.w) X.A (f (.int i t) (.int j u)) Q E s) :
    OpR X f (rI0 fun i j => .bl (g i j)) := by
  intro pins s σ H x y v u Q I rx ry h
  obtain ⟨i, j, rfl, rfl, q⟩ := h
  obtain ⟨t, rfl⟩ := rx
  obtain ⟨t', rfl⟩ := ry
  exact rule i j t t' s _ _ ⟨.bl (g i j), H, I, rfl, q⟩

noncomputable def CDiv (i j : Int) : Prop := 0 < j ∧ j < 1073741824
noncomputable def CPow (i j : Int) : Prop := 0 ≤ j ∧ j ≤ 1000000 ∧ i.natAbs < 2 ^ 64
noncomputable def CMul (i j : Int) : Prop := (-(2 ^ 64) < i ∧ i < 2 ^ 64) ∨ (-(2 ^ 64) < j ∧ j < 2 ^ 64)
theorem CMul.ok {i j : Int} (h : CMul i j) : IntMulOk i j := by
  rcases h with ⟨h1, h2⟩ | ⟨h1, h2⟩
  · exact .of_left (intBits_le_64 h1 h2)
  · exact .of_right (intBits_le_64 h1 h2)
theorem op_add : OpR X (binaryOp .Add) (rI0 fun i j => .int (i + j)) := opI0 fun _ _ _ _ _ _ _ q => add_int q
theorem op_sub : OpR X (binaryOp .Sub) (rI0 fun i j => .int (i - j)) := opI0 fun _ _ _ _ _ _ _ q => sub_int q
theorem op_mul : OpR X (binaryOp .Mult) (rI CMul fun i j => .int (i * j)) := opI fun _ _ _ _ _ _ _ hc q => mul_int q hc.ok
/-- // by a positive divisor -/
theorem op_fdiv : OpR X (binaryOp .FloorDiv) (rI CDiv fun i j => .int (i / j)) := opI fun i j _ _ _ _ _ hc q => by
  have h1 : (0 : Int) < j := hc.1
  have h2 : j < 1073741824 := hc.2
  exact floordiv_int (by omega) (by rw [Int.fdiv_eq_ediv_of_nonneg i (by omega)]; exact q) (.inl (PyProof.noPylong_small (by omega)))
/-- % by a positive divisor of any size -/
theorem op_mod : OpR X (binaryOp .Mod) (rI (fun _ j => 0 < j) fun i j => .int (i % j)) := opI fun i j _ _ _ _ _ hc q => by
  have h1 : (0 : Int) < j := hc
  exact mod_int' (by omega) (by rw [Int.fmod_eq_emod_of_nonneg i (by omega)]; exact q)
theorem op_pow : OpR X (binaryOp .Pow) (rI CPow fun i j => .int (i ^ j.toNat)) := opI fun _ _ _ _ _ _ _ hc q => pow_int_small hc.1 hc.2.1 hc.2.2 q
theorem unI {f : Value → Sem Value} {g : Int → Int}
    (rule : ∀ (i : Int) (t : Tok) (s : Shared) (Q : Value → Shared → Prop) (E : Value → Shared → Prop), Q (.int (g i) s.toks) { s with toks := s.toks + 1 } → wpAny (model X.prog X.w) X.A (f (.int i t)) Q E s) :
    UnR X f (rU fun i => .int (g i)) := by
  intro pins s σ H x v Q I rx h
  obtain ⟨i, rfl, q⟩ := h
  obtain ⟨t, rfl⟩ := rx
  exact rule i t s _ _ ⟨.int (g i), H, I.tok _, ⟨_, rfl⟩, q⟩
theorem un_neg : UnR X (unaryOp .USub) (rU fun i => .int (-i)) := unI fun _ _ _ _ _ q => neg_int q
/-! ### bools among ints: n += (a < b) -/
end

/-! ### comparisons -/
/-- the scalars that == tells apart as data does -/
noncomputable def scal : V → V → Bool
  | .non, .non => true | .non, .int _ => true | .int _, .non => true | .non, .bl _ => true | .bl _, .non => true | .non, .str _ => true | .str _, .non => true
  | .int _, .int _ => true | .bl _, .bl _ => true | .str _, .str _ => true | .byt _, .byt _ => true
  | .int _, .str _ => true | .str _, .int _ => true | .bl _, .str _ => true | .str _, .bl _ => true
  | _, _ => false
noncomputable def rEq : R2 := fun x y H Q => scal x y = true ∧ Q (.bl (decide (x = y))) H
noncomputable def rNe : R2 := fun x y H Q => scal x y = true ∧ Q (.bl (!decide (x = y))) H

theorem dec_int {i j : Int} : decide (V.int i = V.int j) = (i == j) := by
  rw [Bool.eq_iff_iff]
  simp
theorem dec_bl {i j : Bool} : decide (V.bl i = V.bl j) = (i == j) := by
  rw [Bool.eq_iff_iff]
  simp
theorem dec_str {i j : Str} : decide (V.str i = V.str j) = (i == j) := by
  rw [Bool.eq_iff_iff]
  simp
theorem dec_byt {i j : Array UInt8} : decide (V.byt i = V.byt j) = (i.toList == j.toList) := by
  rw [Bool.eq_iff_iff]
  cases i
  cases j
  simp

section
variable {X : Cx} {a b c : Expr} {ta tb tc : TE} {pos : Pos}
theorem fin_bl {pins : List (Addr × Obj)} {σ : St} {H : Hp} {s : Shared} {Q : VK} {k k' : Bool} (I : Inv X pins σ H s) (q : Q (.bl k) H) (e : k = k') : EP X pins σ Q (.bool k') s := by
  subst e
  exact ⟨.bl k, H, I, rfl, q⟩
theorem op_eq : OpR X (compareOp .Eq) rEq := by
  intro pins s σ H x y v u Q I rx ry h
  obtain ⟨hs, q⟩ := h
  cases x with
  | non =>
    cases rx
    cases y with
    | non => cases ry; exact PySem.EqNone.eq_none_none (fin_bl I q (by simp))
    | bl j => cases ry; exact PySem.EqNone.eq_none_bool (fin_bl I q (by simp))
    | int j => obtain ⟨t', rfl⟩ := ry; exact PySem.EqNone.eq_none_int (fin_bl I q (by simp))
    | str j => obtain ⟨t', rfl⟩ := ry; exact PySem.EqNone.eq_none_str (fin_bl I q (by simp))
    | _ => exact absurd (show false = true from hs) Bool.false_ne_true
  | bl i =>
    cases rx
    cases y with
    | non => cases ry; exact PySem.EqNone.eq_bool_none (fin_bl I q (by simp))
    | bl j => cases ry; exact eq_bool (fin_bl I q dec_bl)
    | str j => obtain ⟨t', rfl⟩ := ry; exact PySem.EqMixed.eq_bool_str (fin_bl I q (by simp))
    | _ => exact absurd (show false = true from hs) Bool.false_ne_true
  | int i =>
    obtain ⟨t, rfl⟩ := rx
    cases y with
    | non => cases ry; exact PySem.EqNone.eq_int_none (fin_bl I q (by simp))
    | int j => obtain ⟨t', rfl⟩ := ry; exact eq_int (fin_bl I q dec_int)
    | str j => obtain ⟨t', rfl⟩ := ry; exact PySem.EqMixed.eq_int_str (fin_bl I q (by simp))
    | _ => exact absurd (show false = true from hs) Bool.false_ne_true
  | str i =>
    obtain ⟨t, rfl⟩ := rx
    cases y with
    | non => cases ry; exact PySem.EqNone.eq_str_none (fin_bl I q (by simp))
    | bl j => cases ry; exact PySem.EqMixed.eq_str_bool (fin_bl I q (by simp))
    | int j => obtain ⟨t', rfl⟩ := ry; exact PySem.EqMixed.eq_str_int (fin_bl I q (by simp))
    | str j => obtain ⟨t', rfl⟩ := ry; exact eq_str (fin_bl I q dec_str)
    | _ => exact absurd (show false = true from hs) Bool.false_ne_true
  | byt i =>
    obtain ⟨t, rfl⟩ := rx
    cases y with
    | byt j => obtain ⟨t', rfl⟩ := ry; exact PySem.W.eq_bytes (fin_bl I q dec_byt)
    | _ => exact absurd (show false = true from hs) Bool.false_ne_true
  | _ => cases y <;> exact absurd (show false = true from hs) Bool.false_ne_true
theorem op_ne : OpR X (compareOp .NotEq) rNe := by
  intro pins s σ H x y v u Q I rx ry h
  obtain ⟨hs, q⟩ := h
  cases x with
  | non =>
    cases rx
    cases y with
    | non => cases ry; exact PySem.EqNone.ne_none_none (fin_bl I q (by simp))
    | bl j => cases ry; exact PySem.EqNone.ne_none_bool (fin_bl I q (by simp))
    | int j => obtain ⟨t', rfl⟩ := ry; exact PySem.EqNone.ne_none_int (fin_bl I q (by simp))
    | str j => obtain ⟨t', rfl⟩ := ry; exact PySem.EqNone.ne_none_str (fin_bl I q (by simp))
    | _ => exact absurd (show false = true from hs) Bool.false_ne_true
  | bl i =>
    cases rx
    cases y with
    | non => cases ry; exact PySem.EqNone.ne_bool_none (fin_bl I q (by simp))
    | bl j => cases ry; exact ne_bool (fin_bl I q (congrArg not dec_bl))
    | str j => obtain ⟨t', rfl⟩ := ry; exact PySem.EqMixed.ne_bool_str (fin_bl I q (by simp))
    | _ => exact absurd (show false = true from hs) Bool.false_ne_true
  | int i =>
    obtain ⟨t, rfl⟩ := rx
    cases y with
    | non => cases ry; exact PySem.EqNone.ne_int_none (fin_bl I q (by simp))
    | int j => obtain ⟨t', rfl⟩ := ry; exact ne_int (fin_bl I q (congrArg not dec_int))
    | str j => obtain ⟨t', rfl⟩ := ry; exact PySem.EqMixed.ne_int_str (fin_bl I q (by simp))
    | _ => exact absurd (show false = true from hs) Bool.false_ne_true
  | str i =>
    obtain ⟨t, rfl⟩ := rx
    cases y with
    | non => cases ry; exact PySem.EqNone.ne_str_none (fin_bl I q (by simp))
    | bl j => cases ry; exact PySem.EqMixed.ne_str_bool (fin_bl I q (by simp))
    | int j => obtain ⟨t', rfl⟩ := ry; exact PySem.EqMixed.ne_str_int (fin_bl I q (by simp))
    | str j => obtain ⟨t', rfl⟩ := ry; exact ne_str (fin_bl I q (congrArg not dec_str))
    | _ => exact absurd (show false = true from hs) Bool.false_ne_true
  | byt i =>
    obtain ⟨t, rfl⟩ := rx
    cases y with
    | byt j => obtain ⟨t', rfl⟩ := ry; exact PySem.W.ne_bytes (fin_bl I q (congrArg not dec_byt))
    | _ => exact absurd (show false = true from hs) Bool.false_ne_true
  | _ => cases y <;> exact absurd (show false = true from hs) Bool.false_ne_true

theorem op_lt : OpR X (compareOp .Lt) (rI0 fun i j => .bl (decide (i < j))) := opB0 fun _ _ _ _ _ _ _ q => lt_int q
theorem op_le : OpR X (compareOp .LtE) (rI0 fun i j => .bl (decide (i ≤ j))) := opB0 fun _ _ _ _ _ _ _ q => le_int q
theorem op_gt : OpR X (compareOp .Gt) (rI0 fun i j => .bl (decide (j < i))) := opB0 fun _ _ _ _ _ _ _ q => gt_int q
theorem op_lt_str : OpR X (compareOp .Lt) (fun x y H Q => ∃ i j, x = .str i ∧ y = .str j ∧ Q (.bl (decide (i.cps.toList < j.cps.toList))) H) := by
  intro pins s σ H x y v u Q I rx ry h
  obtain ⟨i, j, rfl, rfl, q⟩ := h
  obtain ⟨t, rfl⟩ := rx
  obtain ⟨t', rfl⟩ := ry
  exact lt_str (fin_bl I q rfl)
theorem op_notN : OpR X (compareOp .IsNot) (fun x y H Q => y = .non ∧ Q (.bl (!decide (x = .non))) H) := by
  intro pins s σ H x y v u Q I rx ry h
  obtain ⟨rfl, q⟩ := h
  cases ry
  refine isnot_none_gen (fin_bl I q ?_)
  cases x <;> first
    | (cases rx; rfl)
    | (obtain ⟨t, rfl⟩ := rx; rfl)

theorem nomark (b : Expr) {op : CmpOp} (h : op ≠ .In := by decide) (h2 : op ≠ .NotIn := by decide) : behindInMarks op b = false := by
  have e1 : (op == CmpOp.In) = false := by cases op <;> first | rfl | exact absurd rfl h
  have e2 : (op == CmpOp.NotIn) = false := by cases op <;> first | rfl | exact absurd rfl h2
  cases b <;> simp [behindInMarks, e1, e2]
/-- a comparison as a value; hm: nomark b, or (for in, not in) by with_unfolding_all rfl -/
theorem pe_cmpR {op : CmpOp} {r : R2} (ho : OpR X (compareOp op) r) (ha : PE X a ta) (hb : PE X b tb) (hm : behindInMarks op b = false) : PE X (.Compare a [op] [b] pos) (tOp r ta tb) := by
  intro pins s σ H Q I h
  exact wpAny_Compare1 (binT ha hb I h fun v u s2 x y H2 I2 rx ry q => ho pins s2 σ H2 x y v u Q I2 rx ry q) hm
/-- a reading of a value as a test -/
noncomputable def tTest (t : TE) : TT := fun σ H Q => t σ H fun x H' => ∃ k, x = .bl k ∧ Q k H'
theorem pt_cmpR {op : CmpOp} {r : R2} (ho : OpR X (compareOp op) r) (ha : PE X a ta) (hb : PE X b tb) (hm : behindInMarks op b = false) : PT X (.Compare a [op] [b] pos) (tTest (tOp r ta tb)) := by
  intro pins s σ H Q I h
  refine wpAny_isTrue_Compare1 (thn (ha pins s σ H _ I h) fun v s1 ⟨x, H1, I1, r1, q1⟩ => thn (hb pins s1 σ H1 _ I1 q1) fun u s2 ⟨y, H2, I2, r2, q2⟩ =>
    thn (ho pins s2 σ H2 x y v u _ I2 r1 r2 q2) fun c s3 ⟨z, H3, I3, r3, k, e, q3⟩ => ?_) hm
  subst e
  cases r3
  exact wpAny_truthy_bool ⟨H3, I3, q3⟩
/-- a op1 b op2 c -/
noncomputable def tChain (r r' : R2) (ta tb tc : TE) : TE := fun σ H Q => ta σ H fun x H1 => tb σ H1 fun y H2 => r x y H2 fun z H3 => ∃ k, z = .bl k ∧
  (if k = true then tc σ H3 fun w' H4 => r' y w' H4 Q else Q (.bl false) H3)
theorem pe_chain {op op' : CmpOp} {r r' : R2} (ho : OpR X (compareOp op) r) (ho' : OpR X (compareOp op') r') (ha : PE X a ta) (hb : PE X b tb) (hc : PE X c tc)
    (hm : lastMarks [op, op'] [b, c] = false := by with_unfolding_all rfl) : PE X (.Compare a [op, op'] [b, c] pos) (tChain r r' ta tb tc) := by
  intro pins s σ H Q I h
  refine Compare_chain (thn (ha pins s σ H _ I h) fun v s1 ⟨x, H1, I1, r1, q1⟩ => chain_link (thn (hb pins s1 σ H1 _ I1 q1) fun u s2 ⟨y, H2, I2, r2, q2⟩ =>
    thn (ho pins s2 σ H2 x y v u _ I2 r1 r2 q2) fun d s3 ⟨z, H3, I3, r3, k, e, q3⟩ => ?_)) hm
  subst e
  cases r3
  refine wpAny_truthy_bool ?_
  cases k with
  | false => exact ite_ff ⟨.bl false, H3, I3, rfl, q3⟩
  | true => exact ite_tt (chain_last (thn (hc pins s3 σ H3 _ I3 q3) fun w' s4 ⟨z', H4, I4, r4, q4⟩ => ho' pins s4 σ H4 y z' u w' Q I4 r2 r4 q4))
theorem pt_chain {op op' : CmpOp} {r r' : R2} (ho : OpR X (compareOp op) r) (ho' : OpR X (compareOp op') r') (ha : PE X a ta) (hb : PE X b tb) (hc : PE X c tc)
    (hm : lastMarks [op, op'] [b, c] = false := by with_unfolding_all rfl) : PT X (.Compare a [op, op'] [b, c] pos) (tTest (tChain r r' ta tb tc)) := by
  intro pins s σ H Q I h
  refine isTrue_chain (thn (ha pins s σ H _ I h) fun v s1 ⟨x, H1, I1, r1, q1⟩ => test_link (thn (hb pins s1 σ H1 _ I1 q1) fun u s2 ⟨y, H2, I2, r2, q2⟩ =>
    thn (ho pins s2 σ H2 x y v u _ I2 r1 r2 q2) fun d s3 ⟨z, H3, I3, r3, k, e, q3⟩ => ?_)) hm
  subst e
  cases r3
  refine wpAny_truthy_bool ?_
  cases k with
  | false =>
    obtain ⟨k', e', q'⟩ := q3
    cases e'
    exact ite_ff ⟨H3, I3, q'⟩
  | true =>
    refine ite_tt (test_last (thn (hc pins s3 σ H3 _ I3 q3) fun w' s4 ⟨z', H4, I4, r4, q4⟩ => thn (ho' pins s4 σ H4 y z' u w' _ I4 r2 r4 q4) fun d' s5 ⟨z2, H5, I5, r5, k2, e2, q5⟩ => ?_))
    subst e2
    cases r5
    exact wpAny_truthy_bool ⟨H5, I5, q5⟩

/-! ### truth -/
theorem line63 : (sizeLine : Nat) < 2 ^ 63 := by rw [sizeLine_eq]; decide
/-! ### strs and bytes -/
theorem op_add_str : OpR X (binaryOp .Add) (fun x y H Q => ∃ i j, x = .str i ∧ y = .str j ∧ i.length + j.length ≤ sizeLine ∧ Q (.str (i ++ j)) H) := by
  intro pins s σ H x y v u Q I rx ry h
  obtain ⟨i, j, rfl, rfl, hz, q⟩ := h
  obtain ⟨t, rfl⟩ := rx
  obtain ⟨t', rfl⟩ := ry
  exact add_str (fun t' tk => ⟨.str (i ++ j), H, I.tok _, ⟨_, rfl⟩, q⟩) hz
/-! ### scalar builtins, by CallR -/
theorem vals1 {x : V} {us : List Value} (r : Vals [x] us) : ∃ u, us = [u] ∧ RelV x u := by
  cases r with
  | cons r1 r2 => cases r2; exact ⟨_, rfl, r1⟩
theorem vals2 {x y : V} {us : List Value} (r : Vals [x, y] us) : ∃ u w', us = [u, w'] ∧ RelV x u ∧ RelV y w' := by
  cases r with
  | cons r1 r2 =>
    cases r2 with
    | cons r3 r4 => cases r4; exact ⟨_, _, rfl, r1, r3⟩
theorem call_max2 (hc : X.calm = true) : CallR X (.builtin "max") (fun xs H Q => ∃ i j, xs = [.int i, .int j] ∧ Q (.int (if j > i then j else i)) H) := by
  intro pins s σ H xs us Q I r h
  obtain ⟨i, j, rfl, q⟩ := h
  obtain ⟨u, w', rfl, ⟨t, rfl⟩, ⟨t', rfl⟩⟩ := vals2 r
  refine max_two_ints (I.ok.hd hc) fun h' tk k => ⟨_, H, I.kept k, ?_, q⟩
  by_cases hj : j > i
  · rw [if_pos hj, if_pos hj]; exact ⟨_, rfl⟩
  · rw [if_neg hj, if_neg hj]; exact ⟨_, rfl⟩
theorem call_min2 (hc : X.calm = true) : CallR X (.builtin "min") (fun xs H Q => ∃ i j, xs = [.int i, .int j] ∧ Q (.int (if j < i then j else i)) H) := by
  intro pins s σ H xs us Q I r h
  obtain ⟨i, j, rfl, q⟩ := h
  obtain ⟨u, w', rfl, ⟨t, rfl⟩, ⟨t', rfl⟩⟩ := vals2 r
  refine min_two_ints (I.ok.hd hc) fun h' tk k => ⟨_, H, I.kept k, ?_, q⟩
  by_cases hj : j < i
  · rw [if_pos hj, if_pos hj]; exact ⟨_, rfl⟩
  · rw [if_neg hj, if_neg hj]; exact ⟨_, rfl⟩
theorem call_int1 : CallR X (.type "int") (fun xs H Q => (∃ i, xs = [.int i] ∧ Q (.int i) H) ∨ ∃ k, xs = [.bl k] ∧ Q (.int (if k then 1 else 0)) H) := by
  intro pins s σ H xs us Q I r h
  rcases h with ⟨i, rfl, q⟩ | ⟨k, rfl, q⟩
  · obtain ⟨u, rfl, t, rfl⟩ := vals1 r
    exact call_int_int ⟨.int i, H, I, ⟨_, rfl⟩, q⟩
  · obtain ⟨u, rfl, r1⟩ := vals1 r
    cases r1
    exact call_int_bool ⟨.int (if k then 1 else 0), H, I.tok _, ⟨_, rfl⟩, q⟩
/-- divmod: a new tuple -/
theorem call_divmod : CallR X (.builtin "divmod") (fun xs H Q => ∃ i j, xs = [.int i, .int j] ∧ CDiv i j ∧ ∀ p, H p = none → Q (.ref p) (upd H p (.tup [.int (i / j), .int (i % j)]))) := by
  intro pins s σ H xs us Q I r h
  obtain ⟨i, j, rfl, ⟨h1, h2⟩, q⟩ := h
  obtain ⟨u, w', rfl, ⟨t, rfl⟩, ⟨t', rfl⟩⟩ := vals2 r
  refine divmod_int (by omega) ?_ (.inl (PyProof.noPylong_small (by omega)))
  rw [Int.fdiv_eq_ediv_of_nonneg i (by omega), Int.fmod_eq_emod_of_nonneg i (by omega)]
  have hn : H s.heap.objs.size = none := I.hok.fresh (Nat.le_refl _)
  refine ⟨.ref s.heap.objs.size, _, ?_, rfl, q _ hn⟩
  refine I.laid (fun b o e => Heap.get?_push_of_some _ e) (Nat.le_refl _) ⟨by simp only [List.length_cons, List.length_nil]; rw [sizeLine_eq]; decide, [.int (i / j) s.toks, .int (i % j) (s.toks + 1)], .cons ⟨_, rfl⟩ (.cons ⟨_, rfl⟩ .nil), ?_⟩
  exact ⟨_, Heap.get?_push_size s.heap rfl, rfl, 0, rfl⟩
end
end L2

namespace L2
open PySem PySem.Spec PyProof.Rows

/-! ### an instance, its attributes a map -/
structure ObjM (h : Heap) (x dx C : Addr) (mA : Str → Option Value) : Prop where
  obj : h.get? x = some (PySem.W.instObj C dx)
  ns : h.Ns1 dx mA
  ne : dx ≠ x

theorem lookIn_ns {h : Heap} {dx : Addr} {mA : Str → Option Value} (n : h.Ns1 dx mA) : ∃ od, h.get? dx = some od ∧ ∀ name, PySem.W.lookIn name od = some (mA name) := by
  obtain ⟨o, es, ep, ho, hd, hk, _, hm⟩ := n
  refine ⟨o, ho, fun name => ?_⟩
  have e := hm name
  unfold nsFind findBy at e
  rw [← Array.find?_toList] at e
  unfold PySem.W.lookIn
  rw [hd]
  dsimp only
  split
  · rename_i y q
    rw [q] at e
    exact congrArg some e
  · rename_i q
    rw [q] at e
    have a : es.toList.any (·.refKey) = false := by
      rw [List.any_eq_false]
      intro y hy
      obtain ⟨z, t, hkey⟩ := hk y (Array.mem_toList_iff.mp hy)
      simp [DictEntry.refKey, hkey]
    have a' : ¬ es.toList.any (·.refKey) = true := by rw [a]; exact Bool.false_ne_true
    rw [if_neg a']
    exact congrArg some e

theorem ObjM.look {h : Heap} {x dx C : Addr} {mA : Str → Option Value} (I : ObjM h x dx C mA) : ∃ od, PySem.W.InstAt h x (PySem.W.instObj C dx) C (some od) ∧ ∀ name, PySem.W.lookIn name od = some (mA name) :=
  let ⟨od, ho, hl⟩ := lookIn_ns I.ns
  ⟨od, ⟨I.obj, rfl, rfl, ho⟩, hl⟩

section
variable {prog : Program} {w : World} {A : Around} {E : Value → Shared → Prop} {s : Shared} {K : PySem.W.Frag} {x dx C f : Addr} {mA : Str → Option Value} {name : Str} {v : Value}

end

/-! ### the attributes as a list of pairs -/
theorem RelO.some_of {v : V} {o : Option Value} (r : RelO (some v) o) : ∃ u, o = some u ∧ RelV v u := by
  cases o with
  | none => exact (show False from r).elim
  | some u => exact ⟨u, rfl, r⟩
section
variable {P : Program} {w : World} {H H' : Hp} {h h' : Heap} {a C dx : Addr} {fs fs' : List (Str × V)}
theorem ins_get (hok : HOk P w H h) (e : H a = some (.ins C dx fs)) : ∃ mA, ObjM h a dx C mA ∧ (∀ f, RelO (fs.lookup f) (mA f)) ∧ PySem.Within mA (fs.map (·.1)) ∧ fs.length ≤ 1000 ∧ H dx = some (.own a) := by
  obtain ⟨d, z, ne, ob, mA, n, r, q⟩ := (show ObjOk P w H h a (.ins C dx fs) from hok a _ e)
  exact ⟨mA, ⟨ob, n, ne⟩, r, q, z, d⟩
end

/-! ### what of the text a class must have -/
structure Cls (K : PySem.W.Frag) (C : Addr) : Prop where
  pg : PySem.W.plainGet K C Str.empty = true
  hd : PySem.W.hasDictIn K C = true
  po : PySem.W.plainOver K C = true
  sa : PySem.W.findIn K (.ref C) "__setattr__" = some (some (.builtin "object.__setattr__"))
theorem Cls.get {K : PySem.W.Frag} {C : Addr} (c : Cls K C) (f : Str) : PySem.W.plainGet K C f = true := c.pg
/-- a constant of the class -/
structure Con (K : PySem.W.Frag) (C : Addr) (f : Str) (v : V) (u : Value) : Prop where
  at_ : PySem.W.findIn K (.ref C) f = some (some u)
  rel : RelV v u
  get : PySem.W.specialIn K u "__get__" = some none
  cp : PySem.W.copiedNames.contains f = false
/-- a method: a plain def of the class or of one above it -/
structure Meth (K : PySem.W.Frag) (C : Addr) (m : Str) (f : Addr) : Prop where
  at_ : PySem.W.findIn K (.ref C) m = some (some (.ref f))
  fn : PySem.W.isFn K (.ref f) = true
  kp : PySem.W.keepIn K (.ref f) = true

section
variable {X : Cx} {pins : List (Addr × Obj)} {σ : St} {H : Hp} {s : Shared} {a C dx : Addr} {fs : List (Str × V)} {f : Str} {v : V} {A : Around} {E : Value → Shared → Prop}

end

/-! ### readings and rules -/
section
variable {X : Cx} {o e value : Expr} {f : Str} {pos pos' tpos : Pos} {ta tv : TE}
end

/-! ### isinstance -/
section
variable {X : Cx} {pins : List (Addr × Obj)} {σ : St} {H : Hp} {s : Shared} {A : Around} {E : Value → Shared → Prop} {Q : Value → Shared → Prop} {c : Value} {b : Bool}
/-- the type of a value, as the fragment's deciders take it; for an instance its class -/
inductive TyOf (K : PySem.W.Frag) (H : Hp) : V → Value → Prop where
  | non : TyOf K H .non (.type "NoneType")
  | bl (x : Bool) : TyOf K H (.bl x) (.type "bool")
  | int (i : Int) : TyOf K H (.int i) (.type "int")
  | str (x : Str) : TyOf K H (.str x) (.type "str")
  | flt (x : UInt64) : TyOf K H (.flt x) (.type "float")
  | lst {a : Addr} {xs : List V} (e : H a = some (.lst xs)) : TyOf K H (.ref a) (.type "list")
  | frz {a : Addr} {o : Obj} {xs : List V} (e : H a = some (.frz o (.lst xs))) : TyOf K H (.ref a) (.type "list")
  | tup {a : Addr} {xs : List V} (e : H a = some (.tup xs)) : TyOf K H (.ref a) (.type "tuple")
  | dK {a : Addr} {kvs : List (Key × V)} (e : H a = some (.dK kvs)) : TyOf K H (.ref a) (.type "dict")
  | dT {a : Addr} {kvs : List (List Key × V)} (e : H a = some (.dT kvs)) : TyOf K H (.ref a) (.type "dict")
  | ins {a C dx : Addr} {fs : List (Str × V)} (e : H a = some (.ins C dx fs)) (cl : Cls K C) (ha : PySem.W.findIn K (.ref C) "__class__" = some (some (.builtin "object.__class__")))
      (hn : PySem.W.specialIn K (.builtin "object.__class__") "__get__" = some (some (.builtin "getset_descriptor.__get__"))) (htk : PySem.W.takesIn K (.builtin "object.__class__") = some true)
      (hm : PySem.W.mroIn K C (.type "object") = some true) : TyOf K H (.ref a) (.ref C)
/-- isinstance(x, c) for one class c, a built-in or an own one: kitOne's answer -/
theorem isinst_ok {x : V} {u t : Value} (I : Inv X pins σ H s) (rx : RelV x u) (ty : TyOf X.K H x t) (e : PySem.W.kitOne X.K t c = some b) (h : ∀ tk, Q (.bool b) { s with toks := tk }) :
    wpAny (model X.prog X.w) A (call (.builtin "isinstance") [u, c]) Q E s := by
  cases ty with
  | non => cases (show u = Value.none from rx); exact PySem.W.kia_one PySem.W.kitx_none I.kIn True.intro e (fun z => nomatch z) h
  | bl y => cases (show u = Value.bool y from rx); exact PySem.W.kia_one PySem.W.kitx_bool I.kIn True.intro e (fun z => nomatch z) h
  | int i => obtain ⟨t, q⟩ := (show ∃ t, u = Value.int i t from rx); cases q; exact PySem.W.kia_one PySem.W.kitx_int I.kIn True.intro e (fun z => nomatch z) h
  | str y => obtain ⟨t, q⟩ := (show ∃ t, u = Value.str y t from rx); cases q; exact PySem.W.kia_one PySem.W.kitx_str I.kIn True.intro e (fun z => nomatch z) h
  | flt y => obtain ⟨t, q⟩ := (show ∃ t, u = Value.float y t from rx); cases q; exact PySem.W.kia_one PySem.W.kitx_float I.kIn True.intro e (fun z => nomatch z) h
  | @lst a xs ea =>
    cases (show u = Value.ref a from rx)
    obtain ⟨_, _, n, _, h1⟩ := (show ObjOk X.prog X.w H s.heap a (.lst xs) from I.hok a _ ea)
    exact PySem.W.kia_one PySem.W.kitx_list I.kIn ⟨_, h1, rfl⟩ e (fun z => nomatch z) h
  | @frz a ob xs ea =>
    cases (show u = Value.ref a from rx)
    obtain ⟨_, _, _, n, _, h1⟩ := (show ObjOk X.prog X.w H s.heap a (.frz ob (.lst xs)) from I.hok a _ ea)
    exact PySem.W.kia_one PySem.W.kitx_list I.kIn ⟨_, h1, rfl⟩ e (fun z => nomatch z) h
  | @tup a xs ea =>
    cases (show u = Value.ref a from rx)
    obtain ⟨_, _, _, p⟩ := (show ObjOk X.prog X.w H s.heap a (.tup xs) from I.hok a _ ea)
    obtain ⟨o, h1, h2, _⟩ := p
    exact PySem.W.kia_one PySem.W.kitx_tuple I.kIn ⟨o, h1, h2⟩ e (fun z => nomatch z) h
  | @dK a kvs ea =>
    cases (show u = Value.ref a from rx)
    obtain ⟨_, _, vs, _, p⟩ := (show ObjOk X.prog X.w H s.heap a (.dK kvs) from I.hok a _ ea)
    obtain ⟨o, es, ep, h1, h2, _⟩ := p
    exact PySem.W.kia_one PySem.W.kitx_dict I.kIn ⟨o, h1, h2.1⟩ e (fun z => nomatch z) h
  | @dT a kvs ea =>
    cases (show u = Value.ref a from rx)
    obtain ⟨_, _, xs, _, o, es, ep, h1, h2, _⟩ := (show ObjOk X.prog X.w H s.heap a (.dT kvs) from I.hok a _ ea)
    exact PySem.W.kia_one PySem.W.kitx_dict I.kIn ⟨o, h1, h2.1⟩ e (fun z => nomatch z) h
  | @ins a C dx fs ea cl ha hn htk hm =>
    cases (show u = Value.ref a from rx)
    obtain ⟨mA, O, _⟩ := ins_get I.hok ea
    obtain ⟨od, J, _⟩ := O.look
    exact PySem.W.kia_one (PySem.W.kitx_own (cl.get _) cl.hd ha hn htk hm) I.kIn J e (fun z => nomatch z) h
end
end L2

namespace L2
open PySem PySem.Spec PyProof.Rows

/-! ### room -/
structure Room (k : Nat) (A : Around) : Prop where
  hd : A.handled = none
  dp : A.depth + 3 * k + 5 < recursionLimit
  un : A.units + 16 * k + 200 < cLine
  gd : A.guards = some []
theorem Room.mono {j k : Nat} {A : Around} (r : Room k A) (h : j ≤ k) : Room j A := ⟨r.hd, by have := r.dp; omega, by have := r.un; omega, r.gd⟩
theorem Room.deeper {k : Nat} {A : Around} (r : Room (k + 1) A) (env : Env) : Room k (A.deeper env) :=
  ⟨r.hd, by have := r.dp; show A.depth + 1 + 3 * k + 5 < _; omega, by have := r.un; show A.units + 3 + 16 * k + 200 < _; omega, r.gd⟩
theorem Room.depth {k : Nat} {A : Around} (r : Room k A) : A.depth < recursionLimit := by have := r.dp; omega
theorem Room.units {k : Nat} {A : Around} (r : Room k A) : A.units + 64 < cLine := by have := r.un; omega
/-! ### argument lists and displays -/
noncomputable def tNil : TA := fun _ H Q => Q [] H
noncomputable def tCons (ta : TE) (tr : TA) : TA := fun σ H Q => ta σ H fun x H1 => tr σ H1 fun xs H2 => Q (x :: xs) H2
section
variable {X : Cx} {e : Expr} {es : List Expr} {te : TE} {t : TA} {pos : Pos}
theorem pa_nil : PA X [] tNil := fun _ _ _ _ H Q I h => Calls.spliced_nil ⟨[], H, I, .nil, h⟩
theorem pa_cons (ha : PE X e te) (hr : PA X es t) (hs : starEach (e :: es) X.env = (false, eval e X.env) :: starEach es X.env := by rfl) : PA X (e :: es) (tCons te t) := by
  intro pos pins s σ H Q I h
  rw [hs]
  show wpAny _ _ (spliced ((false, eval e X.env) :: backTo pos (starEach es X.env))) _ _ s
  refine Calls.spliced_cons (thn (ha pins s σ H _ I h) fun u s1 ⟨x, H1, I1, r1, q1⟩ => ?_)
  exact thn (hr pos pins s1 σ H1 _ I1 q1) fun us s2 ⟨xs, H2, I2, r2, q2⟩ => ⟨x :: xs, H2, I2, .cons r1 r2, q2⟩

/-- a tuple, a list of written items -/
noncomputable def tTup (t : TA) : TE := fun σ H Q => t σ H fun xs H1 => xs.length ≤ sizeLine ∧ ∀ p, H1 p = none → Q (.ref p) (upd H1 p (.tup xs))
noncomputable def tLst (t : TA) : TE := fun σ H Q => t σ H fun xs H1 => xs.length ≤ sizeLine ∧ ∀ p, H1 p = none → Q (.ref p) (upd H1 p (.lst xs))
theorem pe_tup {x1} (h : PA X es t) : PE X (.Tuple es x1 pos) (tTup t) := by
  intro pins s σ H Q I hq
  refine wpAny_Tuple_spliced (thn (h pos pins s σ H _ I hq) fun us s1 ⟨xs, H1, I1, r, z, q⟩ => ⟨by rw [← r.length]; exact z, ?_⟩)
  have hf : H1 s1.heap.objs.size = none := I1.hok.fresh (Nat.le_refl _)
  refine ⟨.ref s1.heap.objs.size, upd H1 s1.heap.objs.size (.tup xs), I1.laid (t' := s1.toks) (fun b u e => Heap.get?_push_of_some _ e) (Nat.le_refl _) ?_, rfl, q _ hf⟩
  exact ⟨z, us, r, ⟨_, Heap.get?_push_size _ rfl, rfl, _, rfl⟩⟩
theorem pe_lst (h : PA X es t) : PE X (.List es pos) (tLst t) := by
  intro pins s σ H Q I hq
  refine wpAny_List_spliced (thn (h pos pins s σ H _ I hq) fun us s1 ⟨xs, H1, I1, r, z, q⟩ => ⟨by rw [← r.length]; exact z, ?_⟩)
  have hf : H1 s1.heap.objs.size = none := I1.hok.fresh (Nat.le_refl _)
  refine ⟨.ref s1.heap.objs.size, upd H1 s1.heap.objs.size (.lst xs), I1.laid (t' := s1.toks) (fun b u e => Heap.get?_push_of_some _ e) (Nat.le_refl _) ?_, rfl, q _ hf⟩
  exact ⟨z, us, 0, r, Heap.get?_push_size _ rfl⟩
end

/-! ### what a def promises -/
/-- a def's promise: the bound arguments in the parameters' order, the heap, the wanted end, the wanted exception -/
noncomputable abbrev Sp := List V → Hp → VK → XK → Prop
/-- how an exception lies behind a call (file 08 gives it): the callers' frames, abstract heap and state ahead of the call, the wish, the exception, the state -/
noncomputable abbrev CXT := List Env → Hp → Shared → XK → Value → Shared → Prop

/-- the state at a call -/
structure Env0 (P : Program) (w : World) (K : PySem.W.Frag) (mg : Str → Option Value) (base : Heap) (A : Around) (outer : List Env) (s : Shared) (H : Hp) : Prop where
  frames : A.frames = some outer
  mod : Mod K mg base
  bs : ∀ b o, base.get? b = some o → s.heap.get? b = some o ∧ H b = none
  bsz : base.objs.size ≤ s.heap.objs.size
  funs : s.heap.FunFrames base outer
  frf : ∀ b ∈ frs outer, H b = none
  hok : HOk P w H s.heap
  bare : AllBare s.gens
/-- a call's end -/
noncomputable def CE (outer : List Env) (P : Program) (w : World) (H : Hp) (s : Shared) (Q : VK) (u : Value) (s' : Shared) : Prop :=
  ∃ v H', s'.os = s.os ∧ AllBare s'.gens ∧ Un (frs outer) [] H H' s.heap s'.heap ∧ HOk P w H' s'.heap ∧ RelV v u ∧ Q v H'
noncomputable def CR (CX : CXT) (outer : List Env) (P : Program) (w : World) (H : Hp) (s : Shared) (Q : VK) (E : XK) (r : Result) (s' : Shared) : Prop :=
  match r with
  | .ok (.ret u) => CE outer P w H s Q u s'
  | .ok _ => False
  | .error e => CX outer H s E e s'
structure FnOk (P : Program) (w : World) (K : PySem.W.Frag) (mg : Str → Option Value) (base : Heap) (CX : CXT) (k : Nat) (f : Addr) (fd : FuncData) (ps : List Str) (sp : Sp) : Prop where
  len : ∀ vs H Q E, sp vs H Q E → vs.length = ps.length
  run : ∀ (A : Around) (outer : List Env) (s : Shared) (H : Hp) (args : Args) (us : List Value) (vs : List V) (Q : VK) (E : XK), Room k A → Env0 P w K mg base A outer s H → BindsTo s fd args (ps.zip us) → Vals vs us → sp vs H Q E →
    codeAny (model P w) A (.call (.ref f) args) (CR CX outer P w H s Q E) s
section
variable {X : Cx} {pins : List (Addr × Obj)} {σ : St} {H : Hp} {s s' : Shared}
/-- from a body: what a callee wants -/
theorem Inv.env0 (I : Inv X pins σ H s) : Env0 X.prog X.w X.K X.mg X.base X.A X.stack s H :=
  ⟨I.ok.frames, I.ok.mod, I.bs, Nat.le_trans I.ok.bsz I.sz, I.stack, I.stkFree, I.hok, I.bare⟩
/-- behind a call -/
theorem Inv.after {Q : VK} {u : Value} (I : Inv X pins σ H s) (h : CE X.stack X.prog X.w H s Q u s') : EP X pins σ Q u s' := by
  obtain ⟨v, H', os, bare, un, hok, r, q⟩ := h
  obtain ⟨hh, g, d, t, os'⟩ := s'
  obtain rfl : os' = s.os := os
  exact ⟨v, H', I.call (h' := hh) (g' := g) (d' := d) (t' := t) (ch := []) un hok bare (fun b z => absurd z (by simp)), r, q⟩
end

/-! ### calls -/
/-- f(..): the written arguments, then the defaults dvs; E: what is wanted of an exception -/
noncomputable def tCall (sp : Sp) (dvs : List V) (E : XK) (t : TA) : TE := fun σ H Q => t σ H fun vs H1 => sp (vs ++ dvs) H1 Q E
/-- how the parameters are bound: us the positional arguments, kw the keywords' values by name, ds the defaults that fill up -/
noncomputable def Binds (K : PySem.W.Frag) (fd : FuncData) (ps : List Str) (ds : List Value) : Prop :=
  ∀ (s : Shared) (us : List Value), K.In s.heap → (us ++ ds).length = ps.length → BindsTo s fd ⟨us, []⟩ (ps.zip (us ++ ds))
/-- every parameter is given -/
theorem Binds.all {K : PySem.W.Frag} {fd : FuncData} {ps : List Str} (h : ∀ us : List Value, us.length = ps.length → bindArgs fd ⟨us, []⟩ = pure (ps.zip us)) : Binds K fd ps [] := fun s us _ hl => by
  rw [List.append_nil] at hl ⊢
  exact .of_eq (h us hl)

/-- an exception of a callee reaches what this body wants of exceptions -/
noncomputable def Passes (CX : CXT) (X : Cx) (E : XK) : Prop := ∀ (pins : List (Addr × Obj)) (σ : St) (H : Hp) (s : Shared) (e : Value) (s' : Shared), Inv X pins σ H s → CX X.stack H s E e s' → X.xe e s'

section
variable {X : Cx} {CX : CXT} {k : Nat} {f C : Addr} {fd : FuncData} {ps : List Str} {sp : Sp} {dvs : List V} {ds : List Value} {E : XK} {x m : Str} {p pos apos : Pos} {e o : Expr} {es : List Expr} {ta : TE} {t : TA}

/-- the callee runs -/
theorem run_fn {pins : List (Addr × Obj)} {σ : St} {H : Hp} {s : Shared} {Q : VK} {us : List Value} {vs : List V} (F : FnOk X.prog X.w X.K X.mg X.base CX k f fd ps sp) (hr : Room k X.A) (hb : Binds X.K fd ps ds) (hd : Vals dvs ds) (hx : Passes CX X E)
    (I : Inv X pins σ H s) (r : Vals vs us) (h : sp (vs ++ dvs) H Q E) : wpAny (model X.prog X.w) X.A (call (.ref f) us) (EP X pins σ Q) X.xe s := by
  have r2 : Vals (vs ++ dvs) (us ++ ds) := r.append hd
  have hl : (us ++ ds).length = ps.length := by rw [← r2.length]; exact F.len _ _ _ _ h
  refine wpAny_call (codeAny_mono (F.run X.A X.stack s H ⟨us, []⟩ (us ++ ds) (vs ++ dvs) Q E hr I.env0 (hb s us I.kIn hl) r2 h) fun r s' hq => ?_)
  cases r with
  | error e => exact hx pins σ H s e s' I hq
  | ok fl =>
    cases fl with
    | ret u => exact I.after hq
    | next => exact False.elim hq
    | brk => exact False.elim hq
    | cont => exact False.elim hq

theorem pe_call (F : FnOk X.prog X.w X.K X.mg X.base CX k f fd ps sp) (hr : Room k X.A) (hg : Gl X x) (hm : X.mg x = some (.ref f)) (hk : PySem.W.keepIn X.K (.ref f) = true) (hb : Binds X.K fd ps ds) (hd : Vals dvs ds) (hx : Passes CX X E)
    (ha : PA X (e :: es) t) (hdb : (x == ("__debug__" : Str)) = false := by decide) (he : starEach (e :: es) X.env = (false, eval e X.env) :: starEach es X.env := by rfl) (hpl : (backTo pos (starEach es X.env)).any (·.1) = false := by rfl) :
    PE X (.Call (.Name x p) (e :: es) [] pos) (tCall sp dvs E t) := by
  intro pins s σ H Q I h
  refine wpAny_Call_Name_kw (ld_glob I hg hm ?_ hdb)
  refine PySem.W.callWith_K (h₀ := X.base) I.ok.mod.kin hk (thn (ha pos pins s σ H _ I h) fun us s1 ⟨vs, H1, I1, r, q⟩ => ⟨I1.kIn, ?_⟩) he hpl
  exact run_fn F hr hb hd hx I1 r q
/-- what a class must have to be made -/
structure Mk (K : PySem.W.Frag) (C f : Addr) : Prop where
  makes : PySem.W.makesIn K C = true
  init : PySem.W.findIn K (.ref C) "__init__" = some (some (.ref f))
  fn : PySem.W.isFn K (.ref f) = true
  kp : PySem.W.keepIn K (.ref C) = true

end

/-! ### keywords -/
section
variable {X : Cx} {CX : CXT} {k : Nat} {f C : Addr} {fd : FuncData} {ps ks : List Str} {sp : Sp} {E : XK} {x m : Str} {p pos apos kpos : Pos} {e o : Expr} {es : List Expr} {kws : List Keyword} {te ta : TE} {t tk : TA} {nm : Option Str}
/-- how a call with keywords binds: g puts the positional values us and the keywords' values ws (names ks) in the parameters' order, defaults among them -/
structure KBinds (K : PySem.W.Frag) (fd : FuncData) (ps ks : List Str) (g : List Value → List Value → List Value) (gV : List V → List V → List V) : Prop where
  to : ∀ (s : Shared) (us ws : List Value), K.In s.heap → (g us ws).length = ps.length → BindsTo s fd ⟨us, ks.zip ws⟩ (ps.zip (g us ws))
  rel : ∀ {vs : List V} {us : List Value} {zs : List V} {ws : List Value}, Vals vs us → Vals zs ws → Vals (gV vs zs) (g us ws)
variable {g : List Value → List Value → List Value} {gV : List V → List V → List V}
end

/-! ### a def's body keeps its promise -/
/-- names: the parameters first -/
structure FnScope (N P : List Str) (sc : Scope) : Prop where
  kind : sc.kind = .function
  co : sc.isCoroutine = false
  gen : sc.isGenerator = false
  nd : N.Nodup
  pre : N.take P.length = P
  par : ∀ x ∈ P, sc.names.lookup x = some .local ∨ sc.names.lookup x = some .cell
  nofree : ∀ y ∈ sc.names, y.2 ≠ .free

theorem bindL_out {kindOf : Str → Option NameKind} {x : Str} : ∀ {binds : List (Str × Value)} {m : Str → Option Value}, (∀ v, (x, v) ∉ binds) → bindL kindOf binds m x = m x
  | [], _, _ => rfl
  | (n, v) :: r, m, h => by
    unfold bindL
    rw [bindL_out fun w hw => h w (List.mem_cons_of_mem _ hw)]
    split
    · have : x ≠ n := by rintro rfl; exact h v List.mem_cons_self
      simp [this]
    · rfl
theorem bindC_out {kindOf : Str → Option NameKind} {x : Str} : ∀ {binds : List (Str × Value)} {m : Str → Option Value}, (∀ v, (x, v) ∉ binds) → bindC kindOf binds m x = m x
  | [], _, _ => rfl
  | (n, v) :: r, m, h => by
    unfold bindC
    rw [bindC_out fun w hw => h w (List.mem_cons_of_mem _ hw)]
    split
    · rfl
    · have : x ≠ n := by rintro rfl; exact h v List.mem_cons_self
      simp [this]
theorem bindL_get {kindOf : Str → Option NameKind} {x : Str} {v : Value} : ∀ {P : List Str} {vs : List Value} {i : Nat} {m : Str → Option Value}, P.Nodup → P[i]? = some x → vs[i]? = some v → kindOf x = some .local →
    bindL kindOf (P.zip vs) m x = some v
  | [], _, _, _, _, h, _, _ => by simp at h
  | _ :: _, [], _, _, _, _, h, _ => by simp at h
  | p :: P, w :: vs, 0, m, nd, h1, h2, hk => by
    simp at h1 h2; subst h1; subst h2
    show bindL kindOf ((p, w) :: P.zip vs) m p = _
    unfold bindL
    rw [bindL_out fun v hv => (List.nodup_cons.mp nd).1 (List.of_mem_zip hv).1, if_pos hk]
    simp
  | p :: P, w :: vs, i + 1, m, nd, h1, h2, hk => by
    show bindL kindOf ((p, w) :: P.zip vs) m x = _
    unfold bindL
    exact bindL_get (i := i) (List.nodup_cons.mp nd).2 (by simpa using h1) (by simpa using h2) hk
theorem bindC_get {kindOf : Str → Option NameKind} {x : Str} {v : Value} : ∀ {P : List Str} {vs : List Value} {i : Nat} {m : Str → Option Value}, P.Nodup → P[i]? = some x → vs[i]? = some v → kindOf x ≠ some .local →
    bindC kindOf (P.zip vs) m x = some v
  | [], _, _, _, _, h, _, _ => by simp at h
  | _ :: _, [], _, _, _, _, h, _ => by simp at h
  | p :: P, w :: vs, 0, m, nd, h1, h2, hk => by
    simp at h1 h2; subst h1; subst h2
    show bindC kindOf ((p, w) :: P.zip vs) m p = _
    unfold bindC
    rw [bindC_out fun v hv => (List.nodup_cons.mp nd).1 (List.of_mem_zip hv).1, if_neg hk]
    simp
  | p :: P, w :: vs, i + 1, m, nd, h1, h2, hk => by
    show bindC kindOf ((p, w) :: P.zip vs) m x = _
    unfold bindC
    exact bindC_get (i := i) (List.nodup_cons.mp nd).2 (by simpa using h1) (by simpa using h2) hk

/-- the names' values at the entry -/
noncomputable def start (N : List Str) (vs : List V) : St := vs.map some ++ List.replicate (N.length - vs.length) none

/-- the context of a def's body, at its entry; an exception leaves the frame, then lies as CX says -/
noncomputable def cxOf (CX : CXT) (P : Program) (w : World) (K : PySem.W.Frag) (mg : Str → Option Value) (base : Heap) (N : List Str) (qual : Str) (scope : Scope) (f : Addr) (cd : Value) (A : Around) (outer : List Env) (s : Shared) (H : Hp) (E : XK) : Cx where
  prog := P
  w := w
  K := K
  mg := mg
  base := base
  A := A.deeper (envOfC qual scope s.heap.objs.size f cd)
  N := N
  s₀ := s
  H₀ := H
  env := envOfC qual scope s.heap.objs.size f cd
  outer := outer
  stack := envOfC qual scope s.heap.objs.size f cd :: outer
  ex := []
  calm := true
  fn := fun _ => true
  pn := []
  xe := fun e s' => wpAny (model P w) (A.deeper (envOfC qual scope s.heap.objs.size f cd)) (leaving (envOfC qual scope s.heap.objs.size f cd) e) (fun _ s'' => CX outer H s E e s'') (fun e' s'' => CX outer H s E e' s'') s'

theorem cell_has {sc : Scope} {n : Nat} {x : Str} (h : sc.names.lookup x = some .cell) : ∃ c, (cellsFrom n sc.names []).lookup x = some c := by
  have q := PySem.W.cellsFrom_some sc.names n [] (.inl h)
  exact Option.isSome_iff_exists.mp q

theorem inv_start {CX : CXT} {P : Program} {w : World} {K : PySem.W.Frag} {mg : Str → Option Value} {base : Heap} {N ps : List Str} {qual : Str} {scope : Scope} {f : Addr} {cd : Value} {A : Around} {outer : List Env} {s s1 : Shared} {H : Hp} {E : XK} {us : List Value} {vs : List V}
    (S : FnScope N ps scope) (hd : A.handled = none) (e0 : Env0 P w K mg base A outer s H) (hl : vs.length = ps.length) (r : Vals vs us)
    (x : InCallC s s.heap.objs.size (bindL (envOfC qual scope s.heap.objs.size f cd).kindOf (ps.zip us) fun _ => none) (cellsFrom (s.heap.objs.size + 1) scope.names []) (bindC (envOfC qual scope s.heap.objs.size f cd).kindOf (ps.zip us) fun _ => none) s1) :
    Inv (cxOf CX P w K mg base N qual scope f cd A outer s H E) [] (start N vs) H s1 := by
  have hpl : ps.length ≤ N.length := by have := congrArg List.length S.pre; rw [List.length_take] at this; omega
  obtain ⟨h1, tk, rfl, hk⟩ := x.done
  have noA : ∀ b : Addr, b ∉ (cxOf CX P w K mg base N qual scope f cd A outer s H E).ex := fun b z => absurd (show b ∈ ([] : List Addr) from z) (by simp)
  refine ⟨⟨e0.mod, S.kind, rfl, rfl, Nat.le_refl _, fun y z c h1 h2 => ?_, fun y hy => ?_, fun y c _ h => ?_, fun _ => hd, Around.frames_deeper e0.frames, .inr ⟨rfl, rfl⟩, fun b z => absurd z (noA b), e0.bs, e0.bsz, fun b _ _ => noA b, fun b z => absurd z (noA b), e0.funs, e0.frf⟩,
    rfl, e0.bare, Un.kept hk, ⟨_, x.toInCall.ns, fun i y v h1 h2 h3 => ?_⟩, fun y c h => ⟨_, x.cell y c h⟩, e0.hok.fresh (Nat.le_refl _), fun y c h => ?_, fun p hp => absurd (show p ∈ ([] : List (Addr × Obj)) from hp) (by simp), e0.hok.kept hk, ?_⟩
  · exact name_of_addr x.apart (PySem.mem_of_lookup h1) (PySem.mem_of_lookup h2)
  · have hy : scope.names.lookup y = some .cell ∨ scope.names.lookup y = some .free := hy
    rcases hy with hy | hy
    · exact cell_has hy
    · exact absurd rfl (S.nofree _ (PySem.mem_of_lookup hy))
  · exact Nat.le_of_lt (x.above y c (PySem.mem_of_lookup h))
  · have hi : i < vs.length := by
      unfold start at h2
      by_cases hi : i < vs.length
      · exact hi
      · rw [List.getElem?_append_right (by simpa using hi)] at h2
        rw [List.getElem?_replicate] at h2
        split at h2 <;> cases h2
    have ha : vs[i]? = some v := by
      unfold start at h2
      rw [List.getElem?_append_left (by simpa using hi), List.getElem?_map] at h2
      cases e : vs[i]? with
      | none => rw [e] at h2; cases h2
      | some a => rw [e] at h2; cases h2; rfl
    obtain ⟨u, hu, rv⟩ := r.get ha
    have hp : ps[i]? = some y := by
      rw [← S.pre, List.getElem?_take_of_lt (by omega)]; exact h1
    have ndP : ps.Nodup := by rw [← S.pre]; exact S.nd.sublist (List.take_sublist _ _)
    refine ⟨u, rv, ?_⟩
    rcases S.par y (List.mem_of_getElem? hp) with k | k
    · exact .inl ⟨k, bindL_get ndP hp hu k⟩
    · obtain ⟨c, e⟩ := cell_has (n := s.heap.objs.size + 1) k
      refine .inr ⟨.inl k, c, e, ?_⟩
      have q := x.cell y c e
      rw [bindC_get ndP hp hu (by show scope.names.lookup y ≠ _; rw [k]; decide)] at q
      exact q
  · exact e0.hok.fresh (Nat.le_of_lt (x.above y c (PySem.mem_of_lookup h)))
  · unfold start
    show _ = N.length
    rw [List.length_append, List.length_map, List.length_replicate]
    omega

/-- THE RULE: a def (or a method) of the text, by its body. The body's reading t is chosen for each entry; it is run at the parameters' values -/
theorem fn_of {CX : CXT} {P : Program} {w : World} {K : PySem.W.Frag} {mg : Str → Option Value} {base : Heap} {k : Nat} {f : Addr} {name qual : Str} {params : Arguments} {body : List Stmt} {scope : Scope} {dV kV doc pm cdv ct oc : Value} {an od : Option Addr}
    {osl : Array (Option Value)} {N ps : List Str} {sp : Sp} (lk : K.lookup f = some ⟨oc, od, .func (PySem.W.fnOf name qual params body scope dV kV doc pm an cdv ct), osl⟩) (hcd : PySem.W.codeIn K cdv qual = true) (S : FnScope N ps scope)
    (len : ∀ vs H Q E, sp vs H Q E → vs.length = ps.length)
    (hbody : ∀ (A : Around) (outer : List Env) (s : Shared) (H : Hp) (vs : List V) (Q : VK) (E : XK), Room k (A.deeper (envOfC qual scope s.heap.objs.size f cdv)) → sp vs H Q E →
      ∃ t, PSs (cxOf CX P w K mg base N qual scope f cdv A outer s H E) body t ∧ t { nx := fun _ H' => Q .non H', rt := Q } (start N vs) H) :
    FnOk P w K mg base CX (k + 1) f (PySem.W.fnOf name qual params body scope dV kV doc pm an cdv ct) ps sp := by
  refine ⟨len, fun A outer s H args us vs Q E hr e0 hb r hsp => ?_⟩
  have hl := len _ _ _ _ hsp
  have KX : K.In s.heap := e0.mod.kin.keeps fun b o e => (e0.bs b o e).1
  have lim : s.heap.NoLimit := e0.mod.nolimit.keeps fun b o e => (e0.bs b o e).1
  have hkind : ∀ y ∈ ps.zip us, scope.names.lookup y.1 = some .local ∨ (scope.names.lookup y.1 = some .cell ∧ ((cellsFrom (s.heap.objs.size + 1) scope.names []).lookup y.1).isSome = true) := fun ⟨n, v⟩ hy => by
    rcases S.par n (List.of_mem_zip hy).1 with q | q
    · exact .inl q
    · exact .inr ⟨q, PySem.W.cellsFrom_some _ _ _ (.inl q)⟩
  refine codeAny_call_function hr.depth (KX _ _ lk) rfl S.co S.gen rfl (PySem.W.codeRec_of KX hcd) (hb _ _ _ _ ?_)
  refine wpAny_newFunctionEnv_cells S.kind hkind fun env he s1 x => ?_
  subst he
  refine ⟨lim.keeps x.toInCall.keep, codeAny_func ?_⟩
  obtain ⟨t, ht, hq⟩ := hbody A outer s H vs Q E (hr.deeper _) hsp
  have I : Inv (cxOf CX P w K mg base N qual scope f cdv A outer s H E) [] (start N vs) H s1 := inv_start S hr.hd e0 hl r x
  refine wpAny_mono (ht [] s1 (start N vs) H _ I hq) (fun fl s' hs => ?_) fun e s' hs => hs
  have fin : ∀ {σ' : St} {H' : Hp} {v : V} {u : Value}, Inv (cxOf CX P w K mg base N qual scope f cdv A outer s H E) [] σ' H' s' → RelV v u → Q v H' → CE outer P w H s Q u s' :=
    fun {σ' H' v u} J rv q => ⟨v, H', J.os, J.bare, J.base, J.hok, rv, q⟩
  cases fl with
  | ret u =>
    obtain ⟨v, σ', H', J, rv, q⟩ := hs
    exact fin J rv q
  | next =>
    obtain ⟨σ', H', J, q⟩ := hs
    exact fin (v := V.non) (u := Value.none) J rfl q
  | brk =>
    obtain ⟨_, _, _, q⟩ := hs
    exact False.elim q
  | cont =>
    obtain ⟨_, _, _, q⟩ := hs
    exact False.elim q
end L2

namespace L2
open PySem PySem.Spec PyProof.Rows
section
variable {X : Cx} {x : Str} {p pos : Pos} {e : Expr} {es : List Expr} {t : TA} {id T : String} {r : List V → Hp → VK → Prop}

noncomputable def tCB (r : List V → Hp → VK → Prop) (t : TA) : TE := fun σ H Q => t σ H fun vs H1 => r vs H1 Q
/-- f(e, ..), f a built-in function -/
theorem pe_callB (hc : CallR X (.builtin id) r) (hg : Gl X x) (hm : X.mg x = none) (hv : bootBuiltins x = some (.builtin id)) (ha : PA X (e :: es) t) (hn : x ≠ "__name__" := by decide) (hdb : (x == ("__debug__" : Str)) = false := by decide)
    (he : starEach (e :: es) X.env = (false, eval e X.env) :: starEach es X.env := by rfl) (hpl : (backTo pos (starEach es X.env)).any (·.1) = false := by rfl) : PE X (.Call (.Name x p) (e :: es) [] pos) (tCB r t) := by
  intro pins s σ H Q I h
  refine wpAny_Call_Name_kw (ld_blt I hg hm hv ?_ hn hdb)
  exact PyProof.Rows.callWith_builtin1 (thn (ha pos pins s σ H _ I h) fun us s1 ⟨vs, H1, I1, r1, q1⟩ => hc pins s1 σ H1 vs us Q I1 r1 q1) he hpl
/-- T(e, ..), T a built-in type -/
theorem pe_callTy (hc : CallR X (.type T) r) (hg : Gl X x) (hm : X.mg x = none) (hv : bootBuiltins x = some (.type T)) (ha : PA X (e :: es) t) (hn : x ≠ "__name__" := by decide) (hdb : (x == ("__debug__" : Str)) = false := by decide)
    (he : starEach (e :: es) X.env = (false, eval e X.env) :: starEach es X.env := by rfl) (hpl : (backTo pos (starEach es X.env)).any (·.1) = false := by rfl) : PE X (.Call (.Name x p) (e :: es) [] pos) (tCB r t) := by
  intro pins s σ H Q I h
  refine wpAny_Call_Name_kw (ld_blt I hg hm hv ?_ hn hdb)
  exact PyProof.Rows.callWith_type1 (thn (ha pos pins s σ H _ I h) fun us s1 ⟨vs, H1, I1, r1, q1⟩ => hc pins s1 σ H1 vs us Q I1 r1 q1) he hpl
end
end L2

namespace HT
open PySem PyProof.Rows

section
open PySem.SeqAt
open PySem.AutoSeq1 (wpAny_loadPart')
open PySem.MeetsSeq PySem.MeetsSeq2 PySem.MeetsSeq3

end

section
variable {prog : Program} {w : World} {A : Around} {E : Value → Shared → Prop} {s : Shared}

/-! ### t[a:b], not the whole -/
end
end HT

namespace L2
open PySem PySem.Spec PyProof.Rows

/-! ### the parts of a slice -/
noncomputable abbrev TO := St → Hp → (Option Int → Hp → Prop) → Prop
/-- a slice's part (left out, or an int) -/
noncomputable def PO (X : Cx) (e : Option Expr) (t : TO) : Prop :=
  ∀ (pins : List (Addr × Obj)) (s : Shared) (σ : St) (H : Hp) (Q : Option Int → Hp → Prop), Inv X pins σ H s → t σ H Q →
    wpAny (model X.prog X.w) X.A (evalPart e X.env) (fun u s' => ∃ o H', Inv X pins σ H' s' ∧ IsPart u o ∧ Q o H') X.xe s
noncomputable def tPart (t : TE) : TO := fun σ H Q => t σ H fun x H1 => ∃ i, x = .int i ∧ Q (some i) H1

section
variable {X : Cx} {e : Expr} {te : TE} {lo hi : Option Expr} {tl th : TO} {pos p2 : Pos}

theorem po_some (h : PE X e te) : PO X (some e) (tPart te) := by
  intro pins s σ H Q I hw
  rw [evalPart_some]
  refine thn (h pins s σ H _ I hw) fun u s1 ⟨x, H1, I1, r1, q1⟩ => ?_
  obtain ⟨i, rfl, q⟩ := q1
  obtain ⟨t, rfl⟩ := r1
  exact ⟨some i, H1, I1, .int i t, q⟩

/-- what a slice of a value is, by values: the slice object stands at sl -/
noncomputable def SlR (X : Cx) (r : V → Option Int → Option Int → Hp → VK → Prop) : Prop :=
  ∀ (pins : List (Addr × Obj)) (s : Shared) (σ : St) (H : Hp) (x : V) (v vl vu : Value) (lo hi : Option Int) (sl : Addr) (Q : VK), Inv X pins σ H s → RelV x v → s.heap.IsSliceOf sl vl vu .none → IsPart vl lo → IsPart vu hi → r x lo hi H Q →
    ∃ T id, typeLookup (.type T) "__getitem__" = pure (some (.builtin id)) ∧ s.TypeIs v T ∧ wpAny (model X.prog X.w) X.A (getItem v (.ref sl)) (EP X pins σ Q) X.xe s
/-! ### t < u, t + u -/
end
end L2

namespace L2
open PySem PySem.Spec PyProof.Rows

/-! ### places -/
/-- the place that an index of any sign means -/
noncomputable def ixN (n : Nat) (i : Int) : Option Nat := if 0 ≤ i then (if i < n then some i.toNat else none) else if -(n : Int) ≤ i then some (i + n).toNat else none
noncomputable def atI {α : Type} (xs : List α) (i : Int) : Option α := (ixN xs.length i).bind fun j => xs[j]?
theorem ixN_seq {n : Nat} {i : Int} {j : Nat} (h : ixN n i = some j) : seqIndex? i n = some j ∧ j < n ∧ -(n : Int) ≤ i ∧ i < n := by
  unfold ixN at h
  by_cases h0 : 0 ≤ i
  · rw [if_pos h0] at h
    by_cases h1 : i < n
    · rw [if_pos h1] at h
      have e : i.toNat = j := Option.some.inj h
      exact ⟨by rw [seqIndex_of h0 h1, e], by omega, by omega, h1⟩
    · rw [if_neg h1] at h; cases h
  · rw [if_neg h0] at h
    by_cases h1 : -(n : Int) ≤ i
    · rw [if_pos h1] at h
      have e : (i + n).toNat = j := Option.some.inj h
      exact ⟨by rw [seqIndex_neg (by omega) h1, e], by omega, h1, by omega⟩
    · rw [if_neg h1] at h; cases h
theorem atI_get {α : Type} {xs : List α} {i : Int} {v : α} (h : atI xs i = some v) : ∃ j, seqIndex? i xs.length = some j ∧ xs[j]? = some v ∧ j < xs.length ∧ -(xs.length : Int) ≤ i ∧ i < xs.length := by
  unfold atI at h
  cases e : ixN xs.length i with
  | none => rw [e] at h; cases h
  | some j =>
    rw [e] at h
    obtain ⟨h1, h2, h3, h4⟩ := ixN_seq e
    exact ⟨j, h1, h, h2, h3, h4⟩
theorem atI_nat {α : Type} {xs : List α} {j : Nat} {v : α} (h : xs[j]? = some v) : atI xs (j : Int) = some v := by
  have hj : j < xs.length := (List.getElem?_eq_some_iff.mp h).1
  have e : ixN xs.length (j : Int) = some j := by
    unfold ixN
    rw [if_pos (by omega), if_pos (by omega)]; simp
  unfold atI; rw [e]; exact h
theorem atI_last {α : Type} (xs : List α) (v : α) : atI (xs ++ [v]) (-1) = some v := by
  have hl : (xs ++ [v]).length = xs.length + 1 := by simp
  have e : ixN (xs ++ [v]).length (-1) = some xs.length := by
    unfold ixN
    rw [hl, if_neg (by decide), if_pos (by omega)]
    congr 1
    omega
  unfold atI
  rw [e]
  show (xs ++ [v])[xs.length]? = some v
  simp

/-! ### what may be subscripted -/
/-- what stands as an index of a plain subscript -/
noncomputable def PlainIx (b : Expr) : Prop := ∀ o i, subscripted b false o i = operate [o, i] (getItem o i)
/-- a subscript by values -/
noncomputable def IxR (X : Cx) (r : R2) : Prop :=
  ∀ (value slice : Expr) (pins : List (Addr × Obj)) (s : Shared) (σ : St) (H : Hp) (x y : V) (v u : Value) (Q : VK), Inv X pins σ H s → RelV x v → RelV y u → r x y H Q →
    subscripted slice false v u = operate [v, u] (getItem v u) → wpAny (model X.prog X.w) X.A (subscriptTail value slice v u) (EP X pins σ Q) X.xe s
/-- a call of a builtin's method by values: the receiver, the arguments -/
noncomputable def MtR (X : Cx) (id : String) (r : V → List V → Hp → VK → Prop) : Prop :=
  ∀ (pins : List (Addr × Obj)) (s : Shared) (σ : St) (H : Hp) (x : V) (xs : List V) (v : Value) (us : List Value) (Q : VK), Inv X pins σ H s → RelV x v → Vals xs us → r x xs H Q →
    wpAny (model X.prog X.w) X.A (call (.builtin id) (v :: us)) (EP X pins σ Q) X.xe s
section
variable {X : Cx} {a b : Expr} {ta tb : TE} {pos : Pos}
theorem IxR.or {r r' : R2} (h : IxR X r) (h' : IxR X r') : IxR X (fun x y H Q => r x y H Q ∨ r' x y H Q) := by
  intro value slice pins s σ H x y v u Q I rx ry q hs
  rcases q with q | q
  · exact h value slice pins s σ H x y v u Q I rx ry q hs
  · exact h' value slice pins s σ H x y v u Q I rx ry q hs
/-- a[b] -/
theorem pe_ix {r : R2} (hr : IxR X r) (ha : PE X a ta) (hb : PE X b tb) (hs : PlainIx b) : PE X (.Subscript a b pos) (tOp r ta tb) := by
  intro pins s σ H Q I h
  exact Subscript_ (binT ha hb I h fun v u s2 x y H2 I2 rx ry q => hr a b pins s2 σ H2 x y v u Q I2 rx ry q (hs _ _))

noncomputable def rIxL (K : PySem.W.Frag) : R2 := fun x y H Q => ∃ p xs i v, x = .ref p ∧ y = .int i ∧ SqL K H p xs ∧ atI xs i = some v ∧ Q v H
noncomputable def rIxT (K : PySem.W.Frag) : R2 := fun x y H Q => ∃ p xs i v, x = .ref p ∧ y = .int i ∧ SqT K H p xs ∧ atI xs i = some v ∧ Q v H
noncomputable def rIxS : R2 := fun x y H Q => ∃ z i c, x = .str z ∧ y = .int i ∧ z.length ≤ sizeLine ∧ atI z.cps.toList i = some c ∧ Q (.str ⟨#[c]⟩) H
theorem ix_list : IxR X (rIxL X.K) := by
  intro value slice pins s σ H x y v u Q I rx ry h hs
  obtain ⟨p, xs, i, z, rfl, rfl, hq, he, q⟩ := h
  cases rx
  obtain ⟨t, rfl⟩ := ry
  obtain ⟨its, r, pl, hz⟩ := I.list hq
  obtain ⟨j, h1, h2, h3, h4, h5⟩ := atI_get he
  obtain ⟨w, ew, rw'⟩ := r.get h2
  have hl := r.length
  have hn := line63
  have fin : EP X pins σ Q w s := ⟨z, H, I, rw', q⟩
  by_cases h0 : 0 ≤ i
  · have hj : i.toNat = j := by
      rw [seqIndex_of h0 h5] at h1
      exact Option.some.inj h1
    exact item_listR pl.isList h0 (by omega) (by rw [hj]; simpa using ew) fin hs
  · have hj : (i + (its.toArray.size : Int)).toNat = j := by
      rw [seqIndex_neg (by omega) h4] at h1
      rw [List.size_toArray, ← hl]
      exact Option.some.inj h1
    exact subscriptTail_builtinR (x := w) pl.isList.typeIs slot_list_getitem.lookup
      (wpAny_getItem_list_neg (Q := fun r s' => r = w ∧ EP X pins σ Q r s') pl.isList (by omega) (by rw [List.size_toArray] <;> omega) (by omega) (by rw [hj]; simpa using ew) ⟨rfl, fin⟩) hs
theorem ix_tup : IxR X (rIxT X.K) := by
  intro value slice pins s σ H x y v u Q I rx ry h hs
  obtain ⟨p, xs, i, z, rfl, rfl, hq, he, q⟩ := h
  cases rx
  obtain ⟨t, rfl⟩ := ry
  obtain ⟨its, r, pl, hz⟩ := I.tuple hq
  obtain ⟨j, h1, h2, h3, h4, h5⟩ := atI_get he
  obtain ⟨w, ew, rw'⟩ := r.get h2
  have hl := r.length
  have hn := line63
  have fin : EP X pins σ Q w s := ⟨z, H, I, rw', q⟩
  exact subscriptTail_builtinR (x := w) pl.typeIs slot_tuple_getitem.lookup
    (getItem_tuple (j := j) (Q := fun r s' => r = w ∧ EP X pins σ Q r s') pl (by omega) (by omega) (by rw [List.size_toArray, ← hl]; exact h1) (by simpa using ew) ⟨rfl, fin⟩) hs
theorem ix_str : IxR X rIxS := by
  intro value slice pins s σ H x y v u Q I rx ry h hs
  obtain ⟨z, i, c, rfl, rfl, hz, he, q⟩ := h
  obtain ⟨t, rfl⟩ := rx
  obtain ⟨t', rfl⟩ := ry
  obtain ⟨j, h1, h2, h3, h4, h5⟩ := atI_get he
  have hl : z.cps.toList.length = z.length := by simp [Str.length]
  rw [hl] at h1 h4 h5
  have hn := line63
  exact tail_any (typeIs_str s z t) slot_str_getitem.lookup (getItem_str (c := c) (by
    have e1 : decide (i < -(2 ^ 63 : Int)) = false := decide_eq_false (by omega)
    have e2 : decide (i ≥ 2 ^ 63) = false := decide_eq_false (by omega)
    rw [e1, e2, Bool.or_false]) (by rw [h1]; simpa using h2) ⟨.str ⟨#[c]⟩, H, I.tok _, ⟨_, rfl⟩, q⟩) hs
/-- list, tuple or str -/
noncomputable def rIx (K : PySem.W.Frag) : R2 := fun x y H Q => rIxL K x y H Q ∨ rIxT K x y H Q ∨ rIxS x y H Q
theorem ix_seq : IxR X (rIx X.K) := ix_list.or (ix_tup.or ix_str)

/-! ### xs[i] = v, any sign -/
/-- the list's object behind a store -/
theorem mapSeq_set (its : List Value) (n j : Nat) (u : Value) : Obj.mapSeq (·.setIfInBounds j u) { cls := .type "list", data := .seq its.toArray n } = { cls := .type "list", data := .seq (its.set j u).toArray n } := by
  simp [Obj.mapSeq]
theorem Inv.lst {pins : List (Addr × Obj)} {σ : St} {H : Hp} {s : Shared} {p : Addr} {xs : List V} (I : Inv X pins σ H s) (h : H p = some (.lst xs)) :
    ∃ (its : List Value) (n : Nat), Vals xs its ∧ s.heap.get? p = some { cls := .type "list", data := .seq its.toArray n } ∧ xs.length ≤ sizeLine := by
  obtain ⟨z, its, n, r, e⟩ := I.hok p _ h
  exact ⟨its, n, r, e, z⟩
/-- the list at p is written by an update of its object -/
theorem Inv.lstUpd {pins : List (Addr × Obj)} {σ : St} {H : Hp} {s : Shared} {p : Addr} {xs ys : List V} {its its' : List Value} {n n' : Nat} {f : Obj → Obj} (I : Inv X pins σ H s) (h : H p = some (.lst xs))
    (ho : s.heap.get? p = some { cls := .type "list", data := .seq its.toArray n }) (hf : f { cls := .type "list", data := .seq its.toArray n } = { cls := .type "list", data := .seq its'.toArray n' }) (r : Vals ys its') (hz : ys.length ≤ sizeLine) (t : Nat) :
    Inv X pins σ (upd H p (.lst ys)) { s with heap := s.heap.update p f, toks := t } := by
  have e : (s.heap.update p f).get? p = some { cls := .type "list", data := .seq its'.toArray n' } := by
    rw [Heap.get?_update_self f ho (by rw [hf] <;> rfl), hf]
  refine I.write (x := p) (e := p) (by rw [h]; trivial) (.inl rfl) (fun b u hb q => (Heap.get?_update_other _ _ (Ne.symm hb)).trans q) ⟨_, e⟩ ?_
  exact ⟨hz, its', n', r, e⟩
noncomputable def rSetL : V → V → V → Hp → (Hp → Prop) → Prop := fun o i v H Q => ∃ p xs k j, o = .ref p ∧ i = .int k ∧ H p = some (.lst xs) ∧ ixN xs.length k = some j ∧ Q (upd H p (.lst (xs.set j v)))
theorem set_list : PSet X rSetL := by
  intro pins s σ H o i v ov iv u Q I ro ri rv h
  obtain ⟨p, xs, k, j, rfl, rfl, hp, hj, q⟩ := h
  cases ro
  obtain ⟨t, rfl⟩ := ri
  obtain ⟨its, n, r, ho, hz⟩ := I.lst hp
  obtain ⟨h1, h2, h3, h4⟩ := ixN_seq hj
  have hl := r.length
  have hn := line63
  have I' : Inv X pins σ (upd H p (.lst (xs.set j v))) { s with heap := s.heap.update p (Obj.mapSeq (·.setIfInBounds j u)) } :=
    I.lstUpd hp ho (mapSeq_set its n j u) (r.set rv j) (by rw [List.length_set]; exact hz) s.toks
  by_cases h0 : 0 ≤ k
  · have hk : k.toNat = j := by
      rw [seqIndex_of h0 h4] at h1
      exact Option.some.inj h1
    exact PySem.W.ki_setAt ho h0 (by omega) (by rw [List.size_toArray, ← hl]; exact h4) (by rw [hk]; exact ⟨_, I', q⟩)
  · have hk : (k + (its.toArray.size : Int)).toNat = j := by
      rw [seqIndex_neg (by omega) h3] at h1
      rw [List.size_toArray, ← hl]
      exact Option.some.inj h1
    exact PySem.W.ki_setBack ho (by omega) (by rw [List.size_toArray, ← hl]; exact h3) (by omega) (by rw [hk]; exact ⟨_, I', q⟩)

/-! ### slices -/
/-! ### in, not in: flat items -/
noncomputable def flatV : V → Bool
  | .non => true
  | .bl _ => true
  | .int _ => true
  | .str _ => true
  | _ => false
/-- == of flat values -/
noncomputable def eqV : V → V → Bool
  | .non, .non => true
  | .bl a, .bl b => a == b
  | .bl a, .int b => (if a then 1 else 0) == b
  | .int a, .bl b => a == (if b then 1 else 0)
  | .int a, .int b => a == b
  | .str a, .str b => a == b
  | _, _ => false
theorem eqAt_V {A : Around} {s : Shared} {y x : V} {u v : Value} (ry : RelV y u) (rx : RelV x v) (fy : flatV y = true) (fx : flatV x = true) : SeqAt.EqAt A s u v (eqV y x) := by
  cases y with
  | non =>
    cases ry
    cases x with
    | non => cases rx; exact SeqAt.EqAt.same _
    | bl b => cases rx; exact SeqAt.EqAt.none_bool b
    | int b => obtain ⟨t, rfl⟩ := rx; exact SeqAt.EqAt.none_int b t
    | str b => obtain ⟨t, rfl⟩ := rx; exact SeqAt.EqAt.none_str b t
    | _ => exact absurd (show false = true from fx) Bool.false_ne_true
  | bl a =>
    cases ry
    cases x with
    | non => cases rx; exact SeqAt.EqAt.bool_none a
    | bl b => cases rx; exact SeqAt.EqAt.bool_bool a b
    | int b => obtain ⟨t, rfl⟩ := rx; exact SeqAt.EqAt.bool_int a b t
    | str b => obtain ⟨t, rfl⟩ := rx; exact SeqAt.EqAt.bool_str a b t
    | _ => exact absurd (show false = true from fx) Bool.false_ne_true
  | int a =>
    obtain ⟨t', rfl⟩ := ry
    cases x with
    | non => cases rx; exact SeqAt.EqAt.int_none a t'
    | bl b => cases rx; exact SeqAt.EqAt.int_bool a t' b
    | int b => obtain ⟨t, rfl⟩ := rx; exact SeqAt.EqAt.int_int a t' b t
    | str b => obtain ⟨t, rfl⟩ := rx; exact SeqAt.EqAt.int_str a t' b t
    | _ => exact absurd (show false = true from fx) Bool.false_ne_true
  | str a =>
    obtain ⟨t', rfl⟩ := ry
    cases x with
    | non => cases rx; exact SeqAt.EqAt.str_none a t'
    | bl b => cases rx; exact SeqAt.EqAt.str_bool a t' b
    | int b => obtain ⟨t, rfl⟩ := rx; exact SeqAt.EqAt.str_int a t' b t
    | str b => obtain ⟨t, rfl⟩ := rx; exact SeqAt.EqAt.str_str a t' b t
    | _ => exact absurd (show false = true from fx) Bool.false_ne_true
  | _ => exact absurd (show false = true from fy) Bool.false_ne_true
/-- the items' answers, read off the values (a value's own answer does not lean on its token) -/
noncomputable def eqU (x : V) (u : Value) : Bool := match u with
  | .none => eqV .non x
  | .bool b => eqV (.bl b) x
  | .int i _ => eqV (.int i) x
  | .str z _ => eqV (.str z) x
  | _ => false
theorem eqU_of {x y : V} {u : Value} (r : RelV y u) (f : flatV y = true) : eqU x u = eqV y x := by
  cases y with
  | non => cases r; rfl
  | bl b => cases r; rfl
  | int i => obtain ⟨t, rfl⟩ := r; rfl
  | str z => obtain ⟨t, rfl⟩ := r; rfl
  | _ => exact absurd (show false = true from f) Bool.false_ne_true
theorem any_eqU {x : V} : ∀ {xs : List V} {us : List Value}, Vals xs us → xs.all flatV = true → us.any (eqU x) = xs.any fun y => eqV y x
  | _, _, .nil, _ => rfl
  | y :: xs, u :: us, .cons r t, f => by
    rw [List.all_cons, Bool.and_eq_true] at f
    rw [List.any_cons, List.any_cons, eqU_of r f.1, any_eqU t f.2]
theorem mem_eqAt {A : Around} {s : Shared} {x : V} {v : Value} (rx : RelV x v) (fx : flatV x = true) : ∀ {xs : List V} {us : List Value}, Vals xs us → xs.all flatV = true → ∀ u ∈ us, SeqAt.EqAt A s u v (eqU x u)
  | _, _, .nil, _ => fun u hu => by cases hu
  | y :: xs, u :: us, .cons r t, f => fun u' hu => by
    rw [List.all_cons, Bool.and_eq_true] at f
    rcases List.mem_cons.mp hu with rfl | hu
    · rw [eqU_of r f.1]; exact eqAt_V r rx f.1 fx
    · exact mem_eqAt rx fx t f.2 u' hu
noncomputable def inV (x : V) (xs : List V) : Bool := xs.any fun y => eqV y x
/-- x in a list or tuple of flat items -/
noncomputable def rIn (K : PySem.W.Frag) (neg : Bool) : R2 := fun x y H Q => ∃ p xs, y = .ref p ∧ (SqL K H p xs ∨ SqT K H p xs) ∧ flatV x = true ∧ xs.all flatV = true ∧ Q (.bl (if neg then !inV x xs else inV x xs)) H
theorem op_in_seq : OpR X (compareOp .In) (rIn X.K false) := by
  intro pins s σ H x y v u Q I rx ry h
  obtain ⟨p, xs, rfl, hq, fx, fs, q⟩ := h
  cases ry
  rcases hq with hq | hq
  · obtain ⟨its, r, pl, hz⟩ := I.list hq
    refine SeqAt.in_listAt (eqU x) pl.isList (fun w hw => mem_eqAt rx fx r fs w (by simpa using hw)) ⟨.bl _, H, I, rfl, ?_⟩
    rw [show its.toArray.any (eqU x) = its.any (eqU x) by simp, any_eqU r fs]
    exact q
  · obtain ⟨its, r, pl, hz⟩ := I.tuple hq
    refine SeqAt.in_tupleAt (eqU x) pl (fun w hw => mem_eqAt rx fx r fs w (by simpa using hw)) ⟨.bl _, H, I, rfl, ?_⟩
    rw [show its.toArray.any (eqU x) = its.any (eqU x) by simp, any_eqU r fs]
    exact q
theorem op_notIn_seq : OpR X (compareOp .NotIn) (rIn X.K true) := by
  intro pins s σ H x y v u Q I rx ry h
  obtain ⟨p, xs, rfl, hq, fx, fs, q⟩ := h
  cases ry
  rcases hq with hq | hq
  · obtain ⟨its, r, pl, hz⟩ := I.list hq
    refine SeqAt.notIn_listAt (eqU x) pl.isList (fun w hw => mem_eqAt rx fx r fs w (by simpa using hw)) ⟨.bl _, H, I, rfl, ?_⟩
    rw [show its.toArray.any (eqU x) = its.any (eqU x) by simp, any_eqU r fs]
    exact q
  · obtain ⟨its, r, pl, hz⟩ := I.tuple hq
    refine SeqAt.notIn_tupleAt (eqU x) pl (fun w hw => mem_eqAt rx fx r fs w (by simpa using hw)) ⟨.bl _, H, I, rfl, ?_⟩
    rw [show its.toArray.any (eqU x) = its.any (eqU x) by simp, any_eqU r fs]
    exact q
/-! ### len, list(x), tuple(x) of any list or tuple that is read -/
theorem call_len_seq : CallR X (.builtin "len") (fun xs H Q => ∃ p ys, xs = [.ref p] ∧ (SqL X.K H p ys ∨ SqT X.K H p ys) ∧ Q (.int ys.length) H) := by
  intro pins s σ H xs us Q I r h
  obtain ⟨p, ys, rfl, hq, q⟩ := h
  obtain ⟨u, rfl, rx⟩ := vals1 r
  cases rx
  have hn := line63
  rcases hq with hq | hq
  · obtain ⟨its, r', pl, hz⟩ := I.list hq
    have hlen := r'.length
    exact Calls.call_len_list pl.isList (by simp only [List.size_toArray] <;> omega) ⟨.int ys.length, H, I.tok _, ⟨s.toks + 1, by rw [List.size_toArray, hlen]⟩, q⟩
  · obtain ⟨its, r', pl, hz⟩ := I.tuple hq
    have hlen := r'.length
    exact len_tuple pl (by simp only [List.size_toArray] <;> omega) ⟨.int ys.length, H, I.tok _, ⟨s.toks + 1, by rw [List.size_toArray, hlen]⟩, q⟩
theorem call_len_str : CallR X (.builtin "len") (fun xs H Q => ∃ z, xs = [.str z] ∧ z.length ≤ sizeLine ∧ Q (.int z.length) H) := by
  intro pins s σ H xs us Q I r h
  obtain ⟨z, rfl, hz, q⟩ := h
  obtain ⟨u, rfl, t, rfl⟩ := vals1 r
  have hn := line63
  exact len_str (by omega) ⟨.int z.length, H, I.tok _, ⟨_, rfl⟩, q⟩
theorem call_list_of : CallR X (.type "list") (fun xs H Q => ∃ p ys, xs = [.ref p] ∧ (SqL X.K H p ys ∨ SqT X.K H p ys) ∧ ∀ l, H l = none → Q (.ref l) (upd H l (.lst ys))) := by
  intro pins s σ H xs us Q I r h
  obtain ⟨p, ys, rfl, hq, q⟩ := h
  obtain ⟨u, rfl, rx⟩ := vals1 r
  cases rx
  have fin : ∀ (its : List Value), Vals ys its → ys.length ≤ sizeLine → ∀ (h' : Heap) (c' : Nat), (∀ b o', s.heap.get? b = some o' → h'.get? b = some o') →
      h'.get? s.heap.objs.size = some { cls := .type "list", dict := none, data := .seq its.toArray c', slots := #[] } → EP X pins σ Q (.ref s.heap.objs.size) { s with heap := h' } := fun its r' hz h' c' kp e =>
    ⟨.ref s.heap.objs.size, _, I.laid (t' := s.toks) kp (Nat.le_refl _) (show ObjOk X.prog X.w _ h' _ (.lst ys) from ⟨hz, its, c', r', e⟩), rfl, q _ (I.hok.fresh (Nat.le_refl _))⟩
  rcases hq with hq | hq
  · obtain ⟨its, r', pl, hz⟩ := I.list hq
    have hlen := r'.length
    obtain ⟨o, ho, hc, n, hd⟩ := pl.isList
    exact call_list_seq p (.inl rfl) ho hc hd (fun h' c' kp e => fin its r' hz h' c' kp e) (by simp only [List.size_toArray] <;> omega)
  · obtain ⟨its, r', pl, hz⟩ := I.tuple hq
    have hlen := r'.length
    obtain ⟨o, ho, hc, n, hd⟩ := pl
    exact call_list_seq p (.inr rfl) ho hc hd (fun h' c' kp e => fin its r' hz h' c' kp e) (by simp only [List.size_toArray] <;> omega)
theorem call_tuple_of : CallR X (.type "tuple") (fun xs H Q => ∃ p ys, xs = [.ref p] ∧ ((SqL X.K H p ys ∧ ∀ l, H l = none → Q (.ref l) (upd H l (.tup ys))) ∨ (SqT X.K H p ys ∧ Q (.ref p) H))) := by
  intro pins s σ H xs us Q I r h
  obtain ⟨p, ys, rfl, h⟩ := h
  obtain ⟨u, rfl, rx⟩ := vals1 r
  cases rx
  rcases h with ⟨hq, q⟩ | ⟨hq, q⟩
  · obtain ⟨its, r', pl, hz⟩ := I.list hq
    have hlen := r'.length
    refine call_tuple_list pl.isList (fun h' kp => ?_) (by simp only [List.size_toArray] <;> omega)
    have I1 : Inv X pins σ H { s with heap := h' } := I.kept (t' := s.toks) kp
    have I2 : Inv X pins σ (upd H h'.objs.size (.tup ys)) { s with heap := h'.push { cls := .type "tuple", data := .seq its.toArray } } :=
      I1.laid (t' := s.toks) (fun b o e => Heap.get?_push_of_some _ e) (Nat.le_refl _) (show ObjOk X.prog X.w _ _ _ (.tup ys) from ⟨hz, its, r', IsTup.new _ _⟩)
    exact ⟨.ref h'.objs.size, _, I2, rfl, q _ (I1.hok.fresh (Nat.le_refl _))⟩
  · obtain ⟨its, r', pl, hz⟩ := I.tuple hq
    exact call_tuple_same pl ⟨.ref p, H, I, rfl, q⟩

/-! ### the call of a builtin's method: o.m(..) -/
/-- the value is of that builtin type -/
noncomputable def tyV (K : PySem.W.Frag) (T : String) (x : V) (H : Hp) : Prop := match x with
  | .str _ => T = "str"
  | .int _ => T = "int"
  | .ref p => (T = "list" ∧ ∃ xs, SqL K H p xs) ∨ (T = "tuple" ∧ ∃ o, K.lookup p = some o ∧ o.cls = .type "tuple" ∧ o.dict = none) ∨
      (T = "dict" ∧ ((∃ kvs, H p = some (.dK kvs)) ∨ ∃ kvs, H p = some (.dT kvs))) ∨ (T = "set" ∧ ∃ S n, H p = some (.set S n))
  | _ => False
theorem tyV_is {pins : List (Addr × Obj)} {σ : St} {H : Hp} {s : Shared} {T : String} {x : V} {v : Value} (I : Inv X pins σ H s) (r : RelV x v) (ty : tyV X.K T x H) :
    s.TypeIs v T ∧ ∀ a, v = .ref a → ∃ ob, s.heap.get? a = some ob ∧ ob.dict = none := by
  cases x with
  | str z =>
    obtain ⟨t, rfl⟩ := r
    cases (show T = "str" from ty)
    exact ⟨typeIs_str s z t, fun _ e => nomatch e⟩
  | int i =>
    obtain ⟨t, rfl⟩ := r
    cases (show T = "int" from ty)
    exact ⟨typeIs_int s i t, fun _ e => nomatch e⟩
  | ref p =>
    cases r
    rcases ty with ⟨rfl, xs, hq⟩ | ⟨rfl, o, hk, hc, hd⟩ | ⟨rfl, hk⟩ | ⟨rfl, S, n, hk⟩
    · obtain ⟨its, _, pl, _⟩ := I.list hq
      refine ⟨pl.isList.typeIs, fun a e => ?_⟩
      cases e
      obtain ⟨o, n, e, c, hd, _⟩ := pl
      exact ⟨o, e, hd⟩
    · refine ⟨⟨o, I.kIn p o hk, hc⟩, fun a e => ?_⟩
      cases e
      exact ⟨o, I.kIn _ o hk, hd⟩
    · have z : ∃ o, s.heap.get? p = some o ∧ o.ExactDict := by
        rcases hk with ⟨kvs, hk⟩ | ⟨kvs, hk⟩
        · obtain ⟨_, _, _, _, o, _, _, e, ex, _⟩ := I.hok p _ hk
          exact ⟨o, e, ex⟩
        · obtain ⟨_, _, _, _, o, _, _, e, ex, _⟩ := I.hok p _ hk
          exact ⟨o, e, ex⟩
      obtain ⟨o, e, ex⟩ := z
      refine ⟨⟨o, e, ex.1⟩, fun a e2 => ?_⟩
      cases e2
      exact ⟨o, e, ex.2.1⟩
    · obtain ⟨o, _, _, _, e, ex, _⟩ := I.hok p _ hk
      refine ⟨⟨o, e, ex.1⟩, fun a e2 => ?_⟩
      cases e2
      exact ⟨o, e, ex.2.1⟩
  | _ => exact False.elim ty
noncomputable def tBM (K : PySem.W.Frag) (T : String) (r : V → List V → Hp → VK → Prop) (to : TE) (t : TA) : TE := fun σ H Q => to σ H fun x H1 => tyV K T x H1 ∧ t σ H1 fun xs H2 => r x xs H2 Q
variable {o e : Expr} {es : List Expr} {to : TE} {t : TA} {name : Str} {apos cpos : Pos} {T id : String} {r : V → List V → Hp → VK → Prop}
theorem pe_bm (pa : PlainAttrs T) (slot : Slot T name id) (hty : typeOf (.builtin id) = pure (.type "method_descriptor")) (hm : MtR X id r) (ho : PE X o to) (ha : PA X (e :: es) t)
    (hbase : attributeBase o name X.env (eval o X.env) = eval o X.env := by rfl)
    (hfew : ((backTo cpos (starEach (e :: es) X.env)).all (fun x => !x.1) && (backToKw cpos (keywordEach [] X.env)).all (fun x => x.1.isSome)
      && decide ((e :: es).length + ([] : List Keyword).length + (if ([] : List Keyword).isEmpty then 0 else 1) < 30)) = true := by rfl)
    (hline : (apos.endLine == cpos.line) = true := by rfl) (hs : starEach (e :: es) X.env = (false, eval e X.env) :: starEach es X.env := by rfl) (hplain : (backTo cpos (starEach es X.env)).any (·.1) = false := by rfl) :
    PE X (.Call (.Attribute o name apos) (e :: es) [] cpos) (tBM X.K T r to t) := by
  intro pins s σ H Q I h
  refine wpAny_Call_method_late hbase hfew hline rfl (thn (ho pins s σ H _ I h) fun v s1 ⟨x, H1, I1, r1, ty, q1⟩ => ?_)
  obtain ⟨h1, h2⟩ := tyV_is I1 r1 ty
  refine ⟨T, id, pa, slot, hty, h1, h2, ?_⟩
  have hA := ha cpos pins s1 σ H1 _ I1 q1
  rw [hs] at hA ⊢
  refine Calls.callWith_builtin (by show (false || (backTo cpos (starEach es X.env)).any (·.1)) = false; rw [hplain] <;> rfl) (Calls.evalArgs_plain ?_)
  exact thn hA fun us s2 ⟨vs, H2, I2, r2, q2⟩ => hm pins s2 σ H2 x vs v us Q I2 r1 r2 q2
/- xs.append(e), list.index on a module's tuple .. are MtR facts of 06m -/
end
end L2

namespace L2
open PySem PySem.Spec PyProof.Rows

noncomputable def MtM (X : Cx) (id : String) (r : V → List V → Hp → VK → Prop) : Prop :=
  ∀ (pins : List (Addr × Obj)) (s : Shared) (σ : St) (H : Hp) (x : V) (xs : List V) (v : Value) (us : List Value) (Q : VK), Inv X pins σ H s → RelV x v → Vals xs us → r x xs H Q →
    wpAny (model X.prog X.w) X.A (call (.builtin id) (v :: us)) (EP X pins σ Q) X.xe s

/-! ### lists of values -/
theorem Vals.one : ∀ {x : V} {us : List Value}, Vals [x] us → ∃ u, us = [u] ∧ RelV x u
  | _, _, .cons r .nil => ⟨_, rfl, r⟩
theorem Vals.two : ∀ {x y : V} {us : List Value}, Vals [x, y] us → ∃ u v, us = [u, v] ∧ RelV x u ∧ RelV y v
  | _, _, _, .cons r (.cons q .nil) => ⟨_, _, rfl, r, q⟩
theorem Vals.eraseIdx : ∀ {xs : List V} {us : List Value} (i : Nat), Vals xs us → Vals (xs.eraseIdx i) (us.eraseIdx i)
  | _, _, _, .nil => .nil
  | _, _, 0, .cons _ t => t
  | _, _, i + 1, .cons r t => .cons r (Vals.eraseIdx i t)
theorem Vals.reverse {xs : List V} {us : List Value} (h : Vals xs us) : Vals xs.reverse us.reverse := by
  induction h with
  | nil => exact .nil
  | cons r t ih => rw [List.reverse_cons, List.reverse_cons]; exact Vals.append ih (.cons r .nil)
theorem len_erase {α : Type} : ∀ (l : List α) (i : Nat), (l.eraseIdx i).length ≤ l.length
  | [], _ => Nat.le_refl _
  | _ :: _, 0 => Nat.le_succ _
  | _ :: r, i + 1 => Nat.succ_le_succ (len_erase r i)
section
variable {X : Cx} {pins : List (Addr × Obj)} {σ : St} {H : Hp} {s : Shared} {l b : Addr} {xs ys zs : List V}

/-! ### the two steps: a tracked list is rewritten, a new list is laid -/
theorem Inv.lset {its its' : List Value} {n : Nat} {f : Array Value → Array Value} {t' : Nat} (I : Inv X pins σ H s) (hH : H l = some (.lst xs))
    (e : s.heap.get? l = some { cls := .type "list", data := .seq its.toArray n }) (hf : f its.toArray = its'.toArray) (hv : Vals ys its') (hz : ys.length ≤ sizeLine) :
    Inv X pins σ (upd H l (.lst ys)) { s with heap := s.heap.update l (Obj.mapSeq f), toks := t' } := by
  have q := PySem.IsL.update e f
  rw [hf] at q
  refine I.write (x := l) (e := l) (by rw [hH]; exact trivial) (.inl rfl) (fun b' u hb hu => (Heap.get?_update_other s.heap (Obj.mapSeq f) (Ne.symm hb)).trans hu) ⟨_, q⟩ ?_
  exact ⟨hz, its', _, hv, q⟩
theorem Inv.lnew {its : List Value} {t' : Nat} (I : Inv X pins σ H s) (hv : Vals ys its) (hz : ys.length ≤ sizeLine) :
    Inv X pins σ (upd H s.heap.objs.size (.lst ys)) { s with heap := s.heap.push { cls := .type "list", data := .seq its.toArray }, toks := t' } :=
  I.laid (fun _ _ q => Heap.get?_push_of_some _ q) (Nat.le_refl _) ⟨hz, its, 0, hv, Heap.get?_push_size _ rfl⟩
theorem Inv.fresh (I : Inv X pins σ H s) : H s.heap.objs.size = none := I.hok.fresh (Nat.le_refl _)
theorem Inv.lstM (I : Inv X pins σ H s) (hH : H l = some (.lst xs)) : xs.length ≤ sizeLine ∧ ∃ (its : List Value) (n : Nat), Vals xs its ∧ xs.length = its.length ∧ s.heap.get? l = some { cls := .type "list", data := .seq its.toArray n } := by
  obtain ⟨z, its, n, r, e⟩ := I.hok l _ hH
  exact ⟨z, its, n, r, r.length, e⟩

theorem notLongL {n : Nat} (h : n ≤ sizeLine) : Builtin.List.listTooLong n = false := by
  unfold Builtin.List.listTooLong
  exact decide_eq_false (by omega)
end

section
variable {X : Cx}

/-! ### methods -/
noncomputable def rAppend : V → List V → Hp → VK → Prop := fun x vs H Q => ∃ l xs y, x = .ref l ∧ vs = [y] ∧ H l = some (.lst xs) ∧ xs.length < sizeLine ∧ Q .non (upd H l (.lst (xs ++ [y])))
theorem mt_append : MtM X "list.append" rAppend := by
  intro pins s σ H x vs v us Q I rx rv h
  obtain ⟨l, xs, y, rfl, rfl, hH, hz, q⟩ := h
  cases rx
  obtain ⟨u, rfl, ru⟩ := rv.one
  obtain ⟨z, its, n, r, hl, e⟩ := I.lstM hH
  refine call_meets F.slot_list_append ⟨_, e, rfl⟩ F.entry_list_append (F.args_list_append_2 _ _) (PySem.list_append l its.toArray n u (by rw [List.size_toArray]; omega)) ⟨e, ?_⟩
  refine ⟨.non, _, I.lset (its' := its ++ [u]) hH e (by simp) (r.append (.cons ru .nil)) ?_, rfl, q⟩
  rw [List.length_append, List.length_singleton]
  omega

noncomputable def rExtend : V → List V → Hp → VK → Prop := fun x vs H Q => ∃ l b xs zs, x = .ref l ∧ vs = [.ref b] ∧ H l = some (.lst xs) ∧ H b = some (.lst zs) ∧ xs.length + zs.length ≤ sizeLine ∧ Q .non (upd H l (.lst (xs ++ zs)))
theorem mt_extend : MtM X "list.extend" rExtend := by
  intro pins s σ H x vs v us Q I rx rv h
  obtain ⟨l, b, xs, zs, rfl, rfl, hH, hB, hz, q⟩ := h
  cases rx
  obtain ⟨u, rfl, ru⟩ := rv.one
  cases ru
  obtain ⟨z, its, n, r, hl, e⟩ := I.lstM hH
  obtain ⟨z2, its2, n2, r2, hl2, e2⟩ := I.lstM hB
  have hsz : its.toArray.size + its2.toArray.size ≤ sizeLine := by rw [List.size_toArray, List.size_toArray]; omega
  have hlong : ¬ (!its.toArray.isEmpty && Builtin.List.listTooLong (its.toArray.size + its2.toArray.size)) = true := by
    rw [notLongL hsz, Bool.and_false]
    exact Bool.false_ne_true
  refine call_meets F.slot_list_extend ⟨_, e, rfl⟩ F.entry_list_extend (F.args_list_extend_2 _ _)
    (AutoSeq1.list_extend_list_list_0 l its.toArray n b its2.toArray n2 hlong (by rw [List.size_toArray]; omega) (by omega)) ⟨e, e2, ?_⟩
  refine ⟨.non, _, I.lset (its' := its ++ its2) hH e (by simp) (r.append r2) ?_, rfl, q⟩
  rw [List.length_append]
  omega

noncomputable def rPopAt : V → List V → Hp → VK → Prop := fun x vs H Q => ∃ l xs i k y, x = .ref l ∧ vs = [.int i] ∧ H l = some (.lst xs) ∧ -(2 ^ 63) ≤ i ∧ i < 2 ^ 63 ∧ seqIndex? i xs.length = some k ∧ xs[k]? = some y ∧ Q y (upd H l (.lst (xs.eraseIdx k)))
theorem mt_popAt : MtM X "list.pop" rPopAt := by
  intro pins s σ H x vs v us Q I rx rv h
  obtain ⟨l, xs, i, k, y, rfl, rfl, hH, h1, h2, hk, hy, q⟩ := h
  cases rx
  obtain ⟨u, rfl, ru⟩ := rv.one
  obtain ⟨t, rfl⟩ := ru
  obtain ⟨z, its, n, r, hl, e⟩ := I.lstM hH
  obtain ⟨w, hw, rw'⟩ := r.get hy
  refine call_meets F.slot_list_pop ⟨_, e, rfl⟩ F.entry_list_pop (F.args_list_pop_2 _ _)
    (MeetsSeq.list_pop_at l its.toArray n i t k w (fitsIndex_both h1 h2) (by rw [List.size_toArray, ← hl]; exact hk) (by rw [← Array.getElem?_toList]; exact hw) (by rw [List.size_toArray]; omega)) ⟨e, ?_⟩
  refine ⟨y, _, I.lset (its' := its.eraseIdx k) hH e ?_ (r.eraseIdx k) ?_, rw', q⟩
  · show its.toArray.eraseIdxIfInBounds k = (its.eraseIdx k).toArray
    rw [List.eraseIdxIfInBounds_toArray]
  · have := len_erase xs k
    omega

/-! ### list + list, list += list, list * int -/
noncomputable def rCat : R2 := fun x y H Q => ∃ l b xs zs, x = .ref l ∧ y = .ref b ∧ H l = some (.lst xs) ∧ H b = some (.lst zs) ∧ xs.length + zs.length ≤ sizeLine ∧ ∀ p, H p = none → Q (.ref p) (upd H p (.lst (xs ++ zs)))
theorem op_cat : OpR X (binaryOp .Add) rCat := by
  intro pins s σ H x y v u Q I rx ry h
  obtain ⟨l, b, xs, zs, rfl, rfl, hH, hB, hz, q⟩ := h
  cases rx
  cases ry
  obtain ⟨z, its, n, r, hl, e⟩ := I.lstM hH
  obtain ⟨z2, its2, n2, r2, hl2, e2⟩ := I.lstM hB
  refine PySem.P.add_list e e2 ?_ (by rw [List.size_toArray, List.size_toArray]; omega)
  have ea : its.toArray ++ its2.toArray = (its ++ its2).toArray := by simp
  rw [ea]
  exact ⟨.ref _, _, I.lnew (t' := s.toks) (r.append r2) (by rw [List.length_append]; omega), rfl, q _ I.fresh⟩
/-! ### del xs[i] -/
end

/-! ### xs[a:b] = ys -/
section
variable {prog : Program} {w : World} {A : Around} {E : Value → Shared → Prop} {s : Shared}
end

section
variable {X : Cx}
end
end L2

namespace Att
open PySem PySem.W PySem.Calls PyProof.Rows

/-! ### the script -/
theorem ints_of_wellAll {P : Params} {h : Heap} : ∀ (ns : List Int) (vs : List Value), WellAll P h vs (ns.map WData.int) → IntsAre vs ns := by
  intro ns
  induction ns with
  | nil =>
    intro vs w
    rw [List.map_nil] at w
    cases w
    exact .nil
  | cons n ns ih =>
    intro vs w
    rw [List.map_cons] at w
    cases w with
    | cons a b =>
      cases a
      exact .cons _ _ (ih _ b)

theorem script_of {l : OpenLaw} {n : Nat} (hn : l.most = some n) {P : Params} {h : Heap} {args : List WData} {vals : List Value}
    (hpre : l.row.toRowW.claim.pre args = true) (hwl : WellAll P h vals args) :
    ∃ a vs ns, vals = [Value.ref a] ∧ args = [WData.list (ns.map WData.int)] ∧ h.get? a = some { cls := .type "list", data := .seq vs.toArray } ∧ IntsAre vs ns ∧ ns.length ≤ n := by
  have hsh : WShape.hasAll [] args [.list .int] = true := (pre_splitW hpre).1
  have hc : l.pre.holds [] { args := args } = true := (pre_splitW hpre).2
  obtain ⟨d, r, rfl, h1, h2⟩ := hasAllW_cons hsh
  obtain rfl := hasAllW_nil h2
  obtain ⟨xs, rfl, h3⟩ := hasW_list h1
  obtain ⟨ns, rfl⟩ := items_int h3
  have hlen : ns.length ≤ n := by
    unfold OpenLaw.pre at hc
    have h4 : (WTm.not (.lt (.lit (.int (n : Int))) (.len (.arg 0)))).holds [] { args := [.list (ns.map .int)] } = true := by
      have h4 := (holds_andW hc).1
      rw [hn] at h4
      exact h4
    have h5 := condW_of h4 (w_not (w_lt w_lit (w_len_list (w_arg rfl))))
    rw [List.length_map] at h5
    refine Nat.le_of_not_lt fun q => ?_
    have q' : (n : Int) < ((ns.length : Nat) : Int) := by omega
    first
      | (rw [decide_eq_true q'] at h5; exact absurd h5 (by decide))
      | (simp at h5; omega)
  cases hwl with
  | cons w1 w2 =>
    cases w2
    cases w1 with
    | list ho hall => exact ⟨_, _, ns, rfl, rfl, ho, ints_of_wellAll ns _ hall, hlen⟩

theorem post_true (l : OpenLaw) (args : List WData) : l.row.toRowW.claim.post args (.bool true) args = true :=
  postW_of (r := l.row.toRowW) (X := (true == true))
    (show WShape.has [] (.bool true) .bool = true by first | rfl | decide | simp [WShape.has, WShape.arms, WShape.armsAll])
    (show (WTm.eq .res (.lit (.bool true))).value [] { args := args, res := some (.bool true), after := args } = some (.bool (true == true)) from w_eq_bool (w_res rfl) w_lit) rfl

/-! ### the attachment: holds_open's last premise (the goal 'hc' behind k_head) from a wpAny of the law's body -/
/-- the same from a codeAny of the CALL (for a layer whose function contracts speak of calls) -/
theorem attach_call {l : OpenLaw} {n : Nat} {q : Program} {loose : List Str} {XP : (Str → Option Value) → Heap → Prop} {YP : World → Heap → Prop} {d : DefRec}
    (hn : l.most = some n) (hdf : d.params.defaults = [])
    (call : ∀ (w : World) (s₀ s₁ : Shared) (mg mb : Str → Option Value) (fa : Addr) (o : Obj) (pm cd doc : Value) (a : Addr) (vs : List Value) (ns : List Int),
      Ground q loose [] XP w s₀ mg mb s₁.heap → YP w s₁.heap →
      s₁.heap.get? fa = some o → o.data = .func (docDef d.name d.params d.body d.scope pm cd doc) → s₁.heap.CodeRec cd d.name → mg d.name = some (.ref fa) →
      s₁.heap.get? a = some { cls := .type "list", data := .seq vs.toArray } → IntsAre vs ns → ns.length ≤ n → s₁.gens = #[] →
      codeAny (model l.prog w) callerA (.call (.ref fa) ⟨[.ref a], []⟩) (fun r s' => r = .ok (.ret (.bool true)) ∧ OldK s₁.heap s'.heap ∧ s'.os = s₁.os ∧ AllBare s'.gens) s₁) :
    WalkO q loose XP YP l.row.toRowW d [] (fun f vs => PySem.call f vs) := by
  intro w s₀ s₁ mg mb G Y fa o pm cd doc dV kV ho hd hcd hD hmg hg args vals as hpre hlay hrd hwl hlo
  obtain rfl : dV = .none := Dflts.none hD hdf
  obtain rfl : kV = .none := Dflts.noKw hD
  obtain ⟨a, vs, ns, rfl, rfl, hobj, hints, hlen⟩ := script_of hn hpre hwl
  refine enter_call (codeAny_mono (call w s₀ s₁ mg mb fa o pm cd doc a vs ns G Y ho (fd_plain hd) hcd hmg hobj hints hlen hg) fun r s' hq => ?_)
  obtain ⟨rfl, h2, h3, h4⟩ := hq
  exact ⟨.inl ⟨.bool true, .bool true, [], rfl, fun _ => rfl, .bool true, post_true l _, fun _ => ⟨List.Pairwise.nil, fun _ hm => (nomatch hm)⟩⟩, h2, h3, h4⟩

/-! ### rules over ANY heap (no ledger) from facts about the written part K: the library's own take a ledger (News) for what they write -/
section
variable {prog : Program} {w : World} {A : Around} {E : Value → Shared → Prop} {s : Shared} {K : Frag}

/-! the whole heap as the ledger: makes every rule that writes through a ledger a rule over any heap -/
end
end Att

namespace L2
open PySem PySem.Spec PyProof.Rows

theorem vals_ints : ∀ {vs : List Value} {ns : List Int}, IntsAre vs ns → Vals (ns.map V.int) vs
  | _, _, .nil => .nil
  | _, _, .cons n t h => .cons ⟨t, rfl⟩ (vals_ints h)

/-- nothing is tracked but the script, known to the object (or it is an object of the module) -/
noncomputable def Only (H : Hp) : Prop := ∀ b, H b = none ∨ ∃ o xs, H b = some (.frz o (.lst xs))

/-- THE HEAD: the law's promise, at the heap behind the top. F, the promise of the law's def, may use that base is part of the heap (so K.In base, base.Ns mainGlobals mg stand in Mod) -/
theorem law_call {P : Program} {w : World} {K : PySem.W.Frag} {mg mb : Str → Option Value} {CX : CXT} {k : Nat} {fa a : Addr} {fd : FuncData} {x : Str} {sp : Sp} {s₁ : Shared} {vs : List Value} {ns : List Int}
    (KX : K.In s₁.heap) (hns : s₁.heap.Ns mainGlobals mg) (hb : s₁.heap.Ns builtinsNs mb) (hbb : ∀ x : Str, x ≠ "__name__" → mb x = bootBuiltins x) (hlim : s₁.heap.NoLimit) (hg : s₁.gens = #[])
    (ha : s₁.heap.get? a = some { cls := .type "list", data := .seq vs.toArray }) (hi : IntsAre vs ns) (hl : ns.length ≤ sizeLine) (hr : Room k callerA)
    (F : ∀ base : Heap, K.In base → base.Ns mainGlobals mg → FnOk P w K mg base CX k fa fd [x] sp) (hbind : ∀ (s : Shared) (u : Value), BindsTo s fd ⟨[u], []⟩ [(x, u)])
    (hsp : ∀ H : Hp, Only H → SqL K H a (ns.map V.int) → sp [.ref a] H (fun v _ => v = .bl true) fun _ _ _ => False)
    (hCX : ∀ H e s', CX [] H s₁ (fun _ _ _ => False) e s' → False) :
    codeAny (model P w) callerA (.call (.ref fa) ⟨[.ref a], []⟩) (fun r s' => r = .ok (.ret (.bool true)) ∧ OldK s₁.heap s'.heap ∧ s'.os = s₁.os ∧ AllBare s'.gens) s₁ := by
  have rv := vals_ints hi
  have lenV := hi.length
  -- from an abstract heap in which nothing but the script may be tracked
  have core : ∀ H : Hp, Only H → SqL K H a (ns.map V.int) → HOk P w H s₁.heap → (∀ b, H b ≠ none → b = a) → (H a ≠ none → K.lookup a = none) →
      codeAny (model P w) callerA (.call (.ref fa) ⟨[.ref a], []⟩) (fun r s' => r = .ok (.ret (.bool true)) ∧ OldK s₁.heap s'.heap ∧ s'.os = s₁.os ∧ AllBare s'.gens) s₁ := by
    intro H hO hS hok hA hK
    have base_of : ∀ {b : Addr} {o : Obj}, s₁.heap.get? b = some o → H b = none → (hidT s₁.heap H).get? b = some o := fun e n => hidT_get e n
    have noA : ∀ {b : Addr} {o : Obj} {es : Array DictEntry} {ep : Nat}, s₁.heap.get? b = some o → o.data = .dict es ep → H b = none := fun {b o es ep} e d => by
      cases q : H b with
      | none => rfl
      | some u =>
        have e' : b = a := hA b (by rw [q]; simp)
        subst e'
        rw [ha] at e; cases e
        have d' : Data.seq vs.toArray _ = Data.dict es ep := d
        cases d'
    have nsK : ∀ {b : Addr} {m : Str → Option Value}, s₁.heap.Ns b m → (hidT s₁.heap H).Ns b m := fun {b m} ⟨o, es, ep, e, d, r⟩ => ⟨o, es, ep, base_of e (noA e d), d, r⟩
    have hKb : K.In (hidT s₁.heap H) := fun b o e => base_of (KX b o e) (by
      cases q : H b with
      | none => rfl
      | some u =>
        have e' : b = a := hA b (by rw [q]; simp)
        subst e'
        rw [hK (by rw [q]; simp)] at e; cases e)
    have hM : Mod K mg (hidT s₁.heap H) := ⟨hKb, nsK hns, ⟨mb, nsK hb, hbb⟩, let ⟨mc, h1, h2⟩ := hlim; ⟨mc, nsK h1, h2⟩⟩
    have e0 : Env0 P w K mg (hidT s₁.heap H) callerA [] s₁ H := ⟨rfl, hM, fun b o e => of_hidT e, Nat.le_of_eq (hidT_size _ _), trivial, fun b hb => absurd (show b ∈ ([] : List Addr) from hb) (by simp), hok, .of_eq hg⟩
    refine codeAny_mono ((F _ hKb (nsK hns)).run callerA [] s₁ H ⟨[.ref a], []⟩ [.ref a] [.ref a] _ _ hr e0 (hbind s₁ (.ref a)) (.cons rfl .nil) (hsp H hO hS)) fun r s' h => ?_
    cases r with
    | error e => exact (hCX H e s' h).elim
    | ok fl =>
      cases fl with
      | next => exact False.elim h
      | brk => exact False.elim h
      | cont => exact False.elim h
      | ret u =>
        obtain ⟨v, H', os, bare, un, hok', r', q⟩ := h
        have q' : v = .bl true := q
        subst q'
        obtain rfl : u = Value.bool true := r'
        refine ⟨rfl, OldK.of_keep fun b o e => ?_, os, bare⟩
        cases q : H b with
        | none => exact un.keep b o e q (by intro z; exact absurd (show b ∈ ([] : List Addr) from z) (by simp)) (by simp)
        | some u =>
          rcases hO b with z | ⟨ob, xs, z⟩
          · rw [q] at z; cases z
          · have z2 := un.frzs b ob _ z
            obtain ⟨e1, _⟩ := hok b _ z
            obtain ⟨e2, _⟩ := hok' b _ z2
            rw [e] at e1; cases e1
            exact e2
  cases hk : K.lookup a with
  | some o =>
    -- the script is one of the module's own objects
    have e := KX a o hk
    rw [ha] at e
    cases e
    refine core (fun _ => none) (fun _ => .inl rfl) (.inr ⟨_, vs.toArray, _, hk, rfl, rfl, rfl, by rw [List.size_toArray, lenV]; exact hl, by simpa using rv⟩) (fun b u z => by have z' : (none : Option HO) = some u := z; cases z') (fun b z => absurd rfl z) fun z => absurd rfl z
  | none =>
    refine core (fun b => if b = a then some (.frz { cls := .type "list", data := .seq vs.toArray } (.lst (ns.map V.int))) else none) (fun b => ?_) (.inl (.inr ⟨{ cls := .type "list", data := .seq vs.toArray }, if_pos rfl⟩)) (fun b u z => ?_) (fun b z => ?_) fun _ => hk
    · by_cases hb : b = a
      · exact .inr ⟨_, _, if_pos hb⟩
      · exact .inl (if_neg hb)
    · by_cases hb : b = a
      · have z' := (if_pos hb).symm.trans z
        cases z'
        subst hb
        exact ⟨ha, by rw [List.length_map]; exact hl, vs, _, rv, ha⟩
      · have z' := (if_neg hb).symm.trans z
        cases z'
    · by_cases hb : b = a
      · exact hb
      · exact absurd (if_neg hb) z
end L2

namespace L2
open PySem PySem.Spec PyProof.Rows

/-- the goal that k_head leaves (case hc), from the law's promise. F gives the function object fd (K's own) once, then the promise over every base -/
theorem walk_of {l : PySem.W.OpenLaw} {n k : Nat} {q : Program} {loose : List Str} {XP : (Str → Option Value) → Heap → Prop} {YP : World → Heap → Prop} {d : DefRec} {K : Params → PySem.W.Frag} {CX : World → CXT} {sp : World → Sp} {x : Str}
    (hn : l.most = some n) (hn2 : n ≤ sizeLine) (hdf : d.params.defaults = []) (hr : Room k callerA)
    (hY : ∀ (w : World) (h : Heap), YP w h → (K w.params).In h)
    (F : ∀ (w : World) (mg : Str → Option Value) (fa : Addr) (h : Heap), (K w.params).In h → h.Ns mainGlobals mg → mg d.name = some (.ref fa) →
      ∃ fd : FuncData, (∀ (s : Shared) (u : Value), BindsTo s fd ⟨[u], []⟩ [(x, u)]) ∧
        ∀ base : Heap, (K w.params).In base → base.Ns mainGlobals mg → FnOk l.prog w (K w.params) mg base (CX w) k fa fd [x] (sp w))
    (hsp : ∀ (w : World) (H : Hp) (a : Addr) (ns : List Int), ns.length ≤ n → Only H → SqL (K w.params) H a (ns.map V.int) → sp w [.ref a] H (fun v _ => v = .bl true) fun _ _ _ => False)
    (hCX : ∀ (w : World) (H : Hp) (s : Shared) (e : Value) (s' : Shared), CX w [] H s (fun _ _ _ => False) e s' → False) :
    PySem.W.WalkO q loose XP YP l.row.toRowW d [] (fun f vs => PySem.call f vs) := by
  refine Att.attach_call hn hdf fun w s₀ s₁ mg mb fa o pm cd doc a vs ns G Y ho hd hcd hmg hobj hints hlen hg => ?_
  have KX := hY w _ Y
  obtain ⟨fd, hb, hF⟩ := F w mg fa _ KX G.T.g hmg
  exact law_call KX G.T.g G.T.b G.T.builtins G.T.nolimit hg hobj hints (Nat.le_trans hlen hn2) hr hF hb (fun H hO hS => hsp w H a ns hlen hO hS) fun H e s' => hCX w H s₁ e s'
end L2

/- THE LAST THEOREM (shape; LID, My.* are yours):
   My.Adr: a structure of the addresses that your layer names (classes, functions); My.Txt K t: a structure (Prop) of the equations over K;
   My.txt_mk : {K} {implicit addresses ..} (e1 : nsIn K mainGlobals "law" = some (some (.ref f))) (e2 : K.lookup f = some ⟨oc, od, .func (fnOf "law" "law" params body scope dV kV doc pm an cdv ct), sl⟩) (e3 : codeIn K cdv "law" = true) .. : ∃ t, My.Txt K t

set_option maxRecDepth 100000 in
set_option maxHeartbeats 0 in
theorem PySem.Challenge.cw_LID_holds : PySem.Challenge.rw_LID.Holds := by
  w_on; o_law; k_head; (case hw => w_witness2)
  k_fill
  refine L2.walk_of (l := PySem.Challenge.rw_LID) (n := 63) (k := 40) (x := "script") (CX := fun w => ..) (sp := fun _ => My.sp_law) rfl (by decide) rfl ⟨rfl, by decide, by decide⟩ (fun w h Y => PySem.W.kIn_of Y) ?F ?S ?C
  case F =>
    intro w mg fa h KX G hmg
    have T : ∃ t, My.Txt (L2.KOf KX) t := by
      dsimp only [L2.KOf]                          -- K must stand as «<heap const> w.params» for k_is
      refine' My.txt_mk ?e1 ?e2 ?e3 ..
      (case e1 => PySem.W.k_is)                    -- in the order: a name -> its address -> its object -> its parts
      (case e2 => PySem.W.k_is)
      ..
    obtain ⟨t, T⟩ := T
    have e0 := hmg.symm.trans (PySem.W.mg_of KX G T.law)
    cases e0                                       -- fa is the law's own address
    exact ⟨_, fun s u => .of_eq rfl, fun base kb nb => My.law_fn T kb nb⟩     -- if «.of_eq rfl» comes too early: refine' ⟨_, ?b, fun base kb nb => My.law_fn T kb nb⟩; exact fun s u => .of_eq rfl
  case S => exact fun w H a ns hl hO hS => ..
  case C => exact ..
(the tactic k_is has no namespace: write k_is) -/

/-! SHORT WORDS over the layer: a def of the text, its body, what a loop and a test want. -/
namespace L2
open PySem PySem.Spec PyProof.Rows

/-! ### the text by places -/
noncomputable def defArgs (s : Stmt) : Arguments := match s with
  | .FunctionDef _ a _ _ _ _ _ _ _ _ => a
  | _ => { posonlyargs := [], args := [], vararg := none, kwonlyargs := [], kw_defaults := [], kwarg := none, defaults := [] }
noncomputable def defBody (s : Stmt) : List Stmt := match s with
  | .FunctionDef _ _ b _ _ _ _ _ _ _ => b
  | _ => []
noncomputable def defScope (s : Stmt) : Scope := match s with
  | .FunctionDef _ _ _ _ _ _ sc _ _ _ => sc
  | _ => { kind := .function, names := [], isGenerator := false, isCoroutine := false }

/-! ### no exception leaves a def -/
noncomputable abbrev CX0 : CXT := fun _ _ _ _ _ _ => False
noncomputable abbrev E0 : XK := fun _ _ _ => False
theorem pass0 {X : Cx} : Passes CX0 X E0 := fun _ _ _ _ _ _ _ h => h.elim

/-! ### a def (or method) of the text as it stands behind the top -/
structure Fun (K : PySem.W.Frag) (x qual : Str) (st : Stmt) (f : Addr) (fd : FuncData) : Prop where
  ex : ∃ (oc : Value) (od : Option Addr) (kV doc pm : Value) (an : Option Addr) (cdv ct : Value) (osl : Array (Option Value)),
    fd = PySem.W.fnOf x qual (defArgs st) (defBody st) (defScope st) .none kV doc pm an cdv ct ∧ K.lookup f = some ⟨oc, od, .func fd, osl⟩ ∧ PySem.W.codeIn K cdv qual = true
  kp : PySem.W.keepIn K (.ref f) = true
section
variable {P : Program} {w : World} {K : PySem.W.Frag} {mg : Str → Option Value} {base : Heap}
/-- THE RULE for a def: its body as a term of rules, and the reading of that term -/
theorem Fun.ok {x qual : Str} {st : Stmt} {f : Addr} {fd : FuncData} {N ps : List Str} {k : Nat} {sp : Sp} (F : Fun K x qual st f fd) (S : FnScope N ps (defScope st)) (len : ∀ vs H Q E, sp vs H Q E → vs.length = ps.length)
    (hbody : ∀ (cdv : Value) (A : Around) (outer : List Env) (s : Shared) (H : Hp) (vs : List V) (Q : VK) (E : XK), Room k (A.deeper (envOfC qual (defScope st) s.heap.objs.size f cdv)) → sp vs H Q E →
      ∃ t, PSs (cxOf CX0 P w K mg base N qual (defScope st) f cdv A outer s H E).nox (defBody st) t ∧ t { nx := fun _ H' => Q .non H', rt := Q } (start N vs) H) : FnOk P w K mg base CX0 (k + 1) f fd ps sp := by
  obtain ⟨oc, od, kV, doc, pm, an, cdv, ct, osl, rfl, lk, hcd⟩ := F.ex
  refine fn_of lk hcd S len fun A outer s H vs Q E hr hsp => ?_
  obtain ⟨t, h, q⟩ := hbody cdv A outer s H vs Q E hr hsp
  exact ⟨t, h.nox, q⟩
/-- how its arguments bind (no defaults): h is «fun _ _ _ _ _ _ us hl => match us, hl with | [_, _], _ => rfl», one _ a parameter -/
theorem Fun.binds {x qual : Str} {st : Stmt} {f : Addr} {fd : FuncData} {ps : List Str} (F : Fun K x qual st f fd)
    (h : ∀ (kV doc pm : Value) (an : Option Addr) (cdv ct : Value) (us : List Value), us.length = ps.length → bindArgs (PySem.W.fnOf x qual (defArgs st) (defBody st) (defScope st) .none kV doc pm an cdv ct) ⟨us, []⟩ = pure (ps.zip us)) : Binds K fd ps [] := by
  obtain ⟨oc, od, kV, doc, pm, an, cdv, ct, osl, rfl, lk, hcd⟩ := F.ex
  exact .all (h kV doc pm an cdv ct)
theorem fun_mk {x qual : Str} {st : Stmt} {f : Addr} {oc : Value} {od an : Option Addr} {osl : Array (Option Value)} {kV doc pm cdv ct : Value} (l : K.lookup f = some ⟨oc, od, .func (PySem.W.fnOf x qual (defArgs st) (defBody st) (defScope st) .none kV doc pm an cdv ct), osl⟩)
    (c : PySem.W.codeIn K cdv qual = true) (k : PySem.W.keepIn K (.ref f) = true) : Fun K x qual st f (PySem.W.fnOf x qual (defArgs st) (defBody st) (defScope st) .none kV doc pm an cdv ct) := ⟨⟨oc, od, kV, doc, pm, an, cdv, ct, osl, rfl, l, c⟩, k⟩
end
theorem small1000 {n : Nat} (h : n ≤ 1000) : n < sizeLine := Nat.lt_of_le_of_lt h (by decide)

/-! ### expressions in short: the name that stands in the i-th slot -/
section
variable {X : Cx}
theorem pv (i : Nat) {x : Str} {pos : Pos} (hN : X.N[i]? = some x := by rfl) (hv : Vis X.env.scope x := by first | exact Or.inl rfl | exact Or.inr (Or.inl rfl) | exact Or.inr (Or.inr rfl)) (hd : (x == ("__debug__" : Str)) = false := by decide)
    (hcd : (x == ("__classdict__" : Str)) = false := by decide) : PE X (.Name x pos) (tVar i) := pe_var hN hv hd hcd
end

/-! ### tests -/
theorem iteF {A B : Prop} (h : B) : if false = true then A else B := by
  rw [if_neg Bool.false_ne_true]
  exact h
theorem iteT {A B : Prop} (h : A) : if true = true then A else B := by
  rw [if_pos rfl]
  exact h
theorem ite2 {c A B : Prop} [Decidable c] (h1 : c → A) (h2 : ¬ c → B) : if c then A else B := by
  by_cases h : c
  · rw [if_pos h]
    exact h1 h
  · rw [if_neg h]
    exact h2 h
theorem iteNS {c A B : Prop} [Decidable c] (hc : c) (h : B) : if (!decide c) = true then A else B := by
  rw [decide_eq_true hc]
  exact iteF h

/-! ### heaps -/
/-- all that was tracked is as it was -/
noncomputable def Same (H H' : Hp) : Prop := ∀ b o, H b = some o → H' b = some o
theorem Same.refl (H : Hp) : Same H H := fun _ _ h => h
theorem Same.trans {H H1 H2 : Hp} (a : Same H H1) (b : Same H1 H2) : Same H H2 := fun c o h => b c o (a c o h)
theorem Same.free {H H' : Hp} (e : Same H H') {l : Addr} (h : H' l = Option.none) : H l = Option.none := by
  cases q : H l with
  | none => rfl
  | some o =>
    rw [e l o q] at h
    cases h
theorem Same.seq {K : PySem.W.Frag} {H H' : Hp} {a : Addr} {xs : List V} (e : Same H H') (h : SqL K H a xs) : SqL K H' a xs := by
  rcases h with (h | ⟨o, h⟩) | h
  · exact .inl (.inl (e _ _ h))
  · exact .inl (.inr ⟨o, e _ _ h⟩)
  · exact .inr h

end L2

set_option Elab.async false
set_option linter.all false
set_option maxRecDepth 100000
namespace L2
open PySem PySem.Spec PyProof.Rows

/-! ### a list comprehension of one clause over the layer -/
/-- the cells that the block closes over -/
noncomputable def clOf (env : Env) : List (Str × NameKind) → List (Str × Addr) → List (Str × Addr)
  | [], acc => acc
  | (x, k) :: r, acc => if (k == NameKind.free) = true then (match env.cells.lookup x with | some c => clOf env r ((x, c) :: acc) | none => clOf env r acc) else clOf env r acc
theorem clOf_from (env : Env) : ∀ (ns : List (Str × NameKind)) (acc : List (Str × Addr)) (x : Str) (c : Addr), (x, c) ∈ clOf env ns acc → (x, c) ∈ acc ∨ env.cells.lookup x = some c
  | [], acc, x, c, h => .inl h
  | (y, k) :: r, acc, x, c, h => by
    unfold clOf at h
    split at h
    · split at h
      · next d e =>
        rcases clOf_from env r _ x c h with z | z
        · rcases List.mem_cons.mp z with q | q
          · cases q; exact .inr e
          · exact .inl q
        · exact .inr z
      · exact clOf_from env r acc x c h
    · exact clOf_from env r acc x c h
theorem clOf_acc (env : Env) : ∀ (ns : List (Str × NameKind)) (acc : List (Str × Addr)) (p : Str × Addr), p ∈ acc → p ∈ clOf env ns acc
  | [], acc, p, h => h
  | (y, k) :: r, acc, p, h => by
    unfold clOf
    split
    · split
      · exact clOf_acc env r _ p (List.mem_cons_of_mem _ h)
      · exact clOf_acc env r _ p h
    · exact clOf_acc env r _ p h
theorem clOf_has (env : Env) : ∀ (ns : List (Str × NameKind)) (acc : List (Str × Addr)) (x : Str) (c : Addr), (x, NameKind.free) ∈ ns → env.cells.lookup x = some c → (x, c) ∈ clOf env ns acc
  | [], acc, x, c, h, _ => nomatch h
  | (y, k) :: r, acc, x, c, h, e => by
    unfold clOf
    rcases List.mem_cons.mp h with q | q
    · cases q
      rw [if_pos (show (NameKind.free == NameKind.free) = true from rfl), e]
      exact clOf_acc env r _ _ List.mem_cons_self
    · split
      · split
        · exact clOf_has env r _ x c q e
        · exact clOf_has env r _ x c q e
      · exact clOf_has env r _ x c q e
theorem look_mem {l : List (Str × Addr)} {x : Str} {c : Addr} (h : (x, c) ∈ l) : ∃ d, l.lookup x = some d := by
  induction l with
  | nil => cases h
  | cons p r ih =>
    obtain ⟨y, d⟩ := p
    rw [List.lookup_cons]
    cases hx : x == y with
    | true => exact ⟨d, rfl⟩
    | false =>
      rcases List.mem_cons.mp h with q | q
      · cases q
        rw [beq_self_eq_true] at hx
        cases hx
      · exact ih q
theorem clOf_look {env : Env} {ns : List (Str × NameKind)} {x : Str} {c : Addr} (h : (clOf env ns []).lookup x = some c) : env.cells.lookup x = some c := by
  rcases clOf_from env ns [] x c (PySem.mem_of_lookup h) with z | z
  · cases z
  · exact z
theorem clOf_got {env : Env} {ns : List (Str × NameKind)} {x : Str} {c : Addr} (h : (x, NameKind.free) ∈ ns) (e : env.cells.lookup x = some c) : (clOf env ns []).lookup x = some c := by
  obtain ⟨d, q⟩ := look_mem (clOf_has env ns [] x c h e)
  rw [q, ← clOf_look q, e]
theorem closure_is {env : Env} {scope : Scope} (h : ∀ x ∈ scope.names, x.2 = NameKind.free → ∃ c, env.cells.lookup x.1 = some c) : closureFor scope env = pure (clOf env scope.names []) := by
  have go : ∀ (ns : List (Str × NameKind)) (acc : List (Str × Addr)), (∀ x ∈ ns, x.2 = NameKind.free → ∃ c, env.cells.lookup x.1 = some c) →
      (forIn ns acc (fun x cs => match x with | (name, kind) => if (kind == NameKind.free) = true then (do let c ← cellOf env name; pure (ForInStep.yield ((name, c) :: cs))) else pure (ForInStep.yield cs)) : Sem (List (Str × Addr))) = pure (clOf env ns acc) := by
    intro ns
    induction ns with
    | nil => intro acc _; rfl
    | cons p r ih =>
      intro acc hh
      obtain ⟨y, k⟩ := p
      rw [List.forIn_cons]
      unfold clOf
      by_cases hk : (k == NameKind.free) = true
      · rw [if_pos hk]
        obtain ⟨c, e⟩ := hh (y, k) List.mem_cons_self (by cases k <;> first | rfl | cases hk)
        dsimp only at e ⊢
        rw [if_pos hk]
        unfold cellOf
        rw [e]
        exact ih _ fun x hx => hh x (List.mem_cons_of_mem _ hx)
      · rw [if_neg hk]
        dsimp only
        rw [if_neg hk]
        exact ih _ fun x hx => hh x (List.mem_cons_of_mem _ hx)
  unfold closureFor
  have q := go scope.names [] h
  simp only [bind_pure]
  exact q

/-- the block's context -/
noncomputable def cxLc (X : Cx) (scope : Scope) (N : List Str) (C : Addr) (s0 : Shared) (H0 : Hp) (fp : List Addr) : Cx :=
  { X with N := N, s₀ := s0, H₀ := H0, env := compEnvC scope (clOf X.env scope.names []) C X.env, outer := X.stack, stack := X.stack, ex := fp, fn := fun _ => false, pn := [], xe := fun _ _ => False }
/-- the block's names: which of them are the outer ones -/
noncomputable def emb (ix : List (Option Nat)) (σ : St) : St := ix.map fun o => match o with | none => none | some j => (σ[j]?).join
noncomputable def embOk (No : List Str) (out : Str → Option NameKind) (scope : Scope) (N : List Str) (ix : List (Option Nat)) : Bool :=
  (N.length == ix.length) && (N.zip ix).all fun p => match p.2 with | none => true | some j => (No[j]? == some p.1) && (scope.names.lookup p.1 == some NameKind.free) && ((out p.1 == some .cell) || (out p.1 == some .free))
structure LcOk (X : Cx) (scope : Scope) (N : List Str) (ix : List (Option Nat)) : Prop where
  kind : scope.kind = .function
  names : scope.names.all (fun x => (x.2 != .cell) && ((x.2 != .local) || (scope.names.lookup x.1 == some .local)) && ((x.2 != .free) || (X.env.kindOf x.1 == some .cell) || (X.env.kindOf x.1 == some .free))) = true
  em : embOk X.N X.env.kindOf scope N ix = true
  nd : N.Nodup

theorem relab {scope : Scope} {env : Env} {x : Str} {k : NameKind} : ∀ {ns : List (Str × NameKind)}, (ns.map fun (n, k) => if (k == NameKind.free && env.scope.kind == .function && env.kindOf n == some .cell) = true then (n, NameKind.cell) else (n, k)).lookup x = some k →
    (k = .cell ∨ k = .free) → (∀ y ∈ ns, y.2 ≠ .cell) → (x, NameKind.free) ∈ ns
  | [], h, _, _ => by cases h
  | (n, k') :: r, h, hk, hc => by
    have ih := fun h' => relab (scope := scope) (env := env) (x := x) (k := k) (ns := r) h' hk fun y hy => hc y (List.mem_cons_of_mem _ hy)
    have key : ∀ k'' : NameKind, List.lookup x ((n, k'') :: (r.map fun (n, k) => if (k == NameKind.free && env.scope.kind == .function && env.kindOf n == some .cell) = true then (n, NameKind.cell) else (n, k))) = some k →
        (k'' = k' ∨ (k'' = .cell ∧ k' = .free)) → (x, NameKind.free) ∈ (n, k') :: r := fun k'' h hq => by
      rw [List.lookup_cons] at h
      cases hx : x == n with
      | true =>
        rw [hx] at h
        cases h
        have e : x = n := eq_of_beq hx
        subst e
        rcases hq with q | ⟨_, q⟩
        · rcases hk with z | z
          · exact absurd (q.symm.trans z) (hc (x, k') List.mem_cons_self)
          · rw [← q, z]; exact List.mem_cons_self
        · rw [q]; exact List.mem_cons_self
      | false =>
        rw [hx] at h
        exact List.mem_cons_of_mem _ (ih h)
    rw [List.map_cons] at h
    dsimp only at h
    split at h
    · next hh =>
      refine key _ h (.inr ⟨rfl, ?_⟩)
      cases k' <;> first | rfl | (simp at hh)
    · exact key _ h (.inl rfl)

theorem relab2 {env : Env} {x : Str} : ∀ {ns : List (Str × NameKind)}, ns.lookup x = some NameKind.free → ∃ k, (k = NameKind.cell ∨ k = NameKind.free) ∧
    (ns.map fun (n, k) => if (k == NameKind.free && env.scope.kind == .function && env.kindOf n == some .cell) = true then (n, NameKind.cell) else (n, k)).lookup x = some k
  | [], h => by cases h
  | (n, k') :: r, h => by
    rw [List.lookup_cons] at h
    rw [List.map_cons]
    dsimp only
    cases hx : x == n with
    | true =>
      rw [hx] at h
      cases h
      split
      · exact ⟨_, .inl rfl, by rw [List.lookup_cons, hx]⟩
      · exact ⟨_, .inr rfl, by rw [List.lookup_cons, hx]⟩
    | false =>
      rw [hx] at h
      obtain ⟨k, hk, e⟩ := relab2 (env := env) (ns := r) h
      refine ⟨k, hk, ?_⟩
      split <;> (rw [List.lookup_cons, hx]; exact e)

section
variable {X : Cx} {scope : Scope} {N : List Str} {ix : List (Option Nat)}
theorem LcOk.nocell (L : LcOk X scope N ix) : ∀ x ∈ scope.names, x.2 ≠ .cell := fun x hx z => by
  have q := List.all_eq_true.mp L.names x hx
  rw [z] at q
  simp at q
theorem LcOk.locals (L : LcOk X scope N ix) : ∀ x ∈ scope.names, x.2 = .local → scope.names.lookup x.1 = some .local := fun x hx z => by
  have q := List.all_eq_true.mp L.names x hx
  rw [z] at q
  simpa using q
theorem LcOk.frees (L : LcOk X scope N ix) : ∀ x ∈ scope.names, x.2 = .free → X.env.kindOf x.1 = some .cell ∨ X.env.kindOf x.1 = some .free := fun x hx z => by
  have q := List.all_eq_true.mp L.names x hx
  rw [z] at q
  simpa using q
theorem LcOk.clos (L : LcOk X scope N ix) (ok : X.Ok) : closureFor scope X.env = pure (clOf X.env scope.names []) :=
  closure_is fun x hx z => ok.has _ (L.frees x hx z)
theorem LcOk.len (L : LcOk X scope N ix) : N.length = ix.length := by
  have q := L.em
  unfold embOk at q
  rw [Bool.and_eq_true] at q
  exact eq_of_beq q.1
theorem LcOk.out (L : LcOk X scope N ix) {i j : Nat} {x : Str} (h1 : N[i]? = some x) (h2 : ix[i]? = some (some j)) : X.N[j]? = some x ∧ scope.names.lookup x = some NameKind.free ∧ (X.env.kindOf x = some .cell ∨ X.env.kindOf x = some .free) := by
  have q := L.em
  unfold embOk at q
  rw [Bool.and_eq_true] at q
  have hz : (N.zip ix)[i]? = some (x, some j) := by
    rw [List.getElem?_zip_eq_some]
    exact ⟨h1, h2⟩
  have r := List.all_eq_true.mp q.2 _ (List.mem_of_getElem? hz)
  simp only [Bool.and_eq_true, Bool.or_eq_true, beq_iff_eq] at r
  exact ⟨r.1.1, r.1.2, r.2⟩
/-- the block's context is in order -/
theorem lc_ok (L : LcOk X scope N ix) {pins : List (Addr × Obj)} {σ : St} {H2 : Hp} {s2 : Shared} {C : Addr} {fp : List Addr} (I2 : Inv X pins σ H2 s2) (hC : s2.heap.objs.size ≤ C) (hf : ∀ b ∈ fp, FpOk X pins H2 b) (hb : ∀ b ∈ fp, b < s2.heap.objs.size) :
    (cxLc X scope N C s2 H2 fp).Ok where
  mod := I2.ok.mod
  kind := L.kind
  glob := I2.ok.glob
  blt := I2.ok.blt
  above := hC
  inj := fun x y c h1 h2 => I2.ok.inj x y c (clOf_look h1) (clOf_look h2)
  has := fun x hx => by
    have hm : (x, NameKind.free) ∈ scope.names := by
      rcases hx with hx | hx
      · exact relab (scope := scope) (env := X.env) hx (.inl rfl) L.nocell
      · exact relab (scope := scope) (env := X.env) hx (.inr rfl) L.nocell
    obtain ⟨c, e⟩ := I2.ok.has x (L.frees _ hm rfl)
    exact ⟨c, clOf_got hm e⟩
  cab := fun x c h _ => Bool.noConfusion h
  hd := I2.ok.hd
  frames := I2.ok.frames
  stk := .inl rfl
  exf := fun b h => ⟨Nat.ne_of_lt (Nat.lt_of_lt_of_le (hb b h) hC), fun x c e => (hf b h).2.2.2.2.1 x c (clOf_look e)⟩
  bs := fun b o e => I2.bs b o e
  bsz := Nat.le_trans I2.ok.bsz I2.sz
  noex := fun b o e h => by
    rcases (hf b h).2.2.2.1 with z | z
    · exact I2.ok.noex b o e z
    · exact absurd (Nat.lt_of_lt_of_le (Heap.lt_size e) (Nat.le_trans I2.ok.bsz z)) (Nat.lt_irrefl _)
  exfs := fun b h z => (List.mem_cons.mp (I2.stkSub b z)).elim (hf b h).2.1 (hf b h).2.2.1
  funs := I2.stack
  frf := fun b h => I2.stkFree b h
end
end L2

set_option Elab.async false
set_option linter.all false
set_option maxRecDepth 100000
namespace L2
open PySem PySem.Spec PyProof.Rows

/-- the tests of a clause -/
noncomputable def PTs (X : Cx) (ifs : List Expr) (t : TT) : Prop :=
  ∀ (pins : List (Addr × Obj)) (s : Shared) (σ : St) (H : Hp) (Q : Bool → Hp → Prop), Inv X pins σ H s → t σ H Q →
    wpAny (model X.prog X.w) X.A (forIn ifs true fun c r => if r = true then do let ok ← isTrue c X.env (eval c X.env); pure (ForInStep.yield ok) else pure (ForInStep.yield r)) (TP X pins σ Q) X.xe s
noncomputable def tYes : TT := fun _ H Q => Q true H
theorem pts_nil {X : Cx} : PTs X [] tYes := fun _ _ _ H _ I h => wpAny_tests_nil ⟨H, I, h⟩
theorem pts_one {X : Cx} {c : Expr} {t : TT} (h : PT X c t) : PTs X [c] t := fun pins s σ H Q I q => wpAny_tests_one (h pins s σ H Q I q)

section
variable {prog : Program} {w : World} {A : Around} {R : Result → Shared → Prop} {s : Shared}
theorem lc_loop {elt tg iter : Expr} {ifs : List Expr} {scope : Scope} {pos : Pos} {it acc : Value} {env : Env} (J : Nat → Shared → Prop)
    (turn : ∀ n s, J n s → wpAny (model prog w) A (pyNext it) (fun r s1 => match r with
      | none => R (.ok .next) s1
      | some v => wpAny (model prog w) A (letOwnedTupleGo tg it v) (fun _ s2 => wpAny (model prog w) A (assign tg env v) (fun _ s3 =>
          wpAny (model prog w) A (forIn ifs true fun c r => if r = true then do let ok ← isTrue c env (eval c env); pure (ForInStep.yield ok) else pure (ForInStep.yield r)) (fun ok s4 =>
            if ok = true then wpAny (model prog w) A (eval elt env) (fun x s5 => wpAny (model prog w) A (call (.builtin "list.append") [acc, x]) (fun _ s6 => ∃ m, m < n ∧ J m s6) (fun _ _ => False) s5) (fun _ _ => False) s4
            else ∃ m, m < n ∧ J m s4) (fun _ _ => False) s3) (fun _ _ => False) s2) (fun _ _ => False) s1) (fun _ _ => False) s)
    (n : Nat) (h : J n s) : codeAny (model prog w) A (.compLoop (.ListComp elt [⟨tg, iter, ifs, 0⟩] scope pos) 0 it acc env) R s := by
  refine codeAny_loop rfl J (fun k t hJ => ?_) n h
  show wpAny _ A ((compTurn (.ListComp elt [⟨tg, iter, ifs, 0⟩] scope pos) 0 it acc env).onRaise (fun x => do noteFrame x env; theTreesLotGoes x)) _ _ t
  refine wpAny_noted (wpAny_mono (E := fun _ _ => False) ?_ (fun _ _ q => q) fun _ _ f => f.elim)
  rw [compTurn_list]
  refine wpAny_bind (wpAny_standAt (wpAny_bind (thn (turn k t hJ) fun r s1 h1 => ?_)))
  cases r with
  | none => exact wpAny_pure h1
  | some v =>
    refine wpAny_bind (thn h1 fun _ s2 h2 => wpAny_bind (thn h2 fun _ s3 h3 => wpAny_bind (thn h3 fun ok s4 h4 => ?_)))
    cases ok with
    | false => exact wpAny_pure ⟨rfl, h4⟩
    | true => exact wpAny_bind (wpAny_bind (thn h4 fun x s5 h5 => wpAny_bind (thn h5 fun _ s6 h6 => wpAny_pure (wpAny_pure ⟨rfl, h6⟩))))
end

/-- what the block is to show: W by the turn, a measure, the list so far, the block's names, the heap -/
noncomputable def LcW (J : It) (g : TG) (tt : TT) (te : TE) (σ' : St) (fin : List V → Hp → Prop) (H1 : Hp) : Prop :=
  ∃ W : Nat → Nat → List V → St → Hp → Prop, (∃ m, W 0 m [] σ' H1) ∧ ∀ i m ys σ H, W i m ys σ H →
    (J.stop i H ∧ ys.length ≤ sizeLine ∧ fin ys H) ∨ (J.go i H ∧ ys.length < sizeLine ∧ ∃ Nx : List V → St → Hp → Prop, (∀ ys' σ' H', Nx ys' σ' H' → ∃ m', m' < m ∧ W (i + 1) m' ys' σ' H') ∧
      ∀ x H', J.yld i H x H' → g x σ H' fun σ2 H2 => tt σ2 H2 fun b H3 => if b = true then te σ2 H3 (fun v H4 => Nx (ys ++ [v]) σ2 H4) else Nx ys σ2 H3)
noncomputable def tLc (wi : TI) (g : TG) (tt : TT) (te : TE) (ix : List (Option Nat)) : TE := fun σ H Q => wi σ H fun J H1 => LcW J g tt te (emb ix σ) (fun ys H' => ∀ p, H' p = none → Q (.ref p) (upd H' p (.lst ys))) H1

section
variable {X : Cx} {scope : Scope} {N : List Str} {ix : List (Option Nat)}
/-- the outer context behind the block -/
theorem lc_fin {pins pins' : List (Addr × Obj)} {σ σ' : St} {H2 H' : Hp} {s2 s' : Shared} {C D : Addr} {fp : List Addr} {ys : List V} {its : List Value} {k : Nat} {h' : Heap} (I2 : Inv X pins σ H2 s2) (hf : ∀ b ∈ fp, FpOk X pins H2 b)
    (I' : Inv (cxLc X scope N C s2 H2 fp) pins' σ' H' s') (hC : s2.heap.objs.size ≤ C) (hD : s2.heap.objs.size ≤ D) (hDC : D ≠ C) (hn : H' D = none) (ho : s'.heap.get? D = some { cls := .type "list", data := .seq its.toArray k }) (rv : Vals ys its) (hz : ys.length ≤ sizeLine)
    (hs : ∀ b o, b ≠ C → s'.heap.get? b = some o → h'.get? b = some o) : Inv X pins σ (upd H' D (.lst ys)) { s' with heap := h' } := by
  have B : Un (frs X.stack) fp H2 H' s2.heap s'.heap := I'.base
  have neC : ∀ b o, s2.heap.get? b = some o → b ≠ C := fun b o e => Nat.ne_of_lt (Nat.lt_of_lt_of_le (Heap.lt_size e) hC)
  have neD : ∀ b o, s2.heap.get? b = some o → b ≠ D := fun b o e => Nat.ne_of_lt (Nat.lt_of_lt_of_le (Heap.lt_size e) hD)
  have hCn : H' C = none := I'.free
  have tD : ∀ b u, H' b = some u → b ≠ D := fun b u e => ne_of_none e hn
  have tC : ∀ b u, H' b = some u → b ≠ C := fun b u e => ne_of_none e hCn
  refine I2.call' (s' := { s' with heap := h' }) (ch := fp) I'.os ⟨fun b o e n hb hx => ?_, fun b o e n hb hx => ?_, fun b o e n hx => ?_, fun b o e hx => ?_, fun b xs e => ?_, fun b o u e => ?_, fun b ps e => ?_⟩ (fun b u e => ?_) I'.bare fun b hb => ⟨(hf b hb).2.2.2.1, (hf b hb).2.1, (hf b hb).2.2.2.2.1, (hf b hb).2.2.2.2.2⟩
  · exact hs b o (neC b o e) (B.keep b o e n hb hx)
  · obtain ⟨sl, q⟩ := B.slot b o e n hb hx
    exact ⟨sl, hs b _ (neC b o e) q⟩
  · rw [upd_ne (neD b o e)]; exact B.free b o e n hx
  · obtain ⟨o', q⟩ := B.there b o e hx
    exact ⟨o', hs b o' (neC b o e) q⟩
  · rw [upd_ne (tD b _ (B.tups b xs e))]; exact B.tups b xs e
  · rw [upd_ne (tD b _ (B.frzs b o u e))]; exact B.frzs b o u e
  · obtain ⟨m, q⟩ := B.tbls b ps e
    exact ⟨m, by rw [upd_ne (tD b _ q)]; exact q⟩
  · by_cases hb : b = D
    · subst hb
      rw [upd_same] at e
      cases e
      exact ⟨hz, its, k, rv, hs b _ hDC ho⟩
    · rw [upd_ne hb] at e
      refine (I'.hok b u e).stay (fun c v hc q => hs c v ?_ q) (fun c q => by rw [upd_ne (tD c _ q)]; exact q) fun c xs q => by rw [upd_ne (tD c _ q)]; exact q
      rcases hc with z | z
      · rw [z]; exact tC b u e
      · exact tC c _ z

/-- the block at its start -/
theorem lc_in (L : LcOk X scope N ix) {pins : List (Addr × Obj)} {σ : St} {H2 : Hp} {s2 : Shared} {C : Addr} {fp : List Addr} {h1 : Heap} {tk : Nat} {m : Str → Option Value} (I2 : Inv X pins σ H2 s2) (hC : s2.heap.objs.size ≤ C) (hf : ∀ b ∈ fp, FpOk X pins H2 b) (hb : ∀ b ∈ fp, b < s2.heap.objs.size)
    (kp : ∀ b o, s2.heap.get? b = some o → h1.get? b = some o) (hn : h1.Ns C m) : Inv (cxLc X scope N C s2 H2 fp) [] (emb ix σ) H2 { s2 with heap := h1, toks := tk } := by
  refine ⟨lc_ok L I2 hC hf hb, rfl, I2.bare, Un.kept kp, ⟨m, hn, fun i x v e1 e2 e3 => ?_⟩, fun x c e => ?_, I2.hok.fresh hC, fun x c e => I2.freeC x c (clOf_look e), fun p hp => absurd (show p ∈ ([] : List (Addr × Obj)) from hp) (by simp), I2.hok.kept kp, ?_⟩
  · unfold emb at e2
    rw [List.getElem?_map] at e2
    cases q : ix[i]? with
    | none => rw [q] at e2; cases e2
    | some o =>
      rw [q] at e2
      cases o with
      | none => cases e2
      | some j =>
        have e2' : (σ[j]?).join = some v := Option.some.inj e2
        have e4 : σ[j]? = some (some v) := by
          cases z : σ[j]? with
          | none => rw [z] at e2'; cases e2'
          | some y => rw [z] at e2'; exact congrArg some e2'
        obtain ⟨a1, a2, a3⟩ := L.out e1 q
        obtain ⟨mo, _, hl⟩ := I2.loc
        obtain ⟨u, r, lk⟩ := hl j x v a1 e4 (.inr a3)
        refine ⟨u, r, ?_⟩
        rcases lk with ⟨k, _⟩ | ⟨k, c, e, o, ho, hd⟩
        · rcases a3 with z | z
          · rw [z] at k; cases k
          · rw [z] at k; cases k
        · obtain ⟨k', hk', e'⟩ := relab2 (env := X.env) a2
          refine .inr ⟨?_, c, clOf_got (PySem.mem_of_lookup a2) e, o, kp _ _ ho, hd⟩
          rcases hk' with z | z
          · subst z; exact .inl e'
          · subst z; exact .inr e'
  · obtain ⟨v, o, ho, hd⟩ := I2.cell x c (clOf_look e)
    exact ⟨v, o, kp _ _ ho, hd⟩
  · unfold emb
    rw [List.length_map]
    exact L.len.symm

variable {tg iter elt : Expr} {ifs : List Expr} {pos : Pos} {g : TG} {tt : TT} {te : TE}
theorem lc_run (L : LcOk X scope N ix) (hc : X.calm = true) (hg : ∀ C s0 H0 fp, PG (cxLc X scope N C s0 H0 fp) tg g) (ht : ∀ C s0 H0 fp, PTs (cxLc X scope N C s0 H0 fp) ifs tt) (he : ∀ C s0 H0 fp, PE (cxLc X scope N C s0 H0 fp) elt te)
    {pins : List (Addr × Obj)} {σ : St} {H2 : Hp} {s2 : Shared} {it : Addr} {fp : List Addr} {tn : Nat → Heap → Prop} {J : It} {fin : List V → Hp → Prop} {E : Value → Shared → Prop} {RR : Value → Addr → Result → Shared → Prop}
    (I2 : Inv X pins σ H2 s2) (T : Turn X.prog X.w X.K tg J fp it tn) (st : tn 0 s2.heap) (f2 : ∀ b ∈ fp, FpOk X pins H2 b) (hW : LcW J g tt te (emb ix σ) fin H2)
    (hRR : ∀ D C s' m ys H', s'.heap.Ns C m → s'.os = s2.os → D ≠ C → FpOk X pins (upd H' D (.lst ys)) C → (∀ h', Heap.SameBut C s'.heap h' → Inv X pins σ (upd H' D (.lst ys)) { s' with heap := h' }) → H' D = none → fin ys H' → RR (.ref D) C (.ok .next) s') :
    wpAny (model X.prog X.w) X.A (newList []) (fun acc s3 => wpAny (model X.prog X.w) X.A (newFunctionEnv scope X.env.globals (clOf X.env scope.names []) [] X.env.qual none .none (some X.env)) (fun cenv s4 =>
      codeAny (model X.prog X.w) X.A (.compStart (.ListComp elt [⟨tg, iter, ifs, 0⟩] scope pos) 0 (.ref it) acc { cenv with scope := relabel scope X.env }) (RR acc cenv.locals) s4) E s3) E s2 := by
  obtain ⟨W, ⟨m0, w0⟩, turn⟩ := hW
  have hb2 : ∀ b ∈ fp, b < s2.heap.objs.size := fun b hb => by
    obtain ⟨o, e, _⟩ := T.obj _ _ st b hb
    exact Heap.lt_size e
  refine wpAny_newObj_type (wpAny_newFunctionEnv L.nocell (by intro y hy; simp at hy) (fun h1 hns hsb => ?_) L.kind)
  dsimp only at hns hsb ⊢
  generalize hG : s2.heap.push { cls := .type "list", dict := none, data := .seq ([] : List Value).toArray } = G at hns hsb ⊢
  have hGs : G.objs.size = s2.heap.objs.size + 1 := by rw [← hG, Heap.size_push]
  generalize hDe : s2.heap.objs.size = D at hGs hb2
  generalize hCe : G.objs.size = C at hGs hns hsb ⊢
  have hDC : D ≠ C := by omega
  have nq : ∀ b : Nat, b < s2.heap.objs.size → b ≠ C ∧ b ≠ D := fun b h => ⟨by omega, by omega⟩
  have nq2 : ∀ b ∈ fp, b ≠ C ∧ b ≠ D := fun b hb => nq b (by rw [hDe]; exact hb2 b hb)
  have kG : ∀ b o, s2.heap.get? b = some o → G.get? b = some o := fun b o e => by rw [← hG]; exact Heap.get?_push_of_some _ e
  have kp : ∀ b o, s2.heap.get? b = some o → h1.get? b = some o := fun b o e => hsb.extBut b o (nq b (Heap.lt_size e)).1 (Heap.get?_push_of_some _ (kG b o e))
  have oD : ∃ n, h1.get? D = some { cls := .type "list", data := .seq ([] : List Value).toArray n } := ⟨_, hsb.extBut _ _ hDC (Heap.get?_push_of_some _ (by rw [← hG, ← hDe]; exact Heap.get?_push_size _ rfl))⟩
  have I4 := lc_in L (tk := s2.toks + ([] : List (Str × Value)).length) I2 (C := C) (by omega) f2 (by rw [hDe]; exact hb2) kp hns
  have st4 : tn 0 h1 := T.keep _ _ _ st fun b _ o e => kp b o e
  have hDf : D ∉ (cxLc X scope N C s2 H2 fp).fs := fun z => by
    have z' : D ∈ frs X.stack := z
    rcases List.mem_cons.mp (I2.stkSub D z') with q | q
    · exact (nq _ I2.lt).2 q.symm
    · exact I2.nofs (a := D) (by omega) q
  have cellD : ∀ x c, (cxLc X scope N C s2 H2 fp).env.cells.lookup x = some c → c ≠ D := fun x c e z => by
    obtain ⟨v, o, ho, _⟩ := I2.cell x c (clOf_look e)
    exact (nq c (Heap.lt_size ho)).2 z
  have stat : ∀ {H' : Hp} {pl : List (Addr × Obj)}, (∀ b ∈ fp, H' b = none) → (∀ p ∈ pl, p.1 = D) → ∀ b ∈ fp, FpOk (cxLc X scope N C s2 H2 fp) pl H' b := fun {H' pl} hn hp b hb => by
    have hlt := hb2 b hb
    refine ⟨hn b hb, (nq2 b hb).1, fun z => ?_, .inl hb, fun x c e => (f2 b hb).2.2.2.2.1 x c (clOf_look e), fun p hq z => ?_⟩
    · exact (List.mem_cons.mp (I2.stkSub b z)).elim (f2 b hb).2.1 (f2 b hb).2.2.1
    · have hq' : p ∈ pl := by simpa [cxLc] using hq
      exact (nq2 b hb).2 (z.symm.trans (hp p hq'))
  have pinD : ∀ {pl : List (Addr × Obj)} {σ' : St} {H' : Hp} {s' : Shared} {o : Obj}, Inv (cxLc X scope N C s2 H2 fp) pl σ' H' s' → s'.heap.get? D = some o → H' D = none → (∀ v, o.data ≠ .cell v) → Inv (cxLc X scope N C s2 H2 fp) [(D, o)] σ' H' s' :=
    fun {pl σ' H' s' o} I' ho hn hd => I'.pins_of fun p hp => by
      have e : p = (D, o) := by simpa using hp
      subst e
      exact ⟨ho, hn, hDC, hDf, hd⟩
  have loop : ∀ s4 : Shared, s4 = { s2 with heap := h1, toks := s2.toks + ([] : List (Str × Value)).length } →
      codeAny (model X.prog X.w) X.A (.compLoop (.ListComp elt [⟨tg, iter, ifs, 0⟩] scope pos) 0 (.ref it) (.ref D) (cxLc X scope N C s2 H2 fp).env) (RR (.ref D) C) s4 := by
    rintro s4 rfl
    refine lc_loop (fun n s' => ∃ i σ' H' ys its k, Inv (cxLc X scope N C s2 H2 fp) [(D, { cls := .type "list", data := .seq its.toArray k })] σ' H' s' ∧ tn i s'.heap ∧ (∀ b ∈ fp, H' b = none) ∧ Vals ys its ∧ W i n ys σ' H') ?_ m0 ?_
    · rintro n s' ⟨i, σ', H', ys, its, k, I', st', fr', rv, w'⟩
      have hD' := I'.pin _ (List.mem_append_right _ List.mem_cons_self)
      rcases turn i n ys σ' H' w' with ⟨stop, hz, qf⟩ | ⟨go, hz, Nx, hN, step⟩
      · refine thn (T.done (cxLc X scope N C s2 H2 fp) rfl rfl rfl hc i _ s' σ' H' _ I' (stat fr' (by simp)) st' stop) fun r s5 ⟨hr, I5⟩ => ?_
        subst hr
        have hD5 := I5.pin _ (List.mem_append_right _ List.mem_cons_self)
        obtain ⟨m5, hn5, _⟩ := I5.loc
        refine hRR D C s5 m5 ys H' hn5 I5.os hDC (I2.fpOk (by omega) (by rw [upd_ne (Ne.symm hDC)]; exact I5.free)) (fun h' hs' => ?_) hD5.2.1 qf
        exact lc_fin I2 f2 I5 (by omega) (by omega) hDC hD5.2.1 hD5.1 rv hz fun b o hb e => hs'.extBut b o hb e
      · refine thn (T.item (cxLc X scope N C s2 H2 fp) rfl rfl rfl hc i _ s' σ' H' _ I' (stat fr' (by simp)) st' go) fun r s5 ⟨u, hr, h5⟩ => ?_
        subst hr
        refine thn h5 fun _ s6 ⟨x, H6, I6, r6, y6, st6, fr6⟩ => ?_
        have I6' := I6.pinned (stat fr6 (by simp)) (T.obj _ _ st6)
        refine thn (hg C s2 H2 fp _ s6 σ' H6 x u _ I6' r6 (step x H6 y6)) fun _ s7 ⟨σ7, H7, I7, q7⟩ => ?_
        refine thn (ht C s2 H2 fp _ s7 σ7 H7 _ I7 q7) fun ok s8 ⟨H8, I8, q8⟩ => ?_
        have back : ∀ {H9 : Hp} {s9 : Shared}, Inv (cxLc X scope N C s2 H2 fp) ([(D, { cls := .type "list", data := .seq its.toArray k })] ++ pinsAt fp s6.heap) σ7 H9 s9 → tn (i + 1) s9.heap ∧ ∀ b ∈ fp, H9 b = none := fun {H9 s9} I9 => by
          refine ⟨T.keep _ _ _ st6 fun b hb o e => (I9.pin (b, o) (List.mem_append_right _ (List.mem_append_right _ (mem_pinsAt hb e)))).1, fun b hb => ?_⟩
          obtain ⟨o, e, d⟩ := T.obj _ _ st6 b hb
          exact (I9.pin (b, o) (List.mem_append_right _ (List.mem_append_right _ (mem_pinsAt hb e)))).2.1
        cases ok with
        | false =>
          rw [if_neg Bool.false_ne_true] at q8 ⊢
          obtain ⟨m', hm, w8⟩ := hN _ _ _ q8
          obtain ⟨st8, fr8⟩ := back I8
          exact ⟨m', hm, i + 1, σ7, H8, ys, its, k, I8.unpinned, st8, fr8, rv, w8⟩
        | true =>
          rw [if_pos rfl] at q8 ⊢
          refine thn (he C s2 H2 fp _ s8 σ7 H8 _ I8 q8) fun y s9 ⟨v, H9, I9, r9, q9⟩ => ?_
          have hD9 := I9.pin _ (List.mem_append_right _ (List.mem_append_left _ List.mem_cons_self))
          obtain ⟨st9, fr9⟩ := back I9
          refine wpAny_list_append_plain (hsz := by have := rv.length; rw [List.size_toArray]; omega) ⟨k, hD9.1⟩ fun h' hl' hs' => ?_
          obtain ⟨m', hm, w9⟩ := hN _ _ _ q9
          obtain ⟨k', ho'⟩ := hl'
          have I10 : Inv (cxLc X scope N C s2 H2 fp) [] σ7 H9 { s9 with heap := h' } := (I9.pins_of (pins' := []) fun p hp => absurd hp (by simp)).turned (t' := s9.toks) (it := D) (fun b o hb e => hs'.extBut b o hb e) hD9.2.1 hDC (.inr (by show s2.heap.objs.size ≤ D; omega)) cellD (fun p hp => absurd hp (by simp [cxLc]))
          refine ⟨m', hm, i + 1, σ7, H9, ys ++ [v], its ++ [y], k', pinD I10 (by rw [ho']; simp) hD9.2.1 (fun v z => by cases z), ?_, fr9, rv.append (.cons r9 .nil), w9⟩
          exact T.keep _ _ _ st9 fun b hb o e => hs'.extBut b o (nq2 b hb).2 e
    · obtain ⟨n, e⟩ := oD
      exact ⟨0, emb ix σ, H2, [], [], n, pinD I4 e (I2.hok.fresh (by omega)) (fun v z => by cases z), st4, fun b hb => (f2 b hb).1, .nil, w0⟩
  have q := loop _ rfl
  exact codeAny_compStart_list q (T.self _ 0 _ _ _ st4 q)
end
end L2

set_option Elab.async false
set_option linter.all false
set_option maxRecDepth 100000
namespace L2
open PySem PySem.Spec PyProof.Rows

theorem strsAre_of {ss : List Str} : ∀ {us : List Value}, Vals (ss.map V.str) us → StrsAre us ss := by
  induction ss with
  | nil => intro us r; rw [List.map_nil] at r; cases r; exact .nil
  | cons n ns ih =>
    intro us r
    rw [List.map_cons] at r
    cases r with
    | cons r1 r2 =>
      obtain ⟨t, e⟩ := r1
      subst e
      exact .cons n t (ih r2)
theorem vals_strs : ∀ {vs : List Value} {ss : List Str}, StrsAre vs ss → Vals (ss.map V.str) vs
  | _, _, .nil => .nil
  | _, _, .cons n t h => .cons ⟨t, rfl⟩ (vals_strs h)

section
variable {X : Cx}
/-! ### comprehensions as values and as what a name is given -/
variable {scope : Scope} {N : List Str} {ix : List (Option Nat)} {tg iter elt : Expr} {ifs : List Expr} {pos : Pos} {g : TG} {tt : TT} {te : TE} {wi : TI}
theorem pe_lc (L : LcOk X scope N ix) (hc : X.calm = true) (hi : PI X tg iter wi) (hg : ∀ C s0 H0 fp, PG (cxLc X scope N C s0 H0 fp) tg g) (ht : ∀ C s0 H0 fp, PTs (cxLc X scope N C s0 H0 fp) ifs tt) (he : ∀ C s0 H0 fp, PE (cxLc X scope N C s0 H0 fp) elt te)
    (hs : ∀ x, foldedSetIterable iter X.env x = pure x := by intro _; rfl) : PE X (.ListComp elt [⟨tg, iter, ifs, 0⟩] scope pos) (tLc wi g tt te ix) := by
  intro pins s σ H Q I h
  rw [eval_ListComp]
  refine wpAny_comprehension_free (use := none) rfl hs (L.clos I.ok) L.kind L.locals (thn (hi pins s σ H _ I h) fun v s1 h1 => thn h1 fun itv s2 h2 => ?_)
  obtain ⟨it, fp, tn, J, H2, rfl, I2, T, st2, f2, hW⟩ := h2
  refine lc_run (RR := fun acc C => compPost (model X.prog X.w) X.A X.xe none (EP X pins σ Q) acc C) L hc hg ht he I2 T st2 f2 hW ?_
  intro D C s' m ys H' hn ho hDC hC hI hD fin
  exact ⟨m, hn, fun h' hs' => ⟨.ref D, _, hI h' hs', rfl, fin D hD⟩⟩
/-- name = [..] -/
noncomputable def tSetLc (i : Nat) (wi : TI) (g : TG) (tt : TT) (te : TE) (ix : List (Option Nat)) : TS := fun D σ H => wi σ H fun J H1 => LcW J g tt te (emb ix σ) (fun ys H' => ∀ p, H' p = none → D.nx (σ.set i (some (.ref p))) (upd H' p (.lst ys))) H1
theorem ps_setLc {i : Nat} {y : Str} {py spos : Pos} (hN : X.N.Nodup) (hi' : X.N[i]? = some y) (hx : Loc X.env.scope y) (L : LcOk X scope N ix) (hc : X.calm = true) (hi : PI X tg iter wi) (hg : ∀ C s0 H0 fp, PG (cxLc X scope N C s0 H0 fp) tg g)
    (ht : ∀ C s0 H0 fp, PTs (cxLc X scope N C s0 H0 fp) ifs tt) (he : ∀ C s0 H0 fp, PE (cxLc X scope N C s0 H0 fp) elt te)
    (hsw : swapsWith (.ListComp elt [⟨tg, iter, ifs, 0⟩] scope pos) (some (.Name y py)) spos.line X.env = pure true := by rfl) (hs : ∀ x, foldedSetIterable iter X.env x = pure x := by intro _; rfl)
    (hf : X.fn y = true ∨ X.env.scope.names.lookup y = some .local := by first | exact .inl rfl | exact .inr rfl | assumption) :
    PS X (.Assign [.Name y py] (.ListComp elt [⟨tg, iter, ifs, 0⟩] scope pos) spos) (tSetLc i wi g tt te ix) := by
  intro pins s σ H D I h
  rw [exec_Assign_Name_used _ _ _ _ hsw]
  refine wpAny_bind (wpAny_standAt (wpAny_bind ?_))
  show wpAny _ X.A (do let _ ← comprehension (.ListComp elt [⟨tg, iter, ifs, 0⟩] scope pos) scope X.env _ (newList []) false (eval iter X.env) (some (assign (.Name y py) X.env))) _ _ s
  refine wpAny_bind (thn (wpAny_comprehension_free (use := some (assign (.Name y py) X.env)) (Q := fun _ s' => SP X pins D .next s') rfl hs (L.clos I.ok) L.kind L.locals
    (thn (hi pins s σ H _ I h) fun v s1 h1 => thn h1 fun itv s2 h2 => ?_)) fun _ s' hq => wpAny_pure (wpAny_pure hq))
  obtain ⟨it, fp, tn, J, H2, rfl, I2, T, st2, f2, hW⟩ := h2
  refine lc_run (RR := fun acc C => compPost (model X.prog X.w) X.A X.xe (some (assign (.Name y py) X.env)) (fun _ s' => SP X pins D .next s') acc C) L hc hg ht he I2 T st2 f2 hW ?_
  intro Da C s' m ys H' hn ho hDC hC hI hD fin
  have I' := hI s'.heap (Heap.SameBut.refl _ _)
  show wpAny _ X.A (assign (.Name y py) X.env (.ref Da)) _ _ s'
  refine wpAny_assign_Name (store_ok2 (v := .ref Da) I' hN hi' hx rfl (fun s'' I'' ch => ?_) hf)
  obtain ⟨a, hsa, hwa⟩ := ch
  obtain ⟨c1, c2, c3, c4, c5, c6⟩ := hC
  have hCa : C ≠ a := by
    rcases hwa with z | z
    · rw [z]; exact c2
    · exact fun w => c5 y a z w.symm
  refine ⟨m, hn.sameBut hsa hCa, fun h' hs' => ⟨_, _, I''.turned (t' := s''.toks) (it := C) (fun b o hb e => hs'.extBut b o hb e) c1 c2 c4 c5 c6, fin Da hD⟩⟩
end
end L2

set_option Elab.async false
set_option linter.all false
set_option maxRecDepth 100000
namespace L2
open PySem PySem.Spec PyProof.Rows

/-! ### data that is read: nested tuples and lists over the abstract heap -/
mutual
inductive DV (H : Hp) : V → PyData → Prop
  | non : DV H .non .none
  | bl (b : Bool) : DV H (.bl b) (.bool b)
  | int (i : Int) : DV H (.int i) (.int i)
  | str (x : Str) : DV H (.str x) (.str x)
  | tup {a : Addr} {xs : List V} {ds : List PyData} : H a = some (.tup xs) → DVs H xs ds → DV H (.ref a) (.tuple ds)
  | lst {a : Addr} {xs : List V} {ds : List PyData} : H a = some (.lst xs) → DVs H xs ds → DV H (.ref a) (.list ds)
inductive DVs (H : Hp) : List V → List PyData → Prop
  | nil : DVs H [] []
  | cons {x : V} {d : PyData} {xs : List V} {ds : List PyData} : DV H x d → DVs H xs ds → DVs H (x :: xs) (d :: ds)
end
section
variable {P : Program} {w : World} {H : Hp} {h : Heap}
mutual
theorem DV.reads (ok : HOk P w H h) : ∀ {x : V} {d : PyData} {u : Value}, DV H x d → RelV x u → ∃ as, Reads h u d as
  | _, _, u, .non, r => by cases (show u = Value.none from r); exact ⟨_, Reads.none⟩
  | _, _, u, .bl b, r => by cases (show u = Value.bool b from r); exact ⟨_, Reads.bool b⟩
  | _, _, u, .int i, r => by obtain ⟨t, e⟩ := (show ∃ t, u = Value.int i t from r); cases e; exact ⟨_, Reads.int i t⟩
  | _, _, u, .str x, r => by obtain ⟨t, e⟩ := (show ∃ t, u = Value.str x t from r); cases e; exact ⟨_, Reads.str x t⟩
  | _, _, u, .tup (a := a) (xs := xs) e q, r => by
    cases (show u = Value.ref a from r)
    obtain ⟨_, its, rv, o, ho, hc, n, hd⟩ := (show ObjOk P w H h a (.tup xs) from ok a _ e)
    obtain ⟨as, z⟩ := DVs.reads ok q rv
    exact ⟨as, Reads.tuple ho hc hd (by simpa using z)⟩
  | _, _, u, .lst (a := a) (xs := xs) e q, r => by
    cases (show u = Value.ref a from r)
    obtain ⟨_, its, n, rv, ho⟩ := (show ObjOk P w H h a (.lst xs) from ok a _ e)
    obtain ⟨as, z⟩ := DVs.reads ok q rv
    exact ⟨_, Reads.list ho rfl rfl (by simpa using z)⟩
theorem DVs.reads (ok : HOk P w H h) : ∀ {xs : List V} {ds : List PyData} {us : List Value}, DVs H xs ds → Vals xs us → ∃ as, ReadsAll h us ds as
  | _, _, _, .nil, .nil => ⟨_, ReadsAll.nil⟩
  | _, _, _, .cons a b, .cons r rs => by
    obtain ⟨as, p⟩ := DV.reads ok a r
    obtain ⟨bs, q⟩ := DVs.reads ok b rs
    exact ⟨_, ReadsAll.cons p q⟩
end
end
theorem DVs.strs {H : Hp} : ∀ ss : List Str, DVs H (ss.map V.str) (ss.map PyData.str)
  | [] => .nil
  | x :: r => .cons (.str x) (DVs.strs r)

section
variable {X : Cx}
open SeqAt in
theorem op_eqD {k : Nat} (hr : Room k X.A) : OpR X (compareOp .Eq) (fun x y H Q => ∃ d e, DV H x d ∧ DV H y e ∧ shaped d = true ∧ shaped e = true ∧ Q (.bl (PyData.eqv d e)) H) := by
  intro pins s σ H x y v u Q I rx ry h
  obtain ⟨d, e, dx, dy, sd, se, q⟩ := h
  obtain ⟨as, r1⟩ := dx.reads I.hok rx
  obtain ⟨bs, r2⟩ := dy.reads I.hok ry
  exact eq_dataH r1 r2 sd se hr.units ⟨.bl (PyData.eqv d e), H, I, rfl, q⟩
open SeqAt in
theorem op_neD {k : Nat} (hr : Room k X.A) : OpR X (compareOp .NotEq) (fun x y H Q => ∃ d e, DV H x d ∧ DV H y e ∧ shaped d = true ∧ shaped e = true ∧ Q (.bl (!PyData.eqv d e)) H) := by
  intro pins s σ H x y v u Q I rx ry h
  obtain ⟨d, e, dx, dy, sd, se, q⟩ := h
  obtain ⟨as, r1⟩ := dx.reads I.hok rx
  obtain ⟨bs, r2⟩ := dy.reads I.hok ry
  exact ne_dataH r1 r2 sd se hr.units ⟨.bl (!PyData.eqv d e), H, I, rfl, q⟩
/-- repr of a list or a tuple -/
theorem call_reprD {k : Nat} (hr : Room k X.A) : CallR X (.builtin "repr") (fun xs H Q => ∃ a d, xs = [.ref a] ∧ DV H (.ref a) d ∧ d.showable = true ∧ d.hasDict = false ∧ d.depth ≤ 40 ∧ d.shown.length ≤ sizeLine ∧ Q (.str d.shown) H) := by
  intro pins s σ H xs us Q I r h
  obtain ⟨a, d, rfl, dx, h1, h2, h3, h4, q⟩ := h
  obtain ⟨u, rfl, rx⟩ := vals1 r
  cases rx
  obtain ⟨as, r1⟩ := dx.reads I.hok (show RelV (.ref a) (Value.ref a) from rfl)
  exact repr_of_reads' r1 h1 (fun z => by rw [h2] at z; cases z) hr.gd (by have := hr.units; omega) (fun _ _ e => e) (fun h' t tk kp => ⟨.str d.shown, H, I.kept kp, ⟨_, rfl⟩, q⟩) h4

theorem range_all' (bs : List Bool) : ((List.range bs.length).all fun i => (bs[i]?).getD true) = bs.all id := by
  rw [Bool.eq_iff_iff, List.all_eq_true, List.all_eq_true]
  constructor
  · intro h b hb
    obtain ⟨i, hi, e⟩ := List.mem_iff_getElem.mp hb
    have := h i (List.mem_range.mpr hi)
    rw [List.getElem?_eq_getElem hi, e] at this
    simpa using this
  · intro h i hi
    have hi := List.mem_range.mp hi
    rw [List.getElem?_eq_getElem hi]
    simpa using h _ (List.getElem_mem hi)
/-- all of a list of bools -/
theorem call_allB (hc : X.calm = true) : CallR X (.builtin "all") (fun xs H Q => ∃ (p : Addr) (bs : List Bool), xs = [.ref p] ∧ SqL X.K H p (bs.map V.bl) ∧ Q (.bl (bs.all id)) H) := by
  intro pins s σ H xs us Q I r h
  obtain ⟨p, bs, rfl, hq, q⟩ := h
  obtain ⟨u, rfl, rx⟩ := vals1 r
  cases rx
  obtain ⟨its, r', pl, hz⟩ := I.list hq
  have hlt : p < s.heap.objs.size := by obtain ⟨o, n, e, _⟩ := pl; exact Heap.lt_size e
  have hlen := r'.length
  rw [List.length_map] at hlen
  refine call_all_walk (wpAny_pyIter_list pl.isList ?_)
  refine ⟨s.heap.objs.size, [s.heap.objs.size, p], [s.heap.objs.size], its.toArray.size, _, _, fun i => (bs[i]?).getD true, rfl, Walks.list (A := X.A.in1) (I.ok.hd hc) _ p (Nat.ne_of_lt hlt) its.toArray,
    ⟨⟨_, Heap.get?_push_size _ rfl, rfl, rfl⟩, pl.isList.push _⟩, fun i v s' Q' E' hP hQ => ?_, fun h' tk hk => ?_⟩
  · have hP' : its[i]? = some v := by simpa using hP
    have hb : ∃ b, bs[i]? = some b ∧ v = Value.bool b := by
      have hi : i < bs.length := by rw [hlen]; exact (List.getElem?_eq_some_iff.mp hP').1
      have e1 : (bs.map V.bl)[i]? = some (V.bl bs[i]) := by rw [List.getElem?_map, List.getElem?_eq_getElem hi]; rfl
      obtain ⟨w', e2, rw'⟩ := r'.get e1
      rw [hP'] at e2
      cases e2
      exact ⟨bs[i], List.getElem?_eq_getElem hi, rw'⟩
    obtain ⟨b, e, rfl⟩ := hb
    simp only [e, Option.getD_some] at hQ
    exact wpAny_truthy_bool hQ
  · have e : ((List.range its.toArray.size).all fun i => (bs[i]?).getD true) = bs.all id := by
      rw [List.size_toArray, ← hlen]; exact range_all' bs
    rw [e]
    refine ⟨.bl (bs.all id), H, I.kept (t' := tk) fun b x e => hk b x (fun hm => ?_) (Heap.get?_push_of_some _ e), rfl, q⟩
    rw [List.mem_singleton.mp hm] at e
    exact Nat.lt_irrefl _ (Heap.lt_size e)

theorem call_isinst {T : String} : CallR X (.builtin "isinstance") (fun xs H Q => ∃ x t b, xs = [x, .ty T] ∧ TyOf X.K H x t ∧ PySem.W.kitOne X.K t (.type T) = some b ∧ Q (.bl b) H) := by
  intro pins s σ H xs us Q I r h
  obtain ⟨x, t, b, rfl, ty, e, q⟩ := h
  obtain ⟨u, w', rfl, rx, ry⟩ := vals2 r
  cases (show w' = Value.type T from ry)
  exact isinst_ok I rx ty e fun tk => ⟨.bl b, H, I.tok tk, rfl, q⟩

/-! ### texts -/
theorem op_le_str : OpR X (compareOp .LtE) (fun x y H Q => ∃ i j, x = .str i ∧ y = .str j ∧ Q (.bl (!decide (j.cps.toList < i.cps.toList))) H) := by
  intro pins s σ H x y v u Q I rx ry h
  obtain ⟨i, j, rfl, rfl, q⟩ := h
  obtain ⟨t, rfl⟩ := rx
  obtain ⟨t', rfl⟩ := ry
  exact PySem.P.le_str ⟨.bl (!decide (j.cps.toList < i.cps.toList)), H, I, rfl, q⟩
theorem mt_join : MtR X "str.join" (fun x xs H Q => ∃ (z : Str) (p : Addr) (ss : List Str), x = .str z ∧ xs = [.ref p] ∧ SqL X.K H p (ss.map V.str) ∧ (ss.map (·.length)).sum + ss.length * z.length ≤ 16777216 ∧ Q (.str (Txt.join z ss)) H) := by
  intro pins s σ H x xs v us Q I rx rs h
  obtain ⟨z, p, ss, rfl, rfl, hq, hz, q⟩ := h
  obtain ⟨t, rfl⟩ := rx
  obtain ⟨u, rfl, ru⟩ := vals1 rs
  cases ru
  obtain ⟨its, r', pl, _⟩ := I.list hq
  exact join_list pl.isList (strsAre_of r') hz fun t' k => ⟨.str (Txt.join z ss), H, I.tok k, ⟨_, rfl⟩, q⟩

/-- sorted of a list of texts -/
theorem call_sortedS : CallR X (.builtin "sorted") (fun xs H Q => ∃ (p : Addr) (ss : List Str), xs = [.ref p] ∧ SqL X.K H p (ss.map V.str) ∧ ss.length < 64 ∧ ∀ (ss' : List Str) (q : Addr), ss'.Perm ss → sortedS ss' = true → H q = none → Q (.ref q) (upd H q (.lst (ss'.map V.str)))) := by
  intro pins s σ H xs us Q I r h
  obtain ⟨p, ss, rfl, hq, h64, q⟩ := h
  obtain ⟨u, rfl, rx⟩ := vals1 r
  cases rx
  obtain ⟨its, r', pl, hz⟩ := I.list hq
  have hlen := r'.length
  rw [List.length_map] at hlen
  refine sorted_strs pl.isList (strsAre_of r') (by omega) fun out ss' a1 a2 a3 => ?_
  obtain ⟨e, he⟩ := sortedAll_at s.heap its out
  have hv : Vals (ss'.map V.str) out.toList := vals_strs a1
  have hfr : H (s.heap.objs.size + 1) = none := I.hok.fresh (Nat.le_succ _)
  refine ⟨.ref (s.heap.objs.size + 1), _, I.laid (t' := s.toks) (o := .lst (ss'.map V.str)) (fun b o z => sortedAll_old z) (Nat.le_succ _) ⟨?_, out.toList, e, hv, ?_⟩, rfl, q ss' _ a2 a3 hfr⟩
  · rw [List.length_map, a2.length_eq, sizeLine_eq]; omega
  · simpa [seqObj] using he
end
end L2

set_option Elab.async false
set_option linter.all false
set_option maxHeartbeats 4000000
namespace L2
open PySem PySem.W PyProof.Rows

/-! ### the sort's tree of questions, over a strict total order of the places -/
noncomputable abbrev gp (p : Array Nat) (i : Nat) : Nat := p.getD i 0
structure Ord (N : Nat) (lt : Nat → Nat → Bool) : Prop where
  tr : ∀ i j k, lt i j = true → lt j k = true → lt i k = true
  irr : ∀ i, lt i i = false
  tot : ∀ i j, i < N → j < N → i ≠ j → lt i j = true ∨ lt j i = true
noncomputable def Pm (N : Nat) (p : Array Nat) : Prop := p.Perm (List.toArray (List.range N))
theorem Pm.size {N : Nat} {p : Array Nat} (h : Pm N p) : p.size = N := by
  have := Array.Perm.size_eq h
  simpa using this
theorem gp_eq {p : Array Nat} {i : Nat} (h : i < p.size) : gp p i = p[i] := by simp [gp, Array.getD, h]
theorem gp_congr {p q : Array Nat} {i j : Nat} (h : p[i]? = q[j]?) : gp p i = gp q j := by simp [gp, Array.getD_eq_getD_getElem?, h]
theorem Pm.lt {N : Nat} {p : Array Nat} (h : Pm N p) {i : Nat} (hi : i < N) : gp p i < N := by
  have hs : i < p.size := by rw [h.size]; exact hi
  rw [gp_eq hs]
  have hm : p[i] ∈ (List.toArray (List.range N)) := h.mem_iff.mp (Array.getElem_mem hs)
  simpa using hm
theorem Pm.nd {N : Nat} {p : Array Nat} (h : Pm N p) : p.toList.Nodup := by
  have hp : p.toList.Perm (List.range N) := by simpa using Array.perm_iff_toList_perm.mp h
  exact hp.nodup_iff.mpr List.nodup_range
theorem Pm.inj {N : Nat} {p : Array Nat} (h : Pm N p) {i j : Nat} (hi : i < N) (hj : j < N) (hij : i ≠ j) : gp p i ≠ gp p j := by
  have hsi : i < p.size := by rw [h.size]; exact hi
  have hsj : j < p.size := by rw [h.size]; exact hj
  rw [gp_eq hsi, gp_eq hsj]
  intro e
  have nd := h.nd
  rcases Nat.lt_or_gt_of_ne hij with z | z
  · exact List.pairwise_iff_getElem.mp nd i j (by simpa using hsi) (by simpa using hsj) z (by simpa using e)
  · exact List.pairwise_iff_getElem.mp nd j i (by simpa using hsj) (by simpa using hsi) z (by simpa using e.symm)

section
variable {N : Nat} {lt : Nat → Nat → Bool} {cmp : Nat → Nat → (Bool → Shared → Prop) → Shared → Prop} {s : Shared}
noncomputable def Asc (lt : Nat → Nat → Bool) (p : Array Nat) (b : Nat) : Prop := ∀ i j, i < j → j < b → lt (gp p i) (gp p j) = true
noncomputable def Dsc (lt : Nat → Nat → Bool) (p : Array Nat) (b : Nat) : Prop := ∀ i j, i < j → j < b → lt (gp p j) (gp p i) = true
theorem Asc.more (O : Ord N lt) {p : Array Nat} {n : Nat} (h : Asc lt p n) (h1 : 1 ≤ n) (e : lt (gp p (n - 1)) (gp p n) = true) : Asc lt p (n + 1) := fun i j hij hj => by
  by_cases q : j < n
  · exact h i j hij q
  · have : j = n := by omega
    subst this
    by_cases z : i = j - 1
    · rw [z]; exact e
    · exact O.tr _ _ _ (h i (j - 1) (by omega) (by omega)) e
theorem Dsc.more (O : Ord N lt) {p : Array Nat} {n : Nat} (h : Dsc lt p n) (h1 : 1 ≤ n) (e : lt (gp p n) (gp p (n - 1)) = true) : Dsc lt p (n + 1) := fun i j hij hj => by
  by_cases q : j < n
  · exact h i j hij q
  · have : j = n := by omega
    subst this
    by_cases z : i = j - 1
    · rw [z]; exact e
    · exact O.tr _ _ _ e (h i (j - 1) (by omega) (by omega))
theorem Ord.other (O : Ord N lt) {p : Array Nat} (hp : Pm N p) {i j : Nat} (hi : i < N) (hj : j < N) (hij : i ≠ j) (e : lt (gp p i) (gp p j) ≠ true) : lt (gp p j) (gp p i) = true :=
  (O.tot _ _ (hp.lt hi) (hp.lt hj) (hp.inj hi hj hij)).resolve_left e

variable (O : Ord N lt) (hc : ∀ (i j : Nat) (C : Bool → Shared → Prop), i < N → j < N → i ≠ j → C (lt i j) s → cmp i j C s)
include O hc
theorem asc_ok {p : Array Nat} (hp : Pm N p) {Q : Nat → Shared → Prop} : ∀ (f n : Nat), 1 ≤ n → n + f ≤ N → Asc lt p n → (∀ m, n ≤ m → m ≤ n + f → Asc lt p m → (m = n + f ∨ lt (gp p m) (gp p (m - 1)) = true) → Q m s) → (kas_asc p f n).kasWp cmp Q s
  | 0, n, h1, hn, ha, k => k n (Nat.le_refl _) (Nat.le_refl _) ha (.inl rfl)
  | f + 1, n, h1, hn, ha, k => by
    unfold kas_asc
    refine hc _ _ _ (hp.lt (by omega)) (hp.lt (by omega)) (hp.inj (by omega) (by omega) (by omega)) ?_
    by_cases e : lt (gp p n) (gp p (n - 1)) = true
    · show KasT.kasWp cmp (if lt (gp p n) (gp p (n - 1)) = true then _ else _) Q s
      rw [if_pos e]
      exact k n (Nat.le_refl _) (by omega) ha (.inr e)
    · show KasT.kasWp cmp (if lt (gp p n) (gp p (n - 1)) = true then _ else _) Q s
      rw [if_neg e]
      exact asc_ok hp f (n + 1) (by omega) (by omega) (ha.more O h1 (O.other hp (by omega) (by omega) (by omega) e)) fun m a b c d => k m (by omega) (by omega) c (d.imp (fun z => by omega) id)
theorem desc_ok {p : Array Nat} (hp : Pm N p) {Q : Array Nat × Nat × Nat → Shared → Prop} : ∀ (f n : Nat), 1 ≤ n → n + f ≤ N → Dsc lt p n → (∀ m, n ≤ m → m ≤ n + f → Dsc lt p m → Q (p, m, 0) s) → (kas_desc f p n 0).kasWp cmp Q s
  | 0, n, h1, hn, ha, k => k n (Nat.le_refl _) (Nat.le_refl _) ha
  | f + 1, n, h1, hn, ha, k => by
    unfold kas_desc
    refine hc _ _ _ (hp.lt (by omega)) (hp.lt (by omega)) (hp.inj (by omega) (by omega) (by omega)) ?_
    by_cases e : lt (gp p n) (gp p (n - 1)) = true
    · show KasT.kasWp cmp (if lt (gp p n) (gp p (n - 1)) = true then _ else _) Q s
      rw [if_pos e, if_neg (by omega)]
      exact desc_ok hp f (n + 1) (by omega) (by omega) (ha.more O h1 e) fun m a b c => k m (by omega) (by omega) c
    · show KasT.kasWp cmp (if lt (gp p n) (gp p (n - 1)) = true then _ else _) Q s
      rw [if_neg e]
      refine hc _ _ _ (hp.lt (by omega)) (hp.lt (by omega)) (hp.inj (by omega) (by omega) (by omega)) ?_
      have e2 := O.other hp (show n < N by omega) (show n - 1 < N by omega) (by omega) e
      show KasT.kasWp cmp (if lt (gp p (n - 1)) (gp p n) = true then _ else _) Q s
      rw [if_pos e2]
      exact k n (Nat.le_refl _) (by omega) ha
theorem rev_ok {p : Array Nat} (hp : Pm N p) {m : Nat} (hm : m ≤ N) (h : Dsc lt p m) : Pm N (kas_rev p 0 m) ∧ Asc lt (kas_rev p 0 m) m := by
  have hz : m ≤ p.size := by rw [hp.size]; exact hm
  refine ⟨(mirror_perm p 0 m _).trans hp, fun i j hij hj => ?_⟩
  have g : ∀ k, k < m → gp (kas_rev p 0 m) k = gp p (0 + m - 1 - k) := fun k hk => gp_congr (by
    unfold kas_rev
    rw [getElem?_mirror_all hz, if_pos ⟨Nat.zero_le _, hk⟩])
  rw [g i (by omega), g j hj]
  exact h _ _ (by omega) (by omega)
theorem count_ok {p : Array Nat} (hp : Pm N p) (h2 : 2 ≤ N) {Q : Nat × Array Nat → Shared → Prop} (h0 : ∀ m q, 1 ≤ m → m ≤ N → Pm N q → Asc lt q m → Q (m, q) s) : (kas_count N p).kasWp cmp Q s := by
  unfold kas_count
  rw [KasT.kasWp_bind]
  refine asc_ok O hc hp (N - 1) 1 (Nat.le_refl _) (by omega) (fun i j a b => by omega) fun m a b c d => ?_
  by_cases e : (m == N) = true
  · rw [if_pos e]
    exact h0 m p a (by omega) hp c
  · rw [if_neg e]
    have hm : m ≠ N := fun z => e (beq_iff_eq.mpr z)
    by_cases e1 : m > 1
    · rw [if_pos e1]
      refine hc _ _ _ (hp.lt (by omega)) (hp.lt (by omega)) (hp.inj (by omega) (by omega) (by omega)) ?_
      show KasT.kasWp cmp (if lt (gp p 0) (gp p (m - 1)) = true then _ else _) Q s
      rw [if_pos (c 0 (m - 1) (by omega) (by omega))]
      exact h0 m p a (by omega) hp c
    · rw [if_neg e1]
      have : m = 1 := by omega
      subst this
      have e2 : lt (gp p 1) (gp p (1 - 1)) = true := d.resolve_left (by omega)
      unfold kas_descPart
      rw [KasT.kasWp_bind]
      refine desc_ok O hc hp (N - (1 + 1)) (1 + 1) (by omega) (by omega) (fun i j x y => by
        have : i = 0 := by omega
        have : j = 1 := by omega
        subst i j
        exact e2) fun m' a' b' c' => ?_
      show KasT.kasWp cmp (if (0 : Nat) > 0 then _ else _) Q s
      rw [if_neg (by omega)]
      show KasT.kasWp cmp (kas_tail3 m' N p) Q s
      unfold kas_tail3
      rw [KasT.kasWp_bind]
      obtain ⟨r1, r2⟩ := rev_ok O hc hp (show m' ≤ N by omega) c'
      exact asc_ok O hc r1 (N - m') m' (by omega) (by omega) r2 fun m'' x y z w => h0 m'' _ (by omega) (by omega) r1 z
theorem place_ok {p : Array Nat} (hp : Pm N p) {k : Nat} (hk : k < N) (ha : Asc lt p k) {Q : Nat → Shared → Prop} : ∀ (f l r : Nat), l ≤ r → r ≤ k → r - l ≤ f → (∀ i, i < l → lt (gp p i) (gp p k) = true) → (∀ i, r ≤ i → i < k → lt (gp p k) (gp p i) = true) →
    (∀ l, l ≤ k → (∀ i, i < l → lt (gp p i) (gp p k) = true) → (∀ i, l ≤ i → i < k → lt (gp p k) (gp p i) = true) → Q l s) → (kas_place p k f l r).kasWp cmp Q s
  | 0, l, r, h1, h2, h3, hl, hr, q => by
    have : l = r := by omega
    subst this
    exact q l h2 hl hr
  | f + 1, l, r, h1, h2, h3, hl, hr, q => by
    unfold kas_place
    by_cases e : l ≥ r
    · rw [if_pos e]
      have : l = r := by omega
      subst this
      exact q l h2 hl hr
    · rw [if_neg e]
      refine hc _ _ _ (hp.lt hk) (hp.lt (by omega)) (hp.inj hk (by omega) (by omega)) ?_
      by_cases c : lt (gp p k) (gp p ((l + r) / 2)) = true
      · show KasT.kasWp cmp (if lt (gp p k) (gp p ((l + r) / 2)) = true then _ else _) Q s
        rw [if_pos c]
        refine place_ok hp hk ha f l ((l + r) / 2) (by omega) (by omega) (by omega) hl (fun i a b => ?_) q
        by_cases z : i = (l + r) / 2
        · rw [z]; exact c
        · exact O.tr _ _ _ c (ha _ _ (by omega) b)
      · show KasT.kasWp cmp (if lt (gp p k) (gp p ((l + r) / 2)) = true then _ else _) Q s
        rw [if_neg c]
        have c' := O.other hp hk (show (l + r) / 2 < N by omega) (by omega) c
        refine place_ok hp hk ha f ((l + r) / 2 + 1) r (by omega) h2 (by omega) (fun i a => ?_) hr q
        by_cases z : i = (l + r) / 2
        · rw [z]; exact c'
        · exact O.tr _ _ _ (ha i ((l + r) / 2) (by omega) (by omega)) c'
theorem bin_ok {Q : Array Nat → Shared → Prop} (h0 : ∀ q, Pm N q → Asc lt q N → Q q s) : ∀ (f : Nat) (p : Array Nat) (k : Nat), k + f = N → Pm N p → Asc lt p k → (kas_bin f p k).kasWp cmp Q s
  | 0, p, k, hk, hp, ha => h0 p hp (by rw [← hk]; exact ha)
  | f + 1, p, k, hk, hp, ha => by
    unfold kas_bin
    rw [KasT.kasWp_bind]
    refine place_ok O hc hp (show k < N by omega) ha k 0 k (by omega) (Nat.le_refl _) (by omega) (fun i z => by omega) (fun i a b => by omega) fun l hl h1 h2 => ?_
    refine bin_ok h0 f _ (k + 1) (by omega) ((bubble_perm p k _).trans hp) fun i j hij hj => ?_
    have hs : k < p.size := by rw [hp.size]; omega
    have g : ∀ i, gp (bubble p k (k - l)) i = if i = l then gp p k else if l < i ∧ i ≤ k then gp p (i - 1) else gp p i := fun i => by
      have e := getElem?_bubble hs (k - l) (by omega) i
      have e1 : k - (k - l) = l := by omega
      rw [e1] at e
      by_cases z1 : i = l
      · rw [if_pos z1] at e ⊢; exact gp_congr e
      · rw [if_neg z1] at e ⊢
        by_cases z2 : l < i ∧ i ≤ k
        · rw [if_pos z2] at e ⊢; exact gp_congr e
        · rw [if_neg z2] at e ⊢; exact gp_congr e
    rw [g i, g j]
    by_cases a1 : i = l
    · rw [if_pos a1, if_neg (by omega), if_pos (by omega)]
      exact h2 _ (by omega) (by omega)
    · rw [if_neg a1]
      by_cases a2 : l < i ∧ i ≤ k
      · rw [if_pos a2, if_neg (by omega), if_pos (by omega)]
        exact ha _ _ (by omega) (by omega)
      · rw [if_neg a2]
        by_cases b1 : j = l
        · rw [if_pos b1]; exact h1 i (by omega)
        · rw [if_neg b1]
          by_cases b2 : l < j ∧ j ≤ k
          · rw [if_pos b2]
            exact ha _ _ (by omega) (by omega)
          · rw [if_neg b2]
            exact ha _ _ hij (by omega)
theorem sort_ok (h2 : 2 ≤ N) {Q : Array Nat → Shared → Prop} (h0 : ∀ q, Pm N q → Asc lt q N → Q q s) : (kas_sort N).kasWp cmp Q s := by
  unfold kas_sort
  rw [KasT.kasWp_bind]
  refine count_ok O hc (Array.Perm.refl _) h2 fun m q a b hp ha => ?_
  show KasT.kasWp cmp (if m < N then _ else _) Q s
  by_cases e : m < N
  · rw [if_pos e]
    have em : max m 1 = m := by omega
    show KasT.kasWp cmp (kas_bin (N - max m 1) q (max m 1)) Q s
    rw [em]
    exact bin_ok O hc h0 (N - m) q m (by omega) hp ha
  · rw [if_neg e]
    have : m = N := by omega
    subst this
    exact h0 q hp ha
end
end L2

set_option Elab.async false
set_option linter.all false
set_option maxRecDepth 100000
set_option maxHeartbeats 4000000
namespace L2
open PySem PySem.Spec PyProof.Rows PySem.W PySem.Calls

section
variable {prog : Program} {w : World} {A : Around} {E : Value → Shared → Prop} {s : Shared}
/-- what a sort of values asks: the kind of its keys, and each question answered by lt, nothing changed -/
noncomputable def Asked (prog : Program) (w : World) (A : Around) (vs : List Value) (lt : Nat → Nat → Bool) (s : Shared) : Prop :=
  ∃ κ : SortKind, (∀ Q : SortKind → Shared → Prop, Q κ s → wpAny (model prog w) A (keyKind' vs.toArray) Q (fun _ _ => False) s) ∧
    ∀ (i j : Nat) (C : Bool → Shared → Prop), i < vs.length → j < vs.length → i ≠ j → C (lt i j) s → kas_ask prog w A κ vs i j C s
noncomputable def outOf (vs : List Value) (p : Array Nat) : List Value := p.toList.map fun i => vs.getD i Value.none
theorem rsort_tree {lt : Nat → Nat → Bool} {a : Addr} {vs : List Value} {n : Nat} {P : PySem.Fin → Shared → Prop} (ho : s.heap.get? a = some (seqObj "list" vs.toArray n)) (h64 : vs.length < 64) (O : Ord vs.length lt)
    (hk : 2 ≤ vs.length → ∀ s' : Shared, (∀ b o, b ≠ a → s.heap.get? b = some o → s'.heap.get? b = some o) → Asked prog w A vs lt s')
    (h : ∀ p, Pm vs.length p → Asc lt p vs.length → P (.done (.ret .none)) { s with heap := sortedHeap s.heap a vs (outOf vs p).toArray }) :
    wpAny (model prog w) A (Builtin.«list.sort» ⟨[.ref a], []⟩) P E s := by
  rw [list_sort_plain]
  have hlt : a < s.heap.objs.size := Heap.lt_size ho
  have hfit : vs.length ≤ sizeLine := by rw [sizeLine_eq]; omega
  refine wpAny_bind (listItems_at ho rfl (wpAny_bind (listUpdate_at ho rfl ?_ (by rw [List.size_toArray]; exact hfit) (Nat.zero_le _))))
  obtain ⟨e1, ho1⟩ : ∃ e1, (s.heap.update a (Obj.mapSeq fun _ => (#[] : Array Value))).get? a = some (seqObj "list" #[] e1) := ⟨_, get?_update_seq ho fun _ => #[]⟩
  refine wpAny_bind (seqEpoch_at ho1 rfl (wpAny_bind (wpAny_newTuple (wpAny_bind (wpAny_newList (wpAny_holding ?_) (Nat.zero_le _))) (by show vs.length ≤ _; exact hfit))))
  have ho2 : (((s.heap.update a (Obj.mapSeq fun _ => (#[] : Array Value))).push (seqObj "tuple" vs.toArray 0)).push (seqObj "list" #[] 0)).get? a = some (seqObj "list" #[] e1) := Heap.get?_push_of_some _ (Heap.get?_push_of_some _ ho1)
  show wpAny (model prog w) A _ P E { s with heap := ((s.heap.update a (Obj.mapSeq fun _ => (#[] : Array Value))).push (seqObj "tuple" vs.toArray 0)).push (seqObj "list" #[] 0) }
  dsimp only
  by_cases h2 : vs.toArray.size < 2
  · rw [if_pos h2, if_pos h2]
    refine wpAny_bind (wpAny_pure ?_)
    rw [StateT.run_pure]
    refine wpAny_bind (wpAny_pure ?_)
    dsimp only
    have hz : ((vs.toArray.zip vs.toArray).map (·.2)) = (outOf vs (List.toArray (List.range vs.length))).toArray := by
      unfold outOf
      apply Array.ext
      · simp
      · intro i h1 h2
        simp only [Array.size_map, Array.size_zip, List.size_toArray, Nat.min_self] at h1
        simp [h1]
    have es : vs.toArray.size = vs.length := by simp
    refine wpAny_bind (seqEpoch_at ho2 rfl (wpAny_bind (listUpdate_at ho2 rfl ?_ (Nat.zero_le _) ?_)))
    · simp only [bne_self_eq_false, Bool.false_eq_true, if_false]
      have q := h (List.toArray (List.range vs.length)) (Array.Perm.refl _) (fun i j hij hj => by omega)
      unfold sortedHeap at q
      rw [← hz] at q
      exact wpAny_pure q
    · show ((vs.toArray.zip vs.toArray).map (·.2)).size ≤ sizeLine + 1
      simp only [Array.size_map, Array.size_zip, List.size_toArray, Nat.min_self]
      omega
  · have h2' : 2 ≤ vs.length := by rw [List.size_toArray] at h2; omega
    rw [if_neg h2, if_neg h2]
    obtain ⟨κ, kd, ask⟩ := hk h2' { s with heap := ((s.heap.update a (Obj.mapSeq fun _ => (#[] : Array Value))).push (seqObj "tuple" vs.toArray 0)).push (seqObj "list" #[] 0) } fun b o hb e =>
      Heap.get?_push_of_some _ (Heap.get?_push_of_some _ (by rw [Heap.get?_update_ne _ _ _ _ hb]; exact e))
    refine wpAny_bind (wpAny_mono (E := fun _ _ => False) (Q := fun k s' => k = κ ∧ s' = { s with heap := ((s.heap.update a (Obj.mapSeq fun _ => (#[] : Array Value))).push (seqObj "tuple" vs.toArray 0)).push (seqObj "list" #[] 0) }) (kd _ ⟨rfl, rfl⟩) ?_ fun _ _ f => f.elim)
    rintro k s' ⟨rfl, rfl⟩
    refine wpAny_bind (wpAny_mono (kat_run (ks := vs) (G := fun p s' => (Pm vs.length p ∧ Asc lt p vs.length) ∧ s' = { s with heap := ((s.heap.update a (Obj.mapSeq fun _ => (#[] : Array Value))).push (seqObj "tuple" vs.toArray 0)).push (seqObj "list" #[] 0) })
      (Q := fun st' s' => ∃ p : Array Nat, arrOf st' = p.map (kas_item (vs.toArray.zip vs.toArray)) ∧ failedOf st' = none ∧ (Pm vs.length p ∧ Asc lt p vs.length) ∧ s' = { s with heap := ((s.heap.update a (Obj.mapSeq fun _ => (#[] : Array Value))).push (seqObj "tuple" vs.toArray 0)).push (seqObj "list" #[] 0) })
      rfl h2' h64 (fun p st' s' _ a2 a3 a4 => ⟨p, a2, a3, a4⟩) (sort_ok O ask h2' fun q hq ha => ⟨⟨hq, ha⟩, rfl⟩)) ?_ fun _ _ e => e)
    rintro ⟨⟨⟩, st'⟩ s' ⟨p, har, hf, ⟨hp, ha⟩, rfl⟩
    dsimp only
    rw [kat_snds rfl har]
    have hsz : (List.toArray (p.toList.map fun i => vs.getD i Value.none)).size ≤ sizeLine + 1 := by
      rw [List.size_toArray, List.length_map, Array.length_toList, hp.size]; omega
    refine wpAny_bind (seqEpoch_at ho2 rfl (wpAny_bind (listUpdate_at ho2 rfl ?_ (Nat.zero_le _) hsz)))
    rw [hf]
    simp only [bne_self_eq_false, Bool.false_eq_true, if_false]
    exact wpAny_pure (h p hp ha)

/-- a list or a tuple, gathered -/
theorem collect_any {l : Addr} {o : Obj} {vs : List Value} {n : Nat} {T : String} {Q : List Value → Shared → Prop} (hT : T = "list" ∨ T = "tuple") (ho : s.heap.get? l = some o) (hc : o.cls = .type T) (hd : o.data = .seq vs.toArray n)
    (h : Q vs { s with heap := (s.heap.push (seqObj "list" #[] 0)).update s.heap.objs.size (Obj.mapSeq (· ++ vs.toArray)) }) (hsz : vs.length ≤ sizeLine) : wpAny (model prog w) A (collect (.ref l)) Q E s := by
  rcases hT with rfl | rfl
  · exact collect_list ⟨o, ho, hc, n, hd⟩ h hsz
  · unfold collect
    refine wpAny_bind (wpAny_runValue (codeAny_builtin entry_proto_collect' ?_))
    show wpAny _ _ (do again (.builtin "list.__iadd__" ⟨[← newList [], .ref l], []⟩)) _ _ s
    refine wpAny_bind (wpAny_newList (wpAny_pure ⟨Code.quiet_builtin _ (by decide +kernel), codeAny_builtin entry_list_iadd' ?_⟩))
    show wpAny _ _ (Builtin.List.listExtendWith (.ref s.heap.objs.size) (.ref l) (.ref s.heap.objs.size)) _ _ { s with heap := s.heap.push (seqObj "list" #[] 0) }
    unfold Builtin.List.listExtendWith
    have ho' : (s.heap.push (seqObj "list" #[] 0)).get? l = some o := Heap.get?_push_of_some _ ho
    refine wpAny_bind (wpAny_typeOf (T := "tuple") ⟨o, ho', hc⟩ ?_)
    rw [if_pos (by rw [show (Value.type "tuple" == Value.type "tuple") = true from rfl]; simp)]
    refine wpAny_bind (listItems_at ho' hd (wpAny_bind (listItems_at (xs := #[]) (n := 0) (Heap.get?_push_size _ rfl) rfl ?_)))
    rw [if_neg (by simp)]
    refine wpAny_bind (listUpdate_at (xs := #[]) (n := 0) (Heap.get?_push_size _ rfl) rfl (wpAny_pure ?_) (Nat.zero_le _) (by show (#[] ++ vs.toArray).size ≤ sizeLine + 1; simp only [Array.size_append, List.size_toArray, List.length_nil]; omega))
    show wpAny (model prog w) A (do
        let o ← load s.heap.objs.size
        match o.data with
        | .seq xs _ => pure xs.toList
        | _ => unsupported "internal:collect") Q E { s with heap := (s.heap.push (seqObj "list" #[] 0)).update s.heap.objs.size (Obj.mapSeq (· ++ vs.toArray)) }
    refine wpAny_bind (wpAny_load (get?_update_seq (Heap.get?_push_size _ rfl) _) ?_)
    show wpAny _ _ (pure ((#[] : Array Value) ++ vs.toArray).toList) Q E _
    rw [show ((#[] : Array Value) ++ vs.toArray).toList = vs by simp]
    exact wpAny_pure h

theorem rsorted {lt : Nat → Nat → Bool} {l : Addr} {o : Obj} {vs : List Value} {n : Nat} {T : String} {Q : Value → Shared → Prop} (hT : T = "list" ∨ T = "tuple") (ho : s.heap.get? l = some o) (hc : o.cls = .type T) (hd : o.data = .seq vs.toArray n) (h64 : vs.length < 64) (O : Ord vs.length lt)
    (hk : 2 ≤ vs.length → ∀ s' : Shared, (∀ b o, s.heap.get? b = some o → s'.heap.get? b = some o) → Asked prog w A.in1.in1 vs lt s')
    (h : ∀ p, Pm vs.length p → Asc lt p vs.length → Q (.ref (s.heap.objs.size + 1)) { s with heap := sortedAll s.heap vs (outOf vs p).toArray }) : wpAny (model prog w) A (call (.builtin "sorted") [.ref l]) Q E s := by
  refine Calls.call_function_entry kind_sorted plain_sorted entry_sorted (args_sorted1 _) ?_
  unfold Builtin.«sorted»
  refine wpAny_bind (m := checkCount "sorted" 1 1 _) (wpAny_pure (wpAny_bind (collect_any hT ho hc hd (wpAny_bind (wpAny_newList ?_ (by rw [sizeLine_eq]; omega))) (by rw [sizeLine_eq]; omega))))
  have hsz : ((s.heap.push (seqObj "list" #[] 0)).update s.heap.objs.size (Obj.mapSeq (· ++ vs.toArray))).objs.size = s.heap.objs.size + 1 := by rw [Heap.size_update, size_push']
  have hoL : (((s.heap.push (seqObj "list" #[] 0)).update s.heap.objs.size (Obj.mapSeq (· ++ vs.toArray))).push (seqObj "list" vs.toArray 0)).get? (s.heap.objs.size + 1) = some (seqObj "list" vs.toArray 0) := by
    rw [← hsz]
    exact Heap.get?_push_size _ rfl
  show wpAny _ _ _ _ _ { s with heap := ((s.heap.push (seqObj "list" #[] 0)).update s.heap.objs.size (Obj.mapSeq (· ++ vs.toArray))).push (seqObj "list" vs.toArray 0) }
  rw [hsz]
  have kp : ∀ b o, s.heap.get? b = some o → (((s.heap.push (seqObj "list" #[] 0)).update s.heap.objs.size (Obj.mapSeq (· ++ vs.toArray))).push (seqObj "list" vs.toArray 0)).get? b = some o := fun b ob e => by
    have hb := Heap.lt_size e
    refine Heap.get?_push_of_some _ ?_
    rw [Heap.get?_update_ne _ _ _ _ (Nat.ne_of_lt hb)]
    exact Heap.get?_push_of_some _ e
  refine wpAny_bind (wpAny_holding (wpAny_call_entry slot_list_sort ⟨_, hoL, rfl⟩ entry_list_sort (rsort_tree hoL h64 O (fun z s' hs' => hk z s' fun b ob e => hs' b ob (by have := Heap.lt_size e; exact Nat.ne_of_lt (Nat.lt_succ_of_lt this)) (kp b ob e)) fun p hp ha => ⟨_, rfl, ?_⟩) (args_list_sort _)))
  exact wpAny_pure ⟨_, rfl, h p hp ha⟩
end

/-! ### rows: tuples whose first thing is a text -/
theorem katGet {h : Heap} : ∀ {vs fs : List Value}, KatTups h vs fs → ∀ (i : Nat), i < vs.length → ∃ a o xs n f, vs.getD i Value.none = .ref a ∧ h.get? a = some o ∧ o.data = .seq xs n ∧ xs[0]? = some f ∧ fs[i]? = some f
  | [], [], _, i, hi => absurd hi (Nat.not_lt_zero _)
  | [], _ :: _, t, _, _ => t.elim
  | _ :: _, [], t, _, _ => t.elim
  | v :: vs, f :: fs, t, 0, _ => by
    obtain ⟨⟨a, o, xs, n, rfl, ho, hc, hd, hf⟩, _⟩ := t
    exact ⟨a, o, xs, n, f, rfl, ho, hd, hf, rfl⟩
  | v :: vs, f :: fs, t, i + 1, hi => by
    obtain ⟨_, t⟩ := t
    obtain ⟨a, o, xs, n, g, e1, e2, e3, e4, e5⟩ := katGet t i (by simpa using hi)
    exact ⟨a, o, xs, n, g, by simpa using e1, e2, e3, e4, by simpa using e5⟩
theorem strGet : ∀ {fs : List Value} {ss : List Str}, StrsAre fs ss → ∀ (i : Nat) (f : Value), fs[i]? = some f → ∃ t, f = .str (ss.getD i Str.empty) t ∧ i < ss.length
  | _, _, .nil, i, f, h => by simp at h
  | _, _, .cons y t r, 0, f, h => by simp at h; exact ⟨t, h.symm, by simp⟩
  | _, _, .cons y t r, i + 1, f, h => by
    obtain ⟨t', e1, e2⟩ := strGet r i f (by simpa using h)
    exact ⟨t', by simpa using e1, by simpa using e2⟩
theorem rowAsk {prog : Program} {w : World} {A : Around} {s : Shared} {vs fs : List Value} {ss : List Str} (t : KatTups s.heap vs fs) (hS : StrsAre fs ss) (hne : 0 < fs.length) (hnd : ss.Nodup) :
    Asked prog w A vs (fun i j => decide ((ss.getD i Str.empty).cps.toList < (ss.getD j Str.empty).cps.toList)) s := by
  refine ⟨tuples' (Value.type "str" != Value.type "tuple"), fun Q q => kat_kind (T := Value.type "str") t hne (fun v hv => ?_) (by decide) q, fun i j C hi hj hij q => ?_⟩
  · obtain ⟨x, u, rfl⟩ := hS.all v hv
    exact Looks.now
  · obtain ⟨a, o, xs, n, f, e1, e2, e3, e4, e5⟩ := katGet t i hi
    obtain ⟨b, o', ys, n', g, g1, g2, g3, g4, g5⟩ := katGet t j hj
    obtain ⟨tf, rfl, hil⟩ := strGet hS i f e5
    obtain ⟨tg, rfl, hjl⟩ := strGet hS j g g5
    unfold kas_ask
    rw [e1, g1]
    refine kat_lt e2 e3 g2 g3 ?_
    obtain ⟨xr, hx⟩ : ∃ xr, xs.toList = .str (ss.getD i Str.empty) tf :: xr := by
      cases hq : xs.toList with
      | nil => rw [← Array.getElem?_toList, hq] at e4; simp at e4
      | cons z zr => rw [← Array.getElem?_toList, hq] at e4; simp at e4; rw [e4]; exact ⟨zr, rfl⟩
    obtain ⟨yr, hy⟩ : ∃ yr, ys.toList = .str (ss.getD j Str.empty) tg :: yr := by
      cases hq : ys.toList with
      | nil => rw [← Array.getElem?_toList, hq] at g4; simp at g4
      | cons z zr => rw [← Array.getElem?_toList, hq] at g4; simp at g4; rw [g4]; exact ⟨zr, rfl⟩
    rw [hx, hy]
    have hnE : ss.getD i Str.empty ≠ ss.getD j Str.empty := by
      rw [List.getD_eq_getElem?_getD, List.getD_eq_getElem?_getD, List.getElem?_eq_getElem hil, List.getElem?_eq_getElem hjl]
      intro z
      have z' : ss[i] = ss[j] := z
      rcases Nat.lt_or_gt_of_ne hij with y | y
      · exact List.pairwise_iff_getElem.mp hnd i j hil hjl y z'
      · exact List.pairwise_iff_getElem.mp hnd j i hjl hil y z'.symm
    show KatLex prog w A _ _ C ((Value.str (ss.getD i Str.empty) tf, Value.str (ss.getD j Str.empty) tg) :: xr.zip yr) 0 s
    refine kat_cons (wpAny_eqBool_str ?_)
    rw [decide_eq_false hnE]
    refine kat_no ?_
    show wpAny _ A (oneLt' true _ _) C _ s
    exact strKind_oneLt prog w A _ s _ _ _ _ rfl rfl q

theorem str_tri {x y : Str} (h : x ≠ y) : x.cps.toList < y.cps.toList ∨ y.cps.toList < x.cps.toList := by
  by_cases c : x.cps.toList < y.cps.toList
  · exact .inl c
  · rcases List.le_iff_lt_or_eq.mp (List.not_lt.mp c) with z | z
    · exact .inr z
    · refine absurd ?_ h
      obtain ⟨a⟩ := x
      obtain ⟨b⟩ := y
      have e : b = a := Array.toList_inj.mp z
      rw [e]
/-- a list of rows: places and the texts that stand first in them -/
noncomputable def RowsIn (H : Hp) (rs : List (Addr × Str)) : Prop := ∀ r ∈ rs, ∃ rest, H r.1 = some (.tup (.str r.2 :: rest))
noncomputable abbrev refs (rs : List (Addr × Str)) : List V := rs.map fun r => V.ref r.1
noncomputable def nlt (x y : Str) : Prop := x.cps.toList < y.cps.toList
theorem katTups_of {P : Program} {w : World} {H : Hp} {h : Heap} (ok : HOk P w H h) : ∀ {rs : List (Addr × Str)} {us : List Value}, RowsIn H rs → Vals (refs rs) us → ∃ fs, KatTups h us fs ∧ StrsAre fs (rs.map (·.2))
  | [], us, _, r => by cases r; exact ⟨[], trivial, .nil⟩
  | x :: rs, us, hr, r => by
    cases r with
    | @cons _ u _ us' r1 r2 =>
      obtain ⟨fs, t, q⟩ := katTups_of ok (rs := rs) (fun y hy => hr y (List.mem_cons_of_mem _ hy)) r2
      obtain ⟨rest, e⟩ := hr x List.mem_cons_self
      cases (show u = Value.ref x.1 from r1)
      obtain ⟨_, its, rv, o, ho, hc, n, hd⟩ := (show ObjOk P w H h x.1 (.tup (.str x.2 :: rest)) from ok x.1 _ e)
      cases rv with
      | @cons _ f _ its' rf _ =>
        obtain ⟨tk, rfl⟩ := rf
        exact ⟨.str x.2 tk :: fs, KatTups.cons ho hc hd (by simp) t, .cons _ _ q⟩
theorem vals_pick {xs : List V} {us : List Value} (r : Vals xs us) : ∀ {ps : List Nat}, (∀ i ∈ ps, i < xs.length) → Vals (ps.map fun i => xs.getD i .non) (ps.map fun i => us.getD i Value.none)
  | [], _ => .nil
  | i :: ps, h => by
    have hi := h i List.mem_cons_self
    obtain ⟨u, e, ru⟩ := r.get (List.getElem?_eq_getElem hi)
    refine .cons ?_ (vals_pick r fun j hj => h j (List.mem_cons_of_mem _ hj))
    show RelV (xs.getD i .non) (us.getD i Value.none)
    rw [List.getD_eq_getElem?_getD, List.getD_eq_getElem?_getD, List.getElem?_eq_getElem hi, e]
    exact ru
theorem pick_perm {α : Type} (d : α) (xs : List α) {p : Array Nat} (h : Pm xs.length p) : (p.toList.map fun i => xs.getD i d).Perm xs := by
  have hp : p.toList.Perm (List.range xs.length) := by simpa using Array.perm_iff_toList_perm.mp h
  have e : (List.range xs.length).map (fun i => xs.getD i d) = xs := by
    apply List.ext_getElem
    · simp
    · intro i h1 h2
      simp [h2]
  exact (hp.map _).trans (by rw [e])
section
variable {X : Cx}
/-- sorted of a list or a tuple of rows with unlike names -/
theorem call_sortedR : CallR X (.builtin "sorted") (fun xs H Q => ∃ (p : Addr) (rs : List (Addr × Str)), xs = [.ref p] ∧ (SqL X.K H p (refs rs) ∨ SqT X.K H p (refs rs)) ∧ RowsIn H rs ∧ rs.length < 64 ∧ (rs.map (·.2)).Nodup ∧
    ∀ (rs' : List (Addr × Str)) (q : Addr), rs'.Perm rs → (rs'.map (·.2)).Pairwise nlt → H q = none → Q (.ref q) (upd H q (.lst (refs rs')))) := by
  intro pins s σ H xs us Q I r h
  obtain ⟨p, rs, rfl, hq, hR, h64, hnd, q⟩ := h
  obtain ⟨u, rfl, rx⟩ := vals1 r
  cases rx
  have core : ∀ (T : String) (o : Obj) (its : List Value) (n : Nat), (T = "list" ∨ T = "tuple") → s.heap.get? p = some o → o.cls = .type T → o.data = .seq its.toArray n → Vals (refs rs) its →
      wpAny (model X.prog X.w) X.A (call (.builtin "sorted") [.ref p]) (EP X pins σ Q) X.xe s := fun T o its n hT ho hc hd r' => by
    have hl := r'.length
    have hl' : its.length = rs.length := by rw [← hl]; simp
    have O : Ord its.length (fun i j => decide (((rs.map (·.2)).getD i Str.empty).cps.toList < ((rs.map (·.2)).getD j Str.empty).cps.toList)) := by
      refine ⟨fun i j k h1 h2 => ?_, fun i => ?_, fun i j hi hj hij => ?_⟩
      · exact decide_eq_true (List.lt_trans (of_decide_eq_true h1) (of_decide_eq_true h2))
      · exact decide_eq_false (List.lt_irrefl _)
      · have hil : i < (rs.map (·.2)).length := by simpa [← hl'] using hi
        have hjl : j < (rs.map (·.2)).length := by simpa [← hl'] using hj
        rw [List.getD_eq_getElem?_getD, List.getD_eq_getElem?_getD, List.getElem?_eq_getElem hil, List.getElem?_eq_getElem hjl]
        have ne : (rs.map (·.2))[i] ≠ (rs.map (·.2))[j] := by
          rcases Nat.lt_or_gt_of_ne hij with y | y
          · exact List.pairwise_iff_getElem.mp hnd i j hil hjl y
          · exact fun z => List.pairwise_iff_getElem.mp hnd j i hjl hil y z.symm
        exact (str_tri ne).imp decide_eq_true decide_eq_true
    refine rsorted hT ho hc hd (by omega) O (fun h2 s' hs' => ?_) fun pm hp ha => ?_
    · obtain ⟨fs, t, hS⟩ := katTups_of (I.hok.kept hs') hR r'
      have hfl : 0 < fs.length := by
        have := hS.length
        simp at this
        omega
      exact rowAsk t hS hfl hnd
    · obtain ⟨e, he⟩ := sortedAll_at s.heap its (outOf its pm).toArray
      have hpm : Pm rs.length pm := by rw [← hl']; exact hp
      have hlt : ∀ i ∈ pm.toList, i < rs.length := fun i hi => by
        have : i ∈ (List.toArray (List.range rs.length)) := hpm.mem_iff.mp (by simpa using hi)
        simpa using this
      have hv : Vals ((pm.toList.map fun i => (refs rs).getD i .non)) (outOf its pm) := vals_pick r' fun i hi => by simpa using hlt i hi
      have he2 : (pm.toList.map fun i => (refs rs).getD i .non) = refs (pm.toList.map fun i => rs.getD i (0, Str.empty)) := by
        unfold refs
        rw [List.map_map]
        exact List.map_congr_left fun i hi => by simp [hlt i hi]
      rw [he2] at hv
      have hfr : H (s.heap.objs.size + 1) = none := I.hok.fresh (Nat.le_succ _)
      have hpe := pick_perm (0, Str.empty) rs hpm
      refine ⟨.ref (s.heap.objs.size + 1), _, I.laid (t' := s.toks) (o := .lst (refs (pm.toList.map fun i => rs.getD i (0, Str.empty)))) (fun b o z => sortedAll_old z) (Nat.le_succ _) ⟨?_, outOf its pm, e, hv, ?_⟩, rfl, q _ _ hpe ?_ hfr⟩
      · unfold refs
        rw [List.length_map, hpe.length_eq, sizeLine_eq]; omega
      · simpa [seqObj] using he
      · rw [List.map_map, List.pairwise_map]
        refine List.pairwise_iff_getElem.mpr fun i j hi hj hij => ?_
        have hps := hp.size
        have hi' : i < pm.size := by simpa using hi
        have hj' : j < pm.size := by simpa using hj
        have z := of_decide_eq_true (ha i j hij (by omega))
        rw [gp_eq hi', gp_eq hj'] at z
        show ((rs.getD pm.toList[i] (0, Str.empty)).2).cps.toList < ((rs.getD pm.toList[j] (0, Str.empty)).2).cps.toList
        have b1 := hlt pm.toList[i] (List.getElem_mem _)
        have b2 := hlt pm.toList[j] (List.getElem_mem _)
        simp only [Array.getElem_toList] at b1 b2 ⊢
        simpa [b1, b2] using z
  rcases hq with hq | hq
  · obtain ⟨its, r', pl, hz⟩ := I.list hq
    obtain ⟨o, ho, hc, n, hd⟩ := pl.isList
    exact core "list" o its n (.inl rfl) ho hc hd r'
  · obtain ⟨its, r', pl, hz⟩ := I.tuple hq
    obtain ⟨o, ho, hc, n, hd⟩ := pl
    exact core "tuple" o its n (.inr rfl) ho hc hd r'
end
end L2

set_option Elab.async false
set_option linter.all false
set_option maxRecDepth 100000
set_option maxHeartbeats 4000000
namespace L2
open PySem PySem.Spec PyProof.Rows

/-! ### the signs of a plain text -/
noncomputable def Its (x : Str) : It := ⟨fun i _ => i < x.length, fun i H v H' => H' = H ∧ ∃ c, x.cps[i]? = some c ∧ v = .str ⟨#[c]⟩, fun i _ => x.length ≤ i⟩
theorem turn_str {P : Program} {w : World} {K : PySem.W.Frag} {tg : Expr} (x : Str) (t : Tok) (it : Addr) : Turn P w K tg (Its x) [it] it (fun i h => h.IsStrIter it "str_ascii_iterator" x t i) where
  mem := by simp
  obj := fun i h st b hb => by
    have e : b = it := by simpa using hb
    subst e
    obtain ⟨o, e, c, d⟩ := st
    exact ⟨o, e, fun v z => by rw [d] at z; cases z⟩
  keep := fun i h h' st k => by
    obtain ⟨o, e, r⟩ := st
    exact ⟨o, k it (by simp) o e, r⟩
  item := by
    intro X hP hw hK hc i pins s σ H E I hf st hg
    subst hP hw hK
    have hg' : i < x.cps.size := hg
    obtain ⟨f0, f1, f2, f3, f4, f5⟩ := hf it (by simp)
    refine wpAny_pyNext_ascii_item st (Array.getElem?_eq_getElem hg') fun h' st' sb => ?_
    have I1 : Inv X pins σ H { s with heap := h', toks := s.toks + 1 } := I.turned (fun b o hb e => (sb.2 b hb).trans e) f0 f1 f3 f4 f5
    obtain ⟨o, e, c, d⟩ := id st'
    exact ⟨_, rfl, go_of (s := { s with heap := h', toks := s.toks + 1 }) e c d (by decide) ⟨.str ⟨#[x.cps[i]]⟩, H, I1, ⟨_, rfl⟩, ⟨rfl, _, Array.getElem?_eq_getElem hg', rfl⟩, st', fun b hb => (hf b hb).1⟩⟩
  done := by
    intro X hP hw hK hc i pins s σ H E I hf st hg
    subst hP hw hK
    have hg' : x.cps.size ≤ i := hg
    obtain ⟨f0, f1, f2, f3, f4, f5⟩ := hf it (by simp)
    exact wpAny_pyNext_ascii_end (I.ok.hd hc) st (Array.getElem?_eq_none hg') fun h' eb => ⟨rfl, I.turned (t' := s.toks) (fun b o hb e => eb b o hb e) f0 f1 f3 f4 f5⟩
  self := fun A i s Q E st h => wpAny_pyIter_striter_ascii st h
section
variable {X : Cx} {tg : Expr}
noncomputable def iStr (tl : TE) : TI := fun σ H R => tl σ H fun v H1 => ∃ x : Str, v = .str x ∧ x.cps.all (· < 128) = true ∧ R (Its x) H1
theorem pi_str {l : Expr} {tl : TE} (hl : PE X l tl) : PI X tg l (iStr tl) := by
  intro pins s σ H R I h
  refine thn (hl pins s σ H _ I h) fun v s1 ⟨x, H1, I1, r1, q1⟩ => ?_
  obtain ⟨y, rfl, ha, q⟩ := q1
  obtain ⟨t, rfl⟩ := r1
  refine wpAny_pyIter_ascii ha ?_
  refine ⟨s1.heap.objs.size, [s1.heap.objs.size], _, _, H1, rfl, I1.kept (t' := s1.toks) fun b o e => Heap.get?_push_of_some _ e, turn_str y t _, ⟨_, Heap.get?_push_size _ rfl, rfl, rfl⟩, fun b hb => ?_, q⟩
  have e : b = s1.heap.objs.size := by simpa using hb
  subst e
  exact I1.fpOk (Nat.le_refl _) (I1.hok.fresh (Nat.le_refl _))

/-! ### slices -/
/-- xs[::-1] of a list -/
noncomputable def tRev (K : PySem.W.Frag) (te : TE) (tk : TO) : TE := fun σ H Q => te σ H fun x H1 => tk σ H1 fun o H2 => o = some (-1) ∧ ∃ a xs, x = .ref a ∧ SqL K H2 a xs ∧ ∀ p, H2 p = none → Q (.ref p) (upd H2 p (.lst xs.reverse))
theorem pe_rev {e st : Expr} {te : TE} {tk : TO} {p2 pos : Pos} (ops : Value → Value → List Value) (he : PE X e te) (hk : PO X (some st) tk) (hs : ∀ o i, subscripted (.Slice none none (some st) p2) false o i = operate (ops o i) (getItem o i)) : PE X (.Subscript e (.Slice none none (some st) p2) pos) (tRev X.K te tk) := by
  intro pins s σ H Q I h
  refine Subscript_ (thn (he pins s σ H _ I h) fun v s1 ⟨x, H1, I1, r1, q1⟩ => ?_)
  refine wpAny_Slice ?_
  rw [evalPart_none]
  refine wpAny_pure (wpAny_pure (thn (hk pins s1 σ H1 _ I1 q1) fun vk s2 ⟨o, H2, I2, pk, q2⟩ => ?_))
  obtain ⟨rfl, a, xs, rfl, hx, q⟩ := q2
  cases r1
  have I4 : Inv X pins σ H2 { s2 with heap := s2.heap.push { cls := .type "slice", data := .fields #[.none, .none, vk] } } := I2.kept (t' := s2.toks) fun b ob q => Heap.get?_push_of_some _ q
  obtain ⟨its, r, ht, hz⟩ := I4.list hx
  have hlen := r.length
  show wpAny (model X.prog X.w) X.A (subscriptTail e (.Slice none none (some st) p2) (.ref a) (.ref s2.heap.objs.size)) (EP X pins σ Q) X.xe { s2 with heap := s2.heap.push { cls := .type "slice", data := .fields #[.none, .none, vk] } }
  refine tail_any (ops := ops _ _) ht.isList.typeIs slot_list_getitem.lookup ?_ (hs _ _)
  refine wpAny_getItem_list_slice ht.isList (Heap.IsSliceOf.new ..) .none .none pk (by simp) ?_ (by rw [List.size_toArray] <;> omega)
  rw [PySem.W.krv_pick]
  refine ⟨.ref _, _, I4.laid (t' := s2.toks) (o := .lst xs.reverse) (fun b ob q => Heap.get?_push_of_some _ q) (Nat.le_refl _) ⟨by rw [List.length_reverse]; exact hz, its.reverse, 0, r.reverse, ?_⟩, rfl, q _ (I4.hok.fresh (Nat.le_refl _))⟩
  exact Heap.get?_push_size _ rfl
end
/-! ### what a comprehension's block shows, by an invariant over the turns -/
section
variable {K : PySem.W.Frag} {g : TG} {tt : TT} {te : TE} {σ' : St} {fin : List V → Hp → Prop} {H1 : Hp}
theorem lcw_gen {J : It} {n : Nat} (hn : n < sizeLine) (Pv : Nat → List V → St → Hp → Prop) (Yd : Nat → V → Prop) (h0 : Pv 0 [] σ' H1) (hl : ∀ i ys σ H, i ≤ n → Pv i ys σ H → ys.length ≤ i)
    (hgo : ∀ i ys σ H, i < n → Pv i ys σ H → J.go i H) (hst : ∀ ys σ H, Pv n ys σ H → J.stop n H) (hy : ∀ i ys σ H x H', i < n → Pv i ys σ H → J.yld i H x H' → H' = H ∧ Yd i x)
    (hs : ∀ i x ys σ H, i < n → Yd i x → Pv i ys σ H → g x σ H fun σ2 H2 => tt σ2 H2 fun b H3 => if b = true then te σ2 H3 (fun v H4 => Pv (i + 1) (ys ++ [v]) σ2 H4) else Pv (i + 1) ys σ2 H3) (hd : ∀ ys σ H, Pv n ys σ H → fin ys H) :
    LcW J g tt te σ' fin H1 := by
  refine ⟨fun i m ys σ H => m = n - i ∧ i ≤ n ∧ Pv i ys σ H, ⟨n, by simp, Nat.zero_le _, h0⟩, ?_⟩
  rintro i m ys σ H ⟨rfl, hi, p⟩
  have hly := hl i ys σ H hi p
  by_cases hlt : i < n
  · refine .inr ⟨hgo i ys σ H hlt p, by omega, fun ys' σ2 H2 => Pv (i + 1) ys' σ2 H2, fun ys' σ2 H2 q => ⟨n - (i + 1), by omega, rfl, hlt, q⟩, fun x H' y => ?_⟩
    obtain ⟨e, yd⟩ := hy i ys σ H x H' hlt p y
    subst e
    exact hs i x ys σ H' hlt yd p
  · have e : i = n := by omega
    subst e
    exact .inl ⟨hst ys σ H p, by omega, hd ys σ H p⟩
theorem lcw_tup {a : Addr} {xs : List V} (hn : xs.length < sizeLine) (Pv : Nat → List V → St → Hp → Prop) (h0 : Pv 0 [] σ' H1) (hl : ∀ i ys σ H, i ≤ xs.length → Pv i ys σ H → ys.length ≤ i ∧ SqT K H a xs)
    (hs : ∀ i x ys σ H, xs[i]? = some x → Pv i ys σ H → g x σ H fun σ2 H2 => tt σ2 H2 fun b H3 => if b = true then te σ2 H3 (fun v H4 => Pv (i + 1) (ys ++ [v]) σ2 H4) else Pv (i + 1) ys σ2 H3) (hd : ∀ ys σ H, Pv xs.length ys σ H → fin ys H) :
    LcW (Itt K a) g tt te σ' fin H1 :=
  lcw_gen hn Pv (fun i x => xs[i]? = some x) h0 (fun i ys σ H hi p => (hl i ys σ H hi p).1) (fun i ys σ H hi p => ⟨xs, xs[i], (hl i ys σ H (Nat.le_of_lt hi) p).2, by simp [hi]⟩) (fun ys σ H p => ⟨xs, (hl _ ys σ H (Nat.le_refl _) p).2, Nat.le_refl _⟩)
    (fun i ys σ H x H' hi p y => ⟨y.1, y.2 xs (hl i ys σ H (Nat.le_of_lt hi) p).2⟩) (fun i x ys σ H _ yd p => hs i x ys σ H yd p) hd
theorem lcw_list {a : Addr} {xs : List V} (hn : xs.length < sizeLine) (Pv : Nat → List V → St → Hp → Prop) (h0 : Pv 0 [] σ' H1) (hl : ∀ i ys σ H, i ≤ xs.length → Pv i ys σ H → ys.length ≤ i ∧ SqL K H a xs)
    (hs : ∀ i x ys σ H, xs[i]? = some x → Pv i ys σ H → g x σ H fun σ2 H2 => tt σ2 H2 fun b H3 => if b = true then te σ2 H3 (fun v H4 => Pv (i + 1) (ys ++ [v]) σ2 H4) else Pv (i + 1) ys σ2 H3) (hd : ∀ ys σ H, Pv xs.length ys σ H → fin ys H) :
    LcW (Itl K a) g tt te σ' fin H1 :=
  lcw_gen hn Pv (fun i x => xs[i]? = some x) h0 (fun i ys σ H hi p => (hl i ys σ H hi p).1) (fun i ys σ H hi p => ⟨xs, xs[i], (hl i ys σ H (Nat.le_of_lt hi) p).2, by simp [hi]⟩) (fun ys σ H p => ⟨xs, (hl _ ys σ H (Nat.le_refl _) p).2, Nat.le_refl _⟩)
    (fun i ys σ H x H' hi p y => ⟨y.1, y.2 xs (hl i ys σ H (Nat.le_of_lt hi) p).2⟩) (fun i x ys σ H _ yd p => hs i x ys σ H yd p) hd
theorem lcw_range {lo : Int} {n : Nat} (hn : n < sizeLine) (Pv : Nat → List V → St → Hp → Prop) (h0 : Pv 0 [] σ' H1) (hl : ∀ i ys σ H, i ≤ n → Pv i ys σ H → ys.length ≤ i)
    (hs : ∀ i ys σ H, i < n → Pv i ys σ H → g (.int (lo + i)) σ H fun σ2 H2 => tt σ2 H2 fun b H3 => if b = true then te σ2 H3 (fun v H4 => Pv (i + 1) (ys ++ [v]) σ2 H4) else Pv (i + 1) ys σ2 H3) (hd : ∀ ys σ H, Pv n ys σ H → fin ys H) :
    LcW (Itr lo n) g tt te σ' fin H1 :=
  lcw_gen hn Pv (fun i x => x = .int (lo + i)) h0 hl (fun i ys σ H hi p => hi) (fun ys σ H p => Nat.le_refl _) (fun i ys σ H x H' hi p y => y) (fun i x ys σ H hi yd p => by subst yd; exact hs i ys σ H hi p) hd
theorem lcw_str {x : Str} (hn : x.length < sizeLine) (Pv : Nat → List V → St → Hp → Prop) (h0 : Pv 0 [] σ' H1) (hl : ∀ i ys σ H, i ≤ x.length → Pv i ys σ H → ys.length ≤ i)
    (hs : ∀ i c ys σ H, x.cps[i]? = some c → Pv i ys σ H → g (.str ⟨#[c]⟩) σ H fun σ2 H2 => tt σ2 H2 fun b H3 => if b = true then te σ2 H3 (fun v H4 => Pv (i + 1) (ys ++ [v]) σ2 H4) else Pv (i + 1) ys σ2 H3) (hd : ∀ ys σ H, Pv x.length ys σ H → fin ys H) :
    LcW (Its x) g tt te σ' fin H1 :=
  lcw_gen hn Pv (fun i v => ∃ c, x.cps[i]? = some c ∧ v = .str ⟨#[c]⟩) h0 hl (fun i ys σ H hi p => hi) (fun ys σ H p => Nat.le_refl _) (fun i ys σ H v H' hi p y => y) (fun i v ys σ H hi yd p => by obtain ⟨c, e, rfl⟩ := yd; exact hs i c ys σ H e p) hd
end
end L2

set_option Elab.async false
set_option linter.all false
set_option maxRecDepth 100000
set_option maxHeartbeats 4000000
namespace L2
open PySem PySem.Spec PyProof.Rows
section
variable {K : PySem.W.Frag} {tt : TT} {te : TE} {σ' : St} {fin : List V → Hp → Prop} {H1 : Hp} {j : Nat}
theorem lcw_tup0 {a : Addr} {xs : List V} (hn : xs.length < sizeLine) (Pv : Nat → List V → St → Hp → Prop) (h0 : Pv 0 [] σ' H1) (hl : ∀ i ys σ H, i ≤ xs.length → Pv i ys σ H → ys.length ≤ i ∧ SqT K H a xs)
    (hs : ∀ i x ys σ H, xs[i]? = some x → Pv i ys σ H → te (σ.set j (some x)) H fun v H4 => Pv (i + 1) (ys ++ [v]) (σ.set j (some x)) H4) (hd : ∀ ys σ H, Pv xs.length ys σ H → fin ys H) : LcW (Itt K a) (gName j) tYes te σ' fin H1 :=
  lcw_tup hn Pv h0 hl (fun i x ys σ H hx p => by unfold gName tYes; exact iteT (hs i x ys σ H hx p)) hd
theorem lcw_list0 {a : Addr} {xs : List V} (hn : xs.length < sizeLine) (Pv : Nat → List V → St → Hp → Prop) (h0 : Pv 0 [] σ' H1) (hl : ∀ i ys σ H, i ≤ xs.length → Pv i ys σ H → ys.length ≤ i ∧ SqL K H a xs)
    (hs : ∀ i x ys σ H, xs[i]? = some x → Pv i ys σ H → te (σ.set j (some x)) H fun v H4 => Pv (i + 1) (ys ++ [v]) (σ.set j (some x)) H4) (hd : ∀ ys σ H, Pv xs.length ys σ H → fin ys H) : LcW (Itl K a) (gName j) tYes te σ' fin H1 :=
  lcw_list hn Pv h0 hl (fun i x ys σ H hx p => by unfold gName tYes; exact iteT (hs i x ys σ H hx p)) hd
theorem lcw_range0 {lo : Int} {n : Nat} (hn : n < sizeLine) (Pv : Nat → List V → St → Hp → Prop) (h0 : Pv 0 [] σ' H1) (hl : ∀ i ys σ H, i ≤ n → Pv i ys σ H → ys.length ≤ i)
    (hs : ∀ i ys σ H, i < n → Pv i ys σ H → te (σ.set j (some (.int (lo + i)))) H fun v H4 => Pv (i + 1) (ys ++ [v]) (σ.set j (some (.int (lo + i)))) H4) (hd : ∀ ys σ H, Pv n ys σ H → fin ys H) : LcW (Itr lo n) (gName j) tYes te σ' fin H1 :=
  lcw_range hn Pv h0 hl (fun i ys σ H hx p => by unfold gName tYes; exact iteT (hs i ys σ H hx p)) hd
theorem lcw_str0 {x : Str} (hn : x.length < sizeLine) (Pv : Nat → List V → St → Hp → Prop) (h0 : Pv 0 [] σ' H1) (hl : ∀ i ys σ H, i ≤ x.length → Pv i ys σ H → ys.length ≤ i)
    (hs : ∀ i c ys σ H, x.cps[i]? = some c → Pv i ys σ H → te (σ.set j (some (.str ⟨#[c]⟩))) H fun v H4 => Pv (i + 1) (ys ++ [v]) (σ.set j (some (.str ⟨#[c]⟩))) H4) (hd : ∀ ys σ H, Pv x.length ys σ H → fin ys H) : LcW (Its x) (gName j) tYes te σ' fin H1 :=
  lcw_str hn Pv h0 hl (fun i c ys σ H hx p => by unfold gName tYes; exact iteT (hs i c ys σ H hx p)) hd
theorem lcw_tup1 {a : Addr} {xs : List V} (hn : xs.length < sizeLine) (Pv : Nat → List V → St → Hp → Prop) (h0 : Pv 0 [] σ' H1) (hl : ∀ i ys σ H, i ≤ xs.length → Pv i ys σ H → ys.length ≤ i ∧ SqT K H a xs)
    (hs : ∀ i x ys σ H, xs[i]? = some x → Pv i ys σ H → tt (σ.set j (some x)) H fun b H3 => if b = true then te (σ.set j (some x)) H3 (fun v H4 => Pv (i + 1) (ys ++ [v]) (σ.set j (some x)) H4) else Pv (i + 1) ys (σ.set j (some x)) H3)
    (hd : ∀ ys σ H, Pv xs.length ys σ H → fin ys H) : LcW (Itt K a) (gName j) tt te σ' fin H1 := lcw_tup hn Pv h0 hl hs hd
theorem lcw_list1 {a : Addr} {xs : List V} (hn : xs.length < sizeLine) (Pv : Nat → List V → St → Hp → Prop) (h0 : Pv 0 [] σ' H1) (hl : ∀ i ys σ H, i ≤ xs.length → Pv i ys σ H → ys.length ≤ i ∧ SqL K H a xs)
    (hs : ∀ i x ys σ H, xs[i]? = some x → Pv i ys σ H → tt (σ.set j (some x)) H fun b H3 => if b = true then te (σ.set j (some x)) H3 (fun v H4 => Pv (i + 1) (ys ++ [v]) (σ.set j (some x)) H4) else Pv (i + 1) ys (σ.set j (some x)) H3)
    (hd : ∀ ys σ H, Pv xs.length ys σ H → fin ys H) : LcW (Itl K a) (gName j) tt te σ' fin H1 := lcw_list hn Pv h0 hl hs hd
end
end L2

set_option Elab.async false
set_option linter.all false
set_option maxRecDepth 100000
set_option maxHeartbeats 4000000
namespace L2
open PySem PySem.Spec PyProof.Rows

/-! ### zip of two lists -/
section
variable {X : Cx} {pins : List (Addr × Obj)} {σ : St} {H : Hp} {s : Shared} {h' : Heap}
/-- several untracked records of ours have turned -/
theorem Inv.turnedS {t' : Nat} {ch : List Addr} (I : Inv X pins σ H s) (k : ∀ b o, b ∉ ch → s.heap.get? b = some o → h'.get? b = some o) (hf : ∀ b ∈ ch, FpOk X pins H b) : Inv X pins σ H { s with heap := h', toks := t' } := by
  have nit : ∀ b u, H b = some u → b ∉ ch := fun b u e z => by rw [(hf b z).1] at e; cases e
  have hL : X.env.locals ∉ ch := fun z => (hf _ z).2.1 rfl
  refine I.step (g' := s.gens) (d' := s.drawn) (ch := ch) (fun b hb => ⟨(hf b hb).2.2.2.1, (hf b hb).2.1, (hf b hb).2.2.2.2.1, (hf b hb).2.2.2.2.2⟩) (fun b o _ _ hc e _ => k b o hc e) (fun b o _ _ hc e _ => ⟨o.slots, k b o hc e⟩) (fun _ _ _ _ n => n)
    (fun b o hc e => ⟨o, k b o hc e⟩) (fun _ _ e => e) (fun _ _ _ e => e) (fun b ps e => ⟨#[], by rw [e]; simp⟩) (fun m hm => ?_) (fun b u e => ?_) I.bare
  · obtain ⟨o, es, ep, ho, r⟩ := hm
    exact ⟨o, es, ep, k _ o hL ho, r⟩
  · refine (I.hok b u e).stay (fun c v hc q => k c v ?_ q) (fun _ q => q) fun _ _ q => q
    rcases hc with z | z
    · rw [z]; exact nit b u e
    · exact nit c _ z
end
/-- the lists at a and b, side by side -/
noncomputable def Itz (K : PySem.W.Frag) (a b : Addr) : It :=
  ⟨fun i H => ∃ xs ys x y, SqL K H a xs ∧ SqL K H b ys ∧ xs[i]? = some x ∧ ys[i]? = some y,
   fun i H v H' => ∃ T x y, v = .ref T ∧ H T = none ∧ H' = upd H T (.tup [x, y]) ∧ (∀ xs, SqL K H a xs → xs[i]? = some x) ∧ ∀ ys, SqL K H b ys → ys[i]? = some y,
   fun i H => ∃ xs ys, SqL K H a xs ∧ SqL K H b ys ∧ (xs.length ≤ i ∨ ys.length ≤ i)⟩
noncomputable def ZipAt (z TI TO i1 i2 l1 l2 : Addr) (i : Nat) (h : Heap) : Prop := IsZip h z TI TO .none ∧ IsPair h TI (.ref i1) (.ref i2) ∧ (∃ a b, IsPair h TO a b) ∧ h.IsListIter i1 l1 i ∧ h.IsListIter i2 l2 i
theorem turn_zip {P : Program} {w : World} {K : PySem.W.Frag} {elts : List Expr} {x1} {pos : Pos} (z TI TO i1 i2 l1 l2 : Addr) (D : ZipApart z TI TO i1 i2 l1 l2) :
    Turn P w K (.Tuple elts x1 pos) (Itz K l1 l2) [z, TI, TO, i1, i2] z (ZipAt z TI TO i1 i2 l1 l2) where
  mem := by simp
  obj := fun i h st b hb => by
    obtain ⟨hz, hTI, ⟨a, c, hTO⟩, ⟨o1, e1, c1, d1⟩, ⟨o2, e2, c2, d2⟩⟩ := st
    simp only [List.mem_cons, List.not_mem_nil, or_false] at hb
    rcases hb with rfl | rfl | rfl | rfl | rfl
    · exact ⟨_, hz, fun v q => by cases q⟩
    · exact ⟨_, hTI, fun v q => by cases q⟩
    · exact ⟨_, hTO, fun v q => by cases q⟩
    · exact ⟨_, e1, fun v q => by rw [d1] at q; cases q⟩
    · exact ⟨_, e2, fun v q => by rw [d2] at q; cases q⟩
  keep := fun i h h' st k => by
    obtain ⟨hz, hTI, ⟨a, c, hTO⟩, h1, h2⟩ := st
    exact ⟨k z (by simp) _ hz, k TI (by simp) _ hTI, ⟨a, c, k TO (by simp) _ hTO⟩, h1.at fun o e => k i1 (by simp) o e, h2.at fun o e => k i2 (by simp) o e⟩
  item := by
    intro X hP hw hK hc i pins s σ H E I hf st hg
    subst hP hw hK
    obtain ⟨xs, ys, x, y, hq1, hq2, hx, hy⟩ := hg
    obtain ⟨hz, hTI, ⟨a, c, hTO⟩, h1, h2⟩ := id st
    obtain ⟨its1, rv1, p1, hz1⟩ := I.list hq1
    obtain ⟨its2, rv2, p2, hz2⟩ := I.list hq2
    obtain ⟨u1, hu1, ru1⟩ := rv1.get hx
    obtain ⟨u2, hu2, ru2⟩ := rv2.get hy
    refine wpAny_pyNext_zip_item D hz hTI hTO h1 h2 p1.isList p2.isList (x := u1) (y := u2) (by simpa using hu1) (by simpa using hu2) fun h' a1 a2 a3 a4 a5 a6 a7 => ?_
    refine ⟨_, rfl, wpAny_letOwnedTupleGo_zip (s := { s with heap := h' }) a1 fun h'' z2 sb => ?_⟩
    have sb' := sb.extBut
    generalize hT : s.heap.objs.size = T at *
    have lt : ∀ {b : Addr} {o : Obj}, s.heap.get? b = some o → b ≠ T := fun {b o} e => by rw [← hT]; exact Nat.ne_of_lt (Heap.lt_size e)
    have fresh : H T = none := by rw [← hT]; exact I.hok.fresh (Nat.le_refl _)
    have hne : ∀ b ∈ [z, TI, TO, i1, i2], b ≠ T := fun b hb => by
      obtain ⟨o1, e1, _⟩ := h1
      obtain ⟨o2, e2, _⟩ := h2
      simp only [List.mem_cons, List.not_mem_nil, or_false] at hb
      rcases hb with rfl | rfl | rfl | rfl | rfl
      · exact lt hz
      · exact lt hTI
      · exact lt hTO
      · exact lt e1
      · exact lt e2
    have I0 : Inv X pins σ (upd H T (.tup [x, y])) { s with heap := s.heap.push { cls := .type "tuple", data := .seq #[u1, u2] }, toks := s.toks } := by
      subst hT
      exact I.laid (t' := s.toks) (fun b o q => Heap.get?_push_of_some _ q) (Nat.le_refl _) ⟨by show 2 ≤ sizeLine; decide, [u1, u2], .cons ru1 (.cons ru2 .nil), _, Heap.get?_push_size _ rfl, rfl, 0, rfl⟩
    have up : ∀ b o, b ∉ [z, TI, TO, i1, i2] → (s.heap.push { cls := .type "tuple", data := .seq #[u1, u2] }).get? b = some o → h''.get? b = some o := fun b o hb e => by
      simp only [List.mem_cons, List.not_mem_nil, or_false, not_or] at hb
      rcases Heap.get?_push_cases e with ⟨e1, e2⟩ | e1
      · subst e2
        rw [e1, hT]
        exact sb' _ _ (hne z (by simp)).symm a5
      · exact sb' _ _ hb.1 (a7 b o hb.1 hb.2.2.1 hb.2.2.2.1 hb.2.2.2.2 e1)
    have I2 : Inv X pins σ (upd H T (.tup [x, y])) { s with heap := h'', toks := s.toks } := Inv.turnedS (s := { s with heap := s.heap.push { cls := .type "tuple", data := .seq #[u1, u2] }, toks := s.toks }) (t' := s.toks) (ch := [z, TI, TO, i1, i2]) I0 up fun b hb => by
      obtain ⟨f0, f1⟩ := hf b hb
      exact ⟨by rw [upd_ne (hne b hb)]; exact f0, f1⟩
    exact ⟨.ref T, upd H T (.tup [x, y]), I2, rfl, ⟨T, x, y, rfl, fresh, rfl, fun ws hw => by rw [I.list_inj hw hq1]; exact hx, fun ws hw => by rw [I.list_inj hw hq2]; exact hy⟩,
      ⟨z2, sb' _ _ D.TIz (a7 _ _ D.TIz D.TITO D.TIi1 D.TIi2 hTI), ⟨_, _, sb' _ _ D.TOz a2⟩, a3.at fun o e => sb' _ _ D.i1z e, a4.at fun o e => sb' _ _ D.i2z e⟩, fun b hb => by rw [upd_ne (hne b hb)]; exact (hf b hb).1⟩
  done := by
    intro X hP hw hK hc i pins s σ H E I hf st hg
    subst hP hw hK
    obtain ⟨xs, ys, hq1, hq2, hx⟩ := hg
    obtain ⟨hz, hTI, ⟨a, c, hTO⟩, h1, h2⟩ := id st
    obtain ⟨its1, rv1, p1, hz1⟩ := I.list hq1
    obtain ⟨its2, rv2, p2, hz2⟩ := I.list hq2
    have hl1 := rv1.length
    have hl2 := rv2.length
    refine wpAny_pyNext_zip_end (I.ok.hd hc) D hz hTI hTO h1 h2 p1.isList p2.isList ?_ fun h' hk => ⟨rfl, I.turnedS (t' := s.toks) (ch := [z, TI, TO, i1, i2]) (fun b o hb e => ?_) hf⟩
    · rcases hx with q | q
      · exact .inl (by simp; omega)
      · exact .inr (by simp; omega)
    · simp only [List.mem_cons, List.not_mem_nil, or_false, not_or] at hb
      exact hk b o hb.1 hb.2.2.1 hb.2.2.2.1 hb.2.2.2.2 e
  self := fun _ _ _ _ _ st h => wpAny_pyIter_zip st.1 h
theorem boot_zip : bootBuiltins "zip" = some (.type "zip") := by decide +kernel
section
variable {X : Cx}
noncomputable def iZip (K : PySem.W.Frag) (ta : TA) : TI := fun σ H R => ta σ H fun vs H1 => ∃ a b xs ys, vs = [.ref a, .ref b] ∧ SqL K H1 a xs ∧ SqL K H1 b ys ∧ R (Itz K a b) H1
theorem pi_zip {a b : Expr} {elts : List Expr} {x1} {tpos : Pos} {ta : TA} {p pos : Pos} (hg : Gl X "zip") (hm : X.mg "zip" = none) (ha : PA X [a, b] ta) (hs : starEach [a, b] X.env = [(false, eval a X.env), (false, eval b X.env)] := by rfl) (hs2 : starEach [b] X.env = [(false, eval b X.env)] := by rfl) :
    PI X (.Tuple elts x1 tpos) (.Call (.Name "zip" p) [a, b] [] pos) (iZip X.K ta) := by
  intro pins s σ H R I h
  refine Call_ (ld_blt I hg hm boot_zip (PyProof.Rows.callWith_type1 (thn (ha pos pins s σ H _ I h) fun us s1 ⟨vs, H1, I1, r1, q1⟩ => ?_) (by rw [hs, hs2]) (by rw [hs2]; rfl)))
  obtain ⟨a', b', xs, ys, rfl, hq1, hq2, q⟩ := q1
  obtain ⟨u1, u2, rfl, ra, rb⟩ := vals2 r1
  cases ra
  cases rb
  obtain ⟨its1, rv1, p1, hz1⟩ := I1.list hq1
  obtain ⟨its2, rv2, p2, hz2⟩ := I1.list hq2
  have l1 : a' < s1.heap.objs.size := by obtain ⟨o, n, e, _⟩ := p1; exact Heap.lt_size e
  have l2 : b' < s1.heap.objs.size := by obtain ⟨o, n, e, _⟩ := p2; exact Heap.lt_size e
  refine call_zip_2 p1.isList p2.isList fun h' hz hTI hTO hi1 hi2 hsz hk => ?_
  refine wpAny_pyIter_zip hz ?_
  refine ⟨_, [s1.heap.objs.size + 4, s1.heap.objs.size + 2, s1.heap.objs.size + 3, s1.heap.objs.size, s1.heap.objs.size + 1], _, _, H1, rfl, I1.kept (t' := s1.toks) hk, turn_zip _ _ _ _ _ _ _ (zipApart_new l1 l2), ⟨hz, hTI, ⟨_, _, hTO⟩, hi1, hi2⟩, fun b hb => ?_, q⟩
  have hle : s1.heap.objs.size ≤ b := by
    simp only [List.mem_cons, List.not_mem_nil, or_false] at hb
    rcases hb with rfl | rfl | rfl | rfl | rfl
    · exact Nat.le_add_right _ _
    · exact Nat.le_add_right _ _
    · exact Nat.le_add_right _ _
    · exact Nat.le_refl _
    · exact Nat.le_add_right _ _
  exact I1.fpOk hle (I1.hok.fresh hle)
end
end L2

set_option Elab.async false
set_option linter.all false
set_option maxRecDepth 100000
set_option maxHeartbeats 4000000
namespace L2
open PySem PySem.Spec PyProof.Rows
section
variable {prog : Program} {w : World} {A : Around} {E : Value → Shared → Prop} {s : Shared}
end
section
variable {X : Cx}
/-- a comprehension over two lists side by side -/
theorem lcw_zip {K : PySem.W.Frag} {g : TG} {tt : TT} {te : TE} {σ' : St} {fin : List V → Hp → Prop} {H1 : Hp} {a b : Addr} {xs ys : List V} (hn : min xs.length ys.length < sizeLine) (Pv : Nat → List V → St → Hp → Prop) (h0 : Pv 0 [] σ' H1)
    (hl : ∀ i zs σ H, i ≤ min xs.length ys.length → Pv i zs σ H → zs.length ≤ i ∧ SqL K H a xs ∧ SqL K H b ys)
    (hs : ∀ i x y zs σ H T, xs[i]? = some x → ys[i]? = some y → Pv i zs σ H → H T = none → g (.ref T) σ (upd H T (.tup [x, y])) fun σ2 H2 => tt σ2 H2 fun b H3 => if b = true then te σ2 H3 (fun v H4 => Pv (i + 1) (zs ++ [v]) σ2 H4) else Pv (i + 1) zs σ2 H3)
    (hd : ∀ zs σ H, Pv (min xs.length ys.length) zs σ H → fin zs H) : LcW (Itz K a b) g tt te σ' fin H1 := by
  refine ⟨fun i m zs σ H => m = min xs.length ys.length - i ∧ i ≤ min xs.length ys.length ∧ Pv i zs σ H, ⟨min xs.length ys.length, by simp, Nat.zero_le _, h0⟩, ?_⟩
  rintro i m zs σ H ⟨rfl, hi, p⟩
  obtain ⟨q0, q1, q2⟩ := hl i zs σ H hi p
  by_cases hlt : i < min xs.length ys.length
  · have h1 : i < xs.length := by omega
    have h2 : i < ys.length := by omega
    refine .inr ⟨⟨xs, ys, xs[i], ys[i], q1, q2, by simp [h1], by simp [h2]⟩, by omega, fun zs' σ2 H2 => Pv (i + 1) zs' σ2 H2, fun zs' σ2 H2 q => ⟨min xs.length ys.length - (i + 1), by omega, rfl, hlt, q⟩, fun v H' y => ?_⟩
    obtain ⟨T, x, y, rfl, hT, rfl, e1, e2⟩ := y
    exact hs i x y zs σ H T (e1 xs q1) (e2 ys q2) p hT
  · have e : i = min xs.length ys.length := by omega
    subst e
    refine .inl ⟨⟨xs, ys, q1, q2, ?_⟩, by omega, hd zs σ H p⟩
    rcases Nat.le_total xs.length ys.length with z | z
    · exact .inl (by omega)
    · exact .inr (by omega)
end
end L2

set_option Elab.async false
set_option linter.all false
set_option maxRecDepth 100000
set_option maxHeartbeats 4000000
namespace L2
open PySem PySem.Spec PyProof.Rows

/-! ### lists of pairs as tables -/
section
variable {κ : Type} [DecidableEq κ]
noncomputable def valV (kvs : List (κ × V)) (k : κ) : Option V := (kvs.find? fun kv => decide (kv.1 = k)).map (·.2)
/-- in its place, or at the end -/
noncomputable def putK (kvs : List (κ × V)) (k : κ) (v : V) : List (κ × V) :=
  if (kvs.any fun kv => decide (kv.1 = k)) = true then kvs.map (fun kv => if kv.1 = k then (kv.1, v) else kv) else kvs ++ [(k, v)]
noncomputable def dropK (kvs : List (κ × V)) (k : κ) : List (κ × V) := kvs.filter fun kv => decide (kv.1 ≠ k)

theorem valV_pos {p : κ × V} {r : List (κ × V)} {k : κ} (e : p.1 = k) : valV (p :: r) k = some p.2 := by simp [valV, List.find?_cons, e]
theorem valV_neg {p : κ × V} {r : List (κ × V)} {k : κ} (e : ¬ p.1 = k) : valV (p :: r) k = valV r k := by simp [valV, List.find?_cons, e]
theorem RelO.isSome_eq {o : Option V} {u : Option Value} (r : RelO o u) : o.isSome = u.isSome := by
  cases o with
  | none => cases u with
    | none => rfl
    | some _ => exact (show False from r).elim
  | some _ => cases u with
    | none => exact (show False from r).elim
    | some _ => rfl
/-- raw tables of the same keys -/
theorem KV.val {kvs : List (κ × V)} {vs : List (κ × Value)} (r : KV kvs vs) (k : κ) : RelO (valV kvs k) (valueAt vs k) := by
  unfold KV at r
  induction r with
  | nil => exact True.intro
  | @cons p q ps qs h t ih =>
    obtain ⟨h1, h2⟩ := h
    by_cases e : p.1 = k
    · have e' : q.1 = k := h1.symm.trans e
      have b : valueAt (q :: qs) k = some q.2 := by simp [valueAt, List.find?_cons, e']
      rw [valV_pos e, b]; exact h2
    · have e' : ¬ q.1 = k := fun z => e (h1.trans z)
      have b : valueAt (q :: qs) k = valueAt qs k := by simp [valueAt, List.find?_cons, e']
      rw [valV_neg e, b]; exact ih
theorem KV.keys {kvs : List (κ × V)} {vs : List (κ × Value)} (r : KV kvs vs) : kvs.map (·.1) = vs.map (·.1) := by
  unfold KV at r
  induction r with
  | nil => rfl
  | cons h t ih => rw [List.map_cons, List.map_cons, ih, h.1]
theorem KV.length {kvs : List (κ × V)} {vs : List (κ × Value)} (r : KV kvs vs) : kvs.length = vs.length := Paired.length r
end


/-! ### a tracked dict, its keys ints and texts or tuples of these -/
theorem kV_is {P : Program} {w : World} {k : Key} {u : Value} (r : RelV (kV k) u) : (mixKind P w).is k u = true := by
  cases k with
  | inl i => obtain ⟨t, e⟩ := (show ∃ t, u = Value.int i t from r); subst e; exact mixKind_int P w i t
  | inr x => obtain ⟨t, e⟩ := (show ∃ t, u = Value.str x t from r); subst e; exact mixKind_str P w x t
theorem items_are {P : Program} {w : World} : ∀ {ks : List Key} {us : List Value}, Vals (ks.map kV) us → ItemsAre (mixKind P w) ks us
  | [], _, r => by rw [List.map_nil] at r; cases r; exact .nil
  | k :: ks, _, r => by
    rw [List.map_cons] at r
    cases r with
    | cons h t => exact .cons (kV_is h) (items_are t)

/-- raw entries of a dict with tuple keys -/
noncomputable abbrev KT (H : Hp) : List (List Key × V) → List (List Key × Addr × Value) → Prop := Paired fun p q => p.1 = q.1 ∧ H q.2.1 = some (.tup (p.1.map kV)) ∧ RelV p.2 q.2.2
theorem KT.val {H : Hp} {kvs : List (List Key × V)} {xs : List (List Key × Addr × Value)} (r : KT H kvs xs) (k : List Key) : RelO (valV kvs k) ((atKey xs k).map (·.2)) := by
  induction r with
  | nil => exact True.intro
  | @cons p q ps qs h t ih =>
    obtain ⟨h1, _, h2⟩ := h
    by_cases e : p.1 = k
    · have e' : q.1 = k := h1.symm.trans e
      have b : atKey (q :: qs) k = some q.2 := by simp [atKey, List.find?_cons, e']
      rw [valV_pos e, b]; exact h2
    · have e' : ¬ q.1 = k := fun z => e (h1.trans z)
      have b : atKey (q :: qs) k = atKey qs k := by simp [atKey, List.find?_cons, e']
      rw [valV_neg e, b]; exact ih
section
variable {P : Program} {w : World} {H : Hp} {h : Heap} {a : Addr}
theorem rd_of {u : HO} (ok : HOk P w H h) (e : Rd H a u) : ObjOk P w H h a u := e.ok ok
theorem dk_rd {kvs : List (Key × V)} (ok : HOk P w H h) (e : Rd H a (.dK kvs)) : kvs.length ≤ sizeLine ∧ (a == sysModules) = false ∧ ∃ vs, KV kvs vs ∧ h.DictOf (mixKind P w) a vs :=
  show ObjOk P w H h a (.dK kvs) from rd_of ok e
/-- a tracked tuple of ints and texts is a key -/
theorem key_of {ks : List Key} (ok : HOk P w H h) (e : H a = some (.tup (ks.map kV))) : (tupleKind (mixKind P w)).is h ks a := by
  obtain ⟨_, its, r, o, h1, h2, n, h3⟩ := (show ObjOk P w H h a (.tup (ks.map kV)) from ok a _ e)
  exact ⟨o, its.toArray, n, h1, h2, h3, by simpa using items_are r⟩
theorem dt_rd {kvs : List (List Key × V)} (ok : HOk P w H h) (e : Rd H a (.dT kvs)) : kvs.length ≤ sizeLine ∧ (a == sysModules) = false ∧
    ∃ xs, KT H kvs xs ∧ h.DictOfH (tupleKind (mixKind P w)) a xs := by
  obtain ⟨z, y, xs, r, o, es, ep, h1, h2, h3, h4, h5⟩ := (show ObjOk P w H h a (.dT kvs) from rd_of ok e)
  refine ⟨z, y, xs, r, o, es, ep, h1, h2, h3, h4, fun x hx => ?_, h5⟩
  have all : ∀ {l : List (List Key × V)} {m : List (List Key × Addr × Value)}, KT H l m → ∀ x ∈ m, (tupleKind (mixKind P w)).is h x.1 x.2.1 := by
    intro l m q
    induction q with
    | nil => intro x hx; exact nomatch hx
    | @cons p q ps qs hq t ih =>
      intro x hx
      rcases List.mem_cons.mp hx with e | hx
      · subst e
        exact key_of ok (by rw [← hq.1]; exact hq.2.1)
      · exact ih x hx
  exact all r x hx
end

/-- what the dict at a holds at the key y -/
noncomputable def DGet (H : Hp) (a : Addr) (y : V) (r : Option V) : Prop :=
  (∃ kvs k, Rd H a (.dK kvs) ∧ y = kV k ∧ r = valV kvs k) ∨ ∃ kvs k b, Rd H a (.dT kvs) ∧ y = .ref b ∧ H b = some (.tup (k.map kV)) ∧ r = valV kvs k
/-- the heap behind a[y] = v -/
noncomputable def DPut (H : Hp) (a : Addr) (y v : V) (H' : Hp) : Prop :=
  (∃ kvs k, H a = some (.dK kvs) ∧ y = kV k ∧ kvs.length < sizeLine ∧ H' = upd H a (.dK (putK kvs k v))) ∨
  ∃ kvs k b, H a = some (.dT kvs) ∧ y = .ref b ∧ H b = some (.tup (k.map kV)) ∧ kvs.length < sizeLine ∧ H' = upd H a (.dT (putK kvs k v))
theorem DGet.k {H : Hp} {a : Addr} {kvs : List (Key × V)} {k : Key} (e : H a = some (.dK kvs)) : DGet H a (kV k) (valV kvs k) := .inl ⟨kvs, k, .inl e, rfl, rfl⟩
section
variable {X : Cx} {pins : List (Addr × Obj)} {σ : St} {H : Hp} {s : Shared} {a : Addr} {y v : V} {u r : Value} {o : Option V} {A : Around} {E : Value → Shared → Prop}

theorem Inv.big (I : Inv X pins σ H s) : sysModules < s.heap.objs.size := by
  have h : mainGlobals < s.heap.objs.size := (I.mod.glob.keeps I.bk).lt
  exact Nat.lt_trans (by decide) h

/-- d[y], there -/
theorem d_getItem {Q : Value → Shared → Prop} (hu : A.units + 1 < cLine) (I : Inv X pins σ H s) (g : DGet H a y (some v)) (ry : RelV y u) (h : ∀ w' s', Inv X pins σ H s' → RelV v w' → Q w' s') :
    wpAny (model X.prog X.w) A (getItem (.ref a) u) Q E s := by
  rcases g with ⟨kvs, k, e, ey, l⟩ | ⟨kvs, k, b, e, ey, eb, l⟩
  · subst ey
    obtain ⟨z, hd, vs, rel, dd⟩ := dk_rd I.hok e
    obtain ⟨w', hw, rw'⟩ := RelO.some_of (v := v) (o := valueAt vs k) (by rw [l]; exact rel.val k)
    exact wpAny_getItem_of (kV_is ry) dd.mapOf hw (h w' _ (I.tok _) rw')
  · subst ey
    cases (show u = Value.ref b from ry)
    obtain ⟨z, hd, xs, rel, dd⟩ := dt_rd I.hok e
    obtain ⟨w', hw, rw'⟩ := RelO.some_of (v := v) (o := (atKey xs k).map (·.2)) (by rw [l]; exact rel.val k)
    obtain ⟨p, hp, hp2⟩ := Option.map_eq_some_iff.mp hw
    refine wpAny_getItem_heap (tupleKind_room_in1 hu) (key_of I.hok eb) dd hp ?_
    rw [hp2]
    exact h w' _ (I.tok _) rw'
theorem d_notIn {Q : Value → Shared → Prop} (hu : A.units + 1 < cLine) (I : Inv X pins σ H s) (g : DGet H a y o) (ry : RelV y u) (h : ∀ s', Inv X pins σ H s' → Q (.bool (!o.isSome)) s') :
    wpAny (model X.prog X.w) A (compareOp .NotIn u (.ref a)) Q E s := by
  rcases g with ⟨kvs, k, e, ey, l⟩ | ⟨kvs, k, b, e, ey, eb, l⟩
  · subst ey
    obtain ⟨z, hd, vs, rel, dd⟩ := dk_rd I.hok e
    refine wpAny_notIn_of (kV_is ry) hd dd.mapOf ?_
    rw [← (rel.val k).isSome_eq, ← l]
    exact h _ (I.tok _)
  · subst ey
    cases (show u = Value.ref b from ry)
    obtain ⟨z, hd, xs, rel, dd⟩ := dt_rd I.hok e
    refine wpAny_notIn_heap (tupleKind_room_in1 hu) (key_of I.hok eb) hd dd ?_
    have q := (rel.val k).isSome_eq
    rw [Option.isSome_map] at q
    rw [← q, ← l]
    exact h _ (I.tok _)
end

section
variable {X : Cx} {pins : List (Addr × Obj)} {σ : St} {H : Hp} {s : Shared} {a : Addr} {kvs : List (Key × V)} {k : Key} {u : Value} {A : Around} {E : Value → Shared → Prop}
end


/-! ### readings and rules -/
/-- the element of a subscription, not a slice -/
noncomputable def NoSl (i : Expr) : Prop := ∀ ov iv, subscripted i false ov iv = operate [ov, iv] (getItem ov iv)
theorem subD_of {prog : Program} {w : World} {A : Around} {E : Value → Shared → Prop} {s : Shared} {env : Env} {value slice : Expr} {pos : Pos} {T id : String} {Q : Value → Shared → Prop}
    (hl : typeLookup (.type T) "__getitem__" = pure (some (.builtin id))) (hs : NoSl slice)
    (h : wpAny (model prog w) A (eval value env) (fun o s₁ => wpAny (model prog w) A (eval slice env) (fun i s₂ => s₂.TypeIs o T ∧ wpAny (model prog w) A (getItem o i) Q E s₂) E s₁) E s) :
    wpAny (model prog w) A (eval (.Subscript value slice pos) env) Q E s := by
  refine Subscript_ (wpAny_mono h (fun o s₁ h₁ => wpAny_mono h₁ (fun i s₂ h₂ => ?_) fun _ _ x => x) fun _ _ x => x)
  obtain ⟨hT, h₂⟩ := h₂
  unfold subscriptTail
  refine wpAny_bind ?_
  rw [getitemInPython_of_ne hT.not_modules]
  refine wpAny_bind (wpAny_specialOf hT hl ?_)
  have fin : wpAny (model prog w) A (subscripted slice false o i) (fun r s₃ => wpAny (model prog w) A (letTemporaryGo value o r >>= fun _ => pure r) Q E s₃) E s₂ := by
    rw [hs o i]
    exact wpAny_operating (wpAny_mono h₂ (fun r s₃ h₃ => wpAny_bind (wpAny_letTemporaryGo (wpAny_pure h₃))) fun _ _ x => x)
  first
    | exact wpAny_pure (wpAny_bind fin)
    | exact wpAny_bind (wpAny_pure (wpAny_bind fin))
    | exact wpAny_bind fin

theorem dict_typeIs {X : Cx} {pins : List (Addr × Obj)} {σ : St} {H : Hp} {s : Shared} {a : Addr} {y : V} {o : Option V} (I : Inv X pins σ H s) (g : DGet H a y o) : s.TypeIs (.ref a) "dict" := by
  rcases g with ⟨kvs, k, e, _, _⟩ | ⟨kvs, k, b, e, _, _, _⟩
  · obtain ⟨_, _, vs, _, dd⟩ := dk_rd I.hok e
    exact dd.typeIs
  · obtain ⟨_, _, xs, _, dd⟩ := dt_rd I.hok e
    exact dd.typeIs
/-- d[y] -/
noncomputable def tDGet (td ty : TE) : TE := fun σ H Q => td σ H fun x H1 => ty σ H1 fun y H2 => ∃ a v, x = .ref a ∧ DGet H2 a y (some v) ∧ Q v H2
noncomputable def tDNotIn (ty td : TE) : TE := fun σ H Q => ty σ H fun y H1 => td σ H1 fun x H2 => ∃ a o, x = .ref a ∧ DGet H2 a y o ∧ Q (.bl (!o.isSome)) H2
section
variable {X : Cx} {o i e value : Expr} {pos pos' tpos : Pos} {td ty tv : TE}
theorem pe_dget (hu : X.A.units + 1 < cLine) (ho : PE X o td) (hi : PE X i ty) (hs : NoSl i) : PE X (.Subscript o i pos) (tDGet td ty) := by
  intro pins s σ H Q I h
  refine subD_of PySem.F.slot_dict_getitem.lookup hs (thn (ho pins s σ H _ I h) fun u s1 ⟨x, H1, I1, rx, q1⟩ => thn (hi pins s1 σ H1 _ I1 q1) fun iv s2 ⟨y, H2, I2, ry, a, v, ex, g, q2⟩ => ?_)
  subst ex
  obtain rfl : u = Value.ref a := rx
  exact ⟨dict_typeIs I2 g, d_getItem hu I2 g ry fun w' s3 I3 rw' => ⟨v, H2, I3, rw', q2⟩⟩
theorem pc_dnotin (hu : X.A.units + 1 < cLine) (hi : PE X i ty) (ho : PE X o td) : PC X .NotIn i o (tDNotIn ty td) := by
  intro pins s σ H Q I h
  refine thn (hi pins s σ H _ I h) fun iv s1 ⟨y, H1, I1, ry, q1⟩ => thn (ho pins s1 σ H1 _ I1 q1) fun u s2 ⟨x, H2, I2, rx, a, ov, ex, g, q2⟩ => ?_
  subst ex
  obtain rfl : u = Value.ref a := rx
  exact d_notIn hu I2 g ry fun s3 I3 => ⟨.bl (!ov.isSome), H2, I3, rfl, q2⟩
end


/-! ### displays -/
section
variable {X : Cx} {pos : Pos}
end

end L2

set_option Elab.async false
set_option linter.all false
set_option maxRecDepth 100000
set_option maxHeartbeats 4000000
namespace L2
open PySem PySem.Spec PyProof.Rows

/-! ### a dict comprehension of one clause, keys tuples -/
section
variable {prog : Program} {w : World} {A : Around} {R : Result → Shared → Prop} {s : Shared}
end
section
variable {X : Cx} {scope : Scope} {N : List Str} {ix : List (Option Nat)}
variable {tg iter kx vx : Expr} {ifs : List Expr} {pos : Pos} {g : TG} {tt : TT} {tk tv : TE}
end
end L2

set_option Elab.async false
set_option linter.all false
set_option maxRecDepth 100000
set_option maxHeartbeats 4000000
namespace L2
open PySem PySem.Spec PyProof.Rows

/-! ### sum, abs, list.index -/
section
variable {X : Cx}
theorem call_absI : CallR X (.builtin "abs") (fun xs H Q => ∃ i, xs = [.int i] ∧ Q (.int (if i < 0 then -i else i)) H) := by
  intro pins s σ H xs us Q I r h
  obtain ⟨i, rfl, q⟩ := h
  obtain ⟨u, rfl, ⟨t, rfl⟩⟩ := vals1 r
  exact call_abs_int fun u tk => ⟨.int (if i < 0 then -i else i), H, I.tok tk, ⟨_, rfl⟩, q⟩
end
end L2

set_option Elab.async false
set_option linter.all false
set_option maxRecDepth 100000
set_option maxHeartbeats 4000000
namespace L2
open PySem PySem.Spec PyProof.Rows

/-! ### zip of two tuples -/
section
variable {prog : Program} {w : World} {A : Around} {E : Value → Shared → Prop} {s : Shared}
end
end L2

set_option Elab.async false
set_option linter.all false
set_option maxRecDepth 100000
set_option maxHeartbeats 4000000
namespace L2
open PySem PySem.Spec PyProof.Rows
section
variable {prog : Program} {w : World} {A : Around} {E : Value → Shared → Prop} {s : Shared}
end
section
variable {X : Cx}
end
end L2

set_option Elab.async false
set_option linter.all false
set_option maxRecDepth 100000
set_option maxHeartbeats 4000000
namespace L2
open PySem PySem.Spec PyProof.Rows

/-! ### the keys of a dict whose keys are tuples, walked -/
section
variable {prog : Program} {w : World} {A : Around} {E : Value → Shared → Prop} {s : Shared}
end
section
variable {X : Cx} {tg : Expr}
end
end L2

set_option Elab.async false
set_option linter.all false
set_option maxRecDepth 100000
set_option maxHeartbeats 4000000
namespace L2
open PySem PySem.Spec PyProof.Rows
section
variable {X : Cx} {scope : Scope} {N : List Str} {ix : List (Option Nat)}
variable {tg iter kx vx : Expr} {ifs : List Expr} {pos : Pos} {g : TG} {tt : TT} {tk tv : TE}
end
end L2

set_option Elab.async false
set_option linter.all false
set_option maxRecDepth 100000
set_option maxHeartbeats 4000000
namespace L2
open PySem PySem.Spec PyProof.Rows

/-! ### methods -/
/-- a method call o.m(e) of a built-in, with one argument: what must be seen of the text -/
structure M1 (X : Cx) (o : Expr) (m : Str) (apos : Pos) (e : Expr) (cpos : Pos) : Prop where
  base : attributeBase o m X.env (eval o X.env) = eval o X.env
  few : ((backTo cpos (starEach [e] X.env)).all (fun x => !x.1) && (backToKw cpos (keywordEach [] X.env)).all (fun x => x.1.isSome)
    && decide (([e] : List Expr).length + ([] : List Keyword).length + (if ([] : List Keyword).isEmpty then 0 else 1) < 30)) = true
  line : (apos.endLine == cpos.line) = true
  trees : backTo cpos (starEach [e] X.env) = [(false, eval e X.env)]
structure M2 (X : Cx) (o : Expr) (m : Str) (apos : Pos) (e f : Expr) (cpos : Pos) : Prop where
  base : attributeBase o m X.env (eval o X.env) = eval o X.env
  few : ((backTo cpos (starEach [e, f] X.env)).all (fun x => !x.1) && (backToKw cpos (keywordEach [] X.env)).all (fun x => x.1.isSome)
    && decide (([e, f] : List Expr).length + ([] : List Keyword).length + (if ([] : List Keyword).isEmpty then 0 else 1) < 30)) = true
  line : (apos.endLine == cpos.line) = true
  trees : backTo cpos (starEach [e, f] X.env) = [(false, eval e X.env), (false, eval f X.env)]

section
variable {X : Cx} {pins : List (Addr × Obj)} {σ : St} {H : Hp} {s : Shared} {a : Addr} {y d : V} {u r : Value} {o : Option V} {A : Around} {E : Value → Shared → Prop}
end

section
variable {X : Cx} {o e f : Expr} {apos cpos : Pos} {td ty tx : TE}
end

/-! ### dict(d): a copy -/
section
variable {X : Cx} {pins : List (Addr × Obj)} {σ : St} {H : Hp} {s : Shared} {a : Addr} {kvs : List (Key × V)} {A : Around} {E : Value → Shared → Prop}
end


section
variable {X : Cx} {pins : List (Addr × Obj)} {σ : St} {H : Hp} {s : Shared} {a : Addr} {y : V} {u : Value} {A : Around} {E : Value → Shared → Prop}
end
section
variable {X : Cx}
end
/-! ### a dict's pairs: keys that differ -/
section
variable {κ : Type} [DecidableEq κ]
end
end L2

set_option Elab.async false
set_option linter.all false
set_option maxRecDepth 100000
set_option maxHeartbeats 4000000
namespace L2
open PySem PySem.Spec PyProof.Rows PySem.W PySem.Calls

theorem ObjOk.get {P : Program} {w : World} {H : Hp} {h : Heap} {a : Addr} {o : HO} (x : ObjOk P w H h a o) : ∃ ob, h.get? a = some ob := by
  cases o with
  | lst xs => obtain ⟨_, _, _, _, e⟩ := x; exact ⟨_, e⟩
  | tup xs => obtain ⟨_, _, _, ob, e, _⟩ := x; exact ⟨_, e⟩
  | dK kvs => obtain ⟨_, _, _, _, o, _, _, e, _⟩ := x; exact ⟨_, e⟩
  | dT kvs => obtain ⟨_, _, _, _, o, _, _, e, _⟩ := x; exact ⟨_, e⟩
  | set S n => obtain ⟨o, _, _, _, e, _⟩ := x; exact ⟨_, e⟩
  | ins C dx fs => obtain ⟨_, _, _, e, _⟩ := x; exact ⟨_, e⟩
  | own y => obtain ⟨_, e⟩ := x; exact ⟨_, e⟩
  | xd fs => obtain ⟨_, ⟨_, _, _, e, _⟩, _⟩ := x; exact ⟨_, e⟩
  | rng lo hi => obtain ⟨_, _, _, e⟩ := x; exact ⟨_, e⟩
  | frz ob u => obtain ⟨e, _⟩ := x; exact ⟨_, e⟩
  | tbl ps => exact ⟨_, (show h.get? a = some _ from x)⟩
  | met f y => exact ⟨_, (show h.get? a = some _ from x)⟩
  | ext φ => obtain ⟨_, ⟨_, e⟩, _⟩ := x; exact ⟨_, e⟩
theorem HOk.freeN {P : Program} {w : World} {H : Hp} {h : Heap} {a : Addr} (x : HOk P w H h) (e : h.get? a = none) : H a = none := by
  cases q : H a with
  | none => rfl
  | some u => obtain ⟨ob, e'⟩ := (x a u q).get; rw [e] at e'; cases e'
/-- a new object, wherever it lies -/
theorem Inv.laidN {X : Cx} {pins : List (Addr × Obj)} {σ : St} {H : Hp} {s : Shared} {h' : Heap} {a : Addr} {o : HO} {t' : Nat} (I : Inv X pins σ H s) (k : ∀ b u, s.heap.get? b = some u → h'.get? b = some u) (hp : s.heap.get? a = none) (new : ObjOk X.prog X.w (upd H a o) h' a o) :
    Inv X pins σ (upd H a o) { s with heap := h', toks := t' } := by
  have hn := I.hok.freeN hp
  refine I.un ⟨fun b ob e _ _ _ => k b ob e, fun b ob e _ _ _ => ⟨ob.slots, k b ob e⟩, fun b ob e n _ => ?_, fun b ob e _ => ⟨ob, k b ob e⟩, fun b xs e => ?_, fun b ob u e => ?_, fun b ps e => ⟨#[], ?_⟩⟩ fun b u e => ?_
  · rw [upd_ne (fun z => by rw [z, hp] at e; cases e)]; exact n
  · rw [upd_ne (ne_of_none e hn)]; exact e
  · rw [upd_ne (ne_of_none e hn)]; exact e
  · rw [upd_ne (ne_of_none e hn)]; simpa using e
  · by_cases hb : b = a
    · subst hb; rw [upd_same] at e; cases e; exact new
    · rw [upd_ne hb] at e
      exact (I.hok b u e).stay (fun c v _ q => k c v q) (fun c q => by rw [upd_ne (ne_of_none q hn)]; exact q) fun c xs q => by rw [upd_ne (ne_of_none q hn)]; exact q
/-! ### sorted(d): the keys of a dict by texts, sorted -/
section
variable {X : Cx}
end
end L2

set_option Elab.async false
set_option linter.all false
set_option maxRecDepth 100000
set_option maxHeartbeats 4000000
namespace L2
open PySem PySem.Spec PyProof.Rows PySem.W PySem.Calls

/-! ### dict([(k, v), ..]) -/
theorem list_no_keys : typeLookup (.type "list") "keys" = pure none := by rw [typeLookup_type, builtinLookup_eq_fast]; kernel_rfl
theorem entry_dul : entryFor table "dict.update.loop" = some Builtin.«dict.update.loop» := entryFor_of_tree (by kernel_rfl)
theorem plain_dul : plainId "dict.update.loop" = true := by decide +kernel
section
variable {prog : Program} {w : World} {A : Around} {E : Value → Shared → Prop} {s : Shared}
theorem attrMiss_list {a : Addr} {o : Obj} {xs : Array Value} {k : Nat} {Q : Option Value → Shared → Prop} (hx : s.heap.get? a = some o) (hc : o.cls = .type "list") (hdat : o.data = .seq xs k) (hd : o.dict = none) (hA : A.handled = none)
    (h : ∀ h' tk, (∀ b ob, s.heap.get? b = some ob → h'.get? b = some ob) → Q none { s with heap := h', toks := tk }) : wpAny (model prog w) A (getAttr? (.ref a) "keys") Q E s := by
  obtain ⟨c, dct, dat, sl⟩ := o
  simp only at hc hdat hd
  subst hc hdat hd
  obtain ⟨hp, g, d, tk, os⟩ := s
  have hT : ∀ tk', (⟨hp, g, d, tk', os⟩ : Shared).TypeIs (.ref a) "list" := fun _ => ⟨_, hx, rfl⟩
  have f1 := sub_AttributeError
  have f3 := F.slot_list_getattribute.lookup
  have f4 := F.slot_list_getattribute.bind (.ref a)
  have f5 := am_list_getattr_none
  unfold getAttr? getAttrBy? getAttrBy
  repeat (any_goals (first | assumption | exact hT _ | ((with_reducible show wpAny _ _ (call (Value.builtin "list.__getattribute__") _ _) _ _ _); refine call_meets F.slot_list_getattribute (hT _) am_entry_list_getattribute (F.args_list_getattribute_2 _ _) (meets_getattribute_miss_list a xs k sl "keys" _ list_no_keys (by decide) (by size_fits)) ⟨hx, hA, fun h' tk' e hx' => ?_⟩) | wp_step))
  obtain ⟨t', u', he⟩ := hx'.there
  have hk := hx'.keeps
  show wpAny _ _ (getattributeRaised _ _ _ _ _ _ _) _ _ _
  unfold getattributeRaised
  repeat (any_goals (first | assumption | exact h _ _ hk | wp_step))
end
section
variable {prog : Program} {w : World} {A : Around} {R : Result → Shared → Prop} {K : Type} [DecidableEq K] {knd : PySem.KeyKind prog w K}
/-- what a list of pairs holds -/
noncomputable def PairsAt (knd : PySem.KeyKind prog w K) (h : Heap) (D I : Addr) (items : Array Value) (ps : List (K × Value)) : Prop :=
  items.size = ps.length ∧ ∀ (i : Nat) (v : Value), items[i]? = some v → ∃ (t : Addr) (o : Obj) (u x : Value) (n : Nat) (k : K), v = .ref t ∧ t ≠ D ∧ t ≠ I ∧ h.get? t = some o ∧ o.cls = .type "tuple" ∧ o.data = .seq #[u, x] n ∧ knd.is k u = true ∧ ps[i]? = some (k, x)
theorem dul_loop (hh : A.handled = none) (I l D : Addr) (hne : l ≠ I) (hDI : D ≠ I) (hDl : D ≠ l) (items : Array Value) (ps : List (K × Value)) (hsz : ps.length ≤ sizeLine) (s0 : Shared) (hP : PairsAt knd s0.heap D I items ps) :
    ∀ (k i : Nat) (s : Shared) (z : Tok), ps.length - i = k → i ≤ ps.length → s.heap.IsListIter I l i → s.heap.IsList l items → (∀ b o, b ≠ D → b ≠ I → s0.heap.get? b = some o → s.heap.get? b = some o) →
      s.heap.DictOf knd D (merged [] (ps.take i)) → (merged [] (ps.take i)).length ≤ i →
      (∀ h' tk, (∀ b o, b ≠ D → b ≠ I → s.heap.get? b = some o → h'.get? b = some o) → h'.DictOf knd D (merged [] ps) → R (.ok (.ret .none)) { s with heap := h', toks := tk }) →
      codeAny (model prog w) A (.builtin "dict.update.loop" ⟨[.ref D, .ref I, .int i z, .none], []⟩) R s := by
  have W := Walks.list (prog := prog) (w := w) (A := A.in1) hh I l hne items
  intro k
  induction k with
  | zero =>
    intro i s z hk hi hit hl hkp hD hlen hR
    have hin : i = ps.length := by omega
    refine codeAny_builtin entry_dul ?_
    rw [Around.under_plainId plain_dul _]
    show wpAny _ A.in1 (pyNext (.ref I) >>= _) _ _ s
    refine wpAny_bind (W.done s _ _ (by rw [hP.1, ← hin]; exact ⟨hit, hl⟩) fun h' tk hm => ?_)
    show wpAny _ A.in1 (Builtin.Dict.addKeywords D [] >>= fun _ => ret Value.none) _ _ _
    refine wpAny_bind (wpAny_pure (wpAny_pure (hR h' tk (fun b o _ hbI e => hm b o (by simpa using hbI) e) ?_)))
    rw [hin, List.take_length] at hD
    obtain ⟨o, es, ep, ho, rest⟩ := hD
    exact ⟨o, es, ep, hm D _ (by simpa using hDI) ho, rest⟩
  | succ k ih =>
    intro i s z hk hi hit hl hkp hD hlen hR
    have hlt : i < ps.length := by omega
    refine codeAny_builtin entry_dul ?_
    rw [Around.under_plainId plain_dul _]
    show wpAny _ A.in1 (pyNext (.ref I) >>= _) _ _ s
    refine wpAny_bind (W.item i s _ _ (by rw [hP.1]; exact hlt) ⟨hit, hl⟩ fun v h' tk hv hst' hm => ?_)
    obtain ⟨t, o, u, x, n, kk, rfl, htD, htI, ho, hoc, hod, hkk, hpi⟩ := hP.2 i v hv
    have ho' : h'.get? t = some o := hm t o (by simpa using htI) (hkp t o htD htI ho)
    have hD' : h'.DictOf knd D (merged [] (ps.take i)) := by
      obtain ⟨o, es, ep, ho, rest⟩ := hD
      exact ⟨o, es, ep, hm D _ (by simpa using hDI) ho, rest⟩
    refine wpAny_bind (wpAny_holding ?_)
    refine wpAny_bind (wpAny_tryCatch ?_)
    unfold Builtin.Dict.pairItems
    refine wpAny_bind (wpAny_typeOf (T := "tuple") (show Shared.TypeIs { s with heap := h', toks := tk } (.ref t) "tuple" from ⟨o, ho', hoc⟩) ?_)
    rw [if_pos (by rfl)]
    unfold seqItems?
    refine wpAny_bind (wpAny_bind (wpAny_load ho' ?_))
    rw [hod]
    refine wpAny_pure (wpAny_pure ?_)
    show wpAny _ _ (holding [u, x] (dictSet D u x)) _ _ _
    refine wpAny_holding (wpAny_dictSet_pairs (hsz := by omega) hkk hD' fun h2 hd2 hs2 => ?_)
    have he : stored (merged [] (ps.take i)) kk x = merged [] (ps.take (i + 1)) := by
      rw [List.take_add_one, hpi]
      simp [merged, List.foldl_append]
    rw [he] at hd2
    have hkeep : ∀ b ob, b ≠ D → h'.get? b = some ob → h2.get? b = some ob := fun b ob hb e => (hs2.2 b hb).trans e
    refine wpAny_pure ⟨plainId_quiet plain_dul _, ih (i + 1) _ _ (by omega) (by omega) (hst'.1.at fun o e => hkeep I o hDI.symm e) (hst'.2.at fun o e => hkeep l o hDl.symm e) (fun b ob h1 h2 e => hkeep b ob h1 (hm b ob (by simpa using h2) (hkp b ob h1 h2 e))) hd2 ?_ fun h3 tk3 hk3 hd3 => ?_⟩
    · rw [← he]
      have := stored_length_le (merged [] (ps.take i)) kk x
      omega
    · exact hR h3 tk3 (fun b ob h1 h2 e => hk3 b ob h1 h2 (hkeep b ob h1 (hm b ob (by simpa using h2) e))) hd3
end
end L2

set_option Elab.async false
set_option linter.all false
set_option maxRecDepth 100000
set_option maxHeartbeats 4000000
namespace L2
open PySem PySem.Spec PyProof.Rows PySem.W PySem.Calls
theorem pairs_of {P : Program} {w : World} {H : Hp} {h : Heap} (ok : HOk P w H h) {D I : Addr} (hD : H D = none) (hI : H I = none) : ∀ {ts : List (Addr × Str × V)} {us : List Value}, Vals (ts.map fun t => V.ref t.1) us → (∀ t ∈ ts, H t.1 = some (.tup [.str t.2.1, t.2.2])) →
    ∃ ps : List (Key × Value), PairsAt (mixKind P w) h D I us.toArray ps ∧ KV (ts.map fun t => ((Sum.inr t.2.1 : Key), t.2.2)) ps
  | [], _, .nil, _ => ⟨[], ⟨rfl, fun i v e => by simp at e⟩, .nil⟩
  | t :: ts, _, .cons (b := u) (l₂ := us) r rs, ht => by
    obtain ⟨ps, ⟨h1, h2⟩, h3⟩ := pairs_of ok hD hI rs fun x hx => ht x (List.mem_cons_of_mem _ hx)
    have e0 := ht t List.mem_cons_self
    obtain ⟨_, its, rv, o, ho, hc, n, hd⟩ := ok _ _ e0
    obtain ⟨a, b, rfl, ra, rb⟩ := Vals.two rv
    obtain ⟨tk, rfl⟩ := ra
    have eu : u = Value.ref t.1 := r
    subst eu
    refine ⟨(Sum.inr t.2.1, b) :: ps, ⟨by simp at h1 ⊢; omega, fun i v e => ?_⟩, .cons ⟨rfl, rb⟩ h3⟩
    cases i with
    | zero =>
      have ev : v = Value.ref t.1 := by simpa using e.symm
      subst ev
      refine ⟨t.1, o, _, b, n, Sum.inr t.2.1, rfl, ne_of_none e0 hD, ne_of_none e0 hI, ho, hc, hd, mixKind_str _ _ _ _, rfl⟩
    | succ i =>
      obtain ⟨t', o', u', x', n', k', q1, q2, q3, q4, q5, q6, q7, q8⟩ := h2 i v (by simpa using e)
      exact ⟨t', o', u', x', n', k', q1, q2, q3, q4, q5, q6, q7, by simpa using q8⟩
section
variable {X : Cx}
theorem call_dictP (hc : X.calm = true) : CallR X (.type "dict") (fun xs H Q => ∃ (l : Addr) (ts : List (Addr × Str × V)), xs = [.ref l] ∧ SqL X.K H l (ts.map fun t => V.ref t.1) ∧ (∀ t ∈ ts, H t.1 = some (.tup [.str t.2.1, t.2.2])) ∧ ts.length ≤ 1000 ∧ (ts.map (·.2.1)).Nodup ∧
    ∀ d, H d = none → Q (.ref d) (upd H d (.dK (ts.map fun t => ((Sum.inr t.2.1 : Key), t.2.2))))) := by
  intro pins s σ H xs us Q I r h
  obtain ⟨l, ts, rfl, hq, ht, hz, hnd, q⟩ := h
  obtain ⟨u, rfl, rx⟩ := vals1 r
  cases rx
  have hh : X.A.handled = none := I.ok.hd hc
  obtain ⟨its, r', pl, _⟩ := I.list hq
  obtain ⟨o, n, ho, hoc, hodi, hod⟩ := pl
  refine callType_codes (Q₁ := fun obj s₁ => obj = .ref s.heap.objs.size ∧ s₁ = { s with heap := s.heap.push { cls := .type "dict", data := .dict #[] } }) F.kt_called_dict (F.kt_typeCall_dict_1 _) F.entry_dict_init (kt_code_dict_new _ ⟨rfl, rfl⟩) ?_
  rintro obj s₁ ⟨rfl, rfl⟩
  have hnew : (s.heap.push { cls := .type "dict", data := .dict #[] }).DictOf (mixKind X.prog X.w) s.heap.objs.size [] := Heap.DictOf.new s.heap
  refine ⟨hnew.typeIs, F.args_dict_init_2 _ _, ?_⟩
  unfold Builtin.«dict.__init__»
  refine wpAny_bind ?_
  unfold Builtin.Dict.selfAndRest
  refine wpAny_bind (wpAny_notOrdered_dict hnew.typeIs ?_)
  show wpAny _ _ (pure (s.heap.objs.size, [Value.ref l])) _ _ _
  refine wpAny_pure ?_
  show wpAny _ _ (Builtin.Dict.updateFrom "dict.__init__" s.heap.objs.size (.ref l) [] .none) _ _ _
  unfold Builtin.Dict.updateFrom
  have ho1 := Heap.get?_push_of_some { cls := .type "dict", data := .dict #[] } ho
  refine wpAny_bind (wpAny_typeOf (T := "list") (show Shared.TypeIs { s with heap := s.heap.push { cls := .type "dict", data := .dict #[] } } (.ref l) "list" from ⟨o, ho1, hoc⟩) ?_)
  rw [if_pos (by decide)]
  refine wpAny_bind (attrMiss_list ho1 hoc hod hodi hh fun h2 tk2 k2 => ?_)
  rw [if_pos (by rfl)]
  refine wpAny_bind (wpAny_rule ?_)
  have hl2 : h2.IsList l its.toArray := ⟨o, k2 _ _ ho1, hoc, n, hod⟩
  refine wpAny_bind (wpAny_pyIter_list hl2 ?_)
  have fD : H s.heap.objs.size = none := I.fresh
  have k02 : ∀ b ob, s.heap.get? b = some ob → h2.get? b = some ob := fun b ob e => k2 b ob (Heap.get?_push_of_some _ e)
  have hDs : h2.DictOf (mixKind X.prog X.w) s.heap.objs.size [] := by
    obtain ⟨o, es, ep, ho, rest⟩ := hnew
    exact ⟨o, es, ep, k2 _ _ ho, rest⟩
  have hDlt : s.heap.objs.size < h2.objs.size := by obtain ⟨o, es, ep, ho, rest⟩ := hDs; exact Heap.lt_size ho
  have nI : s.heap.get? h2.objs.size = none := by
    cases e0 : s.heap.get? h2.objs.size with
    | none => rfl
    | some o => exact absurd (Heap.lt_size (k02 _ _ e0)) (Nat.lt_irrefl _)
  have fI : H h2.objs.size = none := I.hok.freeN nI
  obtain ⟨ps, hP, hKV⟩ := pairs_of (D := s.heap.objs.size) (I := h2.objs.size) (I.hok.kept fun b u e => Heap.get?_push_of_some { cls := .type "list_iterator", data := .fields #[.ref l, .int 0 0] } (k02 b u e)) fD fI r' ht
  have hpl : ps.length = ts.length := by have := hKV.length; rw [List.length_map] at this; exact this.symm
  have hkn : (ps.map (·.1)).Nodup := by
    rw [← hKV.keys, List.map_map]
    have : (ts.map ((fun x : Key × V => x.1) ∘ fun t => ((Sum.inr t.2.1 : Key), t.2.2))) = (ts.map (·.2.1)).map Sum.inr := by rw [List.map_map]; rfl
    rw [this]
    exact List.Pairwise.map _ (fun a b hab e => hab (Sum.inr.inj e)) hnd
  refine wpAny_pure ⟨plainId_quiet plain_dul _, ?_⟩
  show codeAny (model X.prog X.w) X.A.in1 (.builtin "dict.update.loop" ⟨[.ref s.heap.objs.size, .ref h2.objs.size, .int ((0 : Nat) : Int) 0, .none], []⟩) (wants (fun r s₂ => r = Value.none ∧ EP X pins σ Q (Value.ref s.heap.objs.size) s₂) X.xe) { s with heap := h2.push { cls := .type "list_iterator", data := .fields #[.ref l, .int 0 0] }, toks := tk2 }
  refine dul_loop (A := X.A.in1) (knd := mixKind X.prog X.w) hh h2.objs.size l s.heap.objs.size (Nat.ne_of_lt (Heap.lt_size (k02 _ _ ho))) (Nat.ne_of_lt hDlt) (fun e => absurd (Heap.lt_size ho) (by rw [← e]; exact Nat.lt_irrefl _)) its.toArray ps (by rw [hpl, sizeLine_eq]; omega) { s with heap := h2.push { cls := .type "list_iterator", data := .fields #[.ref l, .int 0 0] }, toks := tk2 } hP _ 0 _ _ rfl (Nat.zero_le _) ⟨_, Heap.get?_push_size _ rfl, rfl, rfl⟩ (hl2.push _) (fun b o _ _ e => e) ?_ (Nat.zero_le _) fun h3 tk3 k3 hd3 => ⟨rfl, ?_⟩
  · obtain ⟨o, es, ep, ho, rest⟩ := hDs
    exact ⟨o, es, ep, Heap.get?_push_of_some _ ho, rest⟩
  rw [merged_nil_of_nodup ps hkn] at hd3
  have kall : ∀ b ob, s.heap.get? b = some ob → h3.get? b = some ob := fun b ob e => k3 b ob (Nat.ne_of_lt (Heap.lt_size e)) (Nat.ne_of_lt (Heap.lt_size (k02 b ob e))) (Heap.get?_push_of_some _ (k02 b ob e))
  refine ⟨.ref s.heap.objs.size, _, I.laid (h' := h3) (t' := tk3) (o := .dK (ts.map fun t => ((Sum.inr t.2.1 : Key), t.2.2))) kall (Nat.le_refl _) ⟨?_, ?_, ps, hKV, hd3⟩, rfl, q _ fD⟩
  · rw [List.length_map, sizeLine_eq]; omega
  · have := I.big
    exact beq_eq_false_iff_ne.mpr (Nat.ne_of_gt this)
end
end L2

set_option Elab.async false
set_option linter.all false
set_option maxRecDepth 100000
set_option maxHeartbeats 4000000
namespace L2
open PySem PySem.Spec PyProof.Rows

/-! ### enumerate of a list -/
section
variable {X : Cx}
end
end L2

set_option Elab.async false
set_option linter.all false
set_option maxRecDepth 100000
set_option maxHeartbeats 4000000
namespace L2
open PySem PySem.Spec PyProof.Rows PySem.W PySem.Calls
section
variable {X : Cx}
end
end L2

set_option Elab.async false
set_option linter.all false
set_option maxRecDepth 100000
set_option maxHeartbeats 4000000
namespace L2
open PySem PySem.Spec PyProof.Rows PySem.W PySem.Calls
/-! ### a set of texts: how it is kept -/
noncomputable def txtOf : Value → Str
  | .str x _ => x
  | _ => default
/-- a set of the texts ss, none twice, in some order; of a set of texts the order is never led by numbers -/
structure TextSet (w : World) (o : Obj) (ss : List Str) (es : Array (Int × Value)) (ep : Nat) (t : SetTable) : Prop where
  cls : o.cls = .type "set"
  dic : o.dict = none
  slo : o.slots = #[]
  dat : o.data = .set es ep t
  els : ∀ e ∈ es.toList, ∃ tk, e.2 = .str (txtOf e.2) tk ∧ e.1 = hashStr w (txtOf e.2)
  all : (es.toList.map fun e => txtOf e.2).Perm ss
  one : ss.Nodup
  few : ss.length < 4000
  fit : t.fits es.size = true
  led : t.led = !w.params.followText "set-order"
  pla : es.size = 0 ∨ t.plain = false
theorem TextSet.size {w : World} {o : Obj} {ss : List Str} {es : Array (Int × Value)} {ep : Nat} {t : SetTable} (x : TextSet w o ss es ep t) : es.size = ss.length := by
  have := x.all.length_eq
  rw [List.length_map, Array.length_toList] at this; exact this
theorem TextSet.elems {P : Program} {w : World} {o : Obj} {ss : List Str} {es : Array (Int × Value)} {ep : Nat} {t : SetTable} (x : TextSet w o ss es ep t) : ElemsOf (PySem.strKind P w) es.toList := by
  intro e he
  obtain ⟨tk, h1, h2⟩ := x.els e he
  refine ⟨⟨txtOf e.2, ?_, h2⟩, ?_⟩
  · have z := PySem.strKind_is P w (txtOf e.2) tk
    rw [← h1] at z; exact z
  · rw [h1]; rfl
theorem orStandIn_led (t : SetTable) (n : Nat) : (t.orStandIn n).led = t.led := by
  unfold SetTable.orStandIn; split <;> rfl
theorem layNew_led (t : SetTable) (es : Array (Int × Value)) (h : Int) (x : Value) : (layNew t es h x).2.1.led = t.led := by
  unfold layNew
  split
  · exact orStandIn_led _ _
  · rfl
theorem relayAll_led (t : SetTable) (es : Array (Int × Value)) (n : Nat) : (relayAll t es n).2.1.led = t.led ∧ (t.plain = false → (relayAll t es n).2.1.plain = false) := by
  unfold relayAll
  split
  · rename_i t' order he
    have hz : t'.led = t.led ∧ t'.plain = t.plain := by
      unfold SetTable.relaid SetTable.laid at he
      revert he
      cases SetTable.layClean (SetTable.sizeAbove n - 1) (es.map (·.1)) with
      | none => intro he; cases he
      | some ow => intro he; cases he; exact ⟨rfl, rfl⟩
    dsimp only
    split
    · exact ⟨hz.1, fun e => hz.2.trans e⟩
    · exact ⟨rfl, fun _ => rfl⟩
  · exact ⟨rfl, fun _ => rfl⟩
theorem putSet_at {h : Heap} {a : Addr} {o : Obj} {es es' : Array (Int × Value)} {ep : Nat} {t t' : SetTable} (ho : h.get? a = some o) (hd : o.data = .set es ep t) :
    (h.update a (Obj.putSet es' t')).get? a = some { o with data := .set es' (ep + 1) t' } := by
  have q := Heap.get?_update_self (Obj.putSet es' t') ho (by rw [putSet_of es' t' hd]; rfl)
  rw [putSet_of es' t' hd] at q
  exact q
section
variable {prog : Program} {w : World} {A : Around} {E : Value → Shared → Prop} {s : Shared}
/-- the part of an adding that comes behind the search -/
theorem add_tail {a : Addr} {o : Obj} {ss : List Str} {k : Str} {tk : Tok} {es : Array (Int × Value)} {ep : Nat} {t : SetTable} {R : Option Bool → Shared → Prop}
    (ho : s.heap.get? a = some o) (x : TextSet w o ss es ep t) (hk : k ∉ ss) (few : ss.length + 1 < 4000)
    {L : Array (Int × Value) × SetTable × Bool × Bool} (hL : layNew t es (hashStr w k) (.str k tk) = L)
    (h : ∀ (h' : Heap) (o' : Obj) es' ep' t', Heap.SameBut a s.heap h' → h'.get? a = some o' → TextSet w o' (k :: ss) es' ep' t' → R (some true) { s with heap := h' }) (g : Bool → Sem Unit) (hg : ∀ (b : Bool) (s₁ : Shared) (Q' : Unit → Shared → Prop), Q' () s₁ → wpAny (model prog w) A (g b) Q' E s₁) :
    wpAny (model prog w) A (do
      storeSet a L.1 { L.2.1 with plain := false }
      if (!L.2.2.1 && ({ L.2.1 with plain := false } : SetTable).tooFull) = true then do
        g (relayAll { L.2.1 with plain := false } L.1 (SetTable.grown L.1.size)).2.2
        storeSet a (relayAll { L.2.1 with plain := false } L.1 (SetTable.grown L.1.size)).1 (relayAll { L.2.1 with plain := false } L.1 (SetTable.grown L.1.size)).2.1
        pure (some true)
      else pure (some true)) R E s := by
  have pm := layNew_perm t es (hashStr w k) (.str k tk)
  have pf := layNew_fits t es (hashStr w k) (.str k tk)
  have pl := layNew_led t es (hashStr w k) (.str k tk)
  rw [hL] at pm pf pl
  obtain ⟨e1, t1, b1, b2⟩ := L
  dsimp only at pm pf pl ⊢
  rw [Array.toList_push] at pm
  have hsz := x.size
  have z1 : e1.size = ss.length + 1 := by
    have := pm.length_eq
    rw [List.length_append, Array.length_toList, Array.length_toList] at this
    rw [this, hsz]; rfl
  have mk : ∀ {e2 : Array (Int × Value)} {t2 : SetTable} {o2 : Obj} {ep2 : Nat}, e2.toList.Perm e1.toList → o2.cls = .type "set" → o2.dict = none → o2.slots = #[] → o2.data = .set e2 ep2 t2 → t2.fits e2.size = true → t2.led = t.led → t2.plain = false → TextSet w o2 (k :: ss) e2 ep2 t2 := by
    intro e2 t2 o2 ep2 p1 c1 c2 c3 c4 c5 c6 c7
    have p2 := p1.trans pm
    refine ⟨c1, c2, c3, c4, fun e he => ?_, ?_, ?_, ?_, c5, c6.trans x.led, .inr c7⟩
    · rcases List.mem_append.mp (p2.mem_iff.mp he) with q | q
      · exact x.els e q
      · rw [List.mem_singleton.mp q]; exact ⟨tk, rfl, rfl⟩
    · refine (p2.map _).trans ?_
      rw [List.map_append]
      exact (List.perm_append_comm).trans (List.Perm.cons k x.all)
    · exact List.nodup_cons.mpr ⟨hk, x.one⟩
    · rw [List.length_cons]; exact few
  have fz : ({ t1 with plain := false } : SetTable).fits e1.size = true := SetTable.fits_plain_off pf
  refine wpAny_bind (wpAny_storeSet_of ho x.dat ?_ (by rw [z1, sizeLine_eq]; omega))
  have g1 := putSet_at (es' := e1) (t' := { t1 with plain := false }) ho x.dat
  have sb := Heap.SameBut.update s.heap a (Obj.putSet e1 { t1 with plain := false })
  split
  · have rp := relayAll_perm { t1 with plain := false } e1 (SetTable.grown e1.size)
    have rf := relayAll_fits { t1 with plain := false } e1 (SetTable.grown e1.size)
    have rl := relayAll_led { t1 with plain := false } e1 (SetTable.grown e1.size)
    generalize relayAll { t1 with plain := false } e1 (SetTable.grown e1.size) = R2 at rp rf rl ⊢
    have z2 : R2.1.size = ss.length + 1 := by
      have := rp.length_eq
      rw [Array.length_toList, Array.length_toList] at this
      rw [this, z1]
    refine wpAny_bind (hg _ _ _ ?_)
    refine wpAny_bind (wpAny_storeSet_of g1 rfl ?_ (by rw [z2, sizeLine_eq]; omega))
    have g2 := putSet_at (es' := R2.1) (t' := R2.2.1) g1 rfl
    exact wpAny_pure (h _ _ R2.1 _ R2.2.1 (sb.trans (Heap.SameBut.update _ a _)) g2 (mk rp x.cls x.dic x.slo rfl rf (rl.1.trans pl) (rl.2 rfl)))
  · exact wpAny_pure (h _ _ e1 _ _ sb g1 (mk (List.Perm.refl _) x.cls x.dic x.slo rfl fz pl rfl))
end
end L2

set_option Elab.async false
set_option linter.all false
set_option maxRecDepth 100000
set_option maxHeartbeats 4000000
namespace L2
open PySem PySem.Spec PyProof.Rows PySem.W PySem.Calls
/-- the texts met so far, none twice -/
noncomputable def metS : List Str → List Str
  | [] => []
  | k :: r => if k ∈ metS r then metS r else k :: metS r
theorem metS_len (l : List Str) : (metS l).length ≤ l.length := by
  induction l with
  | nil => exact Nat.le_refl _
  | cons a r ih =>
    unfold metS
    split
    · rw [List.length_cons]; omega
    · rw [List.length_cons, List.length_cons]; omega
theorem metS_self {l : List Str} (h : l.Nodup) : metS l = l := by
  induction l with
  | nil => rfl
  | cons a r ih =>
    obtain ⟨h1, h2⟩ := List.nodup_cons.mp h
    unfold metS
    rw [ih h2, if_neg h1]
section
variable {prog : Program} {w : World} {A : Around} {E : Value → Shared → Prop} {s : Shared}
theorem add_text {a : Addr} {o : Obj} {l : List Str} {k : Str} {tk : Tok} {es : Array (Int × Value)} {ep : Nat} {t : SetTable} {Q : Bool → Shared → Prop}
    (ho : s.heap.get? a = some o) (x : TextSet w o (metS l) es ep t) (few : l.length + 1 < 4000)
    (h : ∀ (b : Bool) (h' : Heap) (o' : Obj) es' ep' t', Heap.SameBut a s.heap h' → h'.get? a = some o' → TextSet w o' (metS (k :: l)) es' ep' t' → Q b { s with heap := h' }) :
    wpAny (model prog w) A (setAddHashed a (.str k tk) (hashStr w k)) Q E s := by
  have hl := metS_len l
  have hsz := x.size
  have hel := x.elems (P := prog)
  have hkey := PySem.strKind_is prog w k tk
  unfold setAddHashed setAddHashedIn
  refine wpAny_holding (wpAny_bind (wpAny_setState_of ho x.dat x.fit ?_))
  dsimp only
  rw [byScan_of (knd := PySem.strKind prog w) rfl (by rw [hsz]; have : scanBound = 4096 := rfl; omega) hel]
  rw [if_pos rfl]
  unfold setAddByScan
  refine wpAny_bind (wpAny_bind (wpAny_rule ?_))
  refine wpAny_bind (wpAny_setScan_of (knd := PySem.strKind prog w) (k := k) hkey ho x.dat x.fit hel ?_)
  have mem : ∀ e ∈ es.toList, (PySem.strKind prog w).is k e.2 = true ↔ txtOf e.2 = k := by
    intro e he
    obtain ⟨t', h1, _⟩ := x.els e he
    rw [h1]
    show Value.isStrOf k (.str (txtOf e.2) t') = true ↔ txtOf (.str (txtOf e.2) t') = k
    simp [Value.isStrOf, txtOf]
  cases hf : List.findIdx? (fun e => (PySem.strKind prog w).is k e.2) es.toList with
  | some j =>
    dsimp only
    obtain ⟨hj, hp, _⟩ := List.findIdx?_eq_some_iff_getElem.mp hf
    have hin : k ∈ metS l := x.all.mem_iff.mp (List.mem_map.mpr ⟨_, List.getElem_mem hj, (mem _ (List.getElem_mem hj)).mp hp⟩)
    refine wpAny_pure (wpAny_pure ?_)
    have e2 : metS (k :: l) = metS l := by show (if k ∈ metS l then _ else _) = _; rw [if_pos hin]
    exact h false s.heap o es ep t (Heap.SameBut.refl a s.heap) ho (by rw [e2]; exact x)
  | none =>
    dsimp only
    have hin : k ∉ metS l := by
      intro hk
      obtain ⟨e, he, ee⟩ := List.mem_map.mp (x.all.mem_iff.mpr hk)
      have := List.findIdx?_eq_none_iff.mp hf e he
      rw [(mem e he).mpr ee] at this; cases this
    have e2 : metS (k :: l) = k :: metS l := by show (if k ∈ metS l then _ else _) = _; rw [if_neg hin]
    have fin : ∀ (h' : Heap) (o' : Obj) es' ep' t', Heap.SameBut a s.heap h' → h'.get? a = some o' → TextSet w o' (k :: metS l) es' ep' t' → Q true { s with heap := h' } := fun h' o' es' ep' t' c1 c2 c3 => h true h' o' es' ep' t' c1 c2 (by rw [e2]; exact c3)
    have hgw : ∀ (b : Bool) (s₁ : Shared) (Q' : Unit → Shared → Prop), Q' () s₁ → wpAny (model prog w) A (match b with | true => rule "set.scan.the-table-gave-way" | false => pure ()) Q' E s₁ := fun b s₁ Q' q => by
      cases b
      · exact wpAny_pure q
      · exact wpAny_rule q
    generalize hL : layNew t es (hashStr w k) (.str k tk) = L
    obtain ⟨e1, t1, b1, b2⟩ := L
    dsimp only
    refine wpAny_bind (hgw _ _ _ ?_)
    have tail := fun (g : Bool → Sem Unit) hg => add_tail (A := A) (E := E) (prog := prog) (R := fun r s' => wpAny (model prog w) A (match r with | some added => pure added | none => setAddHashedIn a (.str k tk) (hashStr w k) 99999) Q E s') ho x hin (by omega) hL (fun h' o' es' ep' t' c1 c2 c3 => wpAny_pure (fin h' o' es' ep' t' c1 c2 c3)) g hg
    dsimp only at tail
    split
    · refine wpAny_bind ?_
      rw [hashByValue_scannable 8 rfl]
      refine wpAny_pure ?_
      exact tail _ hgw
    · rename_i hpl
      refine wpAny_bind (wpAny_pure ?_)
      have hp : t1.plain = false := by cases q : t1.plain with | false => rfl | true => exact absurd q hpl
      have et : t1 = { t1 with plain := false } := by cases t1; cases hp; rfl
      rw [if_pos rfl]
      rw [et]
      exact tail _ hgw
end
end L2

set_option Elab.async false
set_option linter.all false
set_option maxRecDepth 100000
set_option maxHeartbeats 4000000
namespace L2
open PySem PySem.Spec PyProof.Rows PySem.W PySem.Calls
section
variable {prog : Program} {w : World} {A : Around} {E : Value → Shared → Prop} {s : Shared}
theorem loop_texts {I S : Addr} {fp : List Addr} {its : List Value} {ss : List Str} {St : Nat → Heap → Prop} {R : Result → Shared → Prop} {m : Nat} (hm : m = its.length)
    (W : Walks prog w A.in1 I fp [I] m (fun i v => its[i]? = some v) St) (hS : S ∉ fp) (hv : Vals (ss.map V.str) its) (few : ss.length + 1 < 4000) :
    ∀ (k i : Nat) (s : Shared) (o : Obj) (es : Array (Int × Value)) (ep : Nat) (t : SetTable), its.length - i = k → i ≤ its.length → St i s.heap → s.heap.get? S = some o → TextSet w o (metS (ss.take i).reverse) es ep t →
      (∀ (h' : Heap) (tk : Nat) (o' : Obj) es' ep' t', (∀ b ob, b ≠ S → b ≠ I → s.heap.get? b = some ob → h'.get? b = some ob) → h'.get? S = some o' → TextSet w o' (metS ss.reverse) es' ep' t' → R (.ok (.ret .none)) { s with heap := h', toks := tk }) →
      codeAny (model prog w) A (.builtin "set.update.loop" ⟨[.ref S, .ref I], []⟩) R s := by
  have hlen : ss.length = its.length := by have := hv.length; rwa [List.length_map] at this
  subst hm
  have hIS : S ≠ I := fun e => hS (by rw [e]; exact W.sub I (List.mem_singleton.mpr rfl))
  intro k
  induction k with
  | zero =>
    intro i s o es ep t hk hi st ho x q
    have e : i = its.length := by omega
    subst e
    refine codeAny_builtin F.entry_set_update_loop ?_
    rw [Around.under_plainId F.plain_set_update_loop _]
    show wpAny _ A.in1 (pyNext (.ref I) >>= _) _ _ s
    refine wpAny_bind (W.done s _ _ st fun h' tk kp => ?_)
    show wpAny _ A.in1 (ret Value.none) _ _ _
    rw [← hlen, List.take_length] at x
    exact wpAny_pure (q h' tk o es ep t (fun b ob _ hb e => kp b ob (by simpa using hb) e) (kp S o (by simpa using hIS) ho) x)
  | succ k ih =>
    intro i s o es ep t hk hi st ho x q
    have hlt : i < its.length := by omega
    have hls : i < ss.length := by omega
    refine codeAny_builtin F.entry_set_update_loop ?_
    rw [Around.under_plainId F.plain_set_update_loop _]
    show wpAny _ A.in1 (pyNext (.ref I) >>= _) _ _ s
    refine wpAny_bind (W.item i s _ _ hlt st fun v h1 tk1 hP st1 kp => ?_)
    obtain ⟨u, hu, ru⟩ := hv.get (i := i) (x := .str ss[i]) (by rw [List.getElem?_map, List.getElem?_eq_getElem hls]; rfl)
    have ev : v = u := by rw [hP] at hu; cases hu; rfl
    subst ev
    obtain ⟨tv, rfl⟩ := ru
    have ho1 : h1.get? S = some o := kp S o (by simpa using hIS) ho
    show wpAny _ A.in1 (holding [Value.str ss[i] tv] (setAdd S (.str ss[i] tv)) >>= _) _ _ _
    refine wpAny_bind (wpAny_holding ?_)
    unfold setAdd
    refine wpAny_holding ?_
    refine wpAny_bind ((PySem.strKind prog w).pyHash (k := ss[i]) (PySem.strKind_is prog w _ _) ?_)
    have htl : (ss.take i).reverse.length + 1 < 4000 := by rw [List.length_reverse, List.length_take]; omega
    refine add_text (s := { s with heap := h1, toks := tk1 + 1 }) ho1 x htl fun b h2 o2 es2 ep2 t2 sb ho2 x2 => ?_
    have e3 : ss[i] :: (ss.take i).reverse = (ss.take (i + 1)).reverse := by
      rw [List.take_add_one, List.getElem?_eq_getElem hls, List.reverse_append]; rfl
    rw [e3] at x2
    refine wpAny_pure ⟨plainId_quiet F.plain_set_update_loop _, ih (i + 1) _ o2 es2 ep2 t2 (by omega) hlt (W.frame _ h1 _ st1 fun b hb ob e => ?_) ho2 x2 fun h' tk o' es' ep' t' kp' c1 c2 => ?_⟩
    · rw [sb.2 b (fun z => hS (by rw [← z]; exact hb))]; exact e
    · refine q h' tk o' es' ep' t' (fun b ob b1 b2 e => kp' b ob b1 b2 ?_) c1 c2
      show h2.get? b = some ob
      rw [sb.2 b b1]
      exact kp b ob (by simpa using b2) e
/-- set.__new__: the table is led unless the order is told by the text -/
theorem new_set1 (a : Value) {Q₁ : Value → Shared → Prop}
    (h : Q₁ (.ref s.heap.objs.size) { s with heap := s.heap.push { cls := .type "set", dict := none, data := .set #[] 0 (.fresh 0 0 (!w.params.followText "set-order")) } }) :
    codeAny (model prog w) A (.call (.builtin "set.__new__") ⟨[.type "set", a], []⟩) (wants Q₁ E) s := by
  refine codeAny_of_tree ?_
  show wpAny _ A.in1 (checkBuiltinCall "set.__new__" ⟨[.type "set", a], []⟩ >>= fun _ => again (.builtin "set.__new__" ⟨[.type "set", a], []⟩)) _ _ s
  refine wpAny_bind (wpAny_of_eq (PySem.F.newCall_set_1 a) (wpAny_pure ⟨plainId_quiet PySem.F.plain_set_new _, codeAny_builtin PySem.F.entry_set_new ?_⟩))
  rw [Around.under_plainId PySem.F.plain_set_new _]
  unfold Builtin.«set.__new__» Builtin.Frozenset.newClass
  have known := sub_set_self
  obtain ⟨h0, g0, d0, tk0, os0⟩ := s
  dsimp only
  wp_walk
  refine wpAny_askSetting (wpAny_pure ?_)
  dsimp only
  simp only [newObj]
  exact wpAny_bind (wpAny_alloc (wpAny_pure (wpAny_pure h)))
theorem textSet_new (w : World) : TextSet w { cls := .type "set", dict := none, data := .set #[] 0 (.fresh 0 0 (!w.params.followText "set-order")) } [] #[] 0 (.fresh 0 0 (!w.params.followText "set-order")) :=
  ⟨rfl, rfl, rfl, rfl, fun e he => (by cases he), List.Perm.nil, List.nodup_nil, (by decide), rfl, rfl, .inl rfl⟩
end
end L2

set_option Elab.async false
set_option linter.all false
set_option maxRecDepth 100000
set_option maxHeartbeats 8000000
namespace L2
open PySem PySem.Spec PyProof.Rows PySem.W PySem.Calls
section
variable {prog : Program} {w : World} {A : Around} {E : Value → Shared → Prop} {s : Shared}

theorem sub_tuple_set : isSubtype (.type "tuple") (.type "set") = pure false := by rw [isSubtype_type]; kernel_rfl
theorem sub_tuple_fro : isSubtype (.type "tuple") (.type "frozenset") = pure false := by rw [isSubtype_type]; kernel_rfl
theorem made_set_tuple {l : Addr} {its : List Value} {ss : List Str} {Q : Value → Shared → Prop}
    (hh : A.handled = none) (hl : s.heap.IsTuple l its.toArray) (hv : Vals (ss.map V.str) its) (few : ss.length + 1 < 4000)
    (h : ∀ (h' : Heap) (tk : Nat) (o' : Obj) es' ep' t', (∀ b ob, s.heap.get? b = some ob → h'.get? b = some ob) → h'.get? s.heap.objs.size = some o' → TextSet w o' (metS ss.reverse) es' ep' t' → Q (.ref s.heap.objs.size) { s with heap := h', toks := tk }) :
    wpAny (model prog w) A (call (.type "set") [.ref l]) Q E s := by
  obtain ⟨mro0, mrot, hmro⟩ := PySem.F.called_set.mro
  have made := PySem.F.called_set.made
  have subs := PySem.F.called_set.sub
  have nt := PySem.F.called_set.notType
  have cc := PySem.F.called_set.canCreate
  have ct := PySem.F.typeCall_set_1 (.ref l)
  refine wpAny_call (codeAny_of_tree ?_)
  show wpAny _ _ (callAny (.type "set") _) _ _ _
  refine wpAny_pure ⟨Code.quiet_builtin _ (by decide +kernel), codeAny_builtin PySem.F.entry_type_call ?_⟩
  rw [Around.under_plain (weight_type_call_type "set" [.ref l] []) rfl]
  repeat (any_goals (first | assumption | wp_step))
  refine codeAny_mono (new_set1 (.ref l) (E := E) (Q₁ := fun obj s₁ => obj = .ref s.heap.objs.size ∧ s₁ = { s with heap := s.heap.push { cls := .type "set", dict := none, data := .set #[] 0 (.fresh 0 0 (!w.params.followText "set-order")) } }) ⟨rfl, rfl⟩) fun r s₁ hr => ?_
  generalize hbt : (!w.params.followText "set-order") = bt at hr
  cases r with
  | error e => exact hr
  | ok fl =>
    cases fl with
    | ret obj =>
      obtain ⟨rfl, rfl⟩ := hr
      have g0 : (s.heap.push { cls := .type "set", dict := none, data := .set #[] 0 (.fresh 0 0 bt) }).get? s.heap.objs.size = some { cls := .type "set", dict := none, data := .set #[] 0 (.fresh 0 0 bt) } := Heap.get?_push_size _ rfl
      have ty : Shared.TypeIs { s with heap := s.heap.push { cls := .type "set", dict := none, data := .set #[] 0 (.fresh 0 0 bt) } } (.ref s.heap.objs.size) "set" := ⟨_, g0, rfl⟩
      have ini := PySem.F.called_set.init.lookup
      have inb := PySem.F.called_set.init.bind (.ref s.heap.objs.size)
      repeat (any_goals (first | assumption | wp_step))
      refine codeAny_mono (codeAny_call_builtin (R := wants (fun r s₂ => r = .none ∧ ∃ h' tk o' es' ep' t', s₂ = { s with heap := h', toks := tk } ∧ (∀ b ob, s.heap.get? b = some ob → h'.get? b = some ob) ∧ h'.get? s.heap.objs.size = some o' ∧ TextSet w o' (metS ss.reverse) es' ep' t') E)
        PySem.F.called_set.init.plain PySem.F.entry_set_init (check_set_init_1 ty ?_)) fun r₂ s₂ hr₂ => ?_
      · obtain ⟨ol, hol, cl, nl, dl⟩ := hl
        obtain ⟨c1, c2, c3, c4⟩ := ol
        simp only at cl dl
        subst cl; subst dl
        have hol1 : (s.heap.push { cls := .type "set", dict := none, data := .set #[] 0 (.fresh 0 0 bt) }).get? l = some { cls := .type "tuple", dict := c2, data := .seq its.toArray nl, slots := c4 } := Heap.get?_push_of_some _ hol
        have n1 := sub_tuple_set
        have n2 := sub_tuple_fro
        have n3 : (Value.type "tuple" == Value.type "dict") = false := by decide
        have hl1 : (s.heap.push { cls := .type "set", dict := none, data := .set #[] 0 (.fresh 0 0 bt) }).IsTuple l its.toArray := ⟨_, hol1, rfl, nl, rfl⟩
        unfold Builtin.«set.__init__» noKeywords Builtin.Frozenset.updateFrom
        generalize hpi : pyIter = pit
        wp_walk
        subst hpi
        refine wpAny_pyIter_tuple hl1 ?_
        refine wpAny_bind (wpAny_runValue ?_)
        have lt0 : l < s.heap.objs.size := Heap.lt_size hol
        have h3 : A.in1.in1.in1.handled = none := by simp [hh]
        have ne1 : l ≠ (s.heap.push { cls := .type "set", dict := none, data := .set #[] 0 (.fresh 0 0 bt) }).objs.size := by
          rw [Heap.size_push]; exact Nat.ne_of_lt (Nat.lt_succ_of_lt lt0)
        have out : s.heap.objs.size ∉ [(s.heap.push { cls := .type "set", dict := none, data := .set #[] 0 (.fresh 0 0 bt) }).objs.size, l] := by
          rw [Heap.size_push]
          intro z
          rcases List.mem_cons.mp z with z | z
          · exact absurd z (Nat.ne_of_lt (Nat.lt_succ_self _))
          · exact absurd (List.mem_singleton.mp z) (Nat.ne_of_gt lt0)
        have W := Walks.tuple (prog := prog) (w := w) h3 (s.heap.push { cls := .type "set", dict := none, data := .set #[] 0 (.fresh 0 0 bt) }).objs.size l ne1 its.toArray
        have hW : (fun (i : Nat) (v : Value) => its.toArray[i]? = some v) = fun i v => its[i]? = some v := by funext i v; rw [List.getElem?_toArray]
        rw [hW] at W
        have g1 : ((s.heap.push { cls := .type "set", dict := none, data := .set #[] 0 (.fresh 0 0 bt) }).push { cls := .type "tuple_iterator", data := .fields #[.ref l, .int 0 0] }).get? s.heap.objs.size = some { cls := .type "set", dict := none, data := .set #[] 0 (.fresh 0 0 bt) } := Heap.get?_push_of_some _ g0
        refine loop_texts (List.size_toArray) W out hv few (its.length - 0) 0 _ _ #[] 0 (.fresh 0 0 bt) rfl (Nat.zero_le _)
          ⟨⟨_, Heap.get?_push_size _ rfl, rfl, rfl⟩, hl1.push _⟩ g1 (by subst hbt; exact textSet_new w) fun h' tk o' es' ep' t' kp c1 c2 => ?_
        show wpAny _ _ _ _ _ _
        refine wpAny_pure ?_
        show wpAny _ _ (ret Value.none) _ _ _
        refine wpAny_pure ⟨rfl, h', tk, o', es', ep', t', rfl, fun b ob e => kp b ob (Nat.ne_of_lt (Heap.lt_size e)) ?_ (Heap.get?_push_of_some _ (Heap.get?_push_of_some _ e)), c1, c2⟩
        rw [Heap.size_push]; exact Nat.ne_of_lt (Nat.lt_succ_of_lt (Heap.lt_size e))
      · cases r₂ with
        | error e => exact hr₂
        | ok fl₂ =>
          cases fl₂ with
          | ret r =>
            obtain ⟨rfl, h', tk, o', es', ep', t', rfl, kp, c1, c2⟩ := hr₂
            repeat (any_goals (first | assumption | wp_step))
            exact h h' tk o' es' ep' t' kp c1 c2
          | _ => exact hr₂.elim
    | _ => exact hr.elim

theorem sub_list_set : isSubtype (.type "list") (.type "set") = pure false := by rw [isSubtype_type]; kernel_rfl
theorem sub_list_fro : isSubtype (.type "list") (.type "frozenset") = pure false := by rw [isSubtype_type]; kernel_rfl
theorem made_set_list {l : Addr} {its : List Value} {ss : List Str} {Q : Value → Shared → Prop}
    (hh : A.handled = none) (hl : s.heap.IsList l its.toArray) (hv : Vals (ss.map V.str) its) (few : ss.length + 1 < 4000)
    (h : ∀ (h' : Heap) (tk : Nat) (o' : Obj) es' ep' t', (∀ b ob, s.heap.get? b = some ob → h'.get? b = some ob) → h'.get? s.heap.objs.size = some o' → TextSet w o' (metS ss.reverse) es' ep' t' → Q (.ref s.heap.objs.size) { s with heap := h', toks := tk }) :
    wpAny (model prog w) A (call (.type "set") [.ref l]) Q E s := by
  obtain ⟨mro0, mrot, hmro⟩ := PySem.F.called_set.mro
  have made := PySem.F.called_set.made
  have subs := PySem.F.called_set.sub
  have nt := PySem.F.called_set.notType
  have cc := PySem.F.called_set.canCreate
  have ct := PySem.F.typeCall_set_1 (.ref l)
  refine wpAny_call (codeAny_of_tree ?_)
  show wpAny _ _ (callAny (.type "set") _) _ _ _
  refine wpAny_pure ⟨Code.quiet_builtin _ (by decide +kernel), codeAny_builtin PySem.F.entry_type_call ?_⟩
  rw [Around.under_plain (weight_type_call_type "set" [.ref l] []) rfl]
  repeat (any_goals (first | assumption | wp_step))
  refine codeAny_mono (new_set1 (.ref l) (E := E) (Q₁ := fun obj s₁ => obj = .ref s.heap.objs.size ∧ s₁ = { s with heap := s.heap.push { cls := .type "set", dict := none, data := .set #[] 0 (.fresh 0 0 (!w.params.followText "set-order")) } }) ⟨rfl, rfl⟩) fun r s₁ hr => ?_
  generalize hbt : (!w.params.followText "set-order") = bt at hr
  cases r with
  | error e => exact hr
  | ok fl =>
    cases fl with
    | ret obj =>
      obtain ⟨rfl, rfl⟩ := hr
      have g0 : (s.heap.push { cls := .type "set", dict := none, data := .set #[] 0 (.fresh 0 0 bt) }).get? s.heap.objs.size = some { cls := .type "set", dict := none, data := .set #[] 0 (.fresh 0 0 bt) } := Heap.get?_push_size _ rfl
      have ty : Shared.TypeIs { s with heap := s.heap.push { cls := .type "set", dict := none, data := .set #[] 0 (.fresh 0 0 bt) } } (.ref s.heap.objs.size) "set" := ⟨_, g0, rfl⟩
      have ini := PySem.F.called_set.init.lookup
      have inb := PySem.F.called_set.init.bind (.ref s.heap.objs.size)
      repeat (any_goals (first | assumption | wp_step))
      refine codeAny_mono (codeAny_call_builtin (R := wants (fun r s₂ => r = .none ∧ ∃ h' tk o' es' ep' t', s₂ = { s with heap := h', toks := tk } ∧ (∀ b ob, s.heap.get? b = some ob → h'.get? b = some ob) ∧ h'.get? s.heap.objs.size = some o' ∧ TextSet w o' (metS ss.reverse) es' ep' t') E)
        PySem.F.called_set.init.plain PySem.F.entry_set_init (check_set_init_1 ty ?_)) fun r₂ s₂ hr₂ => ?_
      · obtain ⟨ol, hol, cl, nl, dl⟩ := hl
        obtain ⟨c1, c2, c3, c4⟩ := ol
        simp only at cl dl
        subst cl; subst dl
        have hol1 : (s.heap.push { cls := .type "set", dict := none, data := .set #[] 0 (.fresh 0 0 bt) }).get? l = some { cls := .type "list", dict := c2, data := .seq its.toArray nl, slots := c4 } := Heap.get?_push_of_some _ hol
        have n1 := sub_list_set
        have n2 := sub_list_fro
        have n3 : (Value.type "list" == Value.type "dict") = false := by decide
        have hl1 : (s.heap.push { cls := .type "set", dict := none, data := .set #[] 0 (.fresh 0 0 bt) }).IsList l its.toArray := ⟨_, hol1, rfl, nl, rfl⟩
        unfold Builtin.«set.__init__» noKeywords Builtin.Frozenset.updateFrom
        generalize hpi : pyIter = pit
        wp_walk
        subst hpi
        refine wpAny_pyIter_list hl1 ?_
        refine wpAny_bind (wpAny_runValue ?_)
        have lt0 : l < s.heap.objs.size := Heap.lt_size hol
        have h3 : A.in1.in1.in1.handled = none := by simp [hh]
        have ne1 : l ≠ (s.heap.push { cls := .type "set", dict := none, data := .set #[] 0 (.fresh 0 0 bt) }).objs.size := by
          rw [Heap.size_push]; exact Nat.ne_of_lt (Nat.lt_succ_of_lt lt0)
        have out : s.heap.objs.size ∉ [(s.heap.push { cls := .type "set", dict := none, data := .set #[] 0 (.fresh 0 0 bt) }).objs.size, l] := by
          rw [Heap.size_push]
          intro z
          rcases List.mem_cons.mp z with z | z
          · exact absurd z (Nat.ne_of_lt (Nat.lt_succ_self _))
          · exact absurd (List.mem_singleton.mp z) (Nat.ne_of_gt lt0)
        have W := Walks.list (prog := prog) (w := w) h3 (s.heap.push { cls := .type "set", dict := none, data := .set #[] 0 (.fresh 0 0 bt) }).objs.size l ne1 its.toArray
        have hW : (fun (i : Nat) (v : Value) => its.toArray[i]? = some v) = fun i v => its[i]? = some v := by funext i v; rw [List.getElem?_toArray]
        rw [hW] at W
        have g1 : ((s.heap.push { cls := .type "set", dict := none, data := .set #[] 0 (.fresh 0 0 bt) }).push { cls := .type "list_iterator", data := .fields #[.ref l, .int 0 0] }).get? s.heap.objs.size = some { cls := .type "set", dict := none, data := .set #[] 0 (.fresh 0 0 bt) } := Heap.get?_push_of_some _ g0
        refine loop_texts (List.size_toArray) W out hv few (its.length - 0) 0 _ _ #[] 0 (.fresh 0 0 bt) rfl (Nat.zero_le _)
          ⟨⟨_, Heap.get?_push_size _ rfl, rfl, rfl⟩, hl1.push _⟩ g1 (by subst hbt; exact textSet_new w) fun h' tk o' es' ep' t' kp c1 c2 => ?_
        show wpAny _ _ _ _ _ _
        refine wpAny_pure ?_
        show wpAny _ _ (ret Value.none) _ _ _
        refine wpAny_pure ⟨rfl, h', tk, o', es', ep', t', rfl, fun b ob e => kp b ob (Nat.ne_of_lt (Heap.lt_size e)) ?_ (Heap.get?_push_of_some _ (Heap.get?_push_of_some _ e)), c1, c2⟩
        rw [Heap.size_push]; exact Nat.ne_of_lt (Nat.lt_succ_of_lt (Heap.lt_size e))
      · cases r₂ with
        | error e => exact hr₂
        | ok fl₂ =>
          cases fl₂ with
          | ret r =>
            obtain ⟨rfl, h', tk, o', es', ep', t', rfl, kp, c1, c2⟩ := hr₂
            repeat (any_goals (first | assumption | wp_step))
            exact h h' tk o' es' ep' t' kp c1 c2
          | _ => exact hr₂.elim
    | _ => exact hr.elim
end
end L2

set_option Elab.async false
set_option linter.all false
set_option maxRecDepth 100000
set_option maxHeartbeats 8000000
namespace L2
open PySem PySem.Spec PyProof.Rows PySem.W PySem.Calls
theorem sit_slot_next : Slot "set_iterator" "__next__" "set_iterator.__next__" :=
  .of (owner := "set_iterator") (n := "__next__") (by rw [typeLookup_type, builtinLookup_eq_fast]; kernel_rfl) (by decide +kernel) (by decide +kernel) (by decide +kernel) (by first | exact .inl (by decide +kernel) | exact .inr (by decide +kernel)) (by rw [isSubtype_type]; kernel_rfl)
theorem sit_entry_next : entryFor table "set_iterator.__next__" = some Builtin.«set_iterator.__next__» := entryFor_of_tree (by kernel_rfl)
theorem sit_owner : Manifest.owners.lookup (String.ofList ['r', 'o', 't', 'a', 'r', 'e', 't', 'i', '_', 't', 'e', 's'].reverse) = some Manifest.sig_set_iterator := by kernel_rfl
theorem sit_args_next (a : Value) : argsOk "set_iterator.__next__" ⟨[a], []⟩ := by
  unfold argsOk
  rw [signature?_of (id := "set_iterator.__next__") (n := ['_', '_', 't', 'x', 'e', 'n', '_', '_']) (o := ['r', 'o', 't', 'a', 'r', 'e', 't', 'i', '_', 't', 'e', 's']) (by kernel_rfl) sit_owner]
  kernel_rfl
theorem sit_slot_iter : Slot "set_iterator" "__iter__" "set_iterator.__iter__" :=
  .of (owner := "set_iterator") (n := "__iter__") (by rw [typeLookup_type, builtinLookup_eq_fast]; kernel_rfl) (by decide +kernel) (by decide +kernel) (by decide +kernel) (by first | exact .inl (by decide +kernel) | exact .inr (by decide +kernel)) (by rw [isSubtype_type]; kernel_rfl)
theorem sit_args_iter (a : Value) : argsOk "set_iterator.__iter__" ⟨[a], []⟩ := by
  unfold argsOk
  rw [signature?_of (id := "set_iterator.__iter__") (n := ['_', '_', 'r', 'e', 't', 'i', '_', '_']) (o := ['r', 'o', 't', 'a', 'r', 'e', 't', 'i', '_', 't', 'e', 's']) (by kernel_rfl) sit_owner]
  kernel_rfl
theorem sit_entry_iter : entryFor table "set_iterator.__iter__" = some Builtin.«dict_keyiterator.__iter__» :=
  entryFor_alias (id' := "dict_keyiterator.__iter__") (by kernel_rfl) (by first | rfl | decide +kernel | (unfold String.splitOn; simp +decide [String.splitOnAux])) (by decide +kernel) (by kernel_rfl)
theorem set_entry_iter : entryFor table "set.__iter__" = some Builtin.«frozenset.__iter__» :=
  entryFor_alias (id' := "frozenset.__iter__") (by kernel_rfl) (by first | rfl | decide +kernel | (unfold String.splitOn; simp +decide [String.splitOnAux])) (by decide +kernel) (by kernel_rfl)
noncomputable def sitF (first : Value) (i : Nat) (a : Addr) (n ep : Nat) : Array Value := #[first, rawInt (i : Int), .ref a, rawInt (n : Int), rawInt (ep : Int)]
/-- an iterator of the set at a, before its i-th -/
noncomputable def IsSit (h : Heap) (I : Addr) (first : Value) (i : Nat) (a : Addr) (n ep : Nat) : Prop := ∃ o, h.get? I = some o ∧ o.cls = .type "set_iterator" ∧ o.data = .fields (sitF first i a n ep)
theorem IsSit.typ {s : Shared} {I : Addr} {first : Value} {i : Nat} {a : Addr} {n ep : Nat} (x : IsSit s.heap I first i a n ep) : s.TypeIs (.ref I) "set_iterator" := let ⟨o, h1, h2, _⟩ := x; ⟨o, h1, h2⟩
theorem IsSit.stay {h h' : Heap} {I : Addr} {first : Value} {i : Nat} {a : Addr} {n ep : Nat} (x : IsSit h I first i a n ep) (e : ∀ o, h.get? I = some o → h'.get? I = some o) : IsSit h' I first i a n ep := let ⟨o, h1, h2⟩ := x; ⟨o, e o h1, h2⟩
theorem eraseIdx_perm {α : Type} : ∀ (l : List α) (i : Nat) (h : i < l.length), (l[i] :: l.eraseIdx i).Perm l
  | [], _, h => absurd h (Nat.not_lt_zero _)
  | a :: r, 0, _ => List.Perm.refl _
  | a :: r, i + 1, h => by
    show (r[i]'(Nat.lt_of_succ_lt_succ h) :: a :: r.eraseIdx i).Perm (a :: r)
    exact (List.Perm.swap _ _ _).trans (List.Perm.cons a (eraseIdx_perm r i (Nat.lt_of_succ_lt_succ h)))
section
variable {prog : Program} {w : World} {A : Around} {E : Value → Shared → Prop} {s : Shared}
theorem choose_any {src : Source} {n : Nat} {Q : Nat → Shared → Prop} (hn : n ≠ 0) (h : ∀ i d, i < n → Q i { s with drawn := d }) : wpAny (model prog w) A (choose src n) Q E s := by
  intro Γ p hΓ
  show Sem.wp _ _ (.choose src n .pure) _ _ _ _
  rw [Sem.wp_choose]
  refine ⟨hn, ?_⟩
  rw [Sem.wp_pure]
  exact h _ _ (Nat.mod_lt _ (Nat.pos_of_ne_zero hn))
theorem draw_order {α : Type} : ∀ (n : Nat) (xs : List α) (s : Shared) (Q : List α → Shared → Prop), n = xs.length → (∀ ys d, ys.Perm xs → Q ys { s with drawn := d }) → wpAny (model prog w) A (drawOrder n xs) Q E s := by
  intro n
  induction n with
  | zero =>
    intro xs s Q hn h
    have : xs = [] := List.length_eq_zero_iff.mp hn.symm
    subst this
    unfold drawOrder
    exact wpAny_pure (h [] s.drawn (List.Perm.refl _))
  | succ n ih =>
    intro xs s Q hn h
    cases xs with
    | nil => cases hn
    | cons x r =>
      unfold drawOrder
      refine wpAny_bind (choose_any (by rw [List.length_cons]; exact Nat.succ_ne_zero _) fun i d hi => ?_)
      rw [List.getElem?_eq_getElem hi]
      dsimp only
      have hlen : n = ((x :: r).eraseIdx i).length := by
        have := List.length_eraseIdx (l := x :: r) (i := i)
        rw [if_pos hi] at this
        rw [this]; omega
      refine wpAny_bind (ih _ _ _ hlen fun ys d' pm => wpAny_pure ?_)
      refine h _ d' ?_
      exact (List.Perm.cons _ pm).trans (eraseIdx_perm (x :: r) i hi)
theorem sit_self {I : Addr} {first : Value} {i : Nat} {a : Addr} {n ep : Nat} {Q : Value → Shared → Prop} (x : IsSit s.heap I first i a n ep) (h : Q (.ref I) s) : wpAny (model prog w) A (pyIter (.ref I)) Q E s := by
  refine wpAny_pyIter_slot x.typ sit_slot_iter (wpAny_call_entry sit_slot_iter x.typ sit_entry_iter ?_ (sit_args_iter _))
  show wpAny _ _ (ret (.ref I)) _ _ s
  exact wpAny_pure ⟨_, rfl, "set_iterator", _, x.typ, sit_slot_next.lookup, h⟩
theorem stop_here {Q : Option Value → Shared → Prop} {R : Fin → Shared → Prop} (hh : A.handled = none)
    (hQ : ∀ h', (∀ b o, s.heap.get? b = some o → h'.get? b = some o) → Q none { s with heap := h' }) :
    wpAny (model prog w) A.in1 (newExc (.type "StopIteration") [] >>= raiseNew) R (fun e s' => wpAny (model prog w) A (do if ← isInstance e (.type "StopIteration") then pure none else throw e) Q E s') s := by
  refine wpAny_bind ?_
  simp only [newExc, newTuple]
  refine wpAny_bind (wpAny_newObj_type ?_ (by size_fits))
  refine wpAny_bind (m := firstArgMember _ _) (wpAny_of_eq (a := Value.none) (by first | rfl | (simp only [firstArgMember]; rfl)) ?_)
  refine wpAny_newObj_type ?_ (by size_fits)
  simp only [raiseNew]
  refine wpAny_bind (wpAny_handled ?_)
  rw [show A.in1.handled = none from hh]
  refine wpAny_bind (wpAny_pure (wpAny_throw ?_))
  refine wpAny_bind (wpAny_isInstance (T := "StopIteration") (b := true) ⟨_, Heap.get?_push_size _ rfl, rfl⟩ isSubtype_stop ?_)
  exact wpAny_pure (hQ _ fun b o e => Heap.get?_push_of_some _ (Heap.get?_push_of_some _ e))
end
end L2

set_option Elab.async false
set_option linter.all false
set_option maxRecDepth 100000
set_option maxHeartbeats 8000000
namespace L2
open PySem PySem.Spec PyProof.Rows PySem.W PySem.Calls
theorem set0_sit (first : Value) (i : Nat) (a : Addr) (n ep : Nat) (x : Value) : (sitF first i a n ep).setIfInBounds 0 x = sitF x i a n ep := by simp [sitF]
theorem set1_sit (first : Value) (i : Nat) (a : Addr) (n ep : Nat) : (sitF first i a n ep).setIfInBounds 1 (rawInt ((i : Int) + 1)) = sitF first (i + 1) a n ep := by simp [sitF]
section
variable {prog : Program} {w : World} {A : Around} {E : Value → Shared → Prop} {s : Shared}
theorem sit_put {h : Heap} {I : Addr} {first : Value} {i : Nat} {a : Addr} {n ep : Nat} {o : Obj} (ho : h.get? I = some o) (hc : o.cls = .type "set_iterator") (hd : o.data = .fields (sitF first i a n ep)) (j : Nat) (y : Value) :
    ∃ o', (h.update I (Obj.mapFields (·.setIfInBounds j y))).get? I = some o' ∧ o'.cls = .type "set_iterator" ∧ o'.data = .fields ((sitF first i a n ep).setIfInBounds j y) :=
  ⟨_, Heap.get?_update_self _ ho (Obj.isFreed_of_fields (Obj.data_mapFields hd _)), (Obj.cls_mapFields ..).trans hc, Obj.data_mapFields hd _⟩
/-- by a number: the next -/
theorem sit_item {I a : Addr} {o : Obj} {ss : List Str} {es : Array (Int × Value)} {ep : Nat} {t : SetTable} {slot next i : Nat} {v : Value} {Q : Option Value → Shared → Prop}
    (hit : IsSit s.heap I (rawInt (slot : Int)) i a es.size ep) (hne : a ≠ I) (ho : s.heap.get? a = some o) (x : TextSet w o ss es ep t)
    (nx : ∀ (A : Around) (E : Value → Shared → Prop) (Q : Option (Value × Nat) → Shared → Prop), Q (some (v, next)) s → wpAny (model prog w) A (setNext a slot i ep) Q E s)
    (hQ : ∀ h', IsSit h' I (rawInt (next : Int)) (i + 1) a es.size ep → Heap.SameBut I s.heap h' → Q (some v) { s with heap := h' }) : wpAny (model prog w) A (pyNext (.ref I)) Q E s := by
  obtain ⟨oi, hoi, hci, hdi⟩ := id hit
  unfold pyNext
  refine wpAny_bind (wpAny_attempt (wpAny_callSpecial?_slot (name := Str.ofString "__next__") hit.typ sit_slot_next (wpAny_call_entry sit_slot_next hit.typ sit_entry_next ?_ (sit_args_next _))))
  unfold Builtin.«set_iterator.__next__»
  refine wpAny_bind (wpAny_of_eq (a := (Value.ref I, [])) rfl ?_)
  dsimp only
  refine wpAny_bind (wpAny_fieldsOf hoi hdi ?_)
  show wpAny _ _ (setEntries a >>= _) _ _ s
  refine wpAny_bind (wpAny_setEntries_of ho x.dat x.fit ?_)
  show wpAny _ _ (if ((es.size : Int) != (es.size : Int)) = true then _ else _) _ _ s
  rw [if_neg (by simp)]
  show wpAny _ _ (setNext a slot i ep >>= _) _ _ s
  refine wpAny_bind (nx _ _ _ ?_)
  show wpAny _ _ (setField (.ref I) 0 (rawInt (next : Int)) >>= _) _ _ s
  refine wpAny_bind (wpAny_setField hoi hdi (by simp [sitF]) ?_)
  obtain ⟨o1, g1, c1, d1⟩ := sit_put hoi hci hdi 0 (rawInt (next : Int))
  rw [set0_sit] at d1
  show wpAny _ _ (setField (.ref I) 1 (rawInt ((i : Int) + 1)) >>= _) _ _ _
  refine wpAny_bind (wpAny_setField g1 d1 (by simp [sitF]) ?_)
  obtain ⟨o2, g2, c2, d2⟩ := sit_put g1 c1 d1 1 (rawInt ((i : Int) + 1))
  rw [set1_sit] at d2
  exact wpAny_pure ⟨v, rfl, wpAny_pure (hQ _ ⟨o2, g2, c2, d2⟩ ((Heap.SameBut.update ..).trans (Heap.SameBut.update ..)))⟩
theorem sit_end {I a : Addr} {o : Obj} {ss : List Str} {es : Array (Int × Value)} {ep : Nat} {t : SetTable} {slot i : Nat} {Q : Option Value → Shared → Prop} (hh : A.handled = none)
    (hit : IsSit s.heap I (rawInt (slot : Int)) i a es.size ep) (hne : a ≠ I) (ho : s.heap.get? a = some o) (x : TextSet w o ss es ep t)
    (nx : ∀ (A : Around) (E : Value → Shared → Prop) (Q : Option (Value × Nat) → Shared → Prop), Q none s → wpAny (model prog w) A (setNext a slot i ep) Q E s)
    (hQ : ∀ h', (∀ b o, b ≠ I → s.heap.get? b = some o → h'.get? b = some o) → Q none { s with heap := h' }) : wpAny (model prog w) A (pyNext (.ref I)) Q E s := by
  obtain ⟨oi, hoi, hci, hdi⟩ := id hit
  unfold pyNext
  refine wpAny_bind (wpAny_attempt (wpAny_callSpecial?_slot (name := Str.ofString "__next__") hit.typ sit_slot_next (wpAny_call_entry sit_slot_next hit.typ sit_entry_next ?_ (sit_args_next _))))
  unfold Builtin.«set_iterator.__next__»
  refine wpAny_bind (wpAny_of_eq (a := (Value.ref I, [])) rfl ?_)
  dsimp only
  refine wpAny_bind (wpAny_fieldsOf hoi hdi ?_)
  show wpAny _ _ (setEntries a >>= _) _ _ s
  refine wpAny_bind (wpAny_setEntries_of ho x.dat x.fit ?_)
  show wpAny _ _ (if ((es.size : Int) != (es.size : Int)) = true then _ else _) _ _ s
  rw [if_neg (by simp)]
  show wpAny _ _ (setNext a slot i ep >>= _) _ _ s
  refine wpAny_bind (nx _ _ _ ?_)
  show wpAny _ _ (setField (.ref I) 2 .none >>= _) _ _ s
  refine wpAny_bind (wpAny_setField hoi hdi (by simp [sitF]) ?_)
  refine stop_here hh fun h' kp => hQ h' fun b ob hb e => kp b ob ?_
  exact (Heap.get?_update_other _ _ (Ne.symm hb)).trans e
/-- by a tuple of places: the next -/
theorem sitT_item {I a tp : Addr} {o : Obj} {ss : List Str} {es : Array (Int × Value)} {ep : Nat} {t : SetTable} {i p : Nat} {v : Value} {ps : Array Value} {Q : Option Value → Shared → Prop}
    (hit : IsSit s.heap I (.ref tp) i a es.size ep) (ho : s.heap.get? a = some o) (x : TextSet w o ss es ep t) (htp : s.heap.IsTuple tp ps) (hp : ps[i]? = some (rawInt (p : Int))) (hv : (es[p]?).map (·.2) = some v)
    (hQ : ∀ h', IsSit h' I (.ref tp) (i + 1) a es.size ep → Heap.SameBut I s.heap h' → Q (some v) { s with heap := h' }) : wpAny (model prog w) A (pyNext (.ref I)) Q E s := by
  obtain ⟨oi, hoi, hci, hdi⟩ := id hit
  obtain ⟨ot, hot, _, nt, hdt⟩ := htp
  unfold pyNext
  refine wpAny_bind (wpAny_attempt (wpAny_callSpecial?_slot (name := Str.ofString "__next__") hit.typ sit_slot_next (wpAny_call_entry sit_slot_next hit.typ sit_entry_next ?_ (sit_args_next _))))
  unfold Builtin.«set_iterator.__next__»
  refine wpAny_bind (wpAny_of_eq (a := (Value.ref I, [])) rfl ?_)
  dsimp only
  refine wpAny_bind (wpAny_fieldsOf hoi hdi ?_)
  show wpAny _ _ (setEntries a >>= _) _ _ s
  refine wpAny_bind (wpAny_setEntries_of ho x.dat x.fit ?_)
  show wpAny _ _ (if ((es.size : Int) != (es.size : Int)) = true then _ else _) _ _ s
  rw [if_neg (by simp)]
  show wpAny _ _ (seqItems? (.ref tp) >>= _) _ _ s
  refine wpAny_bind (wpAny_seqItems hot hdt ?_)
  dsimp only [Int.toNat_natCast]
  rw [hp]
  dsimp only [rawInt]
  refine wpAny_bind ?_
  unfold setNextDrawn
  refine wpAny_bind (wpAny_setState_of ho x.dat x.fit ?_)
  dsimp only
  rw [if_neg (by simp)]
  try rw [Int.toNat_natCast]
  cases he : es[p]? with
  | none => rw [he] at hv; cases hv
  | some ev =>
    rw [he] at hv
    cases hv
    refine wpAny_pure ?_
    show wpAny _ _ (setField (.ref I) 1 (rawInt ((i : Int) + 1)) >>= _) _ _ _
    refine wpAny_bind (wpAny_setField hoi hdi (by simp [sitF]) ?_)
    obtain ⟨o2, g2, c2, d2⟩ := sit_put hoi hci hdi 1 (rawInt ((i : Int) + 1))
    rw [set1_sit] at d2
    exact wpAny_pure ⟨_, rfl, wpAny_pure (hQ _ ⟨o2, g2, c2, d2⟩ (Heap.SameBut.update ..))⟩
theorem sitT_end {I a tp : Addr} {o : Obj} {ss : List Str} {es : Array (Int × Value)} {ep : Nat} {t : SetTable} {i : Nat} {ps : Array Value} {Q : Option Value → Shared → Prop} (hh : A.handled = none)
    (hit : IsSit s.heap I (.ref tp) i a es.size ep) (ho : s.heap.get? a = some o) (x : TextSet w o ss es ep t) (htp : s.heap.IsTuple tp ps) (hp : ps[i]? = none)
    (hQ : ∀ h', (∀ b o, b ≠ I → s.heap.get? b = some o → h'.get? b = some o) → Q none { s with heap := h' }) : wpAny (model prog w) A (pyNext (.ref I)) Q E s := by
  obtain ⟨oi, hoi, hci, hdi⟩ := id hit
  obtain ⟨ot, hot, _, nt, hdt⟩ := htp
  unfold pyNext
  refine wpAny_bind (wpAny_attempt (wpAny_callSpecial?_slot (name := Str.ofString "__next__") hit.typ sit_slot_next (wpAny_call_entry sit_slot_next hit.typ sit_entry_next ?_ (sit_args_next _))))
  unfold Builtin.«set_iterator.__next__»
  refine wpAny_bind (wpAny_of_eq (a := (Value.ref I, [])) rfl ?_)
  dsimp only
  refine wpAny_bind (wpAny_fieldsOf hoi hdi ?_)
  show wpAny _ _ (setEntries a >>= _) _ _ s
  refine wpAny_bind (wpAny_setEntries_of ho x.dat x.fit ?_)
  show wpAny _ _ (if ((es.size : Int) != (es.size : Int)) = true then _ else _) _ _ s
  rw [if_neg (by simp)]
  show wpAny _ _ (seqItems? (.ref tp) >>= _) _ _ s
  refine wpAny_bind (wpAny_seqItems hot hdt ?_)
  dsimp only [Int.toNat_natCast]
  rw [hp]
  dsimp only
  refine wpAny_bind (wpAny_setField hoi hdi (by simp [sitF]) ?_)
  obtain ⟨o1, g1, c1, d1⟩ := sit_put hoi hci hdi 0 (rawInt 0)
  rw [set0_sit] at d1
  refine wpAny_bind (wpAny_setField g1 d1 (by simp [sitF]) ?_)
  refine stop_here hh fun h' kp => hQ h' fun b ob hb e => kp b ob ?_
  exact (Heap.get?_update_other _ _ (Ne.symm hb)).trans ((Heap.get?_update_other _ _ (Ne.symm hb)).trans e)
end
end L2

set_option Elab.async false
set_option linter.all false
set_option maxRecDepth 100000
set_option maxHeartbeats 8000000
namespace L2
open PySem PySem.Spec PyProof.Rows PySem.W PySem.Calls
theorem pick_go {α : Type} (next : Nat → Nat) : ∀ (n k : Nat) (left : List α) (out : Array α), n = left.length → (pickOrder.go next n k left out).toList.Perm (out.toList ++ left) := by
  intro n
  induction n with
  | zero =>
    intro k left out hn
    have : left = [] := List.length_eq_zero_iff.mp hn.symm
    subst this
    unfold pickOrder.go
    rw [List.append_nil]
  | succ n ih =>
    intro k left out hn
    unfold pickOrder.go
    have hi : next k % left.length < left.length := Nat.mod_lt _ (by omega)
    rw [List.getElem?_eq_getElem hi]
    dsimp only
    have hl : n = (left.eraseIdx (next k % left.length)).length := by
      have := List.length_eraseIdx (l := left) (i := next k % left.length)
      rw [if_pos hi] at this
      rw [this]; omega
    refine (ih _ _ _ hl).trans ?_
    rw [Array.toList_push, List.append_assoc]
    exact List.Perm.append_left _ (eraseIdx_perm left _ hi)
theorem pickOrder_perm {α : Type} (next : Nat → Nat) (xs : Array α) : (pickOrder next xs).toList.Perm xs.toList := by
  unfold pickOrder
  have := pick_go next xs.size 0 xs.toList #[] (Array.length_toList).symm
  simpa using this
section
variable {prog : Program} {w : World} {A : Around} {E : Value → Shared → Prop} {s : Shared}
theorem nx_text {a : Addr} {o : Obj} {ss : List Str} {es : Array (Int × Value)} {ep slot i : Nat} {t : SetTable} (hb : w.params.followText "set-order" = true) (ho : s.heap.get? a = some o) (x : TextSet w o ss es ep t) {Q : Option (Value × Nat) → Shared → Prop}
    (h : Q (((pickOrder (w.params.setOrder a ep) es)[i]?).map fun e => (e.2, slot)) s) : wpAny (model prog w) A (setNext a slot i ep) Q E s := by
  unfold setNext
  refine wpAny_bind (wpAny_setState_of ho x.dat x.fit ?_)
  dsimp only
  unfold setsByText
  refine wpAny_bind (wpAny_bind (wpAny_askSetting (wpAny_pure ?_)))
  show wpAny _ _ (if w.params.followText "set-order" = true then _ else _) _ _ s
  rw [if_pos hb, if_neg (by simp)]
  unfold setWalk
  refine wpAny_bind ?_
  refine wpAny_bind (wpAny_setState_of ho x.dat x.fit ?_)
  dsimp only
  unfold setsByText
  refine wpAny_bind (wpAny_bind (wpAny_askSetting (wpAny_pure ?_)))
  show wpAny _ _ (if w.params.followText "set-order" = true then _ else _) _ _ s
  rw [if_pos hb]
  exact wpAny_bind (wpAny_askSetting (wpAny_pure (wpAny_pure h)))
theorem nx_few {a : Addr} {o : Obj} {ss : List Str} {es : Array (Int × Value)} {ep slot i : Nat} {t : SetTable} (hb : w.params.followText "set-order" = false) (ho : s.heap.get? a = some o) (x : TextSet w o ss es ep t) (h1 : es.size ≤ 1) {Q : Option (Value × Nat) → Shared → Prop}
    (h : Q (match es[SetTable.below t.place slot]?, t.place[SetTable.below t.place slot]? with | some (_, x), some j => some (x, j + 1) | _, _ => none) s) : wpAny (model prog w) A (setNext a slot i ep) Q E s := by
  have hl : t.led = true := by rw [x.led, hb]; rfl
  unfold setNext
  refine wpAny_bind (wpAny_setState_of ho x.dat x.fit ?_)
  dsimp only
  unfold setsByText
  refine wpAny_bind (wpAny_bind (wpAny_askSetting (wpAny_pure ?_)))
  show wpAny _ _ (if w.params.followText "set-order" = true then _ else if (!t.plain && decide (es.size > 1)) = true then _ else _) _ _ s
  rw [if_neg (by rw [hb]; exact Bool.false_ne_true), if_neg (by rw [decide_eq_false (Nat.not_lt.mpr h1), Bool.and_false]; exact Bool.false_ne_true)]
  refine wpAny_bind (show wpAny _ _ (if (!t.led && !es.isEmpty) = true then unsupported "set:maker-not-led" else pure ()) _ _ s from ?_)
  rw [if_neg (by rw [hl]; exact Bool.false_ne_true)]
  exact wpAny_pure (wpAny_pure h)
/-- a walk over a set of texts: in some order, each once -/
structure SetWalk (prog : Program) (w : World) (A : Around) (s s₁ : Shared) (a I : Addr) (ss : List Str) (fp : List Addr) (ws : List Value) (St : Nat → Heap → Prop) : Prop where
  os : s₁.os = s.os
  gens : s₁.gens = s.gens
  toks : s₁.toks = s.toks
  keep : ∀ b o, s.heap.get? b = some o → s₁.heap.get? b = some o
  new : ∀ b ∈ fp, b = a ∨ s.heap.objs.size ≤ b
  newI : s.heap.objs.size ≤ I
  wk : Walks prog w A I fp [I] ss.length (fun i v => ws[i]? = some v) St
  st : St 0 s₁.heap
  txt : ∃ ss', StrsAre ws ss' ∧ ss'.Perm ss
theorem strs_of_es {o : Obj} {ss : List Str} {es : Array (Int × Value)} {ep : Nat} {t : SetTable} (x : TextSet w o ss es ep t) {L : List (Int × Value)} (p : L.Perm es.toList) : ∃ ss', StrsAre (L.map (·.2)) ss' ∧ ss'.Perm ss := by
  refine ⟨L.map fun e => txtOf e.2, ?_, (p.map _).trans x.all⟩
  have : ∀ e ∈ L, ∃ tk, e.2 = .str (txtOf e.2) tk := fun e he => let ⟨tk, h, _⟩ := x.els e (p.mem_iff.mp he); ⟨tk, h⟩
  clear p
  induction L with
  | nil => exact .nil
  | cons e r ih =>
    obtain ⟨tk, h⟩ := this e (.head _)
    have q := ih fun e he => this e (.tail _ he)
    show StrsAre (e.2 :: r.map (·.2)) (txtOf e.2 :: r.map fun e => txtOf e.2)
    rw [h]
    exact .cons _ tk q
end
end L2

set_option Elab.async false
set_option linter.all false
set_option maxRecDepth 100000
set_option maxHeartbeats 8000000
namespace L2
open PySem PySem.Spec PyProof.Rows PySem.W PySem.Calls
section
variable {prog : Program} {w : World} {A : Around} {E : Value → Shared → Prop} {s : Shared}
/-- in the order that the text tells -/
theorem walk_text {a I : Addr} {o : Obj} {ss : List Str} {es : Array (Int × Value)} {ep : Nat} {t : SetTable} (hh : A.handled = none) (hb : w.params.followText "set-order" = true) (x : TextSet w o ss es ep t) (hne : a ≠ I) :
    Walks prog w A I [I, a] [I] ss.length (fun i v => ((pickOrder (w.params.setOrder a ep) es).toList.map (·.2))[i]? = some v) (fun i h => IsSit h I (rawInt 0) i a es.size ep ∧ h.get? a = some o) where
  sub := fun b hb => by rw [List.mem_singleton.mp hb]; exact .head _
  frame := fun i h h' st kp => ⟨st.1.stay fun o e => kp I (.head _) o e, kp a (.tail _ (.head _)) o st.2⟩
  item := fun i s Q E hi st hQ => by
    have hl : (pickOrder (w.params.setOrder a ep) es).size = ss.length := by
      have := (pickOrder_perm (w.params.setOrder a ep) es).length_eq
      rw [Array.length_toList, Array.length_toList, x.size] at this; exact this
    have hi' : i < (pickOrder (w.params.setOrder a ep) es).size := by omega
    have e1 : (pickOrder (w.params.setOrder a ep) es)[i]? = some (pickOrder (w.params.setOrder a ep) es)[i] := Array.getElem?_eq_getElem hi'
    refine sit_item (slot := 0) (next := 0) (v := ((pickOrder (w.params.setOrder a ep) es)[i]).2) st.1 hne st.2 x (fun A E Q q => nx_text hb st.2 x (by rw [e1]; exact q)) fun h' hit' sb => ?_
    refine hQ _ h' s.toks (by rw [List.getElem?_map, Array.getElem?_toList, e1]; rfl) ⟨hit', (sb.2 a hne).trans st.2⟩ fun b ob hb e => (sb.2 b (by simpa using hb)).trans e
  done := fun s Q E st hQ => by
    have hl : (pickOrder (w.params.setOrder a ep) es).size = ss.length := by
      have := (pickOrder_perm (w.params.setOrder a ep) es).length_eq
      rw [Array.length_toList, Array.length_toList, x.size] at this; exact this
    have e1 : (pickOrder (w.params.setOrder a ep) es)[ss.length]? = none := by rw [← hl]; simp
    exact sit_end (slot := 0) hh st.1 hne st.2 x (fun A E Q q => nx_text hb st.2 x (by rw [e1]; exact q)) fun h' kp => hQ h' s.toks fun b ob hb e => kp b ob (by simpa using hb) e
  self := fun i s Q E st hQ => sit_self st.1 hQ
/-- in the order that is drawn -/
theorem walk_drawn {a I tp : Addr} {o : Obj} {ss : List Str} {es : Array (Int × Value)} {ep : Nat} {t : SetTable} {ps : List Nat} (hh : A.handled = none) (x : TextSet w o ss es ep t) (hne : a ≠ I) (hnt : tp ≠ I) (hps : ps.Perm (List.range es.size)) :
    Walks prog w A I [I, a, tp] [I] ss.length (fun i v => (ps.map fun p => (es.getD p (0, .none)).2)[i]? = some v) (fun i h => IsSit h I (.ref tp) i a es.size ep ∧ h.get? a = some o ∧ h.IsTuple tp (ps.map fun (p : Nat) => rawInt (p : Int)).toArray) where
  sub := fun b hb => by rw [List.mem_singleton.mp hb]; exact .head _
  frame := fun i h h' st kp => ⟨st.1.stay fun o e => kp I (.head _) o e, kp a (.tail _ (.head _)) o st.2.1, st.2.2.at fun o e => kp tp (.tail _ (.tail _ (.head _))) o e⟩
  item := fun i s Q E hi st hQ => by
    have hl : ps.length = ss.length := by have := hps.length_eq; rw [List.length_range, x.size] at this; exact this
    have hi' : i < ps.length := by omega
    have hp : ps[i] < es.size := List.mem_range.mp (hps.mem_iff.mp (List.getElem_mem hi'))
    have e1 : (ps.map fun (p : Nat) => rawInt (p : Int)).toArray[i]? = some (rawInt (ps[i] : Int)) := by rw [List.getElem?_toArray, List.getElem?_map, List.getElem?_eq_getElem hi']; rfl
    have e2 : es[ps[i]]? = some es[ps[i]] := Array.getElem?_eq_getElem hp
    refine sitT_item (p := ps[i]) (v := (es[ps[i]]).2) st.1 st.2.1 x st.2.2 e1 (by rw [e2]; rfl) fun h' hit' sb => ?_
    refine hQ _ h' s.toks ?_ ⟨hit', (sb.2 a hne).trans st.2.1, st.2.2.at fun o e => (sb.2 tp hnt).trans e⟩ fun b ob hb e => (sb.2 b (by simpa using hb)).trans e
    rw [List.getElem?_map, List.getElem?_eq_getElem hi']
    show some (es.getD ps[i] (0, .none)).2 = _
    rw [Array.getD_eq_getD_getElem?, e2]; rfl
  done := fun s Q E st hQ => by
    have hl : ps.length = ss.length := by have := hps.length_eq; rw [List.length_range, x.size] at this; exact this
    have e1 : (ps.map fun (p : Nat) => rawInt (p : Int)).toArray[ss.length]? = none := by rw [← hl]; simp
    exact sitT_end hh st.1 st.2.1 x st.2.2 e1 fun h' kp => hQ h' s.toks fun b ob hb e => kp b ob (by simpa using hb) e
  self := fun i s Q E st hQ => sit_self st.1 hQ
theorem below_one0 {p : Array Nat} (h : p.size = 1) : SetTable.below p 0 = 0 := by
  unfold SetTable.below
  rw [h]
  show (if 0 < 1 then if p.getD 0 0 < 0 then _ else _ else _) = 0
  rw [if_pos (by decide), if_neg (Nat.not_lt_zero _)]
  rfl
theorem below_one1 {p : Array Nat} {j : Nat} (h : p.size = 1) (hj : p[0]? = some j) : SetTable.below p (j + 1) = 1 := by
  unfold SetTable.below
  rw [h]
  show (if 0 < 1 then if p.getD 0 (j + 1) < j + 1 then _ else _ else _) = 1
  rw [if_pos (by decide), if_pos (by rw [Array.getD_eq_getD_getElem?, hj]; exact Nat.lt_succ_self j)]
  rfl
theorem below_nil {p : Array Nat} (j : Nat) (h : p.size = 0) : SetTable.below p j = 0 := by
  unfold SetTable.below
  rw [h]; rfl
/-- none or one -/
theorem walk_few {a I : Addr} {o : Obj} {ss : List Str} {es : Array (Int × Value)} {ep : Nat} {t : SetTable} (hh : A.handled = none) (hb : w.params.followText "set-order" = false) (x : TextSet w o ss es ep t) (h1 : es.size ≤ 1) (hne : a ≠ I) :
    Walks prog w A I [I, a] [I] ss.length (fun i v => (es.toList.map (·.2))[i]? = some v) (fun i h => IsSit h I (rawInt ((if i = 0 then 0 else t.place.getD 0 0 + 1 : Nat) : Int)) i a es.size ep ∧ h.get? a = some o) where
  sub := fun b hb => by rw [List.mem_singleton.mp hb]; exact .head _
  frame := fun i h h' st kp => ⟨st.1.stay fun o e => kp I (.head _) o e, kp a (.tail _ (.head _)) o st.2⟩
  item := fun i s Q E hi st hQ => by
    have hs := x.size
    have hi0 : i = 0 := by omega
    subst hi0
    have hz : es.size = 1 := by omega
    have hpz : t.place.size = 1 := by
      have := x.fit
      unfold SetTable.fits at this
      rw [hz] at this
      simp at this; exact this.1
    have hp0 : t.place[0]? = some t.place[0] := Array.getElem?_eq_getElem (by omega)
    have he0 : es[0]? = some es[0] := Array.getElem?_eq_getElem (by omega)
    have hd0 : t.place.getD 0 0 = t.place[0] := by rw [Array.getD_eq_getD_getElem?, hp0]; rfl
    refine sit_item (slot := 0) (next := t.place[0] + 1) (v := (es[0]).2) st.1 hne st.2 x (fun A E Q q => nx_few hb st.2 x h1 (by rw [below_one0 hpz, hp0, he0]; exact q)) fun h' hit' sb => ?_
    refine hQ _ h' s.toks (by rw [List.getElem?_map, Array.getElem?_toList, he0]; rfl) ⟨?_, (sb.2 a hne).trans st.2⟩ fun b ob hb e => (sb.2 b (by simpa using hb)).trans e
    rw [if_neg (Nat.succ_ne_zero _), hd0]
    exact hit'
  done := fun s Q E st hQ => by
    have hs := x.size
    have hpz : t.place.size = es.size := by
      have := x.fit
      unfold SetTable.fits at this
      simp at this; exact this.1
    by_cases hz : es.size = 0
    · have e0 : ss.length = 0 := by omega
      rw [e0, if_pos rfl] at st
      have : es[0]? = none := Array.getElem?_eq_none (by omega)
      exact sit_end (slot := 0) hh st.1 hne st.2 x (fun A E Q q => nx_few hb st.2 x h1 (by rw [below_nil 0 (by omega), this]; exact q)) fun h' kp => hQ h' s.toks fun b ob hb e => kp b ob (by simpa using hb) e
    · have hz1 : es.size = 1 := by omega
      have e0 : ss.length = 1 := by omega
      rw [e0, if_neg (by decide)] at st
      have hp0 : t.place[0]? = some t.place[0] := Array.getElem?_eq_getElem (by omega)
      have hd0 : t.place.getD 0 0 = t.place[0] := by rw [Array.getD_eq_getD_getElem?, hp0]; rfl
      rw [hd0] at st
      have : es[1]? = none := Array.getElem?_eq_none (by omega)
      exact sit_end (slot := t.place[0] + 1) hh st.1 hne st.2 x (fun A E Q q => nx_few hb st.2 x h1 (by rw [below_one1 (by omega) hp0, this]; exact q)) fun h' kp => hQ h' s.toks fun b ob hb e => kp b ob (by simpa using hb) e
  self := fun i s Q E st hQ => sit_self st.1 hQ
end
end L2

set_option Elab.async false
set_option linter.all false
set_option maxRecDepth 100000
set_option maxHeartbeats 8000000
namespace L2
open PySem PySem.Spec PyProof.Rows PySem.W PySem.Calls
theorem getD_range (es : Array (Int × Value)) : (List.range es.size).map (fun p => es.getD p (0, .none)) = es.toList := by
  apply List.ext_getElem
  · simp
  · intro i h1 h2
    simp at h1
    simp [h1]
section
variable {prog : Program} {w : World} {A : Around} {E : Value → Shared → Prop} {s : Shared}
/-- iter of a set of texts -/
theorem iter_texts {a : Addr} {o : Obj} {ss : List Str} {es : Array (Int × Value)} {ep : Nat} {t : SetTable} {Q : Value → Shared → Prop} (hh : A.handled = none) (ho : s.heap.get? a = some o) (x : TextSet w o ss es ep t)
    (h : ∀ (s₁ : Shared) (I : Addr) (fp : List Addr) (ws : List Value) (St : Nat → Heap → Prop), SetWalk prog w A s s₁ a I ss fp ws St → Q (.ref I) s₁) : wpAny (model prog w) A (pyIter (.ref a)) Q E s := by
  have hT : s.TypeIs (.ref a) "set" := ⟨o, ho, x.cls⟩
  have hla : a < s.heap.objs.size := Heap.lt_size ho
  refine wpAny_pyIter_slot hT PySem.F.slot_set_iter (wpAny_call_entry PySem.F.slot_set_iter hT set_entry_iter ?_ (PySem.F.args_set_iter_1 _))
  unfold Builtin.«frozenset.__iter__» Builtin.Frozenset.slot0
  refine wpAny_bind (wpAny_bind (wpAny_of_eq (a := (Value.ref a, [])) rfl (wpAny_pure ?_)))
  unfold Builtin.Frozenset.sizeOf
  refine wpAny_bind (wpAny_bind (wpAny_setEntries_of ho x.dat x.fit (wpAny_pure ?_)))
  unfold setDrawn
  refine wpAny_bind ?_
  refine wpAny_bind (wpAny_setState_of ho x.dat x.fit ?_)
  dsimp only
  unfold setsByText
  refine wpAny_bind (wpAny_bind (wpAny_askSetting (wpAny_pure (wpAny_pure ?_))))
  show wpAny _ _ (if (!w.params.followText "set-order" && (!t.plain && decide (es.size > 1))) = true then _ else _) _ _ s
  by_cases hc : (!w.params.followText "set-order" && (!t.plain && decide (es.size > 1))) = true
  · rw [if_pos hc]
    refine wpAny_bind (draw_order es.size (List.range es.size) s _ (List.length_range).symm fun ps d hps => ?_)
    have hpl : ps.length = ss.length := by have := hps.length_eq; rw [List.length_range, x.size] at this; exact this
    have hfew := x.few
    refine wpAny_bind (wpAny_newTuple (items := ps.map fun (i : Nat) => rawInt (i : Int)) ?_ (by rw [List.length_map, sizeLine_eq]; omega))
    have ho1 : (s.heap.push { cls := .type "tuple", data := .seq (ps.map fun (i : Nat) => rawInt (i : Int)).toArray }).get? a = some o := Heap.get?_push_of_some _ ho
    refine wpAny_bind (wpAny_setEpoch_of (s := { s with heap := s.heap.push { cls := .type "tuple", data := .seq (ps.map fun (i : Nat) => rawInt (i : Int)).toArray }, drawn := d }) ho1 x.dat x.fit ?_)
    refine wpAny_bind (wpAny_newObj_type (wpAny_pure ⟨_, rfl, "set_iterator", _, ⟨_, Heap.get?_push_size _ rfl, rfl⟩, sit_slot_next.lookup, ?_⟩))
    have hsz : (s.heap.push { cls := .type "tuple", data := .seq (ps.map fun (i : Nat) => rawInt (i : Int)).toArray }).objs.size = s.heap.objs.size + 1 := size_push' ..
    have hI : a ≠ (s.heap.push { cls := .type "tuple", data := .seq (ps.map fun (i : Nat) => rawInt (i : Int)).toArray }).objs.size := by rw [hsz]; exact Nat.ne_of_lt (Nat.lt_succ_of_lt hla)
    have hI2 : s.heap.objs.size ≠ (s.heap.push { cls := .type "tuple", data := .seq (ps.map fun (i : Nat) => rawInt (i : Int)).toArray }).objs.size := by rw [hsz]; exact Nat.ne_of_lt (Nat.lt_succ_self _)
    have W := walk_drawn (prog := prog) (A := A) hh x hI hI2 hps
    refine h _ _ _ _ _ ⟨rfl, rfl, rfl, fun b ob e => Heap.get?_push_of_some _ (Heap.get?_push_of_some _ e), fun b hb => ?_, ?_, W, ?_, ?_⟩
    · rcases List.mem_cons.mp hb with e | hb
      · rw [e, hsz]; exact .inr (Nat.le_succ _)
      · rcases List.mem_cons.mp hb with e | hb
        · exact .inl e
        · rw [List.mem_singleton.mp hb]; exact .inr (Nat.le_refl _)
    · rw [hsz]; exact Nat.le_succ _
    · exact ⟨⟨_, Heap.get?_push_size _ rfl, rfl, rfl⟩, Heap.get?_push_of_some _ ho1, ⟨_, Heap.get?_push_of_some _ (Heap.get?_push_size _ rfl), rfl, _, rfl⟩⟩
    · have e1 : (ps.map fun p => (es.getD p (0, .none)).2) = (ps.map fun p => es.getD p (0, .none)).map (·.2) := by rw [List.map_map]; rfl
      rw [e1]
      refine strs_of_es x ?_
      have := hps.map fun p => es.getD p ((0 : Int), Value.none)
      rw [getD_range] at this; exact this
  · rw [if_neg hc]
    refine wpAny_bind (wpAny_pure ?_)
    refine wpAny_bind (wpAny_setEpoch_of ho x.dat x.fit ?_)
    refine wpAny_bind (wpAny_newObj_type (wpAny_pure ⟨_, rfl, "set_iterator", _, ⟨_, Heap.get?_push_size _ rfl, rfl⟩, sit_slot_next.lookup, ?_⟩))
    have hI : a ≠ s.heap.objs.size := Nat.ne_of_lt hla
    have nw : ∀ b ∈ [s.heap.objs.size, a], b = a ∨ s.heap.objs.size ≤ b := fun b hb => by
      rcases List.mem_cons.mp hb with e | hb
      · rw [e]; exact .inr (Nat.le_refl _)
      · exact .inl (List.mem_singleton.mp hb)
    cases hb : w.params.followText "set-order" with
    | true => exact h _ _ _ _ _ ⟨rfl, rfl, rfl, fun b ob e => Heap.get?_push_of_some _ e, nw, Nat.le_refl _, walk_text hh hb x hI, ⟨⟨_, Heap.get?_push_size _ rfl, rfl, rfl⟩, Heap.get?_push_of_some _ ho⟩, strs_of_es x (pickOrder_perm _ es)⟩
    | false =>
      have h1 : es.size ≤ 1 := by
        rcases x.pla with z | z
        · omega
        · rw [hb, z] at hc
          simp at hc; omega
      exact h _ _ _ _ _ ⟨rfl, rfl, rfl, fun b ob e => Heap.get?_push_of_some _ e, nw, Nat.le_refl _, walk_few hh hb x h1 hI, ⟨⟨_, Heap.get?_push_size _ rfl, rfl, rfl⟩, Heap.get?_push_of_some _ ho⟩, strs_of_es x (List.Perm.refl _)⟩
theorem set_len_look : typeLookup (.type "set") "__len__" = pure (some (.builtin "set.__len__")) := by rw [typeLookup_type, builtinLookup_eq_fast]; kernel_rfl
theorem hint_set {r : Addr} {Q : Bool → Shared → Prop} (hT : s.TypeIs (.ref r) "set") (h : ∀ b, Q b s) : wpAny (model prog w) A (Builtin.List.listLengthHint (.ref r)) Q E s := by
  unfold Builtin.List.listLengthHint
  refine wpAny_bind (wpAny_specialOf hT set_len_look ?_)
  generalize hid : ("set.__len__" : String) = id0
  wp_delta
  rw [show splitId id0 = some ("set", "__len__") from by subst hid; decide +kernel]
  subst hid
  refine wpAny_bind (wpAny_isInstance (T := "set") (b := true) hT (by rw [isSubtype_type]; kernel_rfl) ?_)
  refine wpAny_ite_split (fun z => absurd z (by decide)) (fun _ => ?_)
  refine wpAny_ite_split (fun _ => ?_) (fun z => absurd (by decide +kernel) z)
  refine wpAny_bind (wpAny_typeOf hT ?_)
  exact wpAny_pure (h _)
end
end L2

set_option Elab.async false
set_option linter.all false
set_option maxRecDepth 100000
set_option maxHeartbeats 8000000
namespace L2
open PySem PySem.Spec PyProof.Rows PySem.W PySem.Calls
section
variable {prog : Program} {w : World} {A : Around} {E : Value → Shared → Prop} {s : Shared}
theorem items_eq {ws : List Value} {n : Nat} {acc : Array Value} (hw : ws.length = n) (h : ItemsOf (fun i v => ws[i]? = some v) acc n) : acc.toList = ws := by
  apply List.ext_getElem?
  intro i
  by_cases hi : i < acc.size
  · have e : acc.toList[i]? = some acc[i] := by rw [Array.getElem?_toList]; exact Array.getElem?_eq_getElem hi
    rw [e]
    exact (h.2 i acc[i] (Array.getElem?_eq_getElem hi)).symm
  · have h1 := h.1
    rw [List.getElem?_eq_none (by rw [Array.length_toList]; omega), List.getElem?_eq_none (by omega)]
theorem extend_texts {R : Result → Shared → Prop} {a S : Addr} {o : Obj} {ss : List Str} {es : Array (Int × Value)} {ep : Nat} {t : SetTable} (hh : A.handled = none) (ho : s.heap.get? a = some o) (x : TextSet w o ss es ep t) (res : Value) (c₀ : Nat)
    (hSa : S ≠ a) (hS : s.heap.get? S = some { cls := .type "list", data := .seq #[] c₀ })
    (hR : ∀ (s' : Shared) acc c' ss', s'.os = s.os → s'.gens = s.gens → (∀ b o, b ≠ S → s.heap.get? b = some o → s'.heap.get? b = some o) → s'.heap.get? S = some { cls := .type "list", dict := none, data := .seq acc c', slots := #[] } → StrsAre acc.toList ss' → ss'.Perm ss → R (.ok (.ret res)) s') :
    wpAny (model prog w) A.in1 (Builtin.List.listExtendWith (.ref S) (.ref a) res)
      (fun fin s' => match fin with | .done f => R (.ok f) s' | .again c' => c'.quiet = true ∧ codeAny (model prog w) A c' R s') (fun e s' => R (.error e) s') s := by
  have hT : s.TypeIs (.ref a) "set" := ⟨o, ho, x.cls⟩
  have hSlt : S < s.heap.objs.size := Heap.lt_size hS
  have hfew := x.few
  unfold Builtin.List.listExtendWith
  refine wpAny_bind (wpAny_typeOf (T := "set") hT ?_)
  have n1 : Builtin.List.listSameRef (.ref S) (.ref a) = false := by simp [Builtin.List.listSameRef, hSa]
  have n2 : (Value.type "set" == Value.type "list") = false := by decide
  have n3 : (Value.type "set" == Value.type "tuple") = false := by decide
  simp only [n1, n2, n3, Bool.or_false, Bool.false_eq_true, if_false]
  refine wpAny_bind (iter_texts (A := A.in1) hh ho x fun s₁ I fp ws St K => ?_)
  obtain ⟨ss', hw1, hw2⟩ := K.txt
  have hws : ws.length = ss.length := by rw [StrsAre.length hw1]; exact hw2.length_eq
  have hSf : S ∉ fp := fun z => (K.new S z).elim hSa fun q => Nat.lt_irrefl _ (Nat.lt_of_lt_of_le hSlt q)
  have hSI : S ≠ I := fun e => Nat.lt_irrefl _ (Nat.lt_of_lt_of_le hSlt (e ▸ K.newI))
  have hn : ss.length ≤ sizeLine := by rw [sizeLine_eq]; omega
  have key : ∀ (h : Heap) (c₁ : Nat), St 0 h → (∀ b o, b ≠ S → s₁.heap.get? b = some o → h.get? b = some o) → h.get? S = some { cls := .type "list", data := .seq #[] c₁ } →
      codeAny (model prog w) A (.builtin "list.extend.loop" ⟨[.ref S, .ref I, res], []⟩) R { s₁ with heap := h } := by
    intro h c₁ st hk hS1
    refine codeAny_extend_loopS K.wk.toS hn S hSf res ss.length 0 _ #[] c₁ rfl (Nat.zero_le _) st hS1 (ItemsOf.nil _) fun s' acc c' hm hS' hacc => ?_
    rw [← items_eq hws hacc] at hw1
    refine hR s' acc c' ss' (hm.os.trans K.os) ((show s'.gens = s₁.gens from hm.gens).trans K.gens) (fun b ob hb e => hm.heap b ob (fun z => ?_) (hk b ob hb (K.keep b ob e))) hS' hw1 hw2
    rcases List.mem_cons.mp z with z | z
    · exact hb z
    · exact absurd (Heap.lt_size e) (by rw [List.mem_singleton.mp z]; exact Nat.not_lt.mpr K.newI)
  have hS1 := K.keep _ _ hS
  have hT1 : s₁.TypeIs (.ref a) "set" := ⟨o, K.keep _ _ ho, x.cls⟩
  refine wpAny_bind (wpAny_holding (hint_set hT1 fun hb => ?_))
  refine wpAny_ite_split (fun _ => ?_) (fun _ => wpAny_pure ⟨plainId_quiet PySem.F.plain_extend_loop _, key _ c₀ K.st (fun b ob _ e => e) hS1⟩)
  refine wpAny_bind (wpAny_rule ?_)
  refine wpAny_bind ?_
  show wpAny _ _ (updateSeq S (·.push .none) >>= fun _ => updateSeq S (·.pop)) _ _ _
  refine wpAny_bind (wpAny_updateSeq hS1 rfl ?_)
  have hS2 := Heap.get?_update_self (Obj.mapSeq (·.push Value.none)) hS1 rfl
  refine wpAny_updateSeq (hz := by seq_fits) hS2 rfl ?_
  have hS3 := Heap.get?_update_self (Obj.mapSeq (·.pop)) hS2 rfl
  refine wpAny_pure ⟨plainId_quiet PySem.F.plain_extend_loop _, key _ _ (K.wk.frame 0 _ _ K.st fun b hb ob e => ?_) (fun b ob hb e => ?_) hS3⟩
  · have hbS : b ≠ S := fun z => hSf (z ▸ hb)
    exact (Heap.get?_update_other _ _ (Ne.symm hbS)).trans ((Heap.get?_update_other _ _ (Ne.symm hbS)).trans e)
  · exact (Heap.get?_update_other _ _ (Ne.symm hb)).trans ((Heap.get?_update_other _ _ (Ne.symm hb)).trans e)
theorem collect_texts {R : List Value → Shared → Prop} {a : Addr} {o : Obj} {ss : List Str} {es : Array (Int × Value)} {ep : Nat} {t : SetTable} (hh : A.handled = none) (ho : s.heap.get? a = some o) (x : TextSet w o ss es ep t)
    (h : ∀ (s' : Shared) (acc : List Value) ss', s'.os = s.os → s'.gens = s.gens → (∀ b o, s.heap.get? b = some o → s'.heap.get? b = some o) → StrsAre acc ss' → ss'.Perm ss → R acc s') :
    wpAny (model prog w) A (collect (.ref a)) R E s := by
  unfold collect
  refine wpAny_bind (wpAny_runValue (codeAny_builtin entry_proto_collect' ?_))
  rw [Around.under_plainId PySem.F.plain_proto_collect _]
  show wpAny _ A.in1 (newList [] >>= fun l => again (.builtin "list.__iadd__" ⟨[l, .ref a], []⟩)) _ _ s
  refine wpAny_bind (wpAny_newObj_type ?_)
  refine wpAny_pure ⟨plainId_quiet PySem.F.plain_list_iadd _, codeAny_builtin entry_list_iadd' ?_⟩
  rw [Around.under_plainId PySem.F.plain_list_iadd _]
  have hS1 : (s.heap.push { cls := .type "list", data := .seq ([] : List Value).toArray }).get? s.heap.objs.size = some { cls := .type "list", data := .seq #[] } := Heap.get?_push_size _ rfl
  have hla : s.heap.objs.size ≠ a := Nat.ne_of_gt (Heap.lt_size ho)
  show wpAny _ A.in1 (Builtin.List.listExtendWith (.ref s.heap.objs.size) (.ref a) (.ref s.heap.objs.size)) _ _ _
  have key := extend_texts (prog := prog) (A := A) (s := { s with heap := s.heap.push { cls := .type "list", data := .seq ([] : List Value).toArray } })
    (R := fun (q : Result) (s' : Shared) => ∃ (acc : Array Value) (c' : Nat) (ss' : List Str), q = .ok (.ret (.ref s.heap.objs.size)) ∧ s'.os = s.os ∧ s'.gens = s.gens ∧
      (∀ b o, s.heap.get? b = some o → s'.heap.get? b = some o) ∧ s'.heap.get? s.heap.objs.size = some { cls := .type "list", dict := none, data := .seq acc c', slots := #[] } ∧ StrsAre acc.toList ss' ∧ ss'.Perm ss)
    hh (Heap.get?_push_of_some _ ho) x (.ref s.heap.objs.size) 0 hla hS1
    (fun s' acc c' ss' z1 z2 z3 z4 z5 z6 => ⟨acc, c', ss', rfl, z1, z2, fun b ob e => z3 b ob (Nat.ne_of_lt (Heap.lt_size e)) (Heap.get?_push_of_some _ e), z4, z5, z6⟩)
  refine wpAny_mono key (fun fin s' y => ?_) fun e s' y => ?_
  · cases fin with
    | done f =>
      obtain ⟨acc, c', ss', e, z1, z2, z3, z4, z5, z6⟩ := y
      cases e
      show wpAny _ A (load s.heap.objs.size >>= _) _ _ _
      exact wpAny_bind (wpAny_load z4 (wpAny_pure (h s' acc.toList ss' z1 z2 z3 z5 z6)))
    | again c₁ =>
      refine ⟨y.1, codeAny_mono y.2 fun q s₂ y => ?_⟩
      obtain ⟨acc, c', ss', rfl, z1, z2, z3, z4, z5, z6⟩ := y
      show wpAny _ A (load s.heap.objs.size >>= _) _ _ _
      exact wpAny_bind (wpAny_load z4 (wpAny_pure (h s₂ acc.toList ss' z1 z2 z3 z5 z6)))
  · obtain ⟨_, _, _, e', _⟩ := y
    cases e'
end
end L2

set_option Elab.async false
set_option linter.all false
set_option maxRecDepth 100000
set_option maxHeartbeats 8000000
namespace L2
open PySem PySem.Spec PyProof.Rows PySem.W PySem.Calls
/-- a set of texts in the layer's heap -/
noncomputable def SetT (w : World) (a : Addr) (ss : List Str) : HO := .ext fun h => ∃ o es ep t, h.get? a = some o ∧ TextSet w o ss es ep t
section
variable {X : Cx}
theorem setT_ok {P : Program} {w : World} {H : Hp} {h : Heap} {a : Addr} {ss : List Str} {o : Obj} {es : Array (Int × Value)} {ep : Nat} {t : SetTable} (ho : h.get? a = some o) (x : TextSet w o ss es ep t) : ObjOk P w H h a (SetT w a ss) :=
  ⟨⟨o, es, ep, t, ho, x⟩, ⟨o, ho⟩, fun h1 h2 ⟨o, es, ep, t, q, y⟩ k => ⟨o, es, ep, t, k o q, y⟩⟩
theorem Inv.draw {pins : List (Addr × Obj)} {σ : List (Option V)} {H : Hp} {s s' : Shared} (I : Inv X pins σ H s) (h1 : s'.os = s.os) (h2 : s'.gens = s.gens) (h3 : s'.heap = s.heap) : Inv X pins σ H s' := by
  obtain ⟨a1, a2, a3, a4, a5, a6, a7, a8, a9, a10, a11⟩ := I
  exact ⟨a1, h1.trans a2, by rw [h2]; exact a3, by rw [h3]; exact a4, by rw [h3]; exact a5, by rw [h3]; exact a6, a7, a8, by rw [h3]; exact a9, by rw [h3]; exact a10, a11⟩
/-- set(tuple of texts) -/
theorem call_setTu (hc : X.calm = true) : CallR X (.type "set") (fun xs H Q => ∃ (p : Addr) (ss : List Str), xs = [.ref p] ∧ SqT X.K H p (ss.map V.str) ∧ ss.length < 3000 ∧
    ∀ (a : Addr), H a = none → Q (.ref a) (upd H a (SetT X.w a (metS ss.reverse)))) := by
  intro pins s σ H xs us Q I r h
  obtain ⟨p, ss, rfl, hq, h3, q⟩ := h
  obtain ⟨u, rfl, rx⟩ := vals1 r
  cases rx
  obtain ⟨its, r', hp, hz⟩ := I.tuple hq
  refine made_set_tuple (I.ok.hd hc) hp r' (by omega) fun h' tk o' es' ep' t' kp ho x => ?_
  exact ⟨.ref s.heap.objs.size, _, I.laid (h' := h') (t' := tk) (o := SetT X.w s.heap.objs.size (metS ss.reverse)) kp (Nat.le_refl _) (setT_ok ho x), rfl, q _ (I.hok.fresh (Nat.le_refl _))⟩
/-- set(list of texts) -/
theorem call_setLi (hc : X.calm = true) : CallR X (.type "set") (fun xs H Q => ∃ (p : Addr) (ss : List Str), xs = [.ref p] ∧ SqL X.K H p (ss.map V.str) ∧ ss.length < 3000 ∧
    ∀ (a : Addr), H a = none → Q (.ref a) (upd H a (SetT X.w a (metS ss.reverse)))) := by
  intro pins s σ H xs us Q I r h
  obtain ⟨p, ss, rfl, hq, h3, q⟩ := h
  obtain ⟨u, rfl, rx⟩ := vals1 r
  cases rx
  obtain ⟨its, r', hp, hz⟩ := I.list hq
  refine made_set_list (I.ok.hd hc) hp.isList r' (by omega) fun h' tk o' es' ep' t' kp ho x => ?_
  exact ⟨.ref s.heap.objs.size, _, I.laid (h' := h') (t' := tk) (o := SetT X.w s.heap.objs.size (metS ss.reverse)) kp (Nat.le_refl _) (setT_ok ho x), rfl, q _ (I.hok.fresh (Nat.le_refl _))⟩
/-- len(set of texts) -/
theorem call_lenS : CallR X (.builtin "len") (fun xs H Q => ∃ (a : Addr) (ss : List Str), xs = [.ref a] ∧ H a = some (SetT X.w a ss) ∧ Q (.int ss.length) H) := by
  intro pins s σ H xs us Q I r h
  obtain ⟨a, ss, rfl, ha, q⟩ := h
  obtain ⟨u, rfl, rx⟩ := vals1 r
  cases rx
  obtain ⟨⟨o, es, ep, t, ho, x⟩, _, _⟩ := I.hok a _ ha
  have hf := x.few
  have hz := x.size
  refine call_len_set ho ⟨x.cls, x.dic, x.slo⟩ x.dat x.fit (by omega) ?_
  rw [hz]
  exact ⟨.int ss.length, H, I.tok _, ⟨_, rfl⟩, q⟩
/-- sorted(set of texts) -/
theorem call_sortedSet (hc : X.calm = true) : CallR X (.builtin "sorted") (fun xs H Q => ∃ (a : Addr) (ss : List Str), xs = [.ref a] ∧ H a = some (SetT X.w a ss) ∧ ss.length < 64 ∧
    ∀ (ss' : List Str) (q : Addr), ss'.Perm ss → sortedS ss' = true → H q = none → Q (.ref q) (upd H q (.lst (ss'.map V.str)))) := by
  intro pins s σ H xs us Q I r h
  obtain ⟨a, ss, rfl, ha, h64, q⟩ := h
  obtain ⟨u, rfl, rx⟩ := vals1 r
  cases rx
  obtain ⟨⟨o, es, ep, t, ho, x⟩, _, _⟩ := I.hok a _ ha
  refine call_function_entry kind_sorted plain_sorted entry_sorted (args_sorted1 _) ?_
  unfold Builtin.«sorted»
  refine wpAny_bind (m := checkCount "sorted" 1 1 _) (wpAny_pure ?_)
  refine wpAny_bind (collect_texts (A := X.A.in1) (I.ok.hd hc) ho x fun s1 acc ss1 z1 z2 kp hS hpm => ?_)
  have hl1 : acc.length = ss.length := by rw [StrsAre.length hS]; exact hpm.length_eq
  refine wpAny_bind (wpAny_newList ?_ (by rw [hl1, sizeLine_eq]; omega))
  have hoL : (s1.heap.push (seqObj "list" acc.toArray 0)).get? s1.heap.objs.size = some (seqObj "list" acc.toArray 0) := Heap.get?_push_size _ rfl
  show wpAny _ _ _ _ _ { s1 with heap := s1.heap.push (seqObj "list" acc.toArray 0) }
  refine wpAny_bind (wpAny_holding (wpAny_call_entry slot_list_sort ⟨_, hoL, rfl⟩ entry_list_sort (list_sort_treeK (s := { s1 with heap := s1.heap.push (seqObj "list" acc.toArray 0) }) strKind_oneLt hoL hS.keysOf (fun v₁ v₂ rest e => keyKind_strs (by rw [← e]; exact hS)) (by rw [hl1]; omega) fun st' a1 a2 => ⟨_, rfl, ?_⟩) (args_list_sort _)))
  obtain ⟨ss', h1, h2, h3⟩ := sorted_out_str hS a1 a2
  refine wpAny_pure ⟨_, rfl, ?_⟩
  obtain ⟨e, he⟩ := sortedHeap_at (h := s1.heap.push (seqObj "list" acc.toArray 0)) (out := (arrOf st').map (·.2)) hoL
  have hnone : s.heap.get? s1.heap.objs.size = none := by
    cases e0 : s.heap.get? s1.heap.objs.size with
    | none => rfl
    | some o => exact absurd (Heap.lt_size (kp _ _ e0)) (Nat.lt_irrefl _)
  have hold : ∀ b o, s.heap.get? b = some o → (sortedHeap (s1.heap.push (seqObj "list" acc.toArray 0)) s1.heap.objs.size acc ((arrOf st').map (·.2))).get? b = some o := fun b o eb => by
    have l1 := Heap.lt_size (kp b o eb)
    rw [sortedHeap_old (Nat.ne_of_lt l1) (by rw [size_push']; exact Nat.lt_succ_of_lt l1)]
    exact Heap.get?_push_of_some _ (kp b o eb)
  have hfr : H s1.heap.objs.size = none := I.hok.freeN hnone
  have hv' : Vals (ss'.map V.str) ((arrOf st').map (·.2)).toList := vals_strs h1
  have I2 := I.laidN (h' := sortedHeap (s1.heap.push (seqObj "list" acc.toArray 0)) s1.heap.objs.size acc ((arrOf st').map (·.2))) (t' := s1.toks) (o := .lst (ss'.map V.str)) hold hnone ⟨(by rw [List.length_map, (h2.trans hpm).length_eq, sizeLine_eq]; omega), ((arrOf st').map (·.2)).toList, e, hv', (by rw [Array.toArray_toList]; exact he)⟩
  exact ⟨.ref s1.heap.objs.size, _, I2.draw z1 z2 rfl, rfl, q ss' _ (h2.trans hpm) h3 hfr⟩
end
end L2

set_option Elab.async false
set_option linter.all false
set_option maxRecDepth 100000
set_option maxHeartbeats 4000000
namespace L2
open PySem PySem.Spec PyProof.Rows PySem.W PySem.Calls
/-! ### the keys of a dict by texts or numbers, walked -/
section
variable {X : Cx} {tg : Expr}
end
end L2

set_option Elab.async false
set_option linter.all false
set_option maxRecDepth 100000
set_option maxHeartbeats 4000000
namespace K23
open PySem L2

noncomputable def top (i : Nat) : Stmt := PySem.Challenge.pw_rootshares_k23_whole_ways.main.body.getD i (.Pass ⟨0, 0, 0, 0⟩)

/-! ### what the text finds at its top -/
theorem b_isinstance : bootBuiltins "isinstance" = some (.builtin "isinstance") := by decide +kernel
theorem b_all : bootBuiltins "all" = some (.builtin "all") := by decide +kernel
theorem b_sorted : bootBuiltins "sorted" = some (.builtin "sorted") := by decide +kernel
theorem b_repr : bootBuiltins "repr" = some (.builtin "repr") := by decide +kernel
theorem b_max : bootBuiltins "max" = some (.builtin "max") := by decide +kernel
theorem b_min : bootBuiltins "min" = some (.builtin "min") := by decide +kernel
theorem b_str : bootBuiltins "str" = some (.type "str") := by decide +kernel
theorem b_tuple : bootBuiltins "tuple" = some (.type "tuple") := by decide +kernel
theorem b_list : bootBuiltins "list" = some (.type "list") := by decide +kernel
theorem b_int : bootBuiltins "int" = some (.type "int") := by decide +kernel
theorem b_divmod : bootBuiltins "divmod" = some (.builtin "divmod") := by decide +kernel
structure Bl (mg : Str → Option Value) : Prop where
  len : mg "len" = none
  isinstance : mg "isinstance" = none
  all : mg "all" = none
  range : mg "range" = none
  sorted : mg "sorted" = none
  repr : mg "repr" = none
  max : mg "max" = none
  min : mg "min" = none
  str : mg "str" = none
  tuple : mg "tuple" = none
  list : mg "list" = none
  int : mg "int" = none
  bool : mg "bool" = none
  zip : mg "zip" = none
  divmod : mg "divmod" = none
  abs : mg "abs" = none
  dict : mg "dict" = none
  set : mg "set" = none
  lng : ∃ t, mg "LONGEST_NAME" = some (.int 8 t)

/-- a def of the text that keeps its promise -/
noncomputable def Fn (P : Program) (w : World) (K : PySem.W.Frag) (mg : Str → Option Value) (base : Heap) (k : Nat) (x : Str) (ps : List Str) (sp : Sp) : Prop :=
  ∃ f fd, mg x = some (.ref f) ∧ PySem.W.keepIn K (.ref f) = true ∧ Binds K fd ps [] ∧ FnOk P w K mg base CX0 k f fd ps sp
theorem pe_fn {X : Cx} {k : Nat} {x : Str} {ps : List Str} {sp : Sp} {e : Expr} {es : List Expr} {t : TA} {p pos : Pos} (F : Fn X.prog X.w X.K X.mg X.base k x ps sp) (hr : Room k X.A) (ha : PA X (e :: es) t) (hg : Gl X x := by rfl)
    (hdb : (x == ("__debug__" : Str)) = false := by decide) (he : starEach (e :: es) X.env = (false, eval e X.env) :: starEach es X.env := by rfl) (hpl : (backTo pos (starEach es X.env)).any (·.1) = false := by rfl) :
    PE X (.Call (.Name x p) (e :: es) [] pos) (tCall sp [] E0 t) := by
  obtain ⟨f, fd, h1, h2, h3, h4⟩ := F
  exact pe_call h4 hr hg h1 h2 h3 .nil pass0 ha hdb he hpl
theorem pg_lc {X : Cx} {scope : Scope} {N : List Str} {C : Addr} {s0 : Shared} {H0 : Hp} {fp : List Addr} {x : Str} {pos : Pos} (i : Nat) (hN : N.Nodup) (hi : N[i]? = some x) (hx : scope.names.lookup x = some .local) :
    PG (cxLc X scope N C s0 H0 fp) (.Name x pos) (gName i) :=
  pg_name (X := cxLc X scope N C s0 H0 fp) hN hi (.inl (lookup_relabel_local hx)) (.inr (lookup_relabel_local hx))
theorem iteD {c A B : Prop} [Decidable c] (hc : c) (h : A) : if decide c = true then A else B := by
  rw [decide_eq_true hc]; exact iteT h
theorem iteDN {c A B : Prop} [Decidable c] (hc : ¬ c) (h : B) : if decide c = true then A else B := by
  rw [decide_eq_false hc]; exact iteF h
theorem iteND {c A B : Prop} [Decidable c] (hc : ¬ c) (h : A) : if (!decide c) = true then A else B := by
  rw [decide_eq_false hc]; exact iteT h
theorem lt1 (a b : Nat) : ([a] < [b]) ↔ a < b := by rw [List.cons_lt_cons_iff]; simp
/-! ### names -/
structure NameP (x : Str) : Prop where
  lo : 1 ≤ x.length
  hi : x.length ≤ 8
  az : ∀ c ∈ x.cps.toList, 97 ≤ c ∧ c ≤ 122
theorem NameP.fits {x : Str} (h : NameP x) : x.length < sizeLine := by have := h.hi; rw [sizeLine_eq]; omega
theorem NameP.ascii {x : Str} (h : NameP x) : x.cps.all (· < 128) = true := by
  rw [Array.all_eq_true']
  intro c hc
  have := h.az c (by simpa using hc)
  simp; omega

section
variable {P : Program} {w : World} {K : PySem.W.Frag} {mg : Str → Option Value} {base : Heap}

noncomputable def spName : Sp := fun vs H Q _ => ∃ x, vs = [.str x] ∧ NameP x ∧ ∀ H', Same H H' → Q (.bl true) H'
theorem sc6 : FnScope ["thing"] ["thing"] (defScope (top 6)) := ⟨rfl, rfl, rfl, by decide +kernel, rfl, by decide +kernel, by decide +kernel⟩
theorem same_upd {H H' : Hp} {p : Addr} {o : HO} (h : Same H H') (hp : H' p = none) : Same H (upd H' p o) := fun b ob e => by
  rw [upd_ne (ne_of_none (h b ob e) hp)]; exact h b ob e
theorem ok_is_name {f : Addr} {fd : FuncData} (F : Fun K "is_name" "is_name" (top 6) f fd) (B : Bl mg) : FnOk P w K mg base CX0 1 f fd ["thing"] spName := by
  refine F.ok sc6 (fun vs H Q E h => ?_) (fun cdv A outer s H vs Q E hr h => ?_)
  · obtain ⟨x, rfl, _⟩ := h
    rfl
  · obtain ⟨x, rfl, hx, k⟩ := h
    obtain ⟨tl, hl⟩ := B.lng
    refine ⟨_, pss_cons (ps_if (PW.pt (pw_or (pt_not (pt_val (pe_callB (call_isinst (T := "str")) rfl B.isinstance b_isinstance (pa_cons (pv 0) (pa_cons (pe_bltn (v := .ty "str") rfl B.str b_str rfl) pa_nil)))))
        (pw_or1 (pt_not (pt_chain op_le op_le pe_int (pe_callB call_len_str rfl B.len PySem.boot_len (pa_cons (pv 0) pa_nil)) (pe_glob (v := .int 8) rfl hl ⟨_, rfl⟩)))))) (pss_one (ps_ret pe_bl)) pss_nil)
      (pss_one (ps_ret (pe_callB (call_allB rfl) rfl B.all b_all (pa_cons (pe_lc (N := ["letter"]) (ix := [none]) ⟨rfl, rfl, rfl, by decide⟩ rfl (pi_str (pv 0)) (fun _ _ _ _ => pg_lc 0 (by decide) rfl rfl) (fun _ _ _ _ => pts_nil)
        (fun _ _ _ _ => pe_chain op_le_str op_le_str pe_str (pv 0) pe_str)) pa_nil)))), ?_⟩
    refine ⟨_, rfl, _, _, true, rfl, .str x, ?kit, true, rfl, iteF ?_⟩
    case kit => rfl
    refine ⟨_, rfl, x, rfl, Nat.le_of_lt hx.fits, _, _, rfl, rfl, _, rfl, iteD (by have := hx.lo; omega) ⟨_, _, rfl, rfl, _, rfl, ?_⟩⟩
    refine iteNS (by have := hx.hi; omega) ?_
    refine ⟨_, rfl, x, rfl, hx.ascii, lcw_str0 hx.fits (fun i ys σ H1 => ys = List.replicate i (.bl true) ∧ Same H H1 ∧ ∃ v, σ = [v]) ⟨rfl, Same.refl _, _, rfl⟩ (fun i ys σ H1 _ q => by rw [q.1]; simp) ?_ ?_⟩
    · rintro i c ys σ H1 hc ⟨rfl, hs, v, rfl⟩
      have hcm := hx.az c (Array.mem_toList_iff.mpr (Array.mem_of_getElem? hc))
      refine ⟨_, rfl, _, _, rfl, rfl, _, rfl, iteND ?_ ⟨_, _, rfl, rfl, ?_, hs, _, rfl⟩⟩
      · show ¬ ([c] < [97])
        rw [lt1]; omega
      · have e : (!decide ([122] < [c])) = true := by rw [decide_eq_false (by rw [lt1]; omega)]; rfl
        show _ ++ [V.bl (!decide ([122] < [c]))] = _
        rw [e, List.replicate_succ']
    · rintro ys σ H1 ⟨rfl, hs, v, rfl⟩ p hp
      refine ⟨p, List.replicate x.length true, rfl, SqL.of (by rw [upd_same, List.map_replicate]), ?_⟩
      have e : (List.replicate x.length true).all id = true := by simp
      rw [e]
      exact k _ (same_upd hs hp)
end
end K23

set_option Elab.async false
set_option linter.all false
set_option maxRecDepth 100000
set_option maxHeartbeats 4000000
namespace K23
open PySem L2

/-! ### rules with the written part named -/
theorem ix_seqK (K : PySem.W.Frag) {X : Cx} (h : X.K = K := by rfl) : IxR X (rIx K) := by subst h; exact ix_seq
theorem in_seqK (K : PySem.W.Frag) {X : Cx} (h : X.K = K := by rfl) : OpR X (compareOp .In) (rIn K false) := by subst h; exact op_in_seq
theorem notIn_seqK (K : PySem.W.Frag) {X : Cx} (h : X.K = K := by rfl) : OpR X (compareOp .NotIn) (rIn K true) := by subst h; exact op_notIn_seq
/-! ### small readings -/
theorem atI_at {α : Type} {xs : List α} {z : Int} {j : Nat} {v : α} (hz : z = (j : Int)) (h : xs[j]? = some v) : atI xs z = some v := by subst hz; exact atI_nat h
noncomputable def Sq (K : PySem.W.Frag) (H : Hp) (p : Addr) (xs : List V) : Prop := SqL K H p xs ∨ SqT K H p xs
theorem same_tup {K : PySem.W.Frag} {H H' : Hp} {a : Addr} {xs : List V} (e : Same H H') (h : SqT K H a xs) : SqT K H' a xs := by
  rcases h with (h | ⟨o, h⟩) | h
  · exact .inl (.inl (e _ _ h))
  · exact .inl (.inr ⟨o, e _ _ h⟩)
  · exact .inr h
theorem Sq.same {K : PySem.W.Frag} {H H' : Hp} {a : Addr} {xs : List V} (h : Sq K H a xs) (e : Same H H') : Sq K H' a xs := h.imp (fun z => e.seq z) fun z => same_tup e z
theorem rix_of {K : PySem.W.Frag} {H : Hp} {p : Addr} {xs : List V} {z : Int} {j : Nat} {v : V} {Q : VK} (h : Sq K H p xs) (hz : z = (j : Int)) (hx : xs[j]? = some v) (q : Q v H) : rIx K (.ref p) (.int z) H Q :=
  h.elim (fun h => .inl ⟨p, xs, z, v, rfl, rfl, h, atI_at hz hx, q⟩) fun h => .inr (.inl ⟨p, xs, z, v, rfl, rfl, h, atI_at hz hx, q⟩)
theorem fits {n : Nat} (h : n ≤ 1000) : n < sizeLine := small1000 h
theorem strAt {ss : List Str} {i : Nat} (h : i < ss.length) : (ss.map V.str)[i]? = some (.str ss[i]) := by rw [List.getElem?_map, List.getElem?_eq_getElem h]; rfl
theorem in_strs (x : Str) (ss : List Str) : inV (.str x) (ss.map V.str) = decide (x ∈ ss) := by
  unfold inV
  rw [List.any_map]
  rw [Bool.eq_iff_iff, List.any_eq_true, decide_eq_true_iff]
  constructor
  · rintro ⟨y, hy, e⟩
    have e' : y = x := by simpa [eqV] using e
    exact e' ▸ hy
  · intro h
    exact ⟨x, h, by simp [eqV]⟩
theorem flat_strs (ss : List Str) : (ss.map V.str).all flatV = true := by
  rw [List.all_map, List.all_eq_true]
  intro y _
  rfl

/-! ### webs -/
noncomputable abbrev Row := Str × Str × Str
noncomputable def RowAt (H : Hp) (p : Addr) (r : Row) : Prop := H p = some (.tup [.str r.1, .str r.2.1, .str r.2.2])
noncomputable abbrev rrefs (rs : List (Addr × Row)) : List V := rs.map fun r => V.ref r.1
structure WebAt (H : Hp) (v pa ra : Addr) (ps : List Str) (rs : List (Addr × Row)) : Prop where
  tp : H v = some (.tup [.ref pa, .ref ra])
  pl : H pa = some (.tup (ps.map V.str))
  rl : H ra = some (.tup (rrefs rs))
  rows : ∀ r ∈ rs, RowAt H r.1 r.2
structure Good (ps : List Str) (rs : List Row) : Prop where
  ne : ps ≠ []
  nm : ∀ x ∈ ps, NameP x
  so : ps.Pairwise nlt
  rn : ∀ r ∈ rs, NameP r.1 ∧ r.2.1 ∈ ps ∧ r.2.2 ∈ ps ∧ r.2.1 ≠ r.2.2
  rso : (rs.map (·.1)).Pairwise nlt
  pz : ps.length ≤ 100
  rz : rs.length ≤ 60
theorem WebAt.same {H H' : Hp} {v pa ra : Addr} {ps : List Str} {rs : List (Addr × Row)} (h : WebAt H v pa ra ps rs) (e : Same H H') : WebAt H' v pa ra ps rs :=
  ⟨e _ _ h.tp, e _ _ h.pl, e _ _ h.rl, fun r hr => e _ _ (h.rows r hr)⟩

section
variable {P : Program} {w : World} {K : PySem.W.Frag} {mg : Str → Option Value} {base : Heap}

noncomputable def spRising (K : PySem.W.Frag) : Sp := fun vs H Q _ => ∃ (p : Addr) (ss : List Str), vs = [.ref p] ∧ Sq K H p (ss.map V.str) ∧ ss.Pairwise nlt ∧ ss.length ≤ 1000 ∧ ∀ H', Same H H' → Q (.bl true) H'
theorem sc7 : FnScope ["names"] ["names"] (defScope (top 7)) := ⟨rfl, rfl, rfl, by decide +kernel, rfl, by decide +kernel, by decide +kernel⟩
theorem ok_is_rising {f : Addr} {fd : FuncData} (F : Fun K "is_rising" "is_rising" (top 7) f fd) (B : Bl mg) : FnOk P w K mg base CX0 1 f fd ["names"] (spRising K) := by
  refine F.ok sc7 (fun vs H Q E h => ?_) (fun cdv A outer s H vs Q E hr h => ?_)
  · obtain ⟨p, ss, rfl, _⟩ := h
    rfl
  · obtain ⟨p, ss, rfl, hq, hp, hz, k⟩ := h
    refine ⟨_, pss_one (ps_ret (pe_callB (call_allB rfl) rfl B.all b_all (pa_cons (pe_lc (N := ["at", "names"]) (ix := [none, some 0]) ⟨rfl, rfl, rfl, by decide⟩ rfl
      (pi_range2 rfl B.range (pa_cons pe_int (pa_cons (pe_callB call_len_seq rfl B.len PySem.boot_len (pa_cons (pv 0) pa_nil)) pa_nil))) (fun _ _ _ _ => pg_lc 0 (by decide) rfl rfl) (fun _ _ _ _ => pts_nil)
      (fun _ _ _ _ => pe_cmpR op_lt_str (pe_ix (ix_seqK K) (pv 1) (pe_op op_sub (pv 0) pe_int) (fun _ _ => rfl)) (pe_ix (ix_seqK K) (pv 1) (pv 0) (fun _ _ => rfl)) (nomark _))) pa_nil))), ?_⟩
    have hz' : (ss.map V.str).length ≤ 1000 := by simpa using hz
    refine ⟨_, rfl, p, ss.map V.str, rfl, hq, 1, _, rfl, ⟨by decide, by decide, by omega, by omega⟩, lcw_range0 (fits (by omega)) (fun i ys σ H1 => ys = List.replicate i (.bl true) ∧ Same H H1 ∧ ∃ v, σ = [v, some (.ref p)])
      ⟨rfl, Same.refl _, _, rfl⟩ (fun i ys σ H1 _ q => by rw [q.1]; simp) ?_ ?_⟩
    · rintro i ys σ H1 hi ⟨rfl, hs, v, rfl⟩
      have hl : i + 1 < ss.length := by rw [List.length_map] at hi; omega
      refine ⟨_, rfl, _, rfl, _, _, rfl, rfl, rix_of (j := i) (hq.same hs) (by omega) (strAt (by omega)) ⟨_, rfl, _, rfl, rix_of (j := i + 1) (hq.same hs) (by push_cast; omega) (strAt hl) ⟨_, _, rfl, rfl, ?_, hs, _, rfl⟩⟩⟩
      have e : ss[i].cps.toList < ss[i + 1].cps.toList := List.pairwise_iff_getElem.mp hp i (i + 1) (by omega) hl (by omega)
      show _ ++ [V.bl (decide (ss[i].cps.toList < ss[i + 1].cps.toList))] = _
      rw [decide_eq_true e, List.replicate_succ']
    · rintro ys σ H1 ⟨rfl, hs, v, rfl⟩ q hqn
      refine ⟨q, List.replicate _ true, rfl, SqL.of (by rw [upd_same, List.map_replicate]), ?_⟩
      have e : ∀ n : Nat, (List.replicate n true).all id = true := by simp
      rw [e]
      exact k _ (same_upd hs hqn)

noncomputable def spSorted : Sp := fun vs H Q _ => ∃ (p : Addr) (ss : List Str), vs = [.ref p] ∧ H p = some (.tup (ss.map V.str)) ∧ (∀ x ∈ ss, NameP x) ∧ ss.Pairwise nlt ∧ ss.length ≤ 1000 ∧ ∀ H', Same H H' → Q (.bl true) H'
theorem sc8 : FnScope ["thing"] ["thing"] (defScope (top 8)) := ⟨rfl, rfl, rfl, by decide +kernel, rfl, by decide +kernel, by decide +kernel⟩
theorem ok_is_sorted {f : Addr} {fd : FuncData} (F : Fun K "is_sorted_names" "is_sorted_names" (top 8) f fd) (B : Bl mg) (F1 : Fn P w K mg base 1 "is_name" ["thing"] spName) (F2 : Fn P w K mg base 1 "is_rising" ["names"] (spRising K)) :
    FnOk P w K mg base CX0 2 f fd ["thing"] spSorted := by
  refine F.ok sc8 (fun vs H Q E h => ?_) (fun cdv A outer s H vs Q E hr h => ?_)
  · obtain ⟨p, ss, rfl, _⟩ := h
    rfl
  · obtain ⟨p, ss, rfl, hp, hn, hs, hz, k⟩ := h
    refine ⟨_, pss_cons (ps_if (pt_not (pt_val (pe_callB (call_isinst (T := "tuple")) rfl B.isinstance b_isinstance (pa_cons (pv 0) (pa_cons (pe_bltn (v := .ty "tuple") rfl B.tuple b_tuple rfl) pa_nil))))) (pss_one (ps_ret pe_bl)) pss_nil)
      (pss_one (ps_ret (pe_and (pe_callB (call_allB rfl) rfl B.all b_all (pa_cons (pe_lc (N := ["name"]) (ix := [none]) ⟨rfl, rfl, rfl, by decide⟩ rfl (pi_tup (pv 0)) (fun _ _ _ _ => pg_lc 0 (by decide) rfl rfl) (fun _ _ _ _ => pts_nil)
        (fun _ _ _ _ => pe_fn F1 hr (pa_cons (pv 0) pa_nil))) pa_nil)) (pe_one (pe_fn F2 hr (pa_cons (pv 0) pa_nil)))))), ?_⟩
    refine ⟨_, rfl, _, _, true, rfl, .tup hp, rfl, true, rfl, iteF ?_⟩
    refine ⟨_, rfl, p, rfl, ⟨_, SqT.of hp⟩, lcw_tup0 (xs := ss.map V.str) (fits (by simpa using hz)) (fun i ys σ H1 => ys = List.replicate i (.bl true) ∧ Same H H1 ∧ ∃ v, σ = [v]) ⟨rfl, Same.refl _, _, rfl⟩
      (fun i ys σ H1 _ q => ⟨by rw [q.1]; simp, same_tup q.2.1 (SqT.of hp)⟩) ?_ ?_⟩
    · rintro i x ys σ H1 hx ⟨rfl, hs1, v, rfl⟩
      obtain ⟨y, hy, rfl⟩ : ∃ y ∈ ss, x = V.str y := by
        obtain ⟨y, e1, e2⟩ := List.mem_map.mp (List.mem_of_getElem? hx)
        exact ⟨y, e1, e2.symm⟩
      exact ⟨_, rfl, y, rfl, hn y hy, fun H2 hs2 => ⟨by rw [List.replicate_succ'], hs1.trans hs2, _, rfl⟩⟩
    · rintro ys σ H1 ⟨rfl, hs1, v, rfl⟩ q hqn
      refine ⟨q, List.replicate _ true, rfl, SqL.of (by rw [upd_same, List.map_replicate]), _, rfl, ?_⟩
      have e : ∀ n : Nat, (List.replicate n true).all id = true := by simp
      rw [e]
      have hs2 := same_upd (o := .lst (List.replicate (ss.map V.str).length (.bl true))) hs1 hqn
      exact iteT ⟨_, rfl, p, ss, rfl, .inr (same_tup hs2 (SqT.of hp)), hs, hz, fun H3 hs3 => k _ (hs2.trans hs3)⟩

noncomputable def spAmong (K : PySem.W.Frag) : Sp := fun vs H Q _ => ∃ (x : Str) (p : Addr) (ss : List Str), vs = [.str x, .ref p] ∧ Sq K H p (ss.map V.str) ∧ Q (.bl (decide (x ∈ ss))) H
theorem sc9 : FnScope ["thing", "names"] ["thing", "names"] (defScope (top 9)) := ⟨rfl, rfl, rfl, by decide +kernel, rfl, by decide +kernel, by decide +kernel⟩
theorem ok_is_among {f : Addr} {fd : FuncData} (F : Fun K "is_among" "is_among" (top 9) f fd) (B : Bl mg) : FnOk P w K mg base CX0 1 f fd ["thing", "names"] (spAmong K) := by
  refine F.ok sc9 (fun vs H Q E h => ?_) (fun cdv A outer s H vs Q E hr h => ?_)
  · obtain ⟨x, p, ss, rfl, _⟩ := h
    rfl
  · obtain ⟨x, p, ss, rfl, hp, k⟩ := h
    refine ⟨_, pss_one (ps_ret (pe_and (pe_callB (call_isinst (T := "str")) rfl B.isinstance b_isinstance (pa_cons (pv 0) (pa_cons (pe_bltn (v := .ty "str") rfl B.str b_str rfl) pa_nil)))
      (pe_one (pe_cmpR op_in_seq (pv 0) (pv 1) (by with_unfolding_all rfl))))), ?_⟩
    refine ⟨_, rfl, _, _, true, rfl, .str x, rfl, true, rfl, iteT ⟨_, rfl, _, rfl, p, ss.map V.str, rfl, hp, rfl, flat_strs ss, ?_⟩⟩
    show Q (.bl (inV (.str x) (ss.map V.str))) H
    rw [in_strs]
    exact k

noncomputable def spTieRow : Sp := fun vs H Q _ => ∃ (p q : Addr) (r : Row) (ps : List Str), vs = [.ref p, .ref q] ∧ RowAt H p r ∧ H q = some (.tup (ps.map V.str)) ∧ NameP r.1 ∧ r.2.1 ∈ ps ∧ r.2.2 ∈ ps ∧ r.2.1 ≠ r.2.2 ∧ ∀ H', Same H H' → Q (.bl true) H'
theorem sc10 : FnScope ["thing", "places", "name", "start", "end"] ["thing", "places"] (defScope (top 10)) := ⟨rfl, rfl, rfl, by decide +kernel, rfl, by decide +kernel, by decide +kernel⟩
theorem ok_is_tie_row {f : Addr} {fd : FuncData} (F : Fun K "is_tie_row" "is_tie_row" (top 10) f fd) (B : Bl mg) (F1 : Fn P w K mg base 1 "is_name" ["thing"] spName) (F2 : Fn P w K mg base 1 "is_among" ["thing", "names"] (spAmong K)) :
    FnOk P w K mg base CX0 2 f fd ["thing", "places"] spTieRow := by
  refine F.ok sc10 (fun vs H Q E h => ?_) (fun cdv A outer s H vs Q E hr h => ?_)
  · obtain ⟨p, q, r, ps, rfl, _⟩ := h
    rfl
  · obtain ⟨p, q, r, ps, rfl, hp, hq, h1, h2, h3, h4, k⟩ := h
    have hp' : H p = some (.tup [.str r.1, .str r.2.1, .str r.2.2]) := hp
    refine ⟨_, pss_cons (ps_if (PW.pt (pw_or (pt_not (pt_val (pe_callB (call_isinst (T := "tuple")) rfl B.isinstance b_isinstance (pa_cons (pv 0) (pa_cons (pe_bltn (v := .ty "tuple") rfl B.tuple b_tuple rfl) pa_nil)))))
        (pw_or1 (pt_cmpR op_ne (pe_callB call_len_seq rfl B.len PySem.boot_len (pa_cons (pv 0) pa_nil)) pe_int (nomark _))))) (pss_one (ps_ret pe_bl)) pss_nil)
      (pss_cons (ps_asg (pv 0) (pg_tup rfl (n := 3) (pgs_cons (pg_name (i := 2) sc10.nd rfl (Or.inl rfl)) (pgs_cons (pg_name (i := 3) sc10.nd rfl (Or.inl rfl)) (pgs_cons (pg_name (i := 4) sc10.nd rfl (Or.inl rfl)) pgs_nil)))))
      (pss_one (ps_ret (pe_and (pe_fn F1 hr (pa_cons (pv 2) pa_nil)) (pe_and (pe_fn F2 hr (pa_cons (pv 3) (pa_cons (pv 1) pa_nil))) (pe_and (pe_fn F2 hr (pa_cons (pv 4) (pa_cons (pv 1) pa_nil))) (pe_one (pe_cmpR op_ne (pv 3) (pv 4) (nomark _))))))))), ?_⟩
    refine ⟨_, rfl, _, _, true, rfl, .tup hp', rfl, true, rfl, iteF ⟨_, rfl, p, _, rfl, .inr (SqT.of hp'), rfl, _, rfl, iteNS rfl ?_⟩⟩
    refine ⟨_, rfl, p, _, rfl, SqT.of hp', rfl, _, _, rfl, _, _, rfl, _, _, rfl, rfl, ?_⟩
    refine ⟨_, rfl, r.1, rfl, h1, fun H1 s1 => ⟨true, rfl, iteT ⟨_, rfl, _, rfl, r.2.1, q, ps, rfl, .inr (same_tup s1 (SqT.of hq)), _, rfl, iteD h2 ⟨_, rfl, _, rfl, r.2.2, q, ps, rfl, .inr (same_tup s1 (SqT.of hq)), _, rfl, iteD h3 ⟨_, rfl, _, rfl, rfl, ?_⟩⟩⟩⟩⟩
    have e : (!decide (V.str r.2.1 = V.str r.2.2)) = true := by
      rw [decide_eq_false (fun z => h4 (V.str.inj z))]; rfl
    rw [e]
    exact k H1 s1
end
end K23

set_option Elab.async false
set_option linter.all false
set_option maxRecDepth 100000
set_option maxHeartbeats 4000000
namespace K23
open PySem L2

theorem take_map_succ {α β : Type} (f : α → β) (l : List α) (i : Nat) (x : α) (h : l[i]? = some x) : (l.take (i + 1)).map f = (l.take i).map f ++ [f x] := by
  rw [List.take_add_one, h]; simp
theorem rowAt_get {rs : List (Addr × Row)} {i : Nat} {x : V} (h : (rrefs rs)[i]? = some x) : ∃ r, rs[i]? = some r ∧ x = .ref r.1 := by
  unfold rrefs at h
  rw [List.getElem?_map] at h
  cases e : rs[i]? with
  | none => rw [e] at h; cases h
  | some r => rw [e] at h; exact ⟨r, rfl, (Option.some.inj h).symm⟩
section
variable {P : Program} {w : World} {K : PySem.W.Frag} {mg : Str → Option Value} {base : Heap}

noncomputable def spWeb (r : V) : Sp := fun vs H Q _ => ∃ (v pa ra : Addr) (ps : List Str) (rs : List (Addr × Row)), vs = [.ref v] ∧ WebAt H v pa ra ps rs ∧ Good ps (rs.map (·.2)) ∧ ∀ H', Same H H' → Q r H'
theorem sc11 : FnScope ["thing", "places", "rows"] ["thing"] (defScope (top 11)) := ⟨rfl, rfl, rfl, by decide +kernel, rfl, by decide +kernel, by decide +kernel⟩
theorem ok_is_web {f : Addr} {fd : FuncData} (F : Fun K "is_web" "is_web" (top 11) f fd) (B : Bl mg) (F1 : Fn P w K mg base 2 "is_sorted_names" ["thing"] spSorted) (F2 : Fn P w K mg base 2 "is_tie_row" ["thing", "places"] spTieRow)
    (F3 : Fn P w K mg base 1 "is_rising" ["names"] (spRising K)) : FnOk P w K mg base CX0 3 f fd ["thing"] (spWeb (.bl true)) := by
  refine F.ok sc11 (fun vs H Q E h => ?_) (fun cdv A outer s H vs Q E hr h => ?_)
  · obtain ⟨v, pa, ra, ps, rs, rfl, _⟩ := h
    rfl
  · obtain ⟨v, pa, ra, ps, rs, rfl, W, G, k⟩ := h
    have hr1 : Room 1 _ := hr.mono (by decide)
    refine ⟨_, pss_cons (ps_if (PW.pt (pw_or (pt_not (pt_val (pe_callB (call_isinst (T := "tuple")) rfl B.isinstance b_isinstance (pa_cons (pv 0) (pa_cons (pe_bltn (v := .ty "tuple") rfl B.tuple b_tuple rfl) pa_nil)))))
        (pw_or1 (pt_cmpR op_ne (pe_callB call_len_seq rfl B.len PySem.boot_len (pa_cons (pv 0) pa_nil)) pe_int (nomark _))))) (pss_one (ps_ret pe_bl)) pss_nil)
      (pss_cons (ps_asg (pv 0) (pg_tup rfl (n := 2) (pgs_cons (pg_name (i := 1) sc11.nd rfl (Or.inr rfl)) (pgs_cons (pg_name (i := 2) sc11.nd rfl (Or.inl rfl)) pgs_nil))))
      (pss_cons (ps_if (PW.pt (pw_or (pt_not (pt_val (pe_fn F1 hr (pa_cons (pv 1) pa_nil)))) (pw_or (pt_cmpR op_eq (pe_callB call_len_seq rfl B.len PySem.boot_len (pa_cons (pv 1) pa_nil)) pe_int (nomark _))
        (pw_or1 (pt_not (pt_val (pe_callB (call_isinst (T := "tuple")) rfl B.isinstance b_isinstance (pa_cons (pv 2) (pa_cons (pe_bltn (v := .ty "tuple") rfl B.tuple b_tuple rfl) pa_nil))))))))) (pss_one (ps_ret pe_bl)) pss_nil)
      (pss_one (ps_ret (pe_and (pe_callB (call_allB rfl) rfl B.all b_all (pa_cons (pe_lc (N := ["row", "places"]) (ix := [none, some 1]) ⟨rfl, rfl, rfl, by decide⟩ rfl (pi_tup (pv 2)) (fun _ _ _ _ => pg_lc 0 (by decide) rfl rfl) (fun _ _ _ _ => pts_nil)
        (fun _ _ _ _ => pe_fn F2 hr (pa_cons (pv 0) (pa_cons (pv 1) pa_nil)))) pa_nil))
        (pe_one (pe_fn F3 hr1 (pa_cons (pe_lc (N := ["row"]) (ix := [none]) ⟨rfl, rfl, rfl, by decide⟩ rfl (pi_tup (pv 2)) (fun _ _ _ _ => pg_lc 0 (by decide) rfl rfl) (fun _ _ _ _ => pts_nil)
          (fun _ _ _ _ => pe_ix (ix_seqK K) (pv 0) pe_int (fun _ _ => rfl))) pa_nil)))))))), ?_⟩
    have hlen : (rrefs rs).length ≤ 1000 := by have := G.rz; simp at this ⊢; omega
    refine ⟨_, rfl, _, _, true, rfl, .tup W.tp, rfl, true, rfl, iteF ⟨_, rfl, v, _, rfl, .inr (SqT.of W.tp), rfl, _, rfl, iteNS rfl ?_⟩⟩
    refine ⟨_, rfl, v, _, rfl, SqT.of W.tp, rfl, _, _, rfl, _, _, rfl, rfl, ?_⟩
    refine ⟨_, rfl, pa, ps, rfl, W.pl, G.nm, G.so, by have := G.pz; omega, fun H1 s1 => ⟨true, rfl, iteF ?_⟩⟩
    refine ⟨_, rfl, pa, _, rfl, .inr (SqT.of (s1 _ _ W.pl)), rfl, _, rfl, iteDN ?_ ?_⟩
    · intro z
      have z' : ((ps.map V.str).length : Int) = 0 := V.int.inj z
      have : ps.length ≠ 0 := fun q => G.ne (List.length_eq_zero_iff.mp q)
      rw [List.length_map] at z'
      omega
    refine ⟨_, rfl, _, _, true, rfl, .tup (s1 _ _ W.rl), rfl, true, rfl, iteF ?_⟩
    refine ⟨_, rfl, ra, rfl, ⟨_, SqT.of (s1 _ _ W.rl)⟩, lcw_tup0 (xs := rrefs rs) (fits hlen) (fun i ys σ H2 => ys = List.replicate i (.bl true) ∧ Same H H2 ∧ ∃ x, σ = [x, some (.ref pa)]) ⟨rfl, s1, _, rfl⟩
      (fun i ys σ H2 _ q => ⟨by rw [q.1]; simp, SqT.of (q.2.1 _ _ W.rl)⟩) ?_ ?_⟩
    · rintro i x ys σ H2 hx ⟨rfl, s2, y, rfl⟩
      obtain ⟨r, hr', rfl⟩ := rowAt_get hx
      have hm := List.mem_of_getElem? hr'
      obtain ⟨g1, g2, g3, g4⟩ := G.rn r.2 (List.mem_map_of_mem hm)
      exact ⟨_, rfl, _, rfl, r.1, pa, r.2, ps, rfl, s2 _ _ (W.rows r hm), s2 _ _ W.pl, g1, g2, g3, g4, fun H3 s3 => ⟨by rw [List.replicate_succ'], s2.trans s3, _, rfl⟩⟩
    · rintro ys σ H2 ⟨rfl, s2, y, rfl⟩ q hqn
      have s3 := same_upd (o := .lst (List.replicate (rrefs rs).length (.bl true))) s2 hqn
      refine ⟨q, List.replicate _ true, rfl, SqL.of (by rw [upd_same, List.map_replicate]), _, rfl, ?_⟩
      have e : ∀ n : Nat, (List.replicate n true).all id = true := by simp
      rw [e]
      refine iteT ⟨_, rfl, ra, rfl, ⟨_, SqT.of (s3 _ _ W.rl)⟩, lcw_tup0 (xs := rrefs rs) (fits hlen) (fun i ys σ H4 => ys = ((rs.take i).map fun r => V.str r.2.1) ∧ Same H H4 ∧ ∃ x, σ = [x]) ⟨rfl, s3, _, rfl⟩
        (fun i ys σ H4 _ q => ⟨by rw [q.1]; simp; omega, SqT.of (q.2.1 _ _ W.rl)⟩) ?_ ?_⟩
      · rintro i x ys σ H4 hx ⟨rfl, s4, z, rfl⟩
        obtain ⟨r, hr', rfl⟩ := rowAt_get hx
        have hm := List.mem_of_getElem? hr'
        exact ⟨_, rfl, rix_of (j := 0) (.inr (SqT.of (s4 _ _ (W.rows r hm)))) rfl rfl ⟨(take_map_succ _ _ _ _ hr').symm, s4, _, rfl⟩⟩
      · rintro ys σ H4 ⟨rfl, s4, z, rfl⟩ q2 hq2
        refine ⟨q2, rs.map (·.2.1), rfl, .inl (SqL.of (by rw [upd_same]; simp)), ?_, by simpa using hlen, fun H5 s5 => k _ ((same_upd s4 hq2).trans s5)⟩
        have := G.rso
        rw [List.map_map] at this
        exact this
end
end K23

set_option Elab.async false
set_option linter.all false
set_option maxRecDepth 100000
set_option maxHeartbeats 4000000
namespace K23
open PySem L2

theorem take_filter_succ {α : Type} (p : α → Bool) (l : List α) (i : Nat) (x : α) (h : l[i]? = some x) : (l.take (i + 1)).filter p = (l.take i).filter p ++ (if p x then [x] else []) := by
  rw [List.take_add_one, h, List.filter_append]
  simp only [Option.toList_some, List.filter_cons, List.filter_nil]
theorem take_all {α : Type} (l : List α) {n : Nat} (h : n = l.length) : l.take n = l := by subst h; exact List.take_length
noncomputable abbrev nms (rs : List (Addr × Row)) : List Str := rs.map (·.2.1)
theorem perm_lift {α β : Type} (f : α → β) : ∀ (l' : List β) (l : List α), l'.Perm (l.map f) → ∃ l'' : List α, l''.Perm l ∧ l''.map f = l'
  | [], l, h => by
    have : l = [] := by simpa using h.length_eq.symm
    subst this
    exact ⟨[], .refl _, rfl⟩
  | b :: t, l, h => by
    obtain ⟨a, ha, rfl⟩ := List.mem_map.mp (h.mem_iff.mp List.mem_cons_self)
    obtain ⟨u, v, rfl⟩ := List.append_of_mem ha
    have h2 : (f a :: t).Perm (f a :: (u ++ v).map f) := by
      refine h.trans ?_
      rw [List.map_append, List.map_cons, List.map_append]
      exact List.perm_middle
    obtain ⟨w, hw, e⟩ := perm_lift f t (u ++ v) h2.cons_inv
    exact ⟨a :: w, (hw.cons a).trans List.perm_middle.symm, by rw [List.map_cons, e]⟩
structure LotP (ps ls : List Str) : Prop where
  ne : ls ≠ []
  nm : ∀ x ∈ ls, NameP x
  so : ls.Pairwise nlt
  sub : ∀ x ∈ ls, x ∈ ps
  z : ls.length ≤ 100
theorem pw_nodup {ss : List Str} (h : ss.Pairwise nlt) : ss.Nodup := h.imp fun {a b} hab e => by
  subst e; exact absurd hab (List.lt_irrefl _)
theorem key_refs (rs : List (Addr × Row)) : refs (rs.map fun r => (r.1, r.2.1)) = rrefs rs := by
  unfold refs rrefs
  rw [List.map_map]
  rfl
theorem pg_tupK (K : PySem.W.Frag) {X : Cx} {es : List Expr} {k : Nat} {t : TGs} {n : Nat} {pos : Pos} (hc : X.calm = true) (h : PGs X es t) (hK : X.K = K := by rfl) (hn : (assignEach es X.env).length = n := by rfl) (hst : (assignEach es X.env).findIdx? (·.1) = none := by rfl) :
    PG X (.Tuple es k pos) (gTup K n t) := by subst hK; exact pg_tup hc h hn hst
section
variable {P : Program} {w : World} {K : PySem.W.Frag} {mg : Str → Option Value} {base : Heap}

theorem sc13 : FnScope ["thing"] ["thing"] (defScope (top 13)) := ⟨rfl, rfl, rfl, by decide +kernel, rfl, by decide +kernel, by decide +kernel⟩
theorem ok_need_web {f : Addr} {fd : FuncData} (F : Fun K "need_web" "need_web" (top 13) f fd) (F1 : Fn P w K mg base 3 "is_web" ["thing"] (spWeb (.bl true))) : FnOk P w K mg base CX0 4 f fd ["thing"] (spWeb .non) := by
  refine F.ok sc13 (fun vs H Q E h => ?_) (fun cdv A outer s H vs Q E hr h => ?_)
  · obtain ⟨v, pa, ra, ps, rs, rfl, _⟩ := h
    rfl
  · obtain ⟨v, pa, ra, ps, rs, rfl, W, G, k⟩ := h
    refine ⟨_, pss_one (ps_if (pt_not (pt_val (pe_fn F1 hr (pa_cons (pv 0) pa_nil)))) pss_never pss_nil), ?_⟩
    exact ⟨_, rfl, v, pa, ra, ps, rs, rfl, W, G, fun H1 s1 => ⟨true, rfl, iteF (k H1 s1)⟩⟩

noncomputable def spNeedPlace : Sp := fun vs H Q _ => ∃ (v pa ra : Addr) (ps : List Str) (rs : List (Addr × Row)) (x : Str), vs = [.ref v, .str x] ∧ WebAt H v pa ra ps rs ∧ x ∈ ps ∧ Q .non H
theorem sc14 : FnScope ["web", "thing"] ["web", "thing"] (defScope (top 14)) := ⟨rfl, rfl, rfl, by decide +kernel, rfl, by decide +kernel, by decide +kernel⟩
theorem ok_need_place {f : Addr} {fd : FuncData} (F : Fun K "need_place" "need_place" (top 14) f fd) (F1 : Fn P w K mg base 1 "is_among" ["thing", "names"] (spAmong K)) : FnOk P w K mg base CX0 2 f fd ["web", "thing"] spNeedPlace := by
  refine F.ok sc14 (fun vs H Q E h => ?_) (fun cdv A outer s H vs Q E hr h => ?_)
  · obtain ⟨v, pa, ra, ps, rs, x, rfl, _⟩ := h
    rfl
  · obtain ⟨v, pa, ra, ps, rs, x, rfl, W, hx, k⟩ := h
    refine ⟨_, pss_one (ps_if (pt_not (pt_val (pe_fn F1 hr (pa_cons (pv 1) (pa_cons (pe_ix ix_seq (pv 0) pe_int (fun _ _ => rfl)) pa_nil))))) pss_never pss_nil), ?_⟩
    exact ⟨_, rfl, _, rfl, rix_of (j := 0) (.inr (SqT.of W.tp)) rfl rfl ⟨x, pa, ps, rfl, .inr (SqT.of W.pl), _, rfl, iteNS hx k⟩⟩


end
end K23

set_option Elab.async false
set_option linter.all false
set_option maxRecDepth 100000
set_option maxHeartbeats 4000000
namespace K23
open PySem L2
noncomputable def Pot (H : Hp) (p : Addr) : Prop := ∃ a b, H p = some (.lst [.int a, .int b]) ∧ 0 ≤ b ∧ b < 2147483648
/-- all that was tracked but these is as it was -/
noncomputable def Kp (P : List Addr) (H H' : Hp) : Prop := ∀ b o, H b = some o → b ∉ P → H' b = some o
theorem Kp.refl (P : List Addr) (H : Hp) : Kp P H H := fun _ _ h _ => h
theorem Kp.trans {P : List Addr} {H H1 H2 : Hp} (a : Kp P H H1) (b : Kp P H1 H2) : Kp P H H2 := fun c o h n => b c o (a c o h n) n
theorem Kp.of_same {P : List Addr} {H H1 H2 : Hp} (a : Kp P H H1) (b : Same H1 H2) : Kp P H H2 := fun c o h n => b c o (a c o h n)
theorem Kp.inn {P : List Addr} {H H1 : Hp} {p : Addr} {o : HO} (a : Kp P H H1) (hp : p ∈ P) : Kp P H (upd H1 p o) := fun c ob h n => by rw [upd_ne (show c ≠ p from fun z => n (by rw [z]; exact hp))]; exact a c ob h n
theorem Kp.new {P : List Addr} {H H1 : Hp} {p : Addr} {o : HO} (a : Kp P H H1) (hp : H1 p = none) : Kp P H (upd H1 p o) := fun c ob h n => by rw [upd_ne (ne_of_none (a c ob h n) hp)]; exact a c ob h n
noncomputable def letters : Str := Str.ofString "abcdefghijklmnopqrstuvwxyz"
theorem letters_fin : ∀ r : _root_.Fin 26, letters.cps.toList[r.val]? = some (97 + r.val) := by decide +kernel
theorem letters_at {r : Nat} (h : r < 26) : letters.cps.toList[r]? = some (97 + r) := letters_fin ⟨r, h⟩
theorem letters_fits : letters.length ≤ sizeLine := by decide
theorem join_one (cs : List Nat) : (Txt.join (Str.ofString "") (cs.map fun c => (⟨#[c]⟩ : Str))).cps.toList = cs := by
  have e0 : (Str.ofString "").cps = #[] := by decide
  show (Builtin.Str.glued (Str.ofString "") _).cps.toList = cs
  rw [StrLaws.glued_eq_join]
  induction cs with
  | nil => rfl
  | cons c t ih =>
    cases t with
    | nil => rfl
    | cons d r =>
      show (((⟨#[c]⟩ : Str) ++ Str.ofString "" ++ Str.join (Str.ofString "") ((d :: r).map fun c => (⟨#[c]⟩ : Str))).cps).toList = _
      rw [Str.cps_append, Str.cps_append, e0, Array.toList_append, Array.toList_append, ih]
      rfl
theorem NameP.of_codes {x : Str} {l : List Nat} (e : x.cps.toList = l) (h1 : 1 ≤ l.length) (h8 : l.length ≤ 8) (h : ∀ c ∈ l, 97 ≤ c ∧ c ≤ 122) : NameP x := by
  have hl : x.length = l.length := by rw [← e]; simp [Str.length]
  exact ⟨by omega, by omega, by rw [e]; exact h⟩
theorem rising_pw : ∀ (r : List Str) (x : Str), PyProof.Rows.risingS x r = true → (x :: r).Nodup → (x :: r).Pairwise nlt
  | [], x, _, _ => by simp
  | y :: r, x, h, hn => by
    have h' : (!PySem.Spec.ltCps y.cps.toList x.cps.toList && PyProof.Rows.risingS y r) = true := h
    rw [Bool.and_eq_true, PyProof.Rows.ltCps_eq] at h'
    have hn' := List.nodup_cons.mp hn
    have ih := rising_pw r y h'.2 hn'.2
    have hxy : nlt x y := by
      rcases str_tri (fun e => hn'.1 (e ▸ List.mem_cons_self) : x ≠ y) with z | z
      · exact z
      · rw [decide_eq_true z] at h'
        exact absurd h'.1 (by simp)
    refine List.pairwise_cons.mpr ⟨fun z hz => ?_, ih⟩
    rcases List.mem_cons.mp hz with rfl | hz
    · exact hxy
    · exact List.lt_trans hxy ((List.pairwise_cons.mp ih).1 z hz)
theorem sorted_pw {ss : List Str} (h : PyProof.Rows.sortedS ss = true) (hn : ss.Nodup) : ss.Pairwise nlt := by
  cases ss with
  | nil => exact .nil
  | cons x r => exact rising_pw r x h hn
theorem Kp.free {P : List Addr} {H H' : Hp} (k : Kp P H H') (hP : ∀ b ∈ P, ∃ o, H' b = some o) {q : Addr} (hq : H' q = none) : H q = none := by
  cases e : H q with
  | none => rfl
  | some o =>
    by_cases hm : q ∈ P
    · obtain ⟨o', e'⟩ := hP q hm
      rw [hq] at e'; cases e'
    · rw [k q o e hm] at hq; cases hq
theorem Pot.some {H : Hp} {p : Addr} (h : Pot H p) : ∃ o, H p = some o := let ⟨a, b, e, _⟩ := h; ⟨_, e⟩
theorem Pot.keep {H H' : Hp} {p : Addr} (h : Pot H p) (e : ∀ o, H p = Option.some o → H' p = Option.some o) : Pot H' p := let ⟨a, b, q, r⟩ := h; ⟨a, b, e _ q, r⟩
theorem tup_ne {H : Hp} {a b : Addr} {xs ys : List V} (h1 : H a = some (.tup xs)) (h2 : H b = some (.lst ys)) : a ≠ b := ne_of h1 h2 (by intro z; cases z)
theorem tup_kp {H H' : Hp} {P : List Addr} {b : Addr} {xs : List V} (k : Kp P H H') (hP : ∀ c ∈ P, ∃ ys, H c = some (.lst ys)) (e : H b = some (.tup xs)) : H' b = some (.tup xs) :=
  k b _ e fun hb => by
    obtain ⟨ys, e'⟩ := hP b hb
    exact tup_ne e e' rfl
theorem Pot.lst {H : Hp} {p : Addr} (h : Pot H p) : ∃ ys, H p = Option.some (HO.lst ys) := let ⟨a, b, e, _⟩ := h; ⟨_, e⟩
theorem strOk_of {x : Str} (h : NameP x) : PyData.strOk x = true := by
  unfold PyData.strOk
  rw [Array.all_eq_true']
  intro c hc
  have := h.az c (by simpa using hc)
  simp; omega
theorem lay_strs {ss : List Str} (h : ∀ x ∈ ss, NameP x) : PyData.canLayAll0 (ss.map PyData.str) = true ∧ PyData.depthAll (ss.map PyData.str) = 0 := by
  induction ss with
  | nil => exact ⟨rfl, rfl⟩
  | cons x t ih =>
    have := ih fun y hy => h y (List.mem_cons_of_mem _ hy)
    rw [List.map_cons]
    simp only [PyData.canLayAll0, PyData.canLay0, PyData.depthAll, PyData.depth, strOk_of (h x List.mem_cons_self), this.1, this.2]
    exact ⟨rfl, rfl⟩
theorem shaped_strs {ss : List Str} (h : ∀ x ∈ ss, NameP x) : SeqAt.shaped (.list (ss.map PyData.str)) = true ∧ SeqAt.shaped (.tuple (ss.map PyData.str)) = true := by
  have q := lay_strs h
  unfold SeqAt.shaped
  simp only [PyData.canLay0, PyData.depth, q.1, q.2]
  exact ⟨by decide, by decide⟩
theorem eqvAll_strs : ∀ (a b : List Str), PyData.eqvAll (a.map PyData.str) (b.map PyData.str) = decide (a = b)
  | [], [] => by simp [PyData.eqvAll]
  | [], y :: t => by simp [PyData.eqvAll]
  | x :: s, [] => by simp [PyData.eqvAll]
  | x :: s, y :: t => by
    simp only [List.map_cons, PyData.eqvAll, PyData.eqv, eqvAll_strs s t]
    rw [Bool.eq_iff_iff]
    simp

theorem Pot.ne_new {H : Hp} {p q : Addr} (h : Pot H p) (hq : H q = none) : q ≠ p := fun z => by obtain ⟨o, e⟩ := h.some; rw [← z, hq] at e; cases e
theorem Pot.upd {H : Hp} {p q : Addr} {o : HO} (h : Pot H p) (hq : q ≠ p) : Pot (upd H q o) p := h.keep fun ob e => by rw [upd_ne hq.symm]; exact e
theorem Pot.new {H : Hp} {p q : Addr} {o : HO} (h : Pot H p) (hq : H q = none) : Pot (L2.upd H q o) p := h.upd (h.ne_new hq)
theorem Kp.free1 {p q : Addr} {H H1 : Hp} (k : Kp [p] H H1) (hp : Pot H1 p) (hq : H1 q = none) : H q = none := k.free (fun b hb => by
  have e : b = p := by simpa using hb
  subst e; exact hp.some) hq
/-- what is no list stays -/
theorem Kp.tup {p b : Addr} {H H1 : Hp} {xs : List V} (k : Kp [p] H H1) (hp : Pot H p) (e : H b = some (.tup xs)) : H1 b = some (.tup xs) := tup_kp k (fun c hc => by
  have e : c = p := by simpa using hc
  subst e; exact hp.lst) e
theorem Kp.at {p b : Addr} {H H1 : Hp} {o : HO} (k : Kp [p] H H1) (hb : b ≠ p) (e : H b = some o) : H1 b = some o := k _ _ e (by simpa using hb)
section
variable {P : Program} {w : World} {K : PySem.W.Frag} {mg : Str → Option Value} {base : Heap}

end
end K23

set_option Elab.async false
set_option linter.all false
set_option maxRecDepth 100000
set_option maxHeartbeats 4000000
namespace K23
open PySem L2
theorem b_abs : bootBuiltins "abs" = some (.builtin "abs") := by decide +kernel
section
variable {P : Program} {w : World} {K : PySem.W.Frag} {mg : Str → Option Value} {base : Heap}
noncomputable def spCell (K : PySem.W.Frag) : Sp := fun vs H Q _ => ∃ (a : Addr) (ns : List Int) (k : Int), vs = [.ref a, .int k] ∧ SqL K H a (ns.map V.int) ∧ 0 ≤ k ∧ ∀ c, Q (.int c) H
theorem sc31 : FnScope ["_law_script", "_law_k"] ["_law_script", "_law_k"] (defScope (top 31)) := ⟨rfl, rfl, rfl, by decide +kernel, rfl, by decide +kernel, by decide +kernel⟩
theorem ok_cell {f : Addr} {fd : FuncData} (F : Fun K "_law_cell" "_law_cell" (top 31) f fd) (B : Bl mg) : FnOk P w K mg base CX0 1 f fd ["_law_script", "_law_k"] (spCell K) := by
  refine F.ok sc31 (fun vs H Q E h => ?_) (fun cdv A outer s H vs Q E hr h => ?_)
  · obtain ⟨a, ns, k, rfl, _⟩ := h
    rfl
  · obtain ⟨a, ns, k, rfl, ha, hk, q⟩ := h
    refine ⟨_, pss_cons (ps_if (pt_cmpR op_lt (pv 1) (pe_callB call_len_seq rfl B.len PySem.boot_len (pa_cons (pv 0) pa_nil)) (nomark _)) (pss_one (ps_ret (pe_ix ix_seq (pv 0) (pv 1) (fun _ _ => rfl)))) pss_nil) (pss_one (ps_ret pe_int)), ?_⟩
    refine ⟨_, rfl, _, rfl, a, _, rfl, .inl ha, _, _, rfl, rfl, _, rfl, ?_⟩
    refine ite2 (fun c => ?_) (fun c => q 0)
    have c' : k < ((ns.map V.int).length : Int) := of_decide_eq_true c
    rw [List.length_map] at c'
    have hl : k.toNat < ns.length := by omega
    exact ⟨_, rfl, _, rfl, rix_of (j := k.toNat) (v := .int ns[k.toNat]) (.inl ha) (by omega) (by rw [List.getElem?_map, List.getElem?_eq_getElem hl]; rfl) (q _)⟩
noncomputable def spPot : Sp := fun vs H Q _ => ∃ c : Int, vs = [.int c] ∧ ∀ q H', Same H H' → H q = none → Pot H' q → Q (.ref q) H'
theorem sc32 : FnScope ["_law_cell_here"] ["_law_cell_here"] (defScope (top 32)) := ⟨rfl, rfl, rfl, by decide +kernel, rfl, by decide +kernel, by decide +kernel⟩
theorem ok_pot {f : Addr} {fd : FuncData} (F : Fun K "_law_pot" "_law_pot" (top 32) f fd) (B : Bl mg) : FnOk P w K mg base CX0 1 f fd ["_law_cell_here"] spPot := by
  refine F.ok sc32 (fun vs H Q E h => ?_) (fun cdv A outer s H vs Q E hr h => ?_)
  · obtain ⟨c, rfl, _⟩ := h
    rfl
  · obtain ⟨c, rfl, q⟩ := h
    refine ⟨_, pss_one (ps_ret (pe_lst (pa_cons (pe_callB (call_max2 rfl) rfl B.max b_max (pa_cons pe_int (pa_cons (pe_op op_sub (pe_callB call_absI rfl B.abs b_abs (pa_cons (pv 0) pa_nil)) (pe_op op_pow pe_int pe_int)) pa_nil)))
        (pa_cons (pe_op op_add (pe_op op_mod (pe_callB call_absI rfl B.abs b_abs (pa_cons (pv 0) pa_nil)) pe_int) pe_int) pa_nil)))), ?_⟩
    refine ⟨_, rfl, _, rfl, _, _, rfl, rfl, ⟨by decide, by decide, by decide⟩, _, _, rfl, rfl, _, _, rfl, ?_⟩
    refine ⟨_, rfl, _, rfl, _, _, rfl, rfl, by show (0 : Int) < 2147483629; decide, _, _, rfl, rfl, by show 2 ≤ sizeLine; decide, fun l hl => ?_⟩
    have m0 := Int.emod_nonneg (if c < 0 then -c else c) (show (2147483629 : Int) ≠ 0 by decide)
    have m1 := Int.emod_lt_of_pos (if c < 0 then -c else c) (show (0 : Int) < 2147483629 by decide)
    exact q l _ (same_upd (Same.refl _) hl) hl ⟨_, _, upd_same, by omega, by omega⟩
noncomputable def spTake : Sp := fun vs H Q _ => ∃ (p : Addr) (n : Int), vs = [.ref p, .int n] ∧ Pot H p ∧ 0 < n ∧ n < 1000 ∧ ∀ r H', 0 ≤ r → r < n → Pot H' p → Kp [p] H H' → Q (.int r) H'
theorem sc33 : FnScope ["_law_pot_here", "_law_many", "_law_digit"] ["_law_pot_here", "_law_many"] (defScope (top 33)) := ⟨rfl, rfl, rfl, by decide +kernel, rfl, by decide +kernel, by decide +kernel⟩
theorem ok_draw {f : Addr} {fd : FuncData} (F : Fun K "_law_draw" "_law_draw" (top 33) f fd) (B : Bl mg) : FnOk P w K mg base CX0 1 f fd ["_law_pot_here", "_law_many"] spTake := by
  refine F.ok sc33 (fun vs H Q E h => ?_) (fun cdv A outer s H vs Q E hr h => ?_)
  · obtain ⟨p, n, rfl, _⟩ := h
    rfl
  · obtain ⟨p, n, rfl, ⟨a, b, hp, hb0, hb1⟩, hn, hn2, k⟩ := h
    refine ⟨_, pss_cons (ps_if (pt_cmpR op_gt (pe_ix ix_seq (pv 0) pe_int (fun _ _ => rfl)) pe_int (nomark _))
        (pss_cons (ps_asg (pe_callB call_divmod rfl B.divmod b_divmod (pa_cons (pe_ix ix_seq (pv 0) pe_int (fun _ _ => rfl)) (pa_cons (pv 1) pa_nil))) (pg_tup rfl (n := 2) (pgs_cons (pg_sub (pv 0) pe_int set_list) (pgs_cons (pg_name (i := 2) sc33.nd rfl (Or.inl rfl)) pgs_nil))))
          (pss_one (ps_ret (pv 2)))) pss_nil)
      (pss_cons (ps_asg (pe_op op_mod (pe_op op_add (pe_op op_mul (pe_ix ix_seq (pv 0) pe_int (fun _ _ => rfl)) pe_int) pe_int) pe_int) (pg_sub (pv 0) pe_int set_list))
      (pss_one (ps_ret (pe_op op_mod (pe_op op_fdiv (pe_op op_mod (pe_op op_mul (pe_ix ix_seq (pv 0) pe_int (fun _ _ => rfl)) (pe_ix ix_seq (pv 0) pe_int (fun _ _ => rfl))) pe_int) pe_int) (pv 1))))), ?_⟩
    have hS : Sq K H p [.int a, .int b] := .inl (SqL.of hp)
    refine ⟨_, rfl, rix_of (j := 0) hS rfl rfl ⟨_, _, rfl, rfl, _, rfl, ?_⟩⟩
    refine ite2 (fun c => ?_) (fun c => ?_)
    · refine ⟨_, rfl, rix_of (j := 0) hS rfl rfl ⟨_, rfl, _, _, rfl, ⟨hn, by omega⟩, fun t ht => ?_⟩⟩
      have ntp : p ≠ t := ne_of_none hp ht
      refine ⟨t, _, rfl, SqT.of upd_same, rfl, _, _, rfl, _, rfl, p, [.int a, .int b], _, 0, rfl, rfl, by rw [upd_ne ntp]; exact hp, rfl, ?_⟩
      refine ⟨_, _, rfl, rfl, _, rfl, k _ _ (Int.emod_nonneg _ (by omega)) (Int.emod_lt_of_pos _ hn) ⟨_, _, upd_same, hb0, hb1⟩ (((Kp.refl _ _).new ht).inn (by simp))⟩
    · refine ⟨_, rfl, rix_of (j := 1) hS rfl rfl ⟨_, _, rfl, rfl, .inl ⟨by omega, by omega⟩, _, _, rfl, rfl, _, _, rfl, rfl, by show (0 : Int) < 2147483647; decide, _, rfl, p, [.int a, .int b], _, 1, rfl, rfl, hp, rfl, ?_⟩⟩
      have m0 : 0 ≤ (b * 48271 + 11) % 2147483647 := Int.emod_nonneg _ (by decide)
      have m1 : (b * 48271 + 11) % 2147483647 < 2147483647 := Int.emod_lt_of_pos _ (by decide)
      have hS2 : Sq K (upd H p (.lst ([V.int a, V.int b].set 1 (.int ((b * 48271 + 11) % 2147483647))))) p [.int a, .int ((b * 48271 + 11) % 2147483647)] := .inl (SqL.of upd_same)
      refine ⟨_, rfl, rix_of (j := 1) hS2 rfl rfl ⟨_, rfl, rix_of (j := 1) hS2 rfl rfl ⟨_, _, rfl, rfl, .inl ⟨by omega, by omega⟩, _, _, rfl, rfl, by show (0 : Int) < 2147483629; decide, _, _, rfl, rfl, ⟨by decide, by decide⟩, _, rfl, _, _, rfl, rfl, hn, ?_⟩⟩⟩
      exact k _ _ (Int.emod_nonneg _ (by omega)) (Int.emod_lt_of_pos _ hn) ⟨_, _, upd_same, m0, by omega⟩ ((Kp.refl _ _).inn (by simp))
end
end K23

set_option Elab.async false
set_option linter.all false
set_option maxRecDepth 100000
set_option maxHeartbeats 4000000
namespace K23
open PySem L2
noncomputable def tlc (b : Nat) (pl : Bool) (j : Nat) : List Nat := if pl = true then [97 + (b + 5 * j) % 26] else [97 + (b + 7 * j) % 26, 97 + j / 26]
theorem tlc_len (b : Nat) (pl : Bool) (j : Nat) : (tlc b pl j).length = if pl = true then 1 else 2 := by unfold tlc; split <;> rfl
theorem tlc_mem (b : Nat) (pl : Bool) {j : Nat} (hj : j < 60) : ∀ c ∈ tlc b pl j, 97 ≤ c ∧ c ≤ 122 := by
  intro c hc
  unfold tlc at hc
  split at hc
  · simp at hc; omega
  · simp at hc; omega
theorem tlc_inj {b : Nat} {pl : Bool} {i j : Nat} (hi : i < 60) (hj : j < 60) (hb : pl = true → i < 26 ∧ j < 26) (h : tlc b pl i = tlc b pl j) : i = j := by
  unfold tlc at h
  cases pl with
  | true =>
    simp at h
    have := hb rfl
    omega
  | false =>
    simp at h
    omega
structure Drawn (b : Nat) (pl : Bool) (ns : List Str) : Prop where
  at' : ∀ j x, ns[j]? = some x → ∃ u : List Nat, x.cps.toList = u ++ tlc b pl j ∧ u.length ≤ 6 ∧ (∀ c ∈ u, 97 ≤ c ∧ c ≤ 122) ∧ (pl = true → u = [])
theorem Drawn.name {b : Nat} {pl : Bool} {ns : List Str} (D : Drawn b pl ns) (hz : ns.length < 60) : ∀ x ∈ ns, NameP x := fun x hx => by
  obtain ⟨j, hj⟩ := List.getElem?_of_mem hx
  have hjl := (List.getElem?_eq_some_iff.mp hj).1
  obtain ⟨u, e, hu, hc, _⟩ := D.at' j x hj
  have hl := tlc_len b pl j
  refine NameP.of_codes e ?_ ?_ fun c hm => ?_
  · rw [List.length_append, hl]; split <;> omega
  · rw [List.length_append, hl]; split <;> omega
  · rcases List.mem_append.mp hm with z | z
    · exact hc c z
    · exact tlc_mem b pl (by omega) c z
theorem Drawn.nodup {b : Nat} {pl : Bool} {ns : List Str} (D : Drawn b pl ns) (hz : ns.length < 60) (hb : pl = true → ns.length ≤ 26) : ns.Nodup := by
  refine List.pairwise_iff_getElem.mpr fun i j hi hj hij e => ?_
  obtain ⟨u, e1, _, _⟩ := D.at' i ns[i] (List.getElem?_eq_getElem hi)
  obtain ⟨u', e2, _, _⟩ := D.at' j ns[j] (List.getElem?_eq_getElem hj)
  rw [e, e2] at e1
  have hl : (tlc b pl j).length = (tlc b pl i).length := by rw [tlc_len, tlc_len]
  have q := (List.append_inj' e1 hl).2
  have := tlc_inj (by omega) (by omega) (fun c => by have := hb c; omega) q
  omega
theorem Drawn.add {b : Nat} {pl : Bool} {ns : List Str} {x : Str} {u : List Nat} (D : Drawn b pl ns) (e : x.cps.toList = u ++ tlc b pl ns.length) (hu : u.length ≤ 6) (hc : ∀ c ∈ u, 97 ≤ c ∧ c ≤ 122) (hp : pl = true → u = []) : Drawn b pl (ns ++ [x]) := by
  refine ⟨fun j y hj => ?_⟩
  by_cases h : j < ns.length
  · rw [List.getElem?_append_left h] at hj
    exact D.at' j y hj
  · rw [List.getElem?_append_right (by omega)] at hj
    have hj0 : j - ns.length = 0 := by
      have := (List.getElem?_eq_some_iff.mp hj).1
      simp at this
      omega
    rw [hj0] at hj
    have ey : x = y := by simpa using hj
    subst ey
    have ej : j = ns.length := by omega
    subst ej
    exact ⟨u, e, hu, hc, hp⟩
theorem Drawn.far {b : Nat} {pl : Bool} {ns : List Str} (D : Drawn b pl ns) (hz : ns.length ≤ 26) : Str.ofString "nowhere" ∉ ns := fun hx => by
  obtain ⟨j, hj⟩ := List.getElem?_of_mem hx
  have hjl := (List.getElem?_eq_some_iff.mp hj).1
  obtain ⟨u, e, hu, hc, hp⟩ := D.at' j _ hj
  have e0 : (Str.ofString "nowhere").cps.toList = [110, 111, 119, 104, 101, 114, 101] := by decide +kernel
  rw [e0] at e
  cases pl with
  | true =>
    rw [hp rfl] at e
    have := congrArg List.length e
    rw [List.length_append, tlc_len] at this
    simp at this
  | false =>
    have h2 := congrArg List.getLast? e
    unfold tlc at h2
    simp at h2
    omega
theorem push_codes (x : Str) (c : Nat) : (x ++ (⟨#[c]⟩ : Str)).cps.toList = x.cps.toList ++ [c] := by
  rw [Str.cps_append, Array.toList_append]
/-- both ways of an `and` go on alike -/
theorem and_split {tb : TE} {σ : St} {H1 : Hp} {Q : VK} {v : V} (C : Bool → Hp → Prop) (key : ∀ pl H2, C pl H2 → Q (.bl pl) H2) (h : ∀ Q' : VK, (∀ pl H2, C pl H2 → Q' (.bl pl) H2) → ∃ c, v = .bl c ∧ if c = true then tb σ H1 Q' else Q' (.bl false) H1) :
    ∃ c, v = .bl c ∧ if c = true then tb σ H1 Q else Q (.bl false) H1 := h Q key
section
variable {P : Program} {w : World} {K : PySem.W.Frag} {mg : Str → Option Value} {base : Heap}
noncomputable def spNames : Sp := fun vs H Q _ => ∃ (p : Addr) (m : Nat), vs = [.ref p, .int m] ∧ Pot H p ∧ m ≤ 40 ∧
  ∀ (q : Addr) (ns : List Str) (H' : Hp), Pot H' p → H' q = some (.lst (ns.map V.str)) → H q = none → (∀ x ∈ ns, NameP x) → ns.Nodup → ns.length = m → (m ≤ 26 → Str.ofString "nowhere" ∉ ns) → Kp [p] H H' → Q (.ref q) H'
noncomputable abbrev N34 : List Str := ["_law_pot_here", "_law_many", "_law_letters", "_law_begin", "_law_plain", "_law_found", "_law_k", "_law_word"]
theorem sc34 : FnScope N34 ["_law_pot_here", "_law_many"] (defScope (top 34)) := ⟨rfl, rfl, rfl, by decide +kernel, rfl, by decide +kernel, by decide +kernel⟩
theorem ok_names {f : Addr} {fd : FuncData} (F : Fun K "_law_names" "_law_names" (top 34) f fd) (B : Bl mg) (Ft : Fn P w K mg base 1 "_law_draw" ["_law_pot_here", "_law_many"] spTake) : FnOk P w K mg base CX0 2 f fd ["_law_pot_here", "_law_many"] spNames := by
  refine F.ok sc34 (fun vs H Q E h => ?_) (fun cdv A outer s H vs Q E hr h => ?_)
  · obtain ⟨p, m, rfl, _⟩ := h
    rfl
  · obtain ⟨p, m, rfl, hp, hm, k⟩ := h
    refine ⟨_, pss_cons (ps_set (i := 2) sc34.nd rfl (Or.inr rfl) pe_str)
      (pss_cons (ps_set (i := 3) sc34.nd rfl (Or.inl rfl) (pe_fn Ft hr (pa_cons (pv 0) (pa_cons pe_int pa_nil))))
      (pss_cons (ps_set (i := 4) sc34.nd rfl (Or.inl rfl) (pe_and (pe_cmpR op_lt (pv 1) pe_int (nomark _)) (pe_one (pe_cmpR op_eq (pe_fn Ft hr (pa_cons (pv 0) (pa_cons pe_int pa_nil))) pe_int (nomark _)))))
      (pss_cons (ps_set (i := 5) sc34.nd rfl (Or.inl rfl) (pe_lst pa_nil))
      (pss_cons (ps_for PassesOwn.never rfl (pi_range1 rfl B.range (pa_cons (pv 1) pa_nil)) (pg_name (i := 6) sc34.nd rfl (Or.inl rfl))
        (pss_one (ps_if (pt_val (pv 4))
          (pss_one (ps_expr (pe_bm PySem.F.plainAttrs_list PySem.F.slot_list_append PySem.F.type_list_append mt_append (pv 5) (pa_cons (pe_ix ix_seq (pv 2) (pe_op op_mod (pe_op op_add (pv 3) (pe_op op_mul pe_int (pv 6))) pe_int) (fun _ _ => rfl)) pa_nil))))
          (pss_cons (ps_set (i := 7) sc34.nd rfl (Or.inl rfl) (pe_bm PySem.F.plainAttrs_str PySem.F.slot_str_join PySem.F.type_str_join mt_join pe_str (pa_cons (pe_lc (N := ["_law_j", "_law_letters", "_law_pot_here"]) (ix := [none, some 2, some 0]) ⟨rfl, rfl, rfl, by decide⟩ rfl
            (pi_range1 rfl B.range (pa_cons (pe_fn Ft hr (pa_cons (pv 0) (pa_cons pe_int pa_nil))) pa_nil)) (fun _ _ _ _ => pg_lc 0 (by decide) rfl rfl) (fun _ _ _ _ => pts_nil)
            (fun _ _ _ _ => pe_ix (ix_seqK K) (pv 1) (pe_fn Ft hr (pa_cons (pv 2) (pa_cons pe_int pa_nil))) (fun _ _ => rfl))) pa_nil)))
          (pss_one (ps_expr (pe_bm PySem.F.plainAttrs_list PySem.F.slot_list_append PySem.F.type_list_append mt_append (pv 5) (pa_cons (pe_op op_add_str (pe_op op_add_str (pv 7) (pe_ix ix_seq (pv 2) (pe_op op_mod (pe_op op_add (pv 3) (pe_op op_mul pe_int (pv 6))) pe_int) (fun _ _ => rfl))) (pe_ix ix_seq (pv 2) (pe_op op_fdiv (pv 6) pe_int) (fun _ _ => rfl))) pa_nil))))))))
      (pss_one (ps_ret (pv 5))))))), ?_⟩
    refine ⟨_, rfl, p, 26, rfl, hp, by decide, by decide, fun bg H1 b0 b1 P1 K1 => ?_⟩
    obtain ⟨bn, rfl⟩ := Int.eq_ofNat_of_zero_le b0
    have hbn : bn < 26 := by omega
    -- plain or not
    have hah : ∀ (cs : List Nat), (Txt.join (Str.ofString "") (cs.map fun c => (⟨#[c]⟩ : Str))).length = cs.length := fun cs => by
      rw [← congrArg List.length (join_one cs)]; simp [Str.length]
    have hsum : ∀ l : List Nat, ((l.map fun c => (⟨#[c]⟩ : Str)).map (·.length)).sum = l.length := fun l => by
      induction l with
      | nil => rfl
      | cons c r ih => simp only [List.map_cons, List.sum_cons, ih, List.length_cons]; show 1 + r.length = _; omega
    refine ⟨_, rfl, _, _, rfl, rfl, and_split (fun pl H2 => (pl = true → m ≤ 26) ∧ Pot H2 p ∧ Kp [p] H H2) ?_ (fun Q' key => ⟨_, rfl, ite2 (fun c => ⟨_, rfl, p, 3, rfl, P1, by decide, by decide, fun r H2 r0 r1 P2 K2 => ⟨rfl, key _ _ ⟨fun _ => by have := of_decide_eq_true c; omega, P2, K1.trans K2⟩⟩⟩) (fun c => key _ _ ⟨fun z => by (cases z), P1, K1⟩)⟩)⟩
    rintro pl H2 ⟨hpl, P2, K2⟩
    refine ⟨Nat.zero_le _, fun fo hfo => ?_⟩
    have fo0 := K2.free1 P2 hfo
    have nfp := P2.ne_new hfo
    have P9 := P2.new (o := .lst []) hfo
    have K9 := K2.new (o := .lst []) hfo
    have F9 : upd H2 fo (.lst []) fo = some (.lst ((([] : List Str)).map V.str)) := upd_same
    generalize upd H2 fo (.lst []) = H9 at P9 K9 F9 ⊢
    refine ⟨_, rfl, _, rfl, by omega, by omega, for_range (fun i σ H3 => ∃ (ns : List Str) (g1 g2 : Option V), σ = [some (.ref p), some (.int m), some (.str letters), some (.int bn), some (.bl pl), some (.ref fo), g1, g2] ∧ Pot H3 p ∧ H3 fo = some (.lst (ns.map V.str)) ∧ ns.length = i ∧ Drawn bn pl ns ∧ Kp [p] H H3)
      ⟨[], none, none, rfl, P9, F9, rfl, ⟨fun j x hj => by simp at hj⟩, K9⟩ ?_ ?_⟩
    · rintro i σ H3 hi ⟨ns, g1, g2, rfl, P3, F3, hl, D, K3⟩
      have him : i < m := by omega
      refine ⟨_, rfl, pl, rfl, ite2 (fun c => ?_) (fun c => ?_)⟩
      · have hidx : (((bn : Nat) : Int) + 5 * (0 + (i : Int))) % 26 = (((bn + 5 * i) % 26 : Nat) : Int) := by push_cast; rw [Int.zero_add]
        refine ⟨_, rfl, .inl ⟨rfl, _, SqL.of F3⟩, _, rfl, _, rfl, _, rfl, _, _, rfl, rfl, .inl ⟨by decide, by decide⟩, _, _, rfl, rfl, _, _, rfl, rfl, by show (0 : Int) < 26; decide, ?_⟩
        refine .inr (.inr ⟨letters, _, 97 + (bn + 5 * i) % 26, rfl, rfl, letters_fits, atI_at (j := (bn + 5 * i) % 26) hidx (letters_at (Nat.mod_lt _ (by decide))), ?_⟩)
        refine ⟨fo, ns.map V.str, _, rfl, rfl, F3, by rw [List.length_map]; exact fits (by omega), ?_⟩
        refine ⟨ns ++ [(⟨#[97 + (bn + 5 * i) % 26]⟩ : Str)], _, _, rfl, P3.upd nfp, by rw [upd_same, List.map_append]; rfl, by simp [hl], ?_, fun b o e nb => by rw [upd_ne (ne_of_none e fo0)]; exact K3 b o e nb⟩
        refine D.add (u := []) ?_ (by simp) (by simp) (fun _ => rfl)
        rw [hl]
        unfold tlc
        rw [if_pos c]
        rfl
      · have hidx : (((bn : Nat) : Int) + 7 * (0 + (i : Int))) % 26 = (((bn + 7 * i) % 26 : Nat) : Int) := by push_cast; rw [Int.zero_add]
        have hidx2 : (0 + (i : Int)) / 26 = ((i / 26 : Nat) : Int) := by push_cast; rw [Int.zero_add]
        refine ⟨rfl, _, rfl, p, 7, rfl, P3, by decide, by decide, fun r7 H4 a0 a1 P4 K4 => ⟨_, rfl, by omega, by omega, ?_⟩⟩
        have K34 := K3.trans K4
        refine lcw_range0 (fits (by omega)) (fun j ys σ H5 => (∃ cs : List Nat, cs.length = j ∧ (∀ c ∈ cs, 97 ≤ c ∧ c ≤ 122) ∧ ys = cs.map fun c => V.str ⟨#[c]⟩) ∧ Pot H5 p ∧ Kp [p] H3 H5 ∧ ∃ x, σ = [x, some (.str letters), some (.ref p)])
          ⟨⟨[], rfl, by simp, rfl⟩, P4, K4, _, rfl⟩ (fun j ys σ H5 _ q => by obtain ⟨⟨cs, rfl, _, rfl⟩, _⟩ := q; simp) ?_ ?_
        · rintro j ys σ H5 hj ⟨⟨cs, rfl, hcs, rfl⟩, P5, K5, v, rfl⟩
          refine ⟨_, rfl, _, rfl, p, 26, rfl, P5, by decide, by decide, fun r H6 r0 r1 P6 K6 => .inr (.inr ⟨letters, r, 97 + r.toNat, rfl, rfl, letters_fits, atI_at (j := r.toNat) (by omega) (letters_at (by omega)), ⟨cs ++ [97 + r.toNat], by simp, fun c hc => ?_, by simp⟩, P6, K5.trans K6, _, rfl⟩)⟩
          rcases List.mem_append.mp hc with z | z
          · exact hcs c z
          · simp at z
            omega
        rintro ys σ H5 ⟨⟨cs, hlen, hcs, rfl⟩, P5, K5, v, rfl⟩ q hq
        have hx : (Txt.join (Str.ofString "") (cs.map fun c => (⟨#[c]⟩ : Str))).cps.toList = cs := join_one cs
        have hmap : (cs.map fun c => V.str ⟨#[c]⟩) = (cs.map fun c => (⟨#[c]⟩ : Str)).map V.str := by rw [List.map_map]; rfl
        have hal := hah cs
        have hc6 : cs.length ≤ 6 := by omega
        refine ⟨Str.ofString "", q, cs.map fun c => (⟨#[c]⟩ : Str), rfl, rfl, SqL.of (by rw [upd_same, hmap]), ?_, ?_⟩
        · have e0 : (Str.ofString "").length = 0 := by decide
          rw [hsum, e0]
          omega
        generalize Txt.join (Str.ofString "") (cs.map fun c => (⟨#[c]⟩ : Str)) = wd at hx hal ⊢
        have P6 := P5.new (o := .lst (cs.map fun c => V.str ⟨#[c]⟩)) hq
        have K6 := (K5.new (o := .lst (cs.map fun c => V.str ⟨#[c]⟩)) hq)
        generalize upd H5 q (.lst (cs.map fun c => V.str ⟨#[c]⟩)) = H6 at P6 K6 ⊢
        have F6 := K6.at nfp F3
        refine ⟨_, rfl, .inl ⟨rfl, _, SqL.of F6⟩, _, rfl, _, rfl, _, rfl, _, rfl, _, _, rfl, rfl, .inl ⟨by decide, by decide⟩, _, _, rfl, rfl, _, _, rfl, rfl, by show (0 : Int) < 26; decide, ?_⟩
        refine .inr (.inr ⟨letters, _, 97 + (bn + 7 * i) % 26, rfl, rfl, letters_fits, atI_at (j := (bn + 7 * i) % 26) hidx (letters_at (Nat.mod_lt _ (by decide))), _, _, rfl, rfl, by rw [sizeLine_eq]; show wd.length + 1 ≤ _; omega, ?_⟩)
        have hlen1 : (wd ++ (⟨#[97 + (bn + 7 * i) % 26]⟩ : Str)).length = wd.length + 1 := by rw [Str.length_append]; rfl
        refine ⟨_, rfl, _, rfl, _, _, rfl, rfl, ⟨by decide, by decide⟩, ?_⟩
        refine .inr (.inr ⟨letters, _, 97 + i / 26, rfl, rfl, letters_fits, atI_at (j := i / 26) hidx2 (letters_at (by omega)), _, _, rfl, rfl, by rw [hlen1, sizeLine_eq]; show wd.length + 1 + 1 ≤ _; omega, ?_⟩)
        refine ⟨fo, ns.map V.str, _, rfl, rfl, F6, by rw [List.length_map]; exact fits (by omega), ?_⟩
        refine ⟨ns ++ [wd ++ (⟨#[97 + (bn + 7 * i) % 26]⟩ : Str) ++ (⟨#[97 + i / 26]⟩ : Str)], _, _, rfl, P6.upd nfp, by rw [upd_same, List.map_append]; rfl, by simp [hl], ?_, fun b o e nb => by rw [upd_ne (ne_of_none e fo0)]; exact (K3.trans K6) b o e nb⟩
        refine D.add (u := cs) ?_ hc6 hcs (fun z => absurd z c)
        rw [push_codes, push_codes, hx, hl]
        unfold tlc
        rw [if_neg c]
        simp
    · rintro σ H3 ⟨ns, g1, g2, rfl, P3, F3, hl, D, K3⟩
      have hl' : ns.length = m := by omega
      exact ⟨_, rfl, k fo ns H3 P3 F3 fo0 (D.name (by omega)) (D.nodup (by omega) (fun c => by have := hpl c; omega)) hl' (fun z => D.far (by omega)) K3⟩
end
end K23

set_option Elab.async false
set_option linter.all false
set_option maxRecDepth 100000
set_option maxHeartbeats 4000000
namespace K23
open PySem L2
theorem nodup_erase {α : Type} : ∀ {l : List α} {i : Nat} (hi : i < l.length), l.Nodup → l[i] ∉ l.eraseIdx i
  | x :: r, 0, _, h => by simpa using (List.nodup_cons.mp h).1
  | x :: r, i + 1, hi, h => by
    have h' := List.nodup_cons.mp h
    have hi' : i < r.length := by simpa using hi
    rw [List.eraseIdx_cons_succ, List.getElem_cons_succ]
    intro q
    rcases List.mem_cons.mp q with e | e
    · exact h'.1 (e ▸ List.getElem_mem hi')
    · exact nodup_erase hi' h'.2 e
theorem erase_map {α β : Type} (f : α → β) : ∀ (l : List α) (i : Nat), (l.map f).eraseIdx i = (l.eraseIdx i).map f
  | [], i => by simp
  | x :: r, 0 => rfl
  | x :: r, i + 1 => by simp [erase_map f r i]
/-- pairs of places that a tie may lead from and to -/
noncomputable abbrev Le := Addr × Str × Str
noncomputable abbrev lrefs (les : List Le) : List V := les.map fun x => V.ref x.1
structure LeAt (H : Hp) (fo : Addr) (les : List Le) : Prop where
  l : H fo = some (.lst (lrefs les))
  e : ∀ x ∈ les, H x.1 = some (.tup [.str x.2.1, .str x.2.2])
noncomputable def LeP (ps : List Str) (les : List Le) : Prop := ∀ x ∈ les, x.2.1 ∈ ps ∧ x.2.2 ∈ ps ∧ x.2.1 ≠ x.2.2
theorem LeAt.same {H H' : Hp} {fo : Addr} {les : List Le} (h : LeAt H fo les) (s : Same H H') : LeAt H' fo les := ⟨s _ _ h.l, fun x hx => s _ _ (h.e x hx)⟩
theorem LeAt.kp {H H' : Hp} {p fo : Addr} {les : List Le} (h : LeAt H fo les) (hp : Pot H p) (n : fo ≠ p) (k : Kp [p] H H') : LeAt H' fo les := ⟨k.at n h.l, fun x hx => k.tup hp (h.e x hx)⟩
section
variable {P : Program} {w : World} {K : PySem.W.Frag} {mg : Str → Option Value} {base : Heap}
noncomputable def spEnds : Sp := fun vs H Q _ => ∃ (p pl : Addr) (root : Str) (ps : List Str), vs = [.ref p, .ref pl, .str root] ∧ Pot H p ∧ H pl = some (.lst (ps.map V.str)) ∧ root ∈ ps ∧ ps.Nodup ∧ (∀ x ∈ ps, NameP x) ∧ ps.length ≤ 8 ∧
  ∀ (q : Addr) (les : List Le) (H' : Hp), Pot H' p → LeAt H' q les → LeP ps les → les.length ≤ 7 → H q = none → Kp [p] H H' → Q (.ref q) H'
noncomputable abbrev N35 : List Str := ["_law_pot_here", "_law_places", "_law_root", "_law_come", "_law_left", "_law_found", "_law_place"]
theorem sc35 : FnScope N35 ["_law_pot_here", "_law_places", "_law_root"] (defScope (top 35)) := ⟨rfl, rfl, rfl, by decide +kernel, rfl, by decide +kernel, by decide +kernel⟩
theorem ok_ends {f : Addr} {fd : FuncData} (F : Fun K "_law_tree_ends" "_law_tree_ends" (top 35) f fd) (B : Bl mg) (Ft : Fn P w K mg base 1 "_law_draw" ["_law_pot_here", "_law_many"] spTake) : FnOk P w K mg base CX0 2 f fd ["_law_pot_here", "_law_places", "_law_root"] spEnds := by
  refine F.ok sc35 (fun vs H Q E h => ?_) (fun cdv A outer s H vs Q E hr h => ?_)
  · obtain ⟨p, pl, root, ps, rfl, _⟩ := h
    rfl
  · obtain ⟨p, pl, root, ps, rfl, hp, hpl, hroot, pnd, pnm, p8, k⟩ := h
    refine ⟨_, pss_cons (ps_set (i := 3) sc35.nd rfl (Or.inl rfl) (pe_lst (pa_cons (pv 2) pa_nil)))
      (pss_cons (ps_setLc (i := 4) (N := ["_law_place", "_law_root"]) (ix := [none, some 2]) sc35.nd rfl (Or.inl rfl) ⟨rfl, rfl, rfl, by decide⟩ rfl (pi_list (pv 1)) (fun _ _ _ _ => pg_lc 0 (by decide) rfl rfl) (fun _ _ _ _ => pts_one (pt_cmpR op_ne (pv 0) (pv 1) (nomark _))) (fun _ _ _ _ => pv 0))
      (pss_cons (ps_set (i := 5) sc35.nd rfl (Or.inl rfl) (pe_lst pa_nil))
      (pss_cons (ps_while PassesOwn.never (pt_cmpR (op_neD hr) (pv 4) (pe_lst pa_nil) (nomark _))
        (pss_cons (ps_set (i := 6) sc35.nd rfl (Or.inl rfl) (pe_bm PySem.F.plainAttrs_list PySem.F.slot_list_pop PySem.F.type_list_pop mt_popAt (pv 4) (pa_cons (pe_fn Ft hr (pa_cons (pv 0) (pa_cons (pe_callB call_len_seq rfl B.len PySem.boot_len (pa_cons (pv 4) pa_nil)) pa_nil))) pa_nil)))
        (pss_cons (ps_expr (pe_bm PySem.F.plainAttrs_list PySem.F.slot_list_append PySem.F.type_list_append mt_append (pv 5) (pa_cons (pe_tup (pa_cons (pe_ix ix_seq (pv 3) (pe_fn Ft hr (pa_cons (pv 0) (pa_cons (pe_callB call_len_seq rfl B.len PySem.boot_len (pa_cons (pv 3) pa_nil)) pa_nil))) (fun _ _ => rfl)) (pa_cons (pv 6) pa_nil))) pa_nil)))
        (pss_one (ps_expr (pe_bm PySem.F.plainAttrs_list PySem.F.slot_list_append PySem.F.type_list_append mt_append (pv 3) (pa_cons (pv 6) pa_nil)))))))
      (pss_one (ps_ret (pv 5)))))), ?_⟩
    refine ⟨_, rfl, by show 1 ≤ sizeLine; decide, fun d hd => ?_⟩
    have ndp := hp.ne_new hd
    have p1 := hp.new (o := .lst [.str root]) hd
    have K1 := (Kp.refl [p] H).new (o := .lst [.str root]) hd
    have d1 : upd H d (.lst [.str root]) d = some (.lst ([root].map V.str)) := upd_same
    have pl1 : upd H d (.lst [.str root]) pl = some (.lst (ps.map V.str)) := by rw [upd_ne (ne_of_none hpl hd)]; exact hpl
    generalize upd H d (.lst [.str root]) = H1 at p1 K1 d1 pl1 ⊢
    refine ⟨_, rfl, pl, rfl, ⟨_, SqL.of pl1⟩, lcw_list1 (xs := ps.map V.str) (fits (by simp; omega)) (fun i ys σ H2 => ys = ((ps.take i).filter fun y => !decide (y = root)).map V.str ∧ H2 = H1 ∧ ∃ v, σ = [v, some (.str root)]) ⟨rfl, rfl, _, rfl⟩
      (fun i ys σ H2 _ q => ⟨by rw [q.1, List.length_map]; exact Nat.le_trans (List.length_filter_le _ _) (by simp; omega), by rw [q.2.1]; exact SqL.of pl1⟩) ?_ ?_⟩
    · rintro i y ys σ H2 hy ⟨rfl, rfl, v, rfl⟩
      rw [List.getElem?_map] at hy
      cases hc : ps[i]? with
      | none => rw [hc] at hy; cases hy
      | some z =>
        rw [hc] at hy
        cases hy
        have tf := take_filter_succ (fun z : Str => !decide (z = root)) ps i z hc
        refine ⟨_, rfl, _, rfl, rfl, _, rfl, ?_⟩
        have e : (!decide (V.str z = V.str root)) = !decide (z = root) := by simp
        rw [e]
        refine ite2 (fun c => ⟨_, rfl, ?_, rfl, _, rfl⟩) (fun c => ⟨?_, rfl, _, rfl⟩)
        · rw [tf, c]; simp
        · rw [tf]; simp only [Bool.not_eq_true] at c; rw [c]; simp
    rintro ys σ H2 ⟨rfl, rfl, v, rfl⟩ l hl
    rw [take_all ps (by simp)]
    have nlp := p1.ne_new hl
    have nld : l ≠ d := (ne_of_none d1 hl).symm
    have hl0 := K1.free1 p1 hl
    have hfm : ∀ x ∈ ps.filter (fun y => !decide (y = root)), x ∈ ps ∧ x ∉ [root] := fun x hx => by
      obtain ⟨a, b⟩ := List.mem_filter.mp hx
      exact ⟨a, by simpa using b⟩
    have hfn : (ps.filter fun y => !decide (y = root)).Nodup := pnd.filter _
    have hfl : (ps.filter fun y => !decide (y = root)).length + 1 ≤ ps.length := by
      have q : (ps.filter fun y => !decide (y = root)).length < ps.length := by
        refine List.length_filter_lt_length_iff_exists.mpr ⟨root, hroot, by simp⟩
      omega
    generalize ps.filter (fun y => !decide (y = root)) = ls0 at hfl hfm hfn ⊢
    have p2 := p1.new (o := .lst (ls0.map V.str)) hl
    have K2 := K1.new (o := .lst (ls0.map V.str)) hl
    have d2 : upd H2 l (.lst (ls0.map V.str)) d = some (.lst ([root].map V.str)) := by rw [upd_ne nld.symm]; exact d1
    have l2 : upd H2 l (.lst (ls0.map V.str)) l = some (.lst (ls0.map V.str)) := upd_same
    generalize upd H2 l (.lst (ls0.map V.str)) = H3 at p2 K2 d2 l2 ⊢
    refine ⟨Nat.zero_le _, fun fo hfo => ?_⟩
    have nfp := p2.ne_new hfo
    have nfd : fo ≠ d := (ne_of_none d2 hfo).symm
    have nfl : fo ≠ l := (ne_of_none l2 hfo).symm
    have hfo0 := K2.free1 p2 hfo
    refine ⟨fun m σ H4 => ∃ (ds ls : List Str) (les : List Le) (g : Option V), σ = [some (.ref p), some (.ref pl), some (.str root), some (.ref d), some (.ref l), some (.ref fo), g] ∧ ls.length = m ∧ Pot H4 p ∧ Kp [p] H H4 ∧ H4 d = some (.lst (ds.map V.str)) ∧ H4 l = some (.lst (ls.map V.str)) ∧ LeAt H4 fo les ∧ LeP ps les ∧ les.length + ls.length ≤ 7 ∧ ds.length = les.length + 1 ∧ (∀ x ∈ ds, x ∈ ps) ∧ (∀ x ∈ ls, x ∈ ps ∧ x ∉ ds) ∧ ls.Nodup,
      ⟨_, [root], ls0, [], none, rfl, rfl, p2.new hfo, K2.new hfo, by rw [upd_ne nfd.symm]; exact d2, by rw [upd_ne nfl.symm]; exact l2, ⟨upd_same, by simp⟩, (by intro x hx; simp at hx), by simp; omega, rfl, by simpa using hroot, hfm, hfn⟩, ?_⟩
    rintro m σ H4 ⟨ds, ls, les, g, rfl, rfl, P4, K4, D4, L4, A4, hle, hn, hds, hd1, hl1, hln⟩
    refine ⟨_, rfl, Nat.zero_le _, fun e he => ?_⟩
    have u4 := same_upd (o := .lst []) (Same.refl H4) he
    have e1 : upd H4 e (.lst []) e = some (.lst []) := upd_same
    have P5 := P4.new (o := .lst []) he
    have K5 := K4.new (o := .lst []) he
    generalize upd H4 e (.lst []) = H5 at u4 e1 P5 K5 ⊢
    have L5 := u4 _ _ L4
    have D5 := u4 _ _ D4
    have A5 := A4.same u4
    refine ⟨.list (ls.map PyData.str), .list [], .lst L5 (DVs.strs ls), .lst e1 .nil, (shaped_strs fun x hx => pnm x (hl1 x hx).1).1, (shaped_strs (ss := []) (by simp)).1, _, rfl, ?_⟩
    have ev : PyData.eqv (.list (ls.map PyData.str)) (.list []) = decide (ls = []) := eqvAll_strs ls []
    rw [ev]
    refine ite2 (fun c => ?_) (fun c => ?_)
    · have hne : ls ≠ [] := by simpa using c
      have hlp : 0 < ls.length := by cases ls with | nil => exact absurd rfl hne | cons _ _ => simp
      refine ⟨fun σ' H' => ∃ m', m' < ls.length ∧ ∃ (ds ls : List Str) (les : List Le) (g : Option V), σ' = [some (.ref p), some (.ref pl), some (.str root), some (.ref d), some (.ref l), some (.ref fo), g] ∧ ls.length = m' ∧ Pot H' p ∧ Kp [p] H H' ∧ H' d = some (.lst (ds.map V.str)) ∧ H' l = some (.lst (ls.map V.str)) ∧ LeAt H' fo les ∧ LeP ps les ∧ les.length + ls.length ≤ 7 ∧ ds.length = les.length + 1 ∧ (∀ x ∈ ds, x ∈ ps) ∧ (∀ x ∈ ls, x ∈ ps ∧ x ∉ ds) ∧ ls.Nodup, fun σ' H' q => q, ?_⟩
      refine ⟨_, rfl, .inl ⟨rfl, _, SqL.of L5⟩, _, rfl, _, rfl, l, _, rfl, .inl (SqL.of L5), p, _, rfl, P5, by rw [List.length_map]; omega, by rw [List.length_map]; omega, fun i H6 i0 i1 P6 K6 => ?_⟩
      rw [List.length_map] at i1
      have L6 := K6.at nlp L5
      have D6 := K6.at ndp D5
      have A6 := A5.kp P5 nfp K6
      have K06 := K5.trans K6
      have hil : i.toNat < ls.length := by omega
      refine ⟨l, ls.map V.str, i, i.toNat, .str ls[i.toNat], rfl, rfl, L6, by omega, by omega, seqIndex_of i0 (by rw [List.length_map]; omega), strAt hil, ?_⟩
      have hze := hl1 _ (List.getElem_mem hil)
      have herl : (ls.eraseIdx i.toNat).length + 1 = ls.length := by rw [List.length_eraseIdx, if_pos hil]; omega
      have hsub : ∀ x ∈ ls.eraseIdx i.toNat, x ∈ ls := fun x hx => List.mem_of_mem_eraseIdx hx
      have hnz : ls[i.toNat] ∉ ls.eraseIdx i.toNat := nodup_erase hil hln
      have hnd' : (ls.eraseIdx i.toNat).Nodup := hln.sublist (List.eraseIdx_sublist _ _)
      have em : (ls.map V.str).eraseIdx i.toNat = (ls.eraseIdx i.toNat).map V.str := erase_map _ _ _
      rw [em]
      generalize ls[i.toNat] = z at hze hnz ⊢
      generalize ls.eraseIdx i.toNat = ls' at herl hsub hnz hnd' ⊢
      have P7 := P6.upd (o := .lst (ls'.map V.str)) nlp
      have K7 : Kp [p] H (upd H6 l (.lst (ls'.map V.str))) := fun b o q nb => by rw [upd_ne (ne_of_none q hl0)]; exact K06 b o q nb
      have L7 : upd H6 l (.lst (ls'.map V.str)) l = some (.lst (ls'.map V.str)) := upd_same
      have D7 : upd H6 l (.lst (ls'.map V.str)) d = some (.lst (ds.map V.str)) := by rw [upd_ne nld.symm]; exact D6
      have A7 : LeAt (upd H6 l (.lst (ls'.map V.str))) fo les := ⟨by rw [upd_ne nfl]; exact A6.l, fun x hx => by rw [upd_ne (tup_ne (A6.e x hx) L6)]; exact A6.e x hx⟩
      generalize upd H6 l (.lst (ls'.map V.str)) = H7 at P7 K7 L7 D7 A7 ⊢
      refine ⟨_, rfl, .inl ⟨rfl, _, SqL.of A7.l⟩, _, rfl, _, rfl, _, rfl, d, _, rfl, .inl (SqL.of D7), p, _, rfl, P7, by rw [List.length_map]; omega, by rw [List.length_map]; omega, fun j H9 j0 j1 P9 K9 => ?_⟩
      rw [List.length_map] at j1
      have hjl : j.toNat < ds.length := by omega
      have D9 := K9.at ndp D7
      have L9 := K9.at nlp L7
      have A9 := A7.kp P7 nfp K9
      have K09 := K7.trans K9
      refine rix_of (j := j.toNat) (.inl (SqL.of D9)) (by omega) (strAt hjl) ⟨_, rfl, by show 2 ≤ sizeLine; decide, fun n hn => ?_⟩
      have ham : ds[j.toNat] ∈ ds := List.getElem_mem hjl
      generalize ds[j.toNat] = a at ham ⊢
      have u9 := same_upd (o := .tup [.str a, .str z]) (Same.refl H9) hn
      have n9 : upd H9 n (.tup [.str a, .str z]) n = some (.tup [.str a, .str z]) := upd_same
      have P10 := P9.new (o := .tup [.str a, .str z]) hn
      have K10 := K09.new (o := .tup [.str a, .str z]) hn
      generalize upd H9 n (.tup [.str a, .str z]) = H10 at u9 n9 P10 K10 ⊢
      have A10 := A9.same u9
      have D10 := u9 _ _ D9
      have L10 := u9 _ _ L9
      refine ⟨fo, lrefs les, .ref n, rfl, rfl, A10.l, fits (by rw [List.length_map]; omega), ?_⟩
      have P11 := P10.upd (o := .lst (lrefs les ++ [.ref n])) nfp
      have K11 : Kp [p] H (upd H10 fo (.lst (lrefs les ++ [.ref n]))) := fun b o q nb => by rw [upd_ne (ne_of_none q hfo0)]; exact K10 b o q nb
      have A11 : LeAt (upd H10 fo (.lst (lrefs les ++ [.ref n]))) fo (les ++ [(n, a, z)]) := ⟨by rw [upd_same]; simp [lrefs], fun x hx => by
        rcases List.mem_append.mp hx with q | q
        · rw [upd_ne (tup_ne (A10.e x q) A10.l)]; exact A10.e x q
        · have e : x = (n, a, z) := (by simpa using q)
          subst e
          show upd H10 fo _ n = _
          rw [upd_ne (tup_ne n9 A10.l)]; exact n9⟩
      have D11 : upd H10 fo (.lst (lrefs les ++ [.ref n])) d = some (.lst (ds.map V.str)) := by rw [upd_ne nfd.symm]; exact D10
      have L11 : upd H10 fo (.lst (lrefs les ++ [.ref n])) l = some (.lst (ls'.map V.str)) := by rw [upd_ne nfl.symm]; exact L10
      generalize upd H10 fo (.lst (lrefs les ++ [.ref n])) = H11 at P11 K11 A11 D11 L11 ⊢
      refine ⟨_, rfl, .inl ⟨rfl, _, SqL.of D11⟩, _, rfl, d, ds.map V.str, .str z, rfl, rfl, D11, fits (by simp; omega), ?_⟩
      refine ⟨ls'.length, by omega, ds ++ [z], ls', les ++ [(n, a, z)], _, rfl, rfl, P11.upd ndp, fun b o q nb => by rw [upd_ne (ne_of_none q hd)]; exact K11 b o q nb, by rw [upd_same, List.map_append]; rfl, by rw [upd_ne nld]; exact L11, ⟨by rw [upd_ne nfd]; exact A11.l, fun x hx => by rw [upd_ne (tup_ne (A11.e x hx) D11)]; exact A11.e x hx⟩, ?_, by simp; omega, by simp; omega, ?_, ?_, hnd'⟩
      · intro x hx
        rcases List.mem_append.mp hx with q | q
        · exact hle x q
        · have e : x = (n, a, z) := by simpa using q
          subst e; exact ⟨hd1 a ham, hze.1, fun q => hze.2 ((show a = z from q) ▸ ham)⟩
      · intro y hy
        rcases List.mem_append.mp hy with q | q
        · exact hd1 y q
        · have e : y = z := by simpa using q
          subst e; exact hze.1
      · intro y hy
        have q := hl1 y (hsub y hy)
        refine ⟨q.1, fun hm => ?_⟩
        rcases List.mem_append.mp hm with w' | w'
        · exact q.2 w'
        · have e : y = z := by simpa using w'
          subst e; exact hnz hy
    · exact ⟨_, rfl, k fo les H5 P5 A5 hle (by omega) hfo0 K5⟩
end
end K23

set_option Elab.async false
set_option linter.all false
set_option maxRecDepth 100000
set_option maxHeartbeats 4000000
namespace K23
open PySem L2
theorem le_get {les : List Le} {i : Nat} {x : V} (h : (lrefs les)[i]? = some x) : ∃ r, les[i]? = some r ∧ x = .ref r.1 := by
  unfold lrefs at h
  rw [List.getElem?_map] at h
  cases e : les[i]? with
  | none => rw [e] at h; cases h
  | some r => rw [e] at h; exact ⟨r, rfl, (Option.some.inj h).symm⟩
theorem Kp.upd0 {P : List Addr} {H H1 : Hp} {q : Addr} {o : HO} (a : Kp P H H1) (hq : H q = none) : Kp P H (upd H1 q o) := fun c ob h n => by rw [upd_ne (ne_of_none h hq)]; exact a c ob h n
theorem lcw_zip0 {K : PySem.W.Frag} {g : TG} {te : TE} {σ' : St} {fin : List V → Hp → Prop} {H1 : Hp} {a b : Addr} {xs ys : List V} (hn : min xs.length ys.length < sizeLine) (Pv : Nat → List V → St → Hp → Prop) (h0 : Pv 0 [] σ' H1)
    (hl : ∀ i zs σ H, i ≤ min xs.length ys.length → Pv i zs σ H → zs.length ≤ i ∧ SqL K H a xs ∧ SqL K H b ys)
    (hs : ∀ i x y zs σ H T, xs[i]? = some x → ys[i]? = some y → Pv i zs σ H → H T = none → g (.ref T) σ (upd H T (.tup [x, y])) fun σ2 H2 => te σ2 H2 (fun v H4 => Pv (i + 1) (zs ++ [v]) σ2 H4))
    (hd : ∀ zs σ H, Pv (min xs.length ys.length) zs σ H → fin zs H) : LcW (Itz K a b) g tYes te σ' fin H1 :=
  lcw_zip hn Pv h0 hl (fun i x y zs σ H T e1 e2 p hT => by simpa [tYes] using hs i x y zs σ H T e1 e2 p hT) hd
/-- a statement and the rest, by what holds between them -/
theorem if_by {c : TT} {x y b : TS} {D : Ends} {σ : St} {H : Hp} (M : St → Hp → Prop) (h : ∀ N : St → Hp → Prop, (∀ σ H, M σ H → N σ H) → tIfS c x y { D with nx := N } σ H) (k : ∀ σ H, M σ H → b D σ H) : tSeq (tIfS c x y) b D σ H := h (b D) k
section
variable {P : Program} {w : World} {K : PySem.W.Frag} {mg : Str → Option Value} {base : Heap}
noncomputable def spWebG : Sp := fun vs H Q _ => ∃ (p : Addr) (most : Int), vs = [.ref p, .int most] ∧ Pot H p ∧ most ≤ 30 ∧
  ∀ (v u pa ra : Addr) (root : Str) (ps : List Str) (rs : List (Addr × Row)) (H' : Hp), Pot H' p → H' v = some (.tup [.ref u, .str root]) → WebAt H' u pa ra ps rs → Good ps (rs.map (·.2)) → ps.length ≤ 8 → rs.length ≤ 30 → root ∈ ps → Str.ofString "nowhere" ∉ ps → Kp [p] H H' → Q (.ref v) H'
noncomputable abbrev N36 : List Str := ["_law_pot_here", "_law_most", "_law_many", "_law_places", "_law_root", "_law_leads", "_law_k", "_law_a", "_law_ties"]
theorem sc36 : FnScope N36 ["_law_pot_here", "_law_most"] (defScope (top 36)) := ⟨rfl, rfl, rfl, by decide +kernel, rfl, by decide +kernel, by decide +kernel⟩
theorem ok_web {f : Addr} {fd : FuncData} (F : Fun K "_law_web" "_law_web" (top 36) f fd) (B : Bl mg) (Ft : Fn P w K mg base 1 "_law_draw" ["_law_pot_here", "_law_many"] spTake) (Fn' : Fn P w K mg base 2 "_law_names" ["_law_pot_here", "_law_many"] spNames)
    (Fe : Fn P w K mg base 2 "_law_tree_ends" ["_law_pot_here", "_law_places", "_law_root"] spEnds) : FnOk P w K mg base CX0 3 f fd ["_law_pot_here", "_law_most"] spWebG := by
  refine F.ok sc36 (fun vs H Q E h => ?_) (fun cdv A outer s H vs Q E hr h => ?_)
  · obtain ⟨p, most, rfl, _⟩ := h
    rfl
  · obtain ⟨p, most, rfl, hp, hmost, k⟩ := h
    have hr1 : Room 1 _ := hr.mono (by decide)
    refine ⟨_, pss_cons (ps_set (i := 2) sc36.nd rfl (Or.inl rfl) (pe_op op_add pe_int (pe_fn Ft hr1 (pa_cons (pv 0) (pa_cons (pe_ix ix_seq (pe_lst (pa_cons pe_int (pa_cons pe_int (pa_cons pe_int (pa_cons pe_int pa_nil))))) (pe_fn Ft hr1 (pa_cons (pv 0) (pa_cons pe_int pa_nil))) (fun _ _ => rfl)) pa_nil)))))
      (pss_cons (ps_set (i := 3) sc36.nd rfl (Or.inl rfl) (pe_callB call_sortedS rfl B.sorted b_sorted (pa_cons (pe_fn Fn' hr (pa_cons (pv 0) (pa_cons (pv 2) pa_nil))) pa_nil)))
      (pss_cons (ps_set (i := 4) sc36.nd rfl (Or.inl rfl) (pe_ix ix_seq (pv 3) (pe_fn Ft hr1 (pa_cons (pv 0) (pa_cons (pv 2) pa_nil))) (fun _ _ => rfl)))
      (pss_cons (ps_set (i := 5) sc36.nd rfl (Or.inl rfl) (pe_lst pa_nil))
      (pss_cons (ps_if (pt_cmpR op_eq (pe_fn Ft hr1 (pa_cons (pv 0) (pa_cons pe_int pa_nil))) pe_int (nomark _))
        (pss_one (ps_for PassesOwn.never rfl (pi_range1 rfl B.range (pa_cons (pe_op op_add pe_int (pe_fn Ft hr1 (pa_cons (pv 0) (pa_cons pe_int pa_nil)))) pa_nil)) (pg_name (i := 6) sc36.nd rfl (Or.inl rfl))
          (pss_one (ps_expr (pe_bm PySem.F.plainAttrs_list PySem.F.slot_list_extend PySem.F.type_list_extend mt_extend (pv 5) (pa_cons (pe_fn Fe hr (pa_cons (pv 0) (pa_cons (pv 3) (pa_cons (pv 4) pa_nil)))) pa_nil)))))) pss_nil)
      (pss_cons (ps_if (pt_cmpR op_gt (pv 2) pe_int (nomark _))
        (pss_one (ps_for PassesOwn.never rfl (pi_range1 rfl B.range (pa_cons (pe_fn Ft hr1 (pa_cons (pv 0) (pa_cons (pe_op op_add (pe_callB (call_max2 rfl) rfl B.max b_max (pa_cons pe_int (pa_cons (pe_op op_sub (pv 1) (pe_callB call_len_seq rfl B.len PySem.boot_len (pa_cons (pv 5) pa_nil))) pa_nil))) pe_int) pa_nil))) pa_nil)) (pg_name (i := 6) sc36.nd rfl (Or.inl rfl))
          (pss_cons (ps_set (i := 7) sc36.nd rfl (Or.inl rfl) (pe_fn Ft hr1 (pa_cons (pv 0) (pa_cons (pv 2) pa_nil))))
          (pss_one (ps_expr (pe_bm PySem.F.plainAttrs_list PySem.F.slot_list_append PySem.F.type_list_append mt_append (pv 5) (pa_cons (pe_tup (pa_cons (pe_ix ix_seq (pv 3) (pv 7) (fun _ _ => rfl))
            (pa_cons (pe_ix ix_seq (pv 3) (pe_op op_mod (pe_op op_add (pe_op op_add (pv 7) pe_int) (pe_fn Ft hr1 (pa_cons (pv 0) (pa_cons (pe_op op_sub (pv 2) pe_int) pa_nil)))) (pv 2)) (fun _ _ => rfl)) pa_nil))) pa_nil))))))) pss_nil)
      (pss_cons (ps_setLc (i := 8) (N := ["_law_tie", "_law_a", "_law_b"]) (ix := [none, none, none]) sc36.nd rfl (Or.inl rfl) ⟨rfl, rfl, rfl, by decide⟩ rfl (pi_zip rfl B.zip (pa_cons (pe_fn Fn' hr (pa_cons (pv 0) (pa_cons (pe_callB call_len_seq rfl B.len PySem.boot_len (pa_cons (pv 5) pa_nil)) pa_nil))) (pa_cons (pv 5) pa_nil)))
        (fun _ _ _ _ => pg_tupK K rfl (n := 2) (pgs_cons (pg_lc 0 (by decide) rfl rfl) (pgs_cons (pg_tupK K rfl (n := 2) (pgs_cons (pg_lc 1 (by decide) rfl rfl) (pgs_cons (pg_lc 2 (by decide) rfl rfl) pgs_nil))) pgs_nil))) (fun _ _ _ _ => pts_nil)
        (fun _ _ _ _ => pe_tup (pa_cons (pv 0) (pa_cons (pv 1) (pa_cons (pv 2) pa_nil)))))
      (pss_one (ps_ret (pe_tup (pa_cons (pe_tup (pa_cons (pe_callTy call_tuple_of rfl B.tuple b_tuple (pa_cons (pv 3) pa_nil)) (pa_cons (pe_callTy call_tuple_of rfl B.tuple b_tuple (pa_cons (pe_callB call_sortedR rfl B.sorted b_sorted (pa_cons (pv 8) pa_nil)) pa_nil)) pa_nil))) (pa_cons (pv 4) pa_nil))))))))))), ?_⟩
    -- how many
    refine ⟨_, rfl, by show 4 ≤ sizeLine; decide, fun l2 hl2 => ?_⟩
    have nl2 := hp.ne_new hl2
    have P1 := hp.new (o := .lst [.int 4, .int 6, .int 6, .int 8]) hl2
    have K1 := (Kp.refl [p] H).new (o := .lst [.int 4, .int 6, .int 6, .int 8]) hl2
    have L1 : upd H l2 (.lst [.int 4, .int 6, .int 6, .int 8]) l2 = some (.lst [.int 4, .int 6, .int 6, .int 8]) := upd_same
    generalize upd H l2 (.lst [.int 4, .int 6, .int 6, .int 8]) = H1 at P1 K1 L1 ⊢
    refine ⟨_, rfl, p, 4, rfl, P1, by decide, by decide, fun r1 H2 a0 a1 P2 K2' => ?_⟩
    have K2 := K1.trans K2'
    have L2' := K2'.at nl2 L1
    have hn : ∃ m : Nat, ([V.int 4, V.int 6, V.int 6, V.int 8] : List V)[r1.toNat]? = some (.int m) ∧ 1 ≤ m ∧ m ≤ 8 := by
      have : r1.toNat = 0 ∨ r1.toNat = 1 ∨ r1.toNat = 2 ∨ r1.toNat = 3 := by omega
      rcases this with e | e | e | e <;> rw [e]
      · exact ⟨4, rfl, by decide, by decide⟩
      · exact ⟨6, rfl, by decide, by decide⟩
      · exact ⟨6, rfl, by decide, by decide⟩
      · exact ⟨8, rfl, by decide, by decide⟩
    obtain ⟨m0, hm0, m01, m08⟩ := hn
    refine rix_of (j := r1.toNat) (.inl (SqL.of L2')) (by omega) hm0 ⟨p, m0, rfl, P2, by omega, by omega, fun r2 H3 b0 b1 P3 K3' => ⟨_, _, rfl, rfl, ?_⟩⟩
    have K3 := K2.trans K3'
    obtain ⟨m, hm⟩ : ∃ m : Nat, (1 : Int) + r2 = m := ⟨(1 + r2).toNat, by omega⟩
    have m1 : 1 ≤ m := by omega
    have m8 : m ≤ 8 := by omega
    dsimp only; rw [hm]
    -- places
    refine ⟨_, rfl, _, rfl, p, m, rfl, P3, by omega, fun pl0 ns H4 P4 n4 _ nnm nnd nlen nfar K4' => ?_⟩
    have K4 := K3.trans K4'
    refine ⟨pl0, ns, rfl, SqL.of n4, by omega, fun ps pl hpm hso hpl => ?_⟩
    have pnd : ps.Nodup := hpm.nodup_iff.mpr nnd
    have plen : ps.length = m := hpm.length_eq.trans nlen
    have pnm : ∀ x ∈ ps, NameP x := fun x hx => nnm x (hpm.mem_iff.mp hx)
    have psw := sorted_pw hso pnd
    have npl := P4.ne_new hpl
    have hpl0 := K4.free1 P4 hpl
    have P5 := P4.new (o := .lst (ps.map V.str)) hpl
    have K5 := K4.new (o := .lst (ps.map V.str)) hpl
    have L5 : upd H4 pl (.lst (ps.map V.str)) pl = some (.lst (ps.map V.str)) := upd_same
    generalize upd H4 pl (.lst (ps.map V.str)) = H5 at P5 K5 L5 ⊢
    refine ⟨_, rfl, _, rfl, _, rfl, p, m, rfl, P5, by omega, by omega, fun r3 H6 c0 c1 P6 K6' => ?_⟩
    have K6 := K5.trans K6'
    have L6 := K6'.at npl L5
    have hr3 : r3.toNat < ps.length := by omega
    refine rix_of (j := r3.toNat) (.inl (SqL.of L6)) (by omega) (strAt hr3) ?_
    have hroot : ps[r3.toNat] ∈ ps := List.getElem_mem hr3
    generalize ps[r3.toNat] = root at hroot ⊢
    refine ⟨Nat.zero_le _, fun fo hfo => ?_⟩
    have nfp := P6.ne_new hfo
    have nfl : fo ≠ pl := (ne_of_none L6 hfo).symm
    have hfo0 := K6.free1 P6 hfo
    have P7 := P6.new (o := .lst []) hfo
    have K7 := K6.new (o := .lst []) hfo
    have L7 : upd H6 fo (.lst []) pl = some (.lst (ps.map V.str)) := by rw [upd_ne nfl.symm]; exact L6
    have A7 : LeAt (upd H6 fo (.lst [])) fo [] := ⟨upd_same, by simp⟩
    generalize upd H6 fo (.lst []) = H7 at P7 K7 L7 A7 ⊢
    -- trees
    dsimp only [gName, tNext]
    refine if_by (fun σ H8 => ∃ les : List Le, (∃ g, σ = [some (.ref p), some (.int most), some (.int m), some (.ref pl), some (.str root), some (.ref fo), g, none, none]) ∧ Pot H8 p ∧ Kp [p] H H8 ∧ H8 pl = some (.lst (ps.map V.str)) ∧ LeAt H8 fo les ∧ LeP ps les ∧ les.length ≤ 21) (fun N key => ?_) ?_
    · refine ⟨_, rfl, p, 3, rfl, P7, by decide, by decide, fun r4 H8 d0 d1 P8 K8' => ⟨rfl, _, rfl, ite2 (fun c => ?_) (fun c => key _ _ ⟨[], ⟨_, rfl⟩, P8, K7.trans K8', K8'.at npl L7, A7.kp P7 nfp K8', (by intro x hx; simp at hx), by simp⟩)⟩⟩
      refine ⟨_, rfl, p, 3, rfl, P8, by decide, by decide, fun r5 H9 e0 e1 P9 K9' => ⟨_, _, rfl, rfl, _, rfl, by omega, by omega, ?_⟩⟩
      have K9 := K7.trans (K8'.trans K9')
      have L9 := (K8'.trans K9').at npl L7
      have A9 := A7.kp P7 nfp (K8'.trans K9')
      refine for_range (fun i σ Hx => ∃ (les : List Le), (∃ g, σ = [some (.ref p), some (.int most), some (.int m), some (.ref pl), some (.str root), some (.ref fo), g, none, none]) ∧ Pot Hx p ∧ Kp [p] H Hx ∧ Hx pl = some (.lst (ps.map V.str)) ∧ LeAt Hx fo les ∧ LeP ps les ∧ les.length ≤ 7 * i)
        ⟨[], ⟨_, rfl⟩, P9, K9, L9, A9, (by intro x hx; simp at hx), Nat.le_refl _⟩ ?_ ?_
      · rintro i σ Hx hi ⟨les, ⟨g, rfl⟩, Px, Kx, Lx, Ax, hle, hlen⟩
        refine ⟨_, rfl, .inl ⟨rfl, _, SqL.of Ax.l⟩, _, rfl, _, rfl, _, rfl, p, pl, root, ps, rfl, Px, Lx, hroot, pnd, pnm, by omega, fun q les' Hy Py Ay hle' hl7 hq0 Ky => ?_⟩
        have Ay0 := Ax.kp Px nfp Ky
        have Ly := Ky.at npl Lx
        have hqf : q ≠ fo := fun z => by rw [z, Ax.l] at hq0; cases hq0
        refine ⟨fo, q, lrefs les, lrefs les', rfl, rfl, Ay0.l, Ay.l, Nat.le_of_lt (fits (by simp; omega)), ?_⟩
        refine ⟨les ++ les', ⟨_, rfl⟩, Py.upd nfp, (Kx.trans Ky).upd0 hfo0, by rw [upd_ne nfl.symm]; exact Ly, ⟨by rw [upd_same]; simp [lrefs], fun x hx => ?_⟩, fun x hx => ?_, by simp; omega⟩
        · rcases List.mem_append.mp hx with z | z
          · rw [upd_ne (tup_ne (Ay0.e x z) Ay0.l)]; exact Ay0.e x z
          · rw [upd_ne (tup_ne (Ay.e x z) Ay0.l)]; exact Ay.e x z
        · rcases List.mem_append.mp hx with z | z
          · exact hle x z
          · exact hle' x z
      · rintro σ Hx ⟨les, hσ, Px, Kx, Lx, Ax, hle, hlen⟩
        exact key σ Hx ⟨les, hσ, Px, Kx, Lx, Ax, hle, by omega⟩
    -- more ties
    rintro σ H8 ⟨les, ⟨g, rfl⟩, P8, K8, L8, A8, hle8, hl8⟩
    refine if_by (fun σ H9 => ∃ les : List Le, (∃ g g2, σ = [some (.ref p), some (.int most), some (.int m), some (.ref pl), some (.str root), some (.ref fo), g, g2, none]) ∧ Pot H9 p ∧ Kp [p] H H9 ∧ H9 pl = some (.lst (ps.map V.str)) ∧ LeAt H9 fo les ∧ LeP ps les ∧ les.length ≤ 30) (fun N key2 => ?_) ?_
    · refine ⟨_, rfl, _, _, rfl, rfl, _, rfl, ite2 (fun c => ?_) (fun c => key2 _ _ ⟨les, ⟨_, _, rfl⟩, P8, K8, L8, A8, hle8, by omega⟩)⟩
      have hm2 : 1 < m := by have := of_decide_eq_true c; omega
      refine ⟨_, rfl, _, rfl, _, rfl, fo, _, rfl, .inl (SqL.of A8.l), _, _, rfl, rfl, _, _, rfl, _, _, rfl, rfl, ?_⟩
      have hlz : (lrefs les).length = les.length := by simp
      rw [hlz]
      have hmx0 : (0 : Int) < (if most - (les.length : Int) > 0 then most - (les.length : Int) else 0) + 1 := by split <;> omega
      have hmx1 : (if most - (les.length : Int) > 0 then most - (les.length : Int) else 0) + 1 ≤ 31 := by split <;> omega
      have hmx2 : (les.length : Int) + (if most - (les.length : Int) > 0 then most - (les.length : Int) else 0) ≤ 30 := by split <;> omega
      generalize (if most - (les.length : Int) > 0 then most - (les.length : Int) else 0) = mx at hmx0 hmx1 hmx2 ⊢
      refine ⟨p, _, rfl, P8, hmx0, by omega, fun r6 H9 f0 f1 P9 K9' => ⟨_, rfl, by omega, by omega, ?_⟩⟩
      refine for_range (fun i σ Hx => ∃ (les' : List Le), (∃ g g2, σ = [some (.ref p), some (.int most), some (.int m), some (.ref pl), some (.str root), some (.ref fo), g, g2, none]) ∧ Pot Hx p ∧ Kp [p] H Hx ∧ Hx pl = some (.lst (ps.map V.str)) ∧ LeAt Hx fo les' ∧ LeP ps les' ∧ les'.length = les.length + i)
        ⟨les, ⟨_, _, rfl⟩, P9, K8.trans K9', K9'.at npl L8, A8.kp P8 nfp K9', hle8, rfl⟩ ?_ ?_
      · rintro i σ Hx hi ⟨les', ⟨g, g2, rfl⟩, Px, Kx, Lx, Ax, hle, hlen⟩
        refine ⟨_, rfl, _, rfl, p, m, rfl, Px, by omega, by omega, fun ra Hy a0 a1 Py Ky => ?_⟩
        have Ay := Ax.kp Px nfp Ky
        have Ly := Ky.at npl Lx
        have hra : ra.toNat < ps.length := by omega
        refine ⟨_, rfl, .inl ⟨rfl, _, SqL.of Ay.l⟩, _, rfl, _, rfl, rix_of (j := ra.toNat) (.inl (SqL.of Ly)) (by omega) (strAt hra) ?_⟩
        refine ⟨_, rfl, _, rfl, _, _, rfl, rfl, _, rfl, _, rfl, _, _, rfl, rfl, p, _, rfl, Py, by omega, by omega, fun rb Hz b0 b1 Pz Kz => ?_⟩
        have Az := Ay.kp Py nfp Kz
        have Lz := Kz.at npl Ly
        refine ⟨_, _, rfl, rfl, _, rfl, _, _, rfl, rfl, by omega, ?_⟩
        have hj0 := Int.emod_nonneg (ra + 1 + rb) (show (m : Int) ≠ 0 by omega)
        have hj1 := Int.emod_lt_of_pos (ra + 1 + rb) (show (0 : Int) < m by omega)
        have hjne : (ra + 1 + rb) % (m : Int) ≠ ra := fun z => by
          rcases Int.lt_or_le (ra + 1 + rb) m with y | y
          · rw [Int.emod_eq_of_lt (by omega) y] at z; omega
          · rw [← Int.sub_emod_right, Int.emod_eq_of_lt (by omega) (by omega)] at z; omega
        obtain ⟨jb, hjbe⟩ : ∃ jb, (ra + 1 + rb) % (m : Int) = jb := ⟨_, rfl⟩
        rw [hjbe] at hj0 hj1 hjne
        have hjb : jb.toNat < ps.length := by omega
        refine rix_of (j := jb.toNat) (.inl (SqL.of Lz)) (by omega) (strAt hjb) ⟨by show 2 ≤ sizeLine; decide, fun n hn => ?_⟩
        have hab : ps[ra.toNat] ≠ ps[jb.toNat] := by
          have hne : ra.toNat ≠ jb.toNat := by omega
          rcases Nat.lt_or_gt_of_ne hne with y | y
          · exact List.pairwise_iff_getElem.mp pnd _ _ hra hjb y
          · exact fun z => List.pairwise_iff_getElem.mp pnd _ _ hjb hra y z.symm
        have hma := List.getElem_mem hra
        have hmb := List.getElem_mem hjb
        generalize ps[ra.toNat] = sa at hab hma ⊢
        generalize ps[jb.toNat] = sb at hab hmb ⊢
        have sz := same_upd (o := .tup [.str sa, .str sb]) (Same.refl Hz) hn
        have nz : upd Hz n (.tup [.str sa, .str sb]) n = some (.tup [.str sa, .str sb]) := upd_same
        have P10 := Pz.new (o := .tup [.str sa, .str sb]) hn
        have K10 := (Kx.trans (Ky.trans Kz)).new (o := .tup [.str sa, .str sb]) hn
        generalize upd Hz n (.tup [.str sa, .str sb]) = H10 at sz nz P10 K10 ⊢
        have A10 := Az.same sz
        have L10 := sz _ _ Lz
        refine ⟨fo, lrefs les', .ref n, rfl, rfl, A10.l, fits (by simp; omega), ?_⟩
        refine ⟨les' ++ [(n, sa, sb)], ⟨_, _, rfl⟩, P10.upd nfp, K10.upd0 hfo0, by rw [upd_ne nfl.symm]; exact L10, ⟨by rw [upd_same]; simp [lrefs], fun x hx => ?_⟩, fun x hx => ?_, by simp; omega⟩
        · rcases List.mem_append.mp hx with q | q
          · rw [upd_ne (tup_ne (A10.e x q) A10.l)]; exact A10.e x q
          · have e : x = (n, sa, sb) := by simpa using q
            subst e
            show upd H10 fo _ n = _
            rw [upd_ne (tup_ne nz A10.l)]; exact nz
        · rcases List.mem_append.mp hx with q | q
          · exact hle x q
          · have e : x = (n, sa, sb) := by simpa using q
            subst e; exact ⟨hma, hmb, hab⟩
      · rintro σ Hx ⟨les', hσ, Px, Kx, Lx, Ax, hle, hlen⟩
        exact key2 σ Hx ⟨les', hσ, Px, Kx, Lx, Ax, hle, by omega⟩
    -- rows
    rintro σ H9 ⟨les, ⟨g, g2, rfl⟩, P9, K9, L9, A9, hle9, hl9⟩
    have hlz : (lrefs les).length = les.length := by simp
    refine ⟨_, rfl, _, rfl, fo, _, rfl, .inl (SqL.of A9.l), p, (lrefs les).length, rfl, P9, by omega, fun ta tn H10 P10 t10 _ tnm tnd tlen _ K10' => ?_⟩
    rw [hlz] at tlen
    have K10 := K9.trans K10'
    have A10 := A9.kp P9 nfp K10'
    have L10 := K10'.at npl L9
    refine ⟨_, rfl, ta, fo, _, _, rfl, SqL.of t10, SqL.of A10.l, ?_⟩
    refine lcw_zip0 (xs := tn.map V.str) (ys := lrefs les) (fits (by simp; omega)) (fun i zs σ H2 => (∃ rr : List (Addr × Row), zs = rrefs rr ∧ (∀ r ∈ rr, RowAt H2 r.1 r.2) ∧ nms rr = tn.take i ∧ (∀ r ∈ rr, r.2.2.1 ∈ ps ∧ r.2.2.2 ∈ ps ∧ r.2.2.1 ≠ r.2.2.2)) ∧ Same H10 H2 ∧ ∃ g1 g2 g3, σ = [g1, g2, g3])
      ⟨⟨[], rfl, by simp, rfl, by simp⟩, Same.refl _, _, _, _, rfl⟩ (fun i zs σ H2 hi q => ?_) ?_ ?_
    · obtain ⟨⟨rr, rfl, _, e, _⟩, s2, _⟩ := q
      have := congrArg List.length e
      rw [nms, List.length_map, List.length_take] at this
      exact ⟨by simp [this]; omega, SqL.of (s2 _ _ t10), SqL.of (s2 _ _ A10.l)⟩
    · rintro i x y zs σ H2 T hx hy ⟨⟨rr, rfl, Ra, e, Ro⟩, s2, g1, g2, g3, rfl⟩ hT
      rw [List.getElem?_map] at hx
      obtain ⟨pr, hpr, rfl⟩ := le_get hy
      cases hc : tn[i]? with
      | none => rw [hc] at hx; cases hx
      | some t =>
        rw [hc] at hx
        cases hx
        have hpm' := List.mem_of_getElem? hpr
        obtain ⟨o1, o2, o3⟩ := hle9 pr hpm'
        have s3 := same_upd (o := .tup [.str t, .ref pr.1]) s2 hT
        have pr3 := s3 _ _ (A10.e pr hpm')
        refine ⟨T, _, rfl, SqT.of upd_same, rfl, _, _, rfl, _, _, rfl, pr.1, _, rfl, SqT.of pr3, rfl, _, _, rfl, _, _, rfl, rfl, rfl, ?_⟩
        refine ⟨_, rfl, _, rfl, _, rfl, by show 3 ≤ sizeLine; decide, fun n hn => ?_⟩
        have s4 := same_upd (o := .tup [.str t, .str pr.2.1, .str pr.2.2]) s3 hn
        have s24 := same_upd (o := .tup [.str t, .str pr.2.1, .str pr.2.2]) (same_upd (o := .tup [.str t, .ref pr.1]) (Same.refl H2) hT) hn
        refine ⟨⟨rr ++ [(n, (t, pr.2.1, pr.2.2))], by simp [rrefs], fun r hr => ?_, ?_, fun r hr => ?_⟩, s4, _, _, _, rfl⟩
        · rcases List.mem_append.mp hr with z | z
          · exact s24 _ _ (Ra r z)
          · have e' : r = (n, (t, pr.2.1, pr.2.2)) := by simpa using z
            subst e'; exact upd_same
        · rw [nms, List.map_append]
          show nms rr ++ [t] = _
          rw [e, List.take_add_one, hc]
          rfl
        · rcases List.mem_append.mp hr with z | z
          · exact Ro r z
          · have e' : r = (n, (t, pr.2.1, pr.2.2)) := by simpa using z
            subst e'; exact ⟨o1, o2, o3⟩
    rintro zs σ H11 ⟨⟨rr, rfl, Ra, e, Ro⟩, s9, g1, g2, g3, rfl⟩ rw hrw
    have en : nms rr = tn := by rw [e, take_all tn (by simp; omega)]
    have hrl : rr.length = tn.length := by rw [← en]; simp
    have s10 := same_upd (o := .lst (rrefs rr)) s9 hrw
    have Ra10 : ∀ r ∈ rr, RowAt (upd H11 rw (.lst (rrefs rr))) r.1 r.2 := fun r hr => same_upd (Same.refl H11) hrw _ _ (Ra r hr)
    have w10 : upd H11 rw (.lst (rrefs rr)) rw = some (.lst (rrefs rr)) := upd_same
    generalize upd H11 rw (.lst (rrefs rr)) = H12 at s10 Ra10 w10 ⊢
    have n12 := s10 _ _ L10
    -- the web
    refine ⟨_, rfl, pl, _, rfl, .inl ⟨SqL.of n12, fun pa hpa => ?_⟩⟩
    have t2 := same_upd (o := .tup (ps.map V.str)) (Same.refl H12) hpa
    have a11 : upd H12 pa (.tup (ps.map V.str)) pa = some (.tup (ps.map V.str)) := upd_same
    generalize upd H12 pa (.tup (ps.map V.str)) = H13 at t2 a11 ⊢
    refine ⟨_, rfl, rw, rr.map fun r => (r.1, r.2.1), rfl, .inl (SqL.of (by rw [key_refs]; exact t2 _ _ w10)), fun y hy => ?_, by rw [List.length_map]; omega, ?_, fun rs1 q2 hpm2 hpw hq2 => ?_⟩
    · obtain ⟨x, hx, rfl⟩ := List.mem_map.mp hy
      exact ⟨_, t2 _ _ (Ra10 x hx)⟩
    · rw [List.map_map]
      show (nms rr).Nodup
      rw [en]; exact tnd
    obtain ⟨rs', hp2, e2'⟩ := perm_lift (fun r : Addr × Row => (r.1, r.2.1)) rs1 _ hpm2
    subst e2'
    rw [key_refs]
    have u1 := same_upd (o := .lst (rrefs rs')) (Same.refl H13) hq2
    refine ⟨q2, _, rfl, .inl ⟨SqL.of upd_same, fun ra hra => ?_⟩⟩
    have u2 := same_upd (o := .tup (rrefs rs')) u1 hra
    refine ⟨by show 2 ≤ sizeLine; decide, fun u hu => ?_⟩
    have u3 := same_upd (o := .tup [.ref pa, .ref ra]) u2 hu
    refine ⟨_, rfl, by show 2 ≤ sizeLine; decide, fun v hv => ?_⟩
    have u4 := same_upd (o := .tup [.ref u, .str root]) u3 hv
    have hur : ra ≠ u := fun z => by rw [← z, upd_same] at hu; cases hu
    have hvu : u ≠ v := fun z => by rw [← z, upd_same] at hv; cases hv
    have hvr : ra ≠ v := fun z => by rw [← z, upd_ne hur, upd_same] at hv; cases hv
    have s8v := s10.trans (t2.trans u4)
    refine k v u pa ra root ps rs' _ (P10.keep fun o e => s8v _ _ e) upd_same ⟨?_, u4 _ _ a11, ?_, fun x hx => u4 _ _ (t2 _ _ (Ra10 x (hp2.mem_iff.mp hx)))⟩ ⟨?_, pnm, psw, fun r hr => ?_, ?_, by omega, ?_⟩ (by omega) (by rw [hp2.length_eq]; omega) hroot (fun z => nfar (by omega) (hpm.mem_iff.mp z)) (K10.of_same s8v)
    · rw [upd_ne hvu, upd_same]
    · rw [upd_ne hvr, upd_ne hur, upd_same]
    · intro z; rw [z] at plen; simp at plen; omega
    · obtain ⟨x, hx, rfl⟩ := List.mem_map.mp hr
      have hxr := hp2.mem_iff.mp hx
      obtain ⟨y1, y2, y3⟩ := Ro x hxr
      exact ⟨tnm _ (by rw [← en]; exact List.mem_map_of_mem (f := fun z : Addr × Row => z.2.1) hxr), y1, y2, y3⟩
    · rw [List.map_map] at hpw ⊢; exact hpw
    · rw [List.length_map, hp2.length_eq]; omega
end
end K23

set_option Elab.async false
set_option linter.all false
set_option maxRecDepth 100000
set_option maxHeartbeats 4000000
namespace K23
open PySem L2
noncomputable abbrev T := Addr × Row
/-- so many steps from a place to a place -/
inductive Walk (R : List Row) (a : Str) : Nat → Str → Prop
  | nil : Walk R a 0 a
  | snoc {n : Nat} {r : Row} : Walk R a n r.2.1 → r ∈ R → Walk R a (n + 1) r.2.2
noncomputable def Dist (R : List Row) (a : Str) (n : Nat) (x : Str) : Prop := Walk R a n x ∧ ∀ m, Walk R a m x → n ≤ m
section
variable {R : List Row} {a x : Str} {n m : Nat}
theorem Dist.uniq (h : Dist R a n x) (h' : Dist R a m x) : n = m := Nat.le_antisymm (h.2 m h'.1) (h'.2 n h.1)
theorem Dist.zero : Dist R a 0 a := ⟨.nil, fun _ _ => Nat.zero_le _⟩
theorem Walk.z (h : Walk R a 0 x) : x = a := by cases h; rfl
theorem Walk.dist : ∀ {n : Nat} {x : Str}, Walk R a n x → ∃ m, m ≤ n ∧ Dist R a m x := by
  intro n
  induction n using Nat.strongRecOn with
  | ind n ih =>
    intro x h
    by_cases c : ∃ m, m < n ∧ Walk R a m x
    · obtain ⟨m, h1, h2⟩ := c
      obtain ⟨k, h3, h4⟩ := ih m h1 h2
      exact ⟨k, by omega, h4⟩
    · refine ⟨n, Nat.le_refl _, h, fun m hm => ?_⟩
      rcases Nat.lt_or_ge m n with q | q
      · exact absurd ⟨m, q, hm⟩ c
      · exact q
theorem Dist.pred (h : Dist R a (n + 1) x) : ∃ r ∈ R, r.2.2 = x ∧ Dist R a n r.2.1 := by
  obtain ⟨hw, hm⟩ := h
  generalize hn : n + 1 = k at hw hm
  cases hw with
  | nil => omega
  | @snoc n' r hw' hr =>
    have e : n' = n := by omega
    subst e
    refine ⟨r, hr, rfl, hw', fun m h => ?_⟩
    have := hm (m + 1) (.snoc h hr)
    omega
theorem Dist.step {r : Row} (h : Dist R a n r.2.1) (hr : r ∈ R) (hn : ∀ m, m ≤ n → ¬ Dist R a m r.2.2) : Dist R a (n + 1) r.2.2 := by
  refine ⟨.snoc h.1 hr, fun m hm => ?_⟩
  obtain ⟨k, h1, h2⟩ := hm.dist
  rcases Nat.lt_or_ge n k with q | q
  · omega
  · exact absurd h2 (hn k q)
end
noncomputable def stp (a x : Str) (tk : List T) (r : T) : List T := if r.2.2.1 = x ∧ r.2.2.2 ∉ a :: tk.map (·.2.2.2) then tk ++ [r] else tk
noncomputable def bfs (rs : List T) (a : Str) : Nat → List T
  | 0 => []
  | k + 1 => match (a :: (bfs rs a k).map (·.2.2.2))[k]? with
    | some x => rs.foldl (stp a x) (bfs rs a k)
    | none => bfs rs a k
structure Bfs (rs : List T) (a : Str) (fd : List (Str × Nat)) (tk : List T) (q : Nat) : Prop where
  fst : fd.map (·.1) = a :: tk.map (·.2.2.2)
  dist : ∀ p ∈ fd, Dist (rs.map (·.2)) a p.2 p.1
  nd : (fd.map (·.1)).Nodup
  so : fd.Pairwise (fun p p' => p.2 ≤ p'.2)
  sub : ∀ t ∈ tk, t ∈ rs
  par : ∀ t ∈ tk, t.2.2.1 ∈ fd.map (·.1) ∧ ∃ n, Dist (rs.map (·.2)) a n t.2.2.1 ∧ Dist (rs.map (·.2)) a (n + 1) t.2.2.2
  done : ∀ i p, i < q → fd[i]? = some p → ∀ r ∈ rs, r.2.2.1 = p.1 → r.2.2.2 ∈ fd.map (·.1)
  near : ∀ p, fd[q]? = some p → (∀ p' ∈ fd, p'.2 ≤ p.2 + 1) ∧ ∀ z m, Dist (rs.map (·.2)) a m z → m ≤ p.2 → z ∈ fd.map (·.1)
  ql : q ≤ fd.length
theorem Bfs.start (rs : List T) (a : Str) : Bfs rs a [(a, 0)] [] 0 where
  fst := rfl
  dist := fun p hp => by have e : p = (a, 0) := (by simpa using hp); subst e; exact Dist.zero
  nd := by simp
  so := by simp
  sub := by simp
  par := by simp
  done := fun i p hi => absurd hi (Nat.not_lt_zero _)
  near := fun p hp => by
    have e : p = (a, 0) := by simpa using hp.symm
    subst e
    refine ⟨by simp, fun z m h hm => ?_⟩
    have e : m = 0 := Nat.le_zero.mp hm
    subst e
    simpa using h.1.z
  ql := Nat.zero_le _
theorem nodup_snoc {α : Type} {l : List α} {x : α} (h : l.Nodup) (hx : x ∉ l) : (l ++ [x]).Nodup := by
  rw [List.nodup_append]
  refine ⟨h, by simp, fun a ha b hb => ?_⟩
  have e : b = x := by simpa using hb
  subst e
  exact fun z => hx (z ▸ ha)
section
variable {rs : List T} {a : Str} {fd : List (Str × Nat)} {tk : List T} {q : Nat}
/-- one row of a turn -/
theorem Bfs.row (B : Bfs rs a fd tk q) {x : Str} {n : Nat} (hq : fd[q]? = some (x, n)) {r : T} (hr : r ∈ rs) :
    ∃ more, fd <+: fd ++ more ∧ Bfs rs a (fd ++ more) (stp a x tk r) q ∧ (r.2.2.1 = x → r.2.2.2 ∈ (fd ++ more).map (·.1)) := by
  have hql : q < fd.length := (List.getElem?_eq_some_iff.mp hq).1
  have hmx : (x, n) ∈ fd := List.mem_of_getElem? hq
  by_cases c : r.2.2.1 = x ∧ r.2.2.2 ∉ a :: tk.map (·.2.2.2)
  · have hy : r.2.2.2 ∉ fd.map (·.1) := by rw [B.fst]; exact c.2
    obtain ⟨n1, n2⟩ := B.near _ hq
    have hd : Dist (rs.map (·.2)) a n r.2.2.1 := by rw [c.1]; exact B.dist _ hmx
    have hd' : Dist (rs.map (·.2)) a (n + 1) r.2.2.2 := hd.step (List.mem_map_of_mem hr) fun m hm h => hy (n2 _ m h hm)
    have e : stp a x tk r = tk ++ [r] := by unfold stp; rw [if_pos c]
    rw [e]
    refine ⟨[(r.2.2.2, n + 1)], List.prefix_append _ _, ⟨?_, ?_, ?_, ?_, ?_, ?_, ?_, ?_, ?_⟩, fun _ => by simp⟩
    · simp [B.fst]
    · intro p hp
      rcases List.mem_append.mp hp with z | z
      · exact B.dist p z
      · have e : p = (r.2.2.2, n + 1) := by simpa using z
        subst e; exact hd'
    · rw [List.map_append]; exact nodup_snoc B.nd hy
    · rw [List.pairwise_append]
      refine ⟨B.so, by simp, fun p hp p' hp' => ?_⟩
      have e : p' = (r.2.2.2, n + 1) := by simpa using hp'
      subst e
      exact n1 p hp
    · intro t ht
      rcases List.mem_append.mp ht with z | z
      · exact B.sub t z
      · have e : t = r := by simpa using z
        subst e; exact hr
    · intro t ht
      rcases List.mem_append.mp ht with z | z
      · obtain ⟨y1, y2⟩ := B.par t z
        exact ⟨by rw [List.map_append]; exact List.mem_append_left _ y1, y2⟩
      · have e : t = r := by simpa using z
        subst e
        exact ⟨by rw [List.map_append]; exact List.mem_append_left _ (by rw [c.1]; exact List.mem_map_of_mem (f := (·.1)) hmx), n, hd, hd'⟩
    · intro i p hi hp r' hr' e
      rw [List.getElem?_append_left (by omega)] at hp
      rw [List.map_append]
      exact List.mem_append_left _ (B.done i p hi hp r' hr' e)
    · intro p hp
      rw [List.getElem?_append_left hql, hq] at hp
      cases hp
      refine ⟨fun p' hp' => ?_, fun z m h hm => by rw [List.map_append]; exact List.mem_append_left _ (n2 z m h hm)⟩
      rcases List.mem_append.mp hp' with z | z
      · exact n1 p' z
      · have e : p' = (r.2.2.2, n + 1) := by simpa using z
        subst e; exact Nat.le_refl _
    · have := B.ql; simp; omega
  · have e : stp a x tk r = tk := by unfold stp; rw [if_neg c]
    rw [e]
    refine ⟨[], by simp, by simpa using B, fun h => ?_⟩
    rw [List.append_nil, B.fst]
    exact Decidable.byContradiction fun z => c ⟨h, z⟩
/-- a whole turn -/
theorem Bfs.rows {x : Str} {n : Nat} : ∀ (rs' : List T) (fd : List (Str × Nat)) (tk : List T), (∀ r ∈ rs', r ∈ rs) → Bfs rs a fd tk q → fd[q]? = some (x, n) →
    ∃ more, Bfs rs a (fd ++ more) (rs'.foldl (stp a x) tk) q ∧ ∀ r ∈ rs', r.2.2.1 = x → r.2.2.2 ∈ (fd ++ more).map (·.1)
  | [], fd, tk, _, B, _ => ⟨[], by simpa using B, by simp⟩
  | r :: rs', fd, tk, hs, B, hq => by
    obtain ⟨m1, _, B1, h1⟩ := B.row hq (hs r List.mem_cons_self)
    have hql : q < fd.length := (List.getElem?_eq_some_iff.mp hq).1
    obtain ⟨m2, B2, h2⟩ := Bfs.rows rs' (fd ++ m1) _ (fun r' hr' => hs r' (List.mem_cons_of_mem _ hr')) B1 (by rw [List.getElem?_append_left hql]; exact hq)
    refine ⟨m1 ++ m2, by rw [← List.append_assoc]; exact B2, fun r' hr' e => ?_⟩
    rw [← List.append_assoc]
    rcases List.mem_cons.mp hr' with z | z
    · subst z
      rw [List.map_append]
      exact List.mem_append_left _ (h1 e)
    · exact h2 r' z e
theorem Bfs.next (B : Bfs rs a fd tk q) {x : Str} {n : Nat} (hq : fd[q]? = some (x, n)) : ∃ fd', Bfs rs a fd' (rs.foldl (stp a x) tk) (q + 1) := by
  obtain ⟨more, B', h⟩ := Bfs.rows rs fd tk (fun _ z => z) B hq
  have hql : q < fd.length := (List.getElem?_eq_some_iff.mp hq).1
  have hq' : (fd ++ more)[q]? = some (x, n) := by rw [List.getElem?_append_left hql]; exact hq
  refine ⟨fd ++ more, B'.fst, B'.dist, B'.nd, B'.so, B'.sub, B'.par, fun i p hi hp r hr e => ?_, fun p hp => ?_, by simp; omega⟩
  · rcases Nat.lt_or_ge i q with z | z
    · exact B'.done i p z hp r hr e
    · have ei : i = q := by omega
      subst ei
      rw [hq'] at hp; cases hp
      exact h r hr e
  · obtain ⟨n1, n2⟩ := B'.near _ hq'
    have hpm := List.mem_of_getElem? hp
    obtain ⟨l1, g1⟩ := List.getElem?_eq_some_iff.mp hq'
    obtain ⟨l2, g2⟩ := List.getElem?_eq_some_iff.mp hp
    have hle : n ≤ p.2 := by
      have := List.pairwise_iff_getElem.mp B'.so q (q + 1) l1 l2 (by omega)
      rw [g1, g2] at this
      exact this
    have hle2 := n1 p hpm
    dsimp only at hle2 n1
    refine ⟨fun p' hp' => by have := n1 p' hp'; omega, fun z m hz hm => ?_⟩
    rcases Nat.lt_or_ge n m with y | y
    · have em : m = n + 1 := by omega
      subst em
      obtain ⟨r, hr, rfl, hd⟩ := hz.pred
      obtain ⟨t, ht, rfl⟩ := List.mem_map.mp hr
      have hf := n2 _ n hd (Nat.le_refl _)
      obtain ⟨p0, hp0, e0⟩ := List.mem_map.mp hf
      have en : p0.2 = n := (B'.dist p0 hp0).uniq (by rw [e0]; exact hd)
      obtain ⟨i, hi⟩ := List.getElem?_of_mem hp0
      obtain ⟨l3, g3⟩ := List.getElem?_eq_some_iff.mp hi
      have hiq : i < q + 1 := by
        rcases Nat.lt_or_ge i (q + 1) with w | w
        · exact w
        · exfalso
          rcases Nat.lt_or_ge (q + 1) i with v | v
          · have := List.pairwise_iff_getElem.mp B'.so (q + 1) i l2 l3 v
            rw [g2, g3] at this
            omega
          · have ei : i = q + 1 := by omega
            subst ei
            rw [hp] at hi; cases hi
            omega
      rcases Nat.lt_or_ge i q with w | w
      · exact B'.done i p0 w hi t ht e0.symm
      · have ei : i = q := by omega
        subst ei
        rw [hq'] at hi; cases hi
        exact h t ht e0.symm
    · exact n2 z m hz y
end
end K23

set_option Elab.async false
set_option linter.all false
set_option maxRecDepth 100000
set_option maxHeartbeats 4000000
namespace K23
open PySem L2
theorem nodup_le {α : Type} : ∀ {l m : List α}, l.Nodup → (∀ x ∈ l, x ∈ m) → l.length ≤ m.length
  | [], _, _, _ => Nat.zero_le _
  | x :: l, m, h, hs => by
    obtain ⟨h1, h2⟩ := List.nodup_cons.mp h
    obtain ⟨u, v, rfl⟩ := List.append_of_mem (hs x List.mem_cons_self)
    have := nodup_le (m := u ++ v) h2 fun y hy => by
      have q := hs y (List.mem_cons_of_mem _ hy)
      rcases List.mem_append.mp q with z | z
      · exact List.mem_append_left _ z
      · rcases List.mem_cons.mp z with e | z
        · subst e; exact absurd hy h1
        · exact List.mem_append_right _ z
    simp at this ⊢
    omega
noncomputable abbrev fnd (a : Str) (tk : List T) : List Str := a :: tk.map (·.2.2.2)
/-- all that is told of the rows first come along -/
structure Full (rs : List T) (a : Str) (tk : List T) : Prop where
  mem : ∀ z ∈ fnd a tk, ∃ n, Dist (rs.map (·.2)) a n z
  nd : (fnd a tk).Nodup
  sub : ∀ t ∈ tk, t ∈ rs
  par : ∀ t ∈ tk, t.2.2.1 ∈ fnd a tk ∧ ∃ n, Dist (rs.map (·.2)) a n t.2.2.1 ∧ Dist (rs.map (·.2)) a (n + 1) t.2.2.2
  cl : ∀ n z, Walk (rs.map (·.2)) a n z → z ∈ fnd a tk
theorem Bfs.full {rs : List T} {a : Str} {fd : List (Str × Nat)} {tk : List T} {q : Nat} (B : Bfs rs a fd tk q) (hq : fd.length ≤ q) : Full rs a tk := by
  have hf : fnd a tk = fd.map (·.1) := B.fst.symm
  refine ⟨fun z hz => ?_, by rw [hf]; exact B.nd, B.sub, fun t ht => by rw [hf]; exact B.par t ht, fun n z h => ?_⟩
  · rw [hf] at hz
    obtain ⟨p, hp, rfl⟩ := List.mem_map.mp hz
    exact ⟨_, B.dist p hp⟩
  · rw [hf]
    induction h with
    | nil => rw [← hf]; exact List.mem_cons_self
    | @snoc n r h hr ih =>
      obtain ⟨p, hp, e⟩ := List.mem_map.mp ih
      obtain ⟨i, hi⟩ := List.getElem?_of_mem hp
      obtain ⟨t, ht, rfl⟩ := List.mem_map.mp hr
      exact B.done i p (Nat.lt_of_lt_of_le (List.getElem?_eq_some_iff.mp hi).1 hq) hi t ht e.symm
/-- a place that is come to is one of those that hold the start and all ends -/
theorem walk_in {R : List Row} {a : Str} {ps : List Str} (ha : a ∈ ps) (h : ∀ r ∈ R, r.2.2 ∈ ps) : ∀ {n : Nat} {z : Str}, Walk R a n z → z ∈ ps := by
  intro n z hw
  cases hw with
  | nil => exact ha
  | snoc _ hr => exact h _ hr
theorem Bfs.bound {rs : List T} {a : Str} {fd : List (Str × Nat)} {tk : List T} {q : Nat} (B : Bfs rs a fd tk q) {ps : List Str} (ha : a ∈ ps) (h : ∀ r ∈ rs, r.2.2.2 ∈ ps) : fd.length ≤ ps.length := by
  have := nodup_le B.nd (m := ps) fun z hz => by
    obtain ⟨p, hp, rfl⟩ := List.mem_map.mp hz
    exact walk_in ha (fun r hr => by obtain ⟨t, ht, rfl⟩ := List.mem_map.mp hr; exact h t ht) (B.dist p hp).1
  simpa using this
theorem bfs_stable {rs : List T} {a : Str} {k : Nat} (h : (bfs rs a k).length + 1 ≤ k) : ∀ j, bfs rs a (k + j) = bfs rs a k
  | 0 => rfl
  | j + 1 => by
    have ih := bfs_stable h j
    show (match (a :: (bfs rs a (k + j)).map (·.2.2.2))[k + j]? with | some x => rs.foldl (stp a x) (bfs rs a (k + j)) | none => bfs rs a (k + j)) = _
    rw [ih]
    have e : (a :: (bfs rs a k).map (·.2.2.2))[k + j]? = none := by
      rw [List.getElem?_eq_none_iff]; simp; omega
    rw [e]
theorem first_ex : ∃ f : List T → Str → List T, ∀ rs a, f rs a = bfs rs a 200 := ⟨_, fun _ _ => rfl⟩
noncomputable def first (rs : List T) (a : Str) : List T := Classical.choose first_ex rs a
theorem first_eq (rs : List T) (a : Str) : first rs a = bfs rs a 200 := Classical.choose_spec first_ex rs a
theorem first_of {rs : List T} {a : Str} {k : Nat} (h : (bfs rs a k).length + 1 ≤ k) (hk : k ≤ 200) : bfs rs a k = first rs a := by
  have := bfs_stable h (200 - k)
  rw [show k + (200 - k) = 200 by omega] at this
  rw [first_eq]
  exact this.symm
/-- the way back -/
noncomputable def wayB (tk : List T) (a : Str) : Nat → Str → List T
  | 0, _ => []
  | f + 1, x => if x = a then [] else match tk.find? (fun t => decide (t.2.2.2 = x)) with
    | some t => wayB tk a f t.2.2.1 ++ [t]
    | none => []
theorem wayF_ex : ∃ f : List T → Str → Str → List T, ∀ tk a x, f tk a x = wayB tk a 200 x := ⟨_, fun _ _ _ => rfl⟩
noncomputable def wayF (tk : List T) (a x : Str) : List T := Classical.choose wayF_ex tk a x
theorem wayF_eq (tk : List T) (a x : Str) : wayF tk a x = wayB tk a 200 x := Classical.choose_spec wayF_ex tk a x
theorem wayB_root (tk : List T) (a : Str) (f : Nat) : wayB tk a f a = [] := by
  cases f with
  | zero => rfl
  | succ f => show (if a = a then _ else _) = _; rw [if_pos rfl]
noncomputable def lst (a : Str) (w : List T) : Str := (a :: w.map (·.2.2.2)).getLast (by simp)
theorem lst_snoc (a : Str) (w : List T) (t : T) : lst a (w ++ [t]) = t.2.2.2 := by
  have e : (a :: (w ++ [t]).map (·.2.2.2)) = (a :: w.map (·.2.2.2)) ++ [t.2.2.2] := by simp
  unfold lst
  simp only [e]
  first | exact List.getLast_append_singleton _ | exact List.getLast_concat | simp
structure WayOk (rs : List T) (a : Str) (w : List T) (x : Str) : Prop where
  at' : ∀ i t, w[i]? = some t → t ∈ rs ∧ t.2.2.1 = lst a (w.take i) ∧ Dist (rs.map (·.2)) a (i + 1) t.2.2.2
  last : lst a w = x
theorem find_some {tk : List T} {x : Str} (h : x ∈ tk.map (·.2.2.2)) : ∃ t, tk.find? (fun t => decide (t.2.2.2 = x)) = some t ∧ t ∈ tk ∧ t.2.2.2 = x := by
  obtain ⟨t, ht, e⟩ := List.mem_map.mp h
  cases q : tk.find? (fun t => decide (t.2.2.2 = x)) with
  | none => exact absurd (List.find?_eq_none.mp q t ht) (by simpa using e)
  | some u => exact ⟨u, rfl, List.mem_of_find?_eq_some q, by simpa using List.find?_some q⟩
theorem Full.way {rs : List T} {a : Str} {tk : List T} (F : Full rs a tk) : ∀ (f n : Nat) (x : Str), n ≤ f → x ∈ fnd a tk → Dist (rs.map (·.2)) a n x → WayOk rs a (wayB tk a f x) x ∧ (wayB tk a f x).length = n
  | f, 0, x, _, _, hd => by
    have e := hd.1.z
    subst e
    rw [wayB_root]
    exact ⟨⟨fun i t h => by simp at h, rfl⟩, rfl⟩
  | 0, n + 1, x, h, _, _ => absurd h (by omega)
  | f + 1, n + 1, x, h, hx, hd => by
    have hne : x ≠ a := fun e => by subst e; exact absurd (hd.uniq Dist.zero) (by omega)
    have hx' : x ∈ tk.map (·.2.2.2) := (List.mem_cons.mp hx).resolve_left hne
    obtain ⟨t, e, ht, hto⟩ := find_some hx'
    obtain ⟨p1, k, p2, p3⟩ := F.par t ht
    have ek : k = n := by
      have := p3.uniq (by rw [hto]; exact hd)
      omega
    subst ek
    obtain ⟨ih, il⟩ := F.way f k t.2.2.1 (by omega) p1 p2
    have ew : wayB tk a (f + 1) x = wayB tk a f t.2.2.1 ++ [t] := by
      show (if x = a then _ else _) = _
      rw [if_neg hne, e]
    rw [ew]
    refine ⟨⟨fun i u hu => ?_, by rw [lst_snoc]; exact hto⟩, by rw [List.length_append, il]; rfl⟩
    rcases Nat.lt_or_ge i (wayB tk a f t.2.2.1).length with lt | ge
    · rw [List.getElem?_append_left lt] at hu
      rw [List.take_append_of_le_length (by omega)]
      exact ih.at' i u hu
    · rw [List.getElem?_append_right ge] at hu
      have hi0 : i - (wayB tk a f t.2.2.1).length = 0 := by
        have := (List.getElem?_eq_some_iff.mp hu).1
        simp at this
        omega
      rw [hi0] at hu
      have eu : t = u := by simpa using hu
      subst eu
      have ei : i = (wayB tk a f t.2.2.1).length := by omega
      rw [ei, List.take_left', il]
      · exact ⟨F.sub _ ht, ih.last.symm, p3⟩
      · rfl
theorem dist_lt {R : List Row} {a : Str} {ps : List Str} (ha : a ∈ ps) (h : ∀ r ∈ R, r.2.2 ∈ ps) : ∀ {n : Nat} {z : Str}, Dist R a n z → n < ps.length := by
  have key : ∀ (n : Nat) (z : Str), Dist R a n z → ∃ l : List Str, l.length = n + 1 ∧ l.Nodup ∧ (∀ y ∈ l, y ∈ ps) ∧ ∀ y ∈ l, ∃ m, m ≤ n ∧ Dist R a m y := by
    intro n
    induction n with
    | zero => intro z hz; exact ⟨[z], rfl, by simp, by simpa using walk_in ha h hz.1, by simpa using hz⟩
    | succ n ih =>
      intro z hz
      obtain ⟨r, hr, rfl, hd⟩ := hz.pred
      obtain ⟨l, h1, h2, h3, h4⟩ := ih _ hd
      refine ⟨r.2.2 :: l, by simp [h1], List.nodup_cons.mpr ⟨fun hm => ?_, h2⟩, fun y hy => ?_, fun y hy => ?_⟩
      · obtain ⟨m, h5, h6⟩ := h4 _ hm
        exact absurd (h6.uniq hz) (by omega)
      · rcases List.mem_cons.mp hy with e | hy
        · subst e; exact h _ hr
        · exact h3 y hy
      · rcases List.mem_cons.mp hy with e | hy
        · subst e; exact ⟨_, Nat.le_refl _, hz⟩
        · obtain ⟨m, h5, h6⟩ := h4 y hy
          exact ⟨m, by omega, h6⟩
  intro n z hz
  obtain ⟨l, h1, h2, h3, _⟩ := key n z hz
  have := nodup_le h2 h3
  omega
end K23

set_option Elab.async false
set_option linter.all false
set_option maxRecDepth 100000
set_option maxHeartbeats 4000000
namespace K23
open PySem L2
theorem stp_more (a x : Str) (r : T) (tk : List T) : ∃ more, stp a x tk r = tk ++ more ∧ more.length ≤ 1 := by
  unfold stp
  split
  · exact ⟨[r], rfl, by simp⟩
  · exact ⟨[], by simp, by simp⟩
theorem fold_more (a x : Str) : ∀ (rs tk : List T), ∃ more, rs.foldl (stp a x) tk = tk ++ more ∧ more.length ≤ rs.length
  | [], tk => ⟨[], by simp, by simp⟩
  | r :: rs, tk => by
    obtain ⟨m1, e1, h1⟩ := stp_more a x r tk
    obtain ⟨m2, e2, h2⟩ := fold_more a x rs (stp a x tk r)
    refine ⟨m1 ++ m2, ?_, by simp; omega⟩
    rw [List.foldl_cons, e2, e1, List.append_assoc]
theorem take_fold {a x : Str} {rs tk : List T} {i : Nat} {r : T} (h : rs[i]? = some r) : (rs.take (i + 1)).foldl (stp a x) tk = stp a x ((rs.take i).foldl (stp a x) tk) r := by
  rw [List.take_add_one, h, List.foldl_append]; rfl
theorem Same.upd0 {H H' : Hp} {q : Addr} {o : HO} (h : Same H H') (hq : H q = none) : Same H (upd H' q o) := fun b ob e => by
  rw [upd_ne (ne_of_none e hq)]; exact h b ob e
structure RowsAt (H : Hp) (rs : List T) : Prop where
  e : ∀ r ∈ rs, RowAt H r.1 r.2
theorem RowsAt.same {H H' : Hp} {rs : List T} (h : RowsAt H rs) (s : Same H H') : RowsAt H' rs := ⟨fun r hr => s _ _ (h.e r hr)⟩
section
variable {P : Program} {w : World} {K : PySem.W.Frag} {mg : Str → Option Value} {base : Heap}
noncomputable def spFirst : Sp := fun vs H Q _ => ∃ (ra : Addr) (a : Str) (rs : List T) (ps : List Str), vs = [.ref ra, .str a] ∧ H ra = some (.tup (rrefs rs)) ∧ RowsAt H rs ∧ a ∈ ps ∧ (∀ r ∈ rs, r.2.2.2 ∈ ps) ∧ ps.length ≤ 100 ∧ rs.length ≤ 60 ∧
  ∀ (q : Addr) (H' : Hp), Same H H' → H q = none → H' q = some (.lst (rrefs (first rs a))) → Full rs a (first rs a) → Q (.ref q) H'
noncomputable abbrev N16 : List Str := ["rows", "start", "found", "taken", "done", "row"]
theorem sc16 : FnScope N16 ["rows", "start"] (defScope (top 16)) := ⟨rfl, rfl, rfl, by decide +kernel, rfl, by decide +kernel, by decide +kernel⟩
theorem ok_first_rows {f : Addr} {fd : FuncData} (F : Fun K "first_rows" "first_rows" (top 16) f fd) (B : Bl mg) : FnOk P w K mg base CX0 1 f fd ["rows", "start"] spFirst := by
  refine F.ok sc16 (fun vs H Q E h => ?_) (fun cdv A outer s H vs Q E hr h => ?_)
  · obtain ⟨ra, a, rs, ps, rfl, _⟩ := h
    rfl
  · obtain ⟨ra, a, rs, ps, rfl, hra, hrows, haps, hps, hz, hrz, k⟩ := h
    refine ⟨_, pss_cons (ps_set (i := 2) sc16.nd rfl (Or.inl rfl) (pe_lst (pa_cons (pv 1) pa_nil)))
      (pss_cons (ps_set (i := 3) sc16.nd rfl (Or.inl rfl) (pe_lst pa_nil))
      (pss_cons (ps_set (i := 4) sc16.nd rfl (Or.inl rfl) pe_int)
      (pss_cons (ps_while PassesOwn.never (pt_cmpR op_lt (pv 4) (pe_callB call_len_seq rfl B.len PySem.boot_len (pa_cons (pv 2) pa_nil)) (nomark _))
        (pss_cons (ps_for PassesOwn.never rfl (pi_tup (pv 0)) (pg_name (i := 5) sc16.nd rfl (Or.inl rfl))
          (pss_one (ps_if (PW.pt (pw_and (pt_cmpR op_eq (pe_ix ix_seq (pv 5) pe_int (fun _ _ => rfl)) (pe_ix ix_seq (pv 2) (pv 4) (fun _ _ => rfl)) (nomark _))
              (pw_and1 (pt_cmpR op_notIn_seq (pe_ix ix_seq (pv 5) pe_int (fun _ _ => rfl)) (pv 2) (by with_unfolding_all rfl)))))
            (pss_cons (ps_expr (pe_bm PySem.F.plainAttrs_list PySem.F.slot_list_append PySem.F.type_list_append mt_append (pv 2) (pa_cons (pe_ix ix_seq (pv 5) pe_int (fun _ _ => rfl)) pa_nil)))
            (pss_one (ps_expr (pe_bm PySem.F.plainAttrs_list PySem.F.slot_list_append PySem.F.type_list_append mt_append (pv 3) (pa_cons (pv 5) pa_nil))))) pss_nil)))
        (pss_one (ps_aug (i := 4) sc16.nd rfl (Or.inl rfl) pe_int ip_add))))
      (pss_one (ps_ret (pv 3)))))), ?_⟩
    refine ⟨_, rfl, by show 1 ≤ sizeLine; decide, fun fo hfo => ?_⟩
    have s1 := same_upd (o := .lst [.str a]) (Same.refl H) hfo
    have f1 : upd H fo (.lst [.str a]) fo = some (.lst ((fnd a []).map V.str)) := upd_same
    generalize upd H fo (.lst [.str a]) = H1 at s1 f1 ⊢
    refine ⟨Nat.zero_le _, fun tk htk => ?_⟩
    have htk0 := s1.free htk
    have nft : fo ≠ tk := ne_of_none f1 htk
    have s2 := same_upd (o := .lst []) s1 htk
    have f2 : upd H1 tk (.lst []) fo = some (.lst ((fnd a []).map V.str)) := by rw [upd_ne nft]; exact f1
    have t2 : upd H1 tk (.lst []) tk = some (.lst (rrefs [])) := upd_same
    generalize upd H1 tk (.lst []) = H2 at s2 f2 t2 ⊢
    refine ⟨fun m σ H3 => ∃ (q : Nat) (fd : List (Str × Nat)) (g : Option V), σ = [some (.ref ra), some (.str a), some (.ref fo), some (.ref tk), some (.int q), g] ∧ m = 200 - q ∧ Bfs rs a fd (bfs rs a q) q ∧ Same H H3 ∧ H3 fo = some (.lst ((fnd a (bfs rs a q)).map V.str)) ∧ H3 tk = some (.lst (rrefs (bfs rs a q))),
      ⟨_, 0, _, none, rfl, rfl, Bfs.start rs a, s2, f2, t2⟩, ?_⟩
    rintro m σ H3 ⟨q, fd, g, rfl, rfl, Bq, s3, f3, t3⟩
    have hfl : (fnd a (bfs rs a q)).length = fd.length := by
      have := congrArg List.length Bq.fst
      rw [List.length_map] at this
      exact this.symm
    have hfb := Bq.bound haps hps
    have hql := Bq.ql
    refine ⟨_, rfl, _, rfl, fo, _, rfl, .inl (SqL.of f3), _, _, rfl, rfl, _, rfl, ite2 (fun c => ?_) (fun c => ?_)⟩
    · have hlt : q < fd.length := by
        have := of_decide_eq_true c
        rw [List.length_map, hfl] at this
        omega
      have hqx : fd[q]? = some (fd[q].1, fd[q].2) := List.getElem?_eq_getElem hlt
      obtain ⟨fd', B'⟩ := Bq.next hqx
      have hx : (fnd a (bfs rs a q))[q]? = some fd[q].1 := by
        show (a :: (bfs rs a q).map (·.2.2.2))[q]? = _
        rw [← Bq.fst, List.getElem?_map, hqx]; rfl
      have eb : bfs rs a (q + 1) = rs.foldl (stp a fd[q].1) (bfs rs a q) := by
        show (match (a :: (bfs rs a q).map (·.2.2.2))[q]? with | some x => rs.foldl (stp a x) (bfs rs a q) | none => bfs rs a q) = _
        rw [show (a :: (bfs rs a q).map (·.2.2.2))[q]? = some fd[q].1 from hx]
      rw [← eb] at B'
      generalize fd[q].1 = x at hx eb
      refine ⟨fun σ' H' => ∃ m', m' < 200 - q ∧ ∃ (q : Nat) (fd : List (Str × Nat)) (g : Option V), σ' = [some (.ref ra), some (.str a), some (.ref fo), some (.ref tk), some (.int q), g] ∧ m' = 200 - q ∧ Bfs rs a fd (bfs rs a q) q ∧ Same H H' ∧ H' fo = some (.lst ((fnd a (bfs rs a q)).map V.str)) ∧ H' tk = some (.lst (rrefs (bfs rs a q))), fun σ' H' q => q, ?_⟩
      refine ⟨_, rfl, ra, rfl, ⟨_, SqT.of (s3 _ _ hra)⟩, for_tup (K := K) (a := ra) (xs := rrefs rs) (fun i σ H4 => ∃ g, σ = [some (.ref ra), some (.str a), some (.ref fo), some (.ref tk), some (.int q), g] ∧ Same H H4 ∧ H4 fo = some (.lst ((fnd a ((rs.take i).foldl (stp a x) (bfs rs a q))).map V.str)) ∧ H4 tk = some (.lst (rrefs ((rs.take i).foldl (stp a x) (bfs rs a q)))))
        ⟨_, rfl, s3, f3, t3⟩ (fun i σ H4 _ p => by obtain ⟨_, _, s4, _⟩ := p; exact SqT.of (s4 _ _ hra)) ?_ ?_⟩
      · rintro i y σ H4 hy ⟨g, rfl, s4, f4, t4⟩
        obtain ⟨r, hri, rfl⟩ := rowAt_get hy
        have hil : i < rs.length := (List.getElem?_eq_some_iff.mp hri).1
        have hrr := s4 _ _ (hrows.e r (List.mem_of_getElem? hri))
        obtain ⟨more, em, hml⟩ := fold_more a x (rs.take i) (bfs rs a q)
        have hlen : ((rs.take i).foldl (stp a x) (bfs rs a q)).length ≤ 160 := by
          rw [em, List.length_append]
          have h1 : (bfs rs a q).length + 1 = fd.length := by simpa using hfl
          have h2 : (rs.take i).length ≤ 60 := by rw [List.length_take]; omega
          omega
        have hx4 : (fnd a ((rs.take i).foldl (stp a x) (bfs rs a q)))[q]? = some x := by
          rw [em]
          show (a :: (bfs rs a q ++ more).map (·.2.2.2))[q]? = _
          rw [List.map_append, ← List.cons_append, List.getElem?_append_left (by
            have := hfl; simp at this ⊢; omega)]
          exact hx
        have tf := take_fold (a := a) (x := x) (tk := bfs rs a q) hri
        rw [tf]
        generalize (rs.take i).foldl (stp a x) (bfs rs a q) = tl at f4 t4 hlen hx4 ⊢
        have hxs : ((fnd a tl).map V.str)[q]? = some (.str x) := by rw [List.getElem?_map, hx4]; rfl
        refine ⟨_, rfl, rix_of (j := 1) (.inr (SqT.of hrr)) rfl rfl ⟨_, rfl, _, rfl, rix_of (j := q) (.inl (SqL.of f4)) rfl hxs ⟨rfl, _, rfl, ?_⟩⟩⟩
        by_cases c1 : r.2.2.1 = x
        · rw [decide_eq_true (show V.str r.2.2.1 = V.str x by rw [c1])]
          refine iteT ⟨_, rfl, rix_of (j := 2) (.inr (SqT.of hrr)) rfl rfl ⟨_, rfl, fo, _, rfl, .inl (SqL.of f4), rfl, flat_strs _, _, rfl, ?_⟩⟩
          rw [in_strs]
          by_cases c2 : r.2.2.2 ∈ fnd a tl
          · have es : stp a x tl r = tl := by unfold stp; rw [if_neg (fun z => z.2 c2)]
            rw [es]
            show if (!decide (r.2.2.2 ∈ fnd a tl)) = true then _ else _
            exact iteNS c2 ⟨_, rfl, s4, f4, t4⟩
          · have es : stp a x tl r = tl ++ [r] := by unfold stp; rw [if_pos ⟨c1, c2⟩]
            rw [es]
            show if (!decide (r.2.2.2 ∈ fnd a tl)) = true then _ else _
            refine iteND c2 ?_
            refine ⟨_, rfl, .inl ⟨rfl, _, SqL.of f4⟩, _, rfl, rix_of (j := 2) (.inr (SqT.of hrr)) rfl rfl ⟨fo, _, _, rfl, rfl, f4, fits (by simp; omega), ?_⟩⟩
            have s5 := Same.upd0 s4 (o := .lst ((fnd a tl).map V.str ++ [.str r.2.2.2])) (q := fo) hfo
            have f5 : upd H4 fo (.lst ((fnd a tl).map V.str ++ [.str r.2.2.2])) fo = some (.lst ((fnd a (tl ++ [r])).map V.str)) := by rw [upd_same]; simp
            have t5 : upd H4 fo (.lst ((fnd a tl).map V.str ++ [.str r.2.2.2])) tk = some (.lst (rrefs tl)) := by rw [upd_ne nft.symm]; exact t4
            generalize upd H4 fo (.lst ((fnd a tl).map V.str ++ [.str r.2.2.2])) = H5 at s5 f5 t5 ⊢
            refine ⟨_, rfl, .inl ⟨rfl, _, SqL.of t5⟩, _, rfl, tk, _, _, rfl, rfl, t5, fits (by simp; omega), _, rfl, Same.upd0 s5 htk0, by rw [upd_ne nft]; exact f5, by rw [upd_same]; simp [rrefs]⟩
        · have es : stp a x tl r = tl := by unfold stp; rw [if_neg (fun z => c1 z.1)]
          rw [es, decide_eq_false (fun z => c1 (V.str.inj z))]
          exact iteF (iteF ⟨_, rfl, s4, f4, t4⟩)
      · rintro σ H4 ⟨g, rfl, s4, f4, t4⟩
        have et : rs.take (rrefs rs).length = rs := take_all rs (by simp)
        rw [et, ← eb] at f4 t4
        exact ⟨_, rfl, _, _, rfl, rfl, _, by omega, q + 1, fd', _, rfl, rfl, B', s4, f4, t4⟩
    · have hge : fd.length ≤ q := by
        have := of_decide_eq_false (Bool.eq_false_iff.mpr c)
        rw [List.length_map, hfl] at this
        omega
      have e1 : bfs rs a q = first rs a := first_of (by have := hfl; simp at this; omega) (by omega)
      have Fu := Bq.full hge
      rw [e1] at t3 Fu
      exact ⟨_, rfl, k tk H3 s3 htk0 t3 Fu⟩
end
end K23

set_option Elab.async false
set_option linter.all false
set_option maxRecDepth 100000
set_option maxHeartbeats 4000000
namespace K23
open PySem L2
theorem filter0 {α : Type} (p : α → Bool) : ∀ (l : List α), (l.filter p)[0]? = l.find? p
  | [] => rfl
  | x :: l => by
    by_cases h : p x = true
    · simp [h]
    · simp [h, filter0 p l]
section
variable {P : Program} {w : World} {K : PySem.W.Frag} {mg : Str → Option Value} {base : Heap}
theorem full_len {rs tk : List T} {a : Str} {ps : List Str} (F : Full rs a tk) (ha : a ∈ ps) (h : ∀ r ∈ rs, r.2.2.2 ∈ ps) : tk.length + 1 ≤ ps.length := by
  have := nodup_le F.nd (m := ps) fun z hz => by
    obtain ⟨n, hd⟩ := F.mem z hz
    exact walk_in ha (fun r hr => by obtain ⟨t, ht, rfl⟩ := List.mem_map.mp hr; exact h t ht) hd.1
  simpa using this
theorem sc17 : FnScope ["rows", "start"] ["rows", "start"] (defScope (top 17)) := ⟨rfl, rfl, rfl, by decide +kernel, rfl, by decide +kernel, by decide +kernel⟩
noncomputable def spRowTo : Sp := fun vs H Q _ => ∃ (q : Addr) (x : Str) (tk : List T) (t : T), vs = [.ref q, .str x] ∧ H q = some (.lst (rrefs tk)) ∧ RowsAt H tk ∧ tk.length ≤ 200 ∧ tk.find? (fun t => decide (t.2.2.2 = x)) = some t ∧
  ∀ (H' : Hp), Same H H' → Q (.ref t.1) H'
theorem sc19 : FnScope ["rows", "place"] ["rows", "place"] (defScope (top 19)) := ⟨rfl, rfl, rfl, by decide +kernel, rfl, by decide +kernel, by decide +kernel⟩
theorem ok_row_to {f : Addr} {fd : FuncData} (F : Fun K "row_to" "row_to" (top 19) f fd) : FnOk P w K mg base CX0 1 f fd ["rows", "place"] spRowTo := by
  refine F.ok sc19 (fun vs H Q E h => ?_) (fun cdv A outer s H vs Q E hr h => ?_)
  · obtain ⟨q, x, tk, t, rfl, _⟩ := h
    rfl
  · obtain ⟨q, x, tk, t, rfl, hq, hrows, hz, hf, k⟩ := h
    refine ⟨_, pss_one (ps_ret (pe_ix ix_seq (pe_lc (N := ["row", "place"]) (ix := [none, some 1]) ⟨rfl, rfl, rfl, by decide⟩ rfl (pi_list (pv 0)) (fun _ _ _ _ => pg_lc 0 (by decide) rfl rfl)
      (fun _ _ _ _ => pts_one (pt_cmpR op_eq (pe_ix (ix_seqK K) (pv 0) pe_int (fun _ _ => rfl)) (pv 1) (nomark _))) (fun _ _ _ _ => pv 0)) pe_int (fun _ _ => rfl))), ?_⟩
    refine ⟨_, rfl, q, rfl, ⟨_, SqL.of hq⟩, lcw_list1 (xs := rrefs tk) (fits (by simp; omega)) (fun i ys σ H3 => ys = rrefs ((tk.take i).filter fun t => decide (t.2.2.2 = x)) ∧ Same H H3 ∧ ∃ v, σ = [v, some (.str x)]) ⟨rfl, Same.refl _, _, rfl⟩
      (fun i ys σ H3 _ p => ⟨by rw [p.1]; simp; exact Nat.le_trans (List.length_filter_le _ _) (by simp; omega), SqL.of (p.2.1 _ _ hq)⟩) ?_ ?_⟩
    · rintro i y ys σ H3 hy ⟨rfl, s3, v, rfl⟩
      obtain ⟨r, hri, rfl⟩ := rowAt_get hy
      have tf := take_filter_succ (fun t : T => decide (t.2.2.2 = x)) tk i r hri
      refine ⟨_, rfl, rix_of (j := 2) (.inr (SqT.of (s3 _ _ (hrows.e r (List.mem_of_getElem? hri))))) rfl rfl ⟨_, rfl, rfl, _, rfl, ?_⟩⟩
      have e : decide (V.str r.2.2.2 = V.str x) = decide (r.2.2.2 = x) := by simp
      rw [e]
      refine ite2 (fun c => ⟨_, rfl, ?_, s3, _, rfl⟩) (fun c => ⟨?_, s3, _, rfl⟩)
      · rw [tf, c]; simp [rrefs]
      · rw [tf]; simp only [Bool.not_eq_true] at c; rw [c]; simp
    · rintro ys σ H3 ⟨rfl, s3, v, rfl⟩ p hp
      rw [take_all tk (by simp)]
      refine rix_of (j := 0) (.inl (SqL.of upd_same)) rfl ?_ (k _ (same_upd s3 hp))
      show (rrefs (tk.filter _))[0]? = _
      unfold rrefs
      rw [List.getElem?_map, filter0, hf]
      rfl
end
end K23

set_option Elab.async false
set_option linter.all false
set_option maxRecDepth 100000
set_option maxHeartbeats 4000000
namespace K23
open PySem L2
noncomputable abbrev nmsV (v : List T) : List V := v.map fun t => V.str t.2.1
section
variable {P : Program} {w : World} {K : PySem.W.Frag} {mg : Str → Option Value} {base : Heap}
noncomputable def spAlong : Sp := fun vs H Q _ => ∃ (q : Addr) (a b : Str) (tk rs : List T) (n : Nat), vs = [.ref q, .str a, .str b] ∧ H q = some (.lst (rrefs tk)) ∧ RowsAt H tk ∧ Full rs a tk ∧ b ∈ fnd a tk ∧ Dist (rs.map (·.2)) a n b ∧ n < 200 ∧ tk.length ≤ 200 ∧
  ∀ (u : Addr) (H' : Hp), Same H H' → H u = none → H' u = some (.tup (nmsV (wayF tk a b))) → Q (.ref u) H'
noncomputable abbrev N20 : List Str := ["rows", "root", "place", "way", "here", "name", "start", "end"]
theorem sc20 : FnScope N20 ["rows", "root", "place"] (defScope (top 20)) := ⟨rfl, rfl, rfl, by decide +kernel, rfl, by decide +kernel, by decide +kernel⟩
theorem ok_way_along {f : Addr} {fd : FuncData} (F : Fun K "way_along" "way_along" (top 20) f fd) (B : Bl mg) (F1 : Fn P w K mg base 1 "row_to" ["rows", "place"] spRowTo) : FnOk P w K mg base CX0 2 f fd ["rows", "root", "place"] spAlong := by
  refine F.ok sc20 (fun vs H Q E h => ?_) (fun cdv A outer s H vs Q E hr h => ?_)
  · obtain ⟨q, a, b, tk, rs, n, rfl, _⟩ := h
    rfl
  · obtain ⟨q, a, b, tk, rs, n, rfl, hq, hrows, Fu, hb, hd, hn, hz, k⟩ := h
    refine ⟨_, pss_cons (ps_set (i := 3) sc20.nd rfl (Or.inl rfl) (pe_lst pa_nil))
      (pss_cons (ps_set (i := 4) sc20.nd rfl (Or.inl rfl) (pv 2))
      (pss_cons (ps_while PassesOwn.never (pt_cmpR op_ne (pv 4) (pv 1) (nomark _))
        (pss_cons (ps_asg (pe_fn F1 hr (pa_cons (pv 0) (pa_cons (pv 4) pa_nil))) (pg_tup rfl (n := 3) (pgs_cons (pg_name (i := 5) sc20.nd rfl (Or.inl rfl)) (pgs_cons (pg_name (i := 6) sc20.nd rfl (Or.inl rfl)) (pgs_cons (pg_name (i := 7) sc20.nd rfl (Or.inl rfl)) pgs_nil)))))
        (pss_cons (ps_expr (pe_bm PySem.F.plainAttrs_list PySem.F.slot_list_append PySem.F.type_list_append mt_append (pv 3) (pa_cons (pv 5) pa_nil)))
        (pss_one (ps_set (i := 4) sc20.nd rfl (Or.inl rfl) (pv 6))))))
      (pss_one (ps_ret (pe_callTy call_tuple_of rfl B.tuple b_tuple (pa_cons (pe_rev (fun o i => [o, i]) (pv 3) (po_some (pe_un un_neg pe_int)) (fun _ _ => by with_unfolding_all rfl)) pa_nil)))))), ?_⟩
    refine ⟨Nat.zero_le _, fun wy hwy => ?_⟩
    have s1 := same_upd (o := .lst []) (Same.refl H) hwy
    have w1 : upd H wy (.lst []) wy = some (.lst (nmsV []).reverse) := upd_same
    generalize upd H wy (.lst []) = H1 at s1 w1 ⊢
    refine ⟨_, rfl, fun m σ H2 => ∃ (v : List T) (x : Str) (g1 g2 g3 : Option V), σ = [some (.ref q), some (.str a), some (.str b), some (.ref wy), some (.str x), g1, g2, g3] ∧ Same H H2 ∧ H2 wy = some (.lst (nmsV v).reverse) ∧ x ∈ fnd a tk ∧ Dist (rs.map (·.2)) a m x ∧ m + v.length = n ∧ wayB tk a 200 b = wayB tk a (200 - v.length) x ++ v,
      ⟨n, [], b, none, none, none, rfl, s1, w1, hb, hd, rfl, by simp⟩, ?_⟩
    rintro m σ H2 ⟨v, x, g1, g2, g3, rfl, s2, w2, hx, hdx, hmn, hw⟩
    refine ⟨_, rfl, _, rfl, rfl, _, rfl, ite2 (fun c => ?_) (fun c => ?_)⟩
    · have hne : x ≠ a := fun e => by subst e; simp at c
      have hx' : x ∈ tk.map (·.2.2.2) := (List.mem_cons.mp hx).resolve_left hne
      obtain ⟨t, ef, ht, hto⟩ := find_some hx'
      obtain ⟨p1, j, p2, p3⟩ := Fu.par t ht
      have em : m = j + 1 := hdx.uniq (by rw [← hto]; exact p3)
      refine ⟨fun σ' H' => ∃ m', m' < m ∧ ∃ (v : List T) (x : Str) (g1 g2 g3 : Option V), σ' = [some (.ref q), some (.str a), some (.str b), some (.ref wy), some (.str x), g1, g2, g3] ∧ Same H H' ∧ H' wy = some (.lst (nmsV v).reverse) ∧ x ∈ fnd a tk ∧ Dist (rs.map (·.2)) a m' x ∧ m' + v.length = n ∧ wayB tk a 200 b = wayB tk a (200 - v.length) x ++ v, fun σ' H' q => q, ?_⟩
      refine ⟨_, rfl, _, rfl, q, x, tk, t, rfl, s2 _ _ hq, hrows.same s2, hz, ef, fun H3 s3 => ?_⟩
      have s03 := s2.trans s3
      have w3 := s3 _ _ w2
      have ht3 := s03 _ _ (hrows.e t ht)
      refine ⟨t.1, _, rfl, SqT.of ht3, rfl, _, _, rfl, _, _, rfl, _, _, rfl, rfl, ?_⟩
      refine ⟨_, rfl, .inl ⟨rfl, _, SqL.of w3⟩, _, rfl, wy, _, _, rfl, rfl, w3, fits (by simp; omega), _, rfl, j, by omega, t :: v, t.2.2.1, _, _, _, rfl, Same.upd0 s03 hwy, by rw [upd_same]; simp, p1, p2, by simp; omega, ?_⟩
      rw [hw]
      obtain ⟨f, hf⟩ : ∃ f, 200 - v.length = f + 1 := ⟨199 - v.length, by omega⟩
      have ew : wayB tk a (f + 1) x = wayB tk a f t.2.2.1 ++ [t] := by
        show (if x = a then _ else _) = _
        rw [if_neg hne, ef]
      rw [hf, ew, show 200 - (t :: v).length = f by simp; omega]
      simp
    · have e : x = a := by simpa using c
      subst e
      rw [wayB_root, List.nil_append] at hw
      refine ⟨_, rfl, _, rfl, _, rfl, rfl, wy, _, rfl, SqL.of w2, fun l hl => ?_⟩
      have s4 := same_upd (o := .lst (nmsV v).reverse.reverse) s2 hl
      refine ⟨l, _, rfl, .inl ⟨SqL.of upd_same, fun u hu => k u _ (same_upd s4 hu) (s4.free hu) ?_⟩⟩
      rw [upd_same, List.reverse_reverse, wayF_eq, hw]
noncomputable def spShort : Sp := fun vs H Q _ => ∃ (ra : Addr) (a b : Str) (rs : List T) (ps : List Str), vs = [.ref ra, .str a, .str b] ∧ H ra = some (.tup (rrefs rs)) ∧ RowsAt H rs ∧ a ∈ ps ∧ (∀ r ∈ rs, r.2.2.2 ∈ ps) ∧ ps.length ≤ 100 ∧ rs.length ≤ 60 ∧
  ∀ (H' : Hp), Same H H' → Full rs a (first rs a) → (b ∉ fnd a (first rs a) → Q .non H') ∧ (b ∈ fnd a (first rs a) → ∀ u, H u = none → H' u = some (.tup (nmsV (wayF (first rs a) a b))) → Q (.ref u) H')
theorem sc22 : FnScope ["rows", "start", "end", "taken"] ["rows", "start", "end"] (defScope (top 22)) := ⟨rfl, rfl, rfl, by decide +kernel, rfl, by decide +kernel, by decide +kernel⟩
theorem ok_short_way {f : Addr} {fd : FuncData} (F : Fun K "short_way" "short_way" (top 22) f fd) (F1 : Fn P w K mg base 1 "first_rows" ["rows", "start"] spFirst) (F2 : Fn P w K mg base 2 "way_along" ["rows", "root", "place"] spAlong) : FnOk P w K mg base CX0 3 f fd ["rows", "start", "end"] spShort := by
  refine F.ok sc22 (fun vs H Q E h => ?_) (fun cdv A outer s H vs Q E hr h => ?_)
  · obtain ⟨ra, a, b, rs, ps, rfl, _⟩ := h
    rfl
  · obtain ⟨ra, a, b, rs, ps, rfl, hra, hrows, haps, hps, hz, hrz, k⟩ := h
    have hr1 : Room 1 _ := hr.mono (by decide)
    refine ⟨_, pss_cons (ps_set (i := 3) sc22.nd rfl (Or.inl rfl) (pe_fn F1 hr1 (pa_cons (pv 0) (pa_cons (pv 1) pa_nil))))
      (pss_cons (ps_if (PW.pt (pw_and (pt_cmpR op_ne (pv 2) (pv 1) (nomark _)) (pw_and1 (pt_cmpR op_notIn_seq (pv 2) (pe_lc (N := ["row"]) (ix := [none]) ⟨rfl, rfl, rfl, by decide⟩ rfl (pi_list (pv 3)) (fun _ _ _ _ => pg_lc 0 (by decide) rfl rfl) (fun _ _ _ _ => pts_nil)
        (fun _ _ _ _ => pe_ix (ix_seqK K) (pv 0) pe_int (fun _ _ => rfl))) (by with_unfolding_all rfl))))) (pss_one (ps_ret pe_non)) pss_nil)
      (pss_one (ps_ret (pe_fn F2 hr (pa_cons (pv 3) (pa_cons (pv 1) (pa_cons (pv 2) pa_nil))))))), ?_⟩
    refine ⟨_, rfl, _, rfl, ra, a, rs, ps, rfl, hra, hrows, haps, hps, hz, hrz, fun q H1 s1 hq0 q1 Fu => ?_⟩
    have hlen := full_len Fu haps hps
    have r1 : RowsAt H1 (first rs a) := ⟨fun r hr => s1 _ _ (hrows.e r (Fu.sub r hr))⟩
    dsimp only [gName]
    refine if_by (fun σ H2 => σ = [some (.ref ra), some (.str a), some (.str b), some (.ref q)] ∧ Same H1 H2 ∧ b ∈ fnd a (first rs a)) (fun N key => ?_) ?_
    · refine ⟨_, rfl, _, rfl, rfl, _, rfl, ite2 (fun c => ?_) (fun c => iteF (key _ _ ⟨rfl, Same.refl _, ?_⟩))⟩
      · have hne : b ≠ a := fun e => by subst e; simp at c
        refine ⟨_, rfl, _, rfl, q, rfl, ⟨_, SqL.of q1⟩, lcw_list0 (xs := rrefs (first rs a)) (fits (by simp; omega)) (fun i ys σ H3 => ys = ((first rs a).take i).map (fun t => V.str t.2.2.2) ∧ Same H1 H3 ∧ ∃ v, σ = [v]) ⟨rfl, Same.refl _, _, rfl⟩
          (fun i ys σ H3 _ p => ⟨by rw [p.1]; simp; omega, SqL.of (p.2.1 _ _ q1)⟩) ?_ ?_⟩
        · rintro i x ys σ H3 hx ⟨rfl, s3, v, rfl⟩
          obtain ⟨r, hri, rfl⟩ := rowAt_get hx
          exact ⟨_, rfl, rix_of (j := 2) (.inr (SqT.of (s3 _ _ (r1.e r (List.mem_of_getElem? hri))))) rfl rfl ⟨(take_map_succ _ _ _ _ hri).symm, s3, _, rfl⟩⟩
        · rintro ys σ H3 ⟨rfl, s3, v, rfl⟩ c hc
          rw [take_all (first rs a) (by simp)]
          have em : ((first rs a).map fun t => V.str t.2.2.2) = ((first rs a).map (·.2.2.2)).map V.str := by rw [List.map_map]; rfl
          rw [em]
          have s4 := same_upd (o := .lst (((first rs a).map (·.2.2.2)).map V.str)) s3 hc
          refine ⟨c, _, rfl, .inl (SqL.of upd_same), rfl, flat_strs _, _, rfl, ?_⟩
          rw [in_strs]
          show if (!decide (b ∈ (first rs a).map (·.2.2.2))) = true then _ else _
          by_cases hm : b ∈ (first rs a).map (·.2.2.2)
          · exact iteNS hm (key _ _ ⟨rfl, s4, List.mem_cons_of_mem _ hm⟩)
          · exact iteND hm ((k _ (s1.trans s4) Fu).1 fun z => (List.mem_cons.mp z).elim hne hm)
      · have e : b = a := by simpa using c
        subst e; exact List.mem_cons_self
    · rintro σ H2 ⟨rfl, s2, hb⟩
      obtain ⟨n, hd⟩ := Fu.mem b hb
      have hnl := dist_lt haps (fun r hr => by obtain ⟨t, ht, rfl⟩ := List.mem_map.mp hr; exact hps t ht) hd
      refine ⟨_, rfl, _, rfl, _, rfl, q, a, b, first rs a, rs, n, rfl, s2 _ _ q1, r1.same s2, Fu, hb, hd, by omega, by omega, fun u H3 s3 hu0 hu => ?_⟩
      have s03 := s1.trans (s2.trans s3)
      exact (k H3 s03 Fu).2 hb u ((s1.trans s2).free hu0) hu
end
end K23

set_option Elab.async false
set_option linter.all false
set_option maxRecDepth 100000
set_option maxHeartbeats 4000000
namespace L2
open PySem
section
variable {X : Cx}
end
end L2
namespace K23
open PySem L2
section
variable {P : Program} {w : World} {K : PySem.W.Frag} {mg : Str → Option Value} {base : Heap}
noncomputable def spBeyond : Sp := fun vs H Q _ => ∃ (v pa ra q : Addr) (ps : List Str) (rs : List T) (fs : List Str), vs = [.ref v, .ref q] ∧ WebAt H v pa ra ps rs ∧ ps.length ≤ 100 ∧ H q = some (.lst (fs.map V.str)) ∧
  ∀ (u : Addr) (H' : Hp), Same H H' → H u = none → H' u = some (.tup ((ps.filter fun p => !decide (p ∈ fs)).map V.str)) → Q (.ref u) H'
theorem sc23 : FnScope ["web", "found"] ["web", "found"] (defScope (top 23)) := ⟨rfl, rfl, rfl, by decide +kernel, rfl, by decide +kernel, by decide +kernel⟩
theorem ok_beyond {f : Addr} {fd : FuncData} (F : Fun K "places_beyond" "places_beyond" (top 23) f fd) (B : Bl mg) : FnOk P w K mg base CX0 1 f fd ["web", "found"] spBeyond := by
  refine F.ok sc23 (fun vs H Q E h => ?_) (fun cdv A outer s H vs Q E hr h => ?_)
  · obtain ⟨v, pa, ra, q, ps, rs, fs, rfl, _⟩ := h
    rfl
  · obtain ⟨v, pa, ra, q, ps, rs, fs, rfl, W, hz, hq, k⟩ := h
    refine ⟨_, pss_one (ps_ret (pe_callTy call_tuple_of rfl B.tuple b_tuple (pa_cons (pe_lc (N := ["place", "found"]) (ix := [none, some 1]) ⟨rfl, rfl, rfl, by decide⟩ rfl (pi_tup (pe_ix ix_seq (pv 0) pe_int (fun _ _ => rfl))) (fun _ _ _ _ => pg_lc 0 (by decide) rfl rfl)
      (fun _ _ _ _ => pts_one (pt_cmpR (notIn_seqK K) (pv 0) (pv 1) (by with_unfolding_all rfl))) (fun _ _ _ _ => pv 0)) pa_nil))), ?_⟩
    refine ⟨_, rfl, rix_of (j := 0) (.inr (SqT.of W.tp)) rfl rfl ⟨pa, rfl, ⟨_, SqT.of W.pl⟩, lcw_tup1 (xs := ps.map V.str) (fits (by simp; omega)) (fun i ys σ H3 => ys = ((ps.take i).filter fun p => !decide (p ∈ fs)).map V.str ∧ Same H H3 ∧ ∃ x, σ = [x, some (.ref q)]) ⟨rfl, Same.refl _, _, rfl⟩
      (fun i ys σ H3 _ p => ⟨by rw [p.1]; simp; exact Nat.le_trans (List.length_filter_le _ _) (by simp; omega), SqT.of (p.2.1 _ _ W.pl)⟩) ?_ ?_⟩⟩
    · rintro i y ys σ H3 hy ⟨rfl, s3, x, rfl⟩
      rw [List.getElem?_map] at hy
      cases hc : ps[i]? with
      | none => rw [hc] at hy; cases hy
      | some p =>
        rw [hc] at hy
        cases hy
        have tf := take_filter_succ (fun p : Str => !decide (p ∈ fs)) ps i p hc
        refine ⟨_, rfl, _, rfl, q, _, rfl, .inl (SqL.of (s3 _ _ hq)), rfl, flat_strs _, _, rfl, ?_⟩
        rw [in_strs]
        show if (!decide (p ∈ fs)) = true then _ else _
        refine ite2 (fun c => ⟨_, rfl, ?_, s3, _, rfl⟩) (fun c => ⟨?_, s3, _, rfl⟩)
        · rw [tf, c]; simp
        · rw [tf]; simp only [Bool.not_eq_true] at c; rw [c]; simp
    · rintro ys σ H3 ⟨rfl, s3, x, rfl⟩ l hl
      rw [take_all ps (by simp)]
      refine ⟨l, _, rfl, .inl ⟨SqL.of upd_same, fun u hu => ?_⟩⟩
      have s4 := same_upd (o := .lst ((ps.filter fun p => !decide (p ∈ fs)).map V.str)) s3 hl
      exact k u _ (same_upd s4 hu) (s4.free hu) upd_same
end
end K23

set_option Elab.async false
set_option linter.all false
set_option maxRecDepth 100000
set_option maxHeartbeats 4000000
namespace K23
open PySem L2
section
variable {P : Program} {w : World} {K : PySem.W.Frag} {mg : Str → Option Value} {base : Heap}
noncomputable def spFirstL : Sp := fun vs H Q _ => ∃ (ra : Addr) (a : Str) (rs : List T) (ps : List Str), vs = [.ref ra, .str a] ∧ H ra = some (.lst (rrefs rs)) ∧ RowsAt H rs ∧ a ∈ ps ∧ (∀ r ∈ rs, r.2.2.2 ∈ ps) ∧ ps.length ≤ 100 ∧ rs.length ≤ 60 ∧
  ∀ (q : Addr) (H' : Hp), Same H H' → H q = none → H' q = some (.lst (rrefs (first rs a))) → Full rs a (first rs a) → Q (.ref q) H'
theorem ok_first_rowsL {f : Addr} {fd : FuncData} (F : Fun K "first_rows" "first_rows" (top 16) f fd) (B : Bl mg) : FnOk P w K mg base CX0 1 f fd ["rows", "start"] spFirstL := by
  refine F.ok sc16 (fun vs H Q E h => ?_) (fun cdv A outer s H vs Q E hr h => ?_)
  · obtain ⟨ra, a, rs, ps, rfl, _⟩ := h
    rfl
  · obtain ⟨ra, a, rs, ps, rfl, hra, hrows, haps, hps, hz, hrz, k⟩ := h
    refine ⟨_, pss_cons (ps_set (i := 2) sc16.nd rfl (Or.inl rfl) (pe_lst (pa_cons (pv 1) pa_nil)))
      (pss_cons (ps_set (i := 3) sc16.nd rfl (Or.inl rfl) (pe_lst pa_nil))
      (pss_cons (ps_set (i := 4) sc16.nd rfl (Or.inl rfl) pe_int)
      (pss_cons (ps_while PassesOwn.never (pt_cmpR op_lt (pv 4) (pe_callB call_len_seq rfl B.len PySem.boot_len (pa_cons (pv 2) pa_nil)) (nomark _))
        (pss_cons (ps_for PassesOwn.never rfl (pi_list (pv 0)) (pg_name (i := 5) sc16.nd rfl (Or.inl rfl))
          (pss_one (ps_if (PW.pt (pw_and (pt_cmpR op_eq (pe_ix ix_seq (pv 5) pe_int (fun _ _ => rfl)) (pe_ix ix_seq (pv 2) (pv 4) (fun _ _ => rfl)) (nomark _))
              (pw_and1 (pt_cmpR op_notIn_seq (pe_ix ix_seq (pv 5) pe_int (fun _ _ => rfl)) (pv 2) (by with_unfolding_all rfl)))))
            (pss_cons (ps_expr (pe_bm PySem.F.plainAttrs_list PySem.F.slot_list_append PySem.F.type_list_append mt_append (pv 2) (pa_cons (pe_ix ix_seq (pv 5) pe_int (fun _ _ => rfl)) pa_nil)))
            (pss_one (ps_expr (pe_bm PySem.F.plainAttrs_list PySem.F.slot_list_append PySem.F.type_list_append mt_append (pv 3) (pa_cons (pv 5) pa_nil))))) pss_nil)))
        (pss_one (ps_aug (i := 4) sc16.nd rfl (Or.inl rfl) pe_int ip_add))))
      (pss_one (ps_ret (pv 3)))))), ?_⟩
    refine ⟨_, rfl, by show 1 ≤ sizeLine; decide, fun fo hfo => ?_⟩
    have s1 := same_upd (o := .lst [.str a]) (Same.refl H) hfo
    have f1 : upd H fo (.lst [.str a]) fo = some (.lst ((fnd a []).map V.str)) := upd_same
    generalize upd H fo (.lst [.str a]) = H1 at s1 f1 ⊢
    refine ⟨Nat.zero_le _, fun tk htk => ?_⟩
    have htk0 := s1.free htk
    have nft : fo ≠ tk := ne_of_none f1 htk
    have s2 := same_upd (o := .lst []) s1 htk
    have f2 : upd H1 tk (.lst []) fo = some (.lst ((fnd a []).map V.str)) := by rw [upd_ne nft]; exact f1
    have t2 : upd H1 tk (.lst []) tk = some (.lst (rrefs [])) := upd_same
    generalize upd H1 tk (.lst []) = H2 at s2 f2 t2 ⊢
    refine ⟨fun m σ H3 => ∃ (q : Nat) (fd : List (Str × Nat)) (g : Option V), σ = [some (.ref ra), some (.str a), some (.ref fo), some (.ref tk), some (.int q), g] ∧ m = 200 - q ∧ Bfs rs a fd (bfs rs a q) q ∧ Same H H3 ∧ H3 fo = some (.lst ((fnd a (bfs rs a q)).map V.str)) ∧ H3 tk = some (.lst (rrefs (bfs rs a q))),
      ⟨_, 0, _, none, rfl, rfl, Bfs.start rs a, s2, f2, t2⟩, ?_⟩
    rintro m σ H3 ⟨q, fd, g, rfl, rfl, Bq, s3, f3, t3⟩
    have hfl : (fnd a (bfs rs a q)).length = fd.length := by
      have := congrArg List.length Bq.fst
      rw [List.length_map] at this
      exact this.symm
    have hfb := Bq.bound haps hps
    have hql := Bq.ql
    refine ⟨_, rfl, _, rfl, fo, _, rfl, .inl (SqL.of f3), _, _, rfl, rfl, _, rfl, ite2 (fun c => ?_) (fun c => ?_)⟩
    · have hlt : q < fd.length := by
        have := of_decide_eq_true c
        rw [List.length_map, hfl] at this
        omega
      have hqx : fd[q]? = some (fd[q].1, fd[q].2) := List.getElem?_eq_getElem hlt
      obtain ⟨fd', B'⟩ := Bq.next hqx
      have hx : (fnd a (bfs rs a q))[q]? = some fd[q].1 := by
        show (a :: (bfs rs a q).map (·.2.2.2))[q]? = _
        rw [← Bq.fst, List.getElem?_map, hqx]; rfl
      have eb : bfs rs a (q + 1) = rs.foldl (stp a fd[q].1) (bfs rs a q) := by
        show (match (a :: (bfs rs a q).map (·.2.2.2))[q]? with | some x => rs.foldl (stp a x) (bfs rs a q) | none => bfs rs a q) = _
        rw [show (a :: (bfs rs a q).map (·.2.2.2))[q]? = some fd[q].1 from hx]
      rw [← eb] at B'
      generalize fd[q].1 = x at hx eb
      refine ⟨fun σ' H' => ∃ m', m' < 200 - q ∧ ∃ (q : Nat) (fd : List (Str × Nat)) (g : Option V), σ' = [some (.ref ra), some (.str a), some (.ref fo), some (.ref tk), some (.int q), g] ∧ m' = 200 - q ∧ Bfs rs a fd (bfs rs a q) q ∧ Same H H' ∧ H' fo = some (.lst ((fnd a (bfs rs a q)).map V.str)) ∧ H' tk = some (.lst (rrefs (bfs rs a q))), fun σ' H' q => q, ?_⟩
      refine ⟨_, rfl, ra, rfl, ⟨_, SqL.of (s3 _ _ hra)⟩, for_list (K := K) (a := ra) (xs := rrefs rs) (fun i σ H4 => ∃ g, σ = [some (.ref ra), some (.str a), some (.ref fo), some (.ref tk), some (.int q), g] ∧ Same H H4 ∧ H4 fo = some (.lst ((fnd a ((rs.take i).foldl (stp a x) (bfs rs a q))).map V.str)) ∧ H4 tk = some (.lst (rrefs ((rs.take i).foldl (stp a x) (bfs rs a q)))))
        ⟨_, rfl, s3, f3, t3⟩ (fun i σ H4 _ p => by obtain ⟨_, _, s4, _⟩ := p; exact SqL.of (s4 _ _ hra)) ?_ ?_⟩
      · rintro i y σ H4 hy ⟨g, rfl, s4, f4, t4⟩
        obtain ⟨r, hri, rfl⟩ := rowAt_get hy
        have hil : i < rs.length := (List.getElem?_eq_some_iff.mp hri).1
        have hrr := s4 _ _ (hrows.e r (List.mem_of_getElem? hri))
        obtain ⟨more, em, hml⟩ := fold_more a x (rs.take i) (bfs rs a q)
        have hlen : ((rs.take i).foldl (stp a x) (bfs rs a q)).length ≤ 160 := by
          rw [em, List.length_append]
          have h1 : (bfs rs a q).length + 1 = fd.length := by simpa using hfl
          have h2 : (rs.take i).length ≤ 60 := by rw [List.length_take]; omega
          omega
        have hx4 : (fnd a ((rs.take i).foldl (stp a x) (bfs rs a q)))[q]? = some x := by
          rw [em]
          show (a :: (bfs rs a q ++ more).map (·.2.2.2))[q]? = _
          rw [List.map_append, ← List.cons_append, List.getElem?_append_left (by
            have := hfl; simp at this ⊢; omega)]
          exact hx
        have tf := take_fold (a := a) (x := x) (tk := bfs rs a q) hri
        rw [tf]
        generalize (rs.take i).foldl (stp a x) (bfs rs a q) = tl at f4 t4 hlen hx4 ⊢
        have hxs : ((fnd a tl).map V.str)[q]? = some (.str x) := by rw [List.getElem?_map, hx4]; rfl
        refine ⟨_, rfl, rix_of (j := 1) (.inr (SqT.of hrr)) rfl rfl ⟨_, rfl, _, rfl, rix_of (j := q) (.inl (SqL.of f4)) rfl hxs ⟨rfl, _, rfl, ?_⟩⟩⟩
        by_cases c1 : r.2.2.1 = x
        · rw [decide_eq_true (show V.str r.2.2.1 = V.str x by rw [c1])]
          refine iteT ⟨_, rfl, rix_of (j := 2) (.inr (SqT.of hrr)) rfl rfl ⟨_, rfl, fo, _, rfl, .inl (SqL.of f4), rfl, flat_strs _, _, rfl, ?_⟩⟩
          rw [in_strs]
          by_cases c2 : r.2.2.2 ∈ fnd a tl
          · have es : stp a x tl r = tl := by unfold stp; rw [if_neg (fun z => z.2 c2)]
            rw [es]
            show if (!decide (r.2.2.2 ∈ fnd a tl)) = true then _ else _
            exact iteNS c2 ⟨_, rfl, s4, f4, t4⟩
          · have es : stp a x tl r = tl ++ [r] := by unfold stp; rw [if_pos ⟨c1, c2⟩]
            rw [es]
            show if (!decide (r.2.2.2 ∈ fnd a tl)) = true then _ else _
            refine iteND c2 ?_
            refine ⟨_, rfl, .inl ⟨rfl, _, SqL.of f4⟩, _, rfl, rix_of (j := 2) (.inr (SqT.of hrr)) rfl rfl ⟨fo, _, _, rfl, rfl, f4, fits (by simp; omega), ?_⟩⟩
            have s5 := Same.upd0 s4 (o := .lst ((fnd a tl).map V.str ++ [.str r.2.2.2])) (q := fo) hfo
            have f5 : upd H4 fo (.lst ((fnd a tl).map V.str ++ [.str r.2.2.2])) fo = some (.lst ((fnd a (tl ++ [r])).map V.str)) := by rw [upd_same]; simp
            have t5 : upd H4 fo (.lst ((fnd a tl).map V.str ++ [.str r.2.2.2])) tk = some (.lst (rrefs tl)) := by rw [upd_ne nft.symm]; exact t4
            generalize upd H4 fo (.lst ((fnd a tl).map V.str ++ [.str r.2.2.2])) = H5 at s5 f5 t5 ⊢
            refine ⟨_, rfl, .inl ⟨rfl, _, SqL.of t5⟩, _, rfl, tk, _, _, rfl, rfl, t5, fits (by simp; omega), _, rfl, Same.upd0 s5 htk0, by rw [upd_ne nft]; exact f5, by rw [upd_same]; simp [rrefs]⟩
        · have es : stp a x tl r = tl := by unfold stp; rw [if_neg (fun z => c1 z.1)]
          rw [es, decide_eq_false (fun z => c1 (V.str.inj z))]
          exact iteF (iteF ⟨_, rfl, s4, f4, t4⟩)
      · rintro σ H4 ⟨g, rfl, s4, f4, t4⟩
        have et : rs.take (rrefs rs).length = rs := take_all rs (by simp)
        rw [et, ← eb] at f4 t4
        exact ⟨_, rfl, _, _, rfl, rfl, _, by omega, q + 1, fd', _, rfl, rfl, B', s4, f4, t4⟩
    · have hge : fd.length ≤ q := by
        have := of_decide_eq_false (Bool.eq_false_iff.mpr c)
        rw [List.length_map, hfl] at this
        omega
      have e1 : bfs rs a q = first rs a := first_of (by have := hfl; simp at this; omega) (by omega)
      have Fu := Bq.full hge
      rw [e1] at t3 Fu
      exact ⟨_, rfl, k tk H3 s3 htk0 t3 Fu⟩
end
end K23

set_option Elab.async false
set_option linter.all false
set_option maxRecDepth 100000
set_option maxHeartbeats 4000000
namespace K23
open PySem L2
section
variable {P : Program} {w : World} {K : PySem.W.Frag} {mg : Str → Option Value} {base : Heap}
noncomputable def spComeL : Sp := fun vs H Q _ => ∃ (ra : Addr) (a : Str) (rs : List T) (ps : List Str), vs = [.ref ra, .str a] ∧ H ra = some (.lst (rrefs rs)) ∧ RowsAt H rs ∧ a ∈ ps ∧ (∀ r ∈ rs, r.2.2.2 ∈ ps) ∧ ps.length ≤ 100 ∧ rs.length ≤ 60 ∧
  ∀ (q : Addr) (H' : Hp), Same H H' → H q = none → H' q = some (.lst ((fnd a (first rs a)).map V.str)) → Full rs a (first rs a) → Q (.ref q) H'
theorem ok_come_toL {f : Addr} {fd : FuncData} (F : Fun K "come_to" "come_to" (top 17) f fd) (F1 : Fn P w K mg base 1 "first_rows" ["rows", "start"] spFirstL) : FnOk P w K mg base CX0 2 f fd ["rows", "start"] spComeL := by
  refine F.ok sc17 (fun vs H Q E h => ?_) (fun cdv A outer s H vs Q E hr h => ?_)
  · obtain ⟨ra, a, rs, ps, rfl, _⟩ := h
    rfl
  · obtain ⟨ra, a, rs, ps, rfl, hra, hrows, haps, hps, hz, hrz, k⟩ := h
    refine ⟨_, pss_one (ps_ret (pe_op op_cat (pe_lst (pa_cons (pv 1) pa_nil)) (pe_lc (N := ["row"]) (ix := [none]) ⟨rfl, rfl, rfl, by decide⟩ rfl (pi_list (pe_fn F1 hr (pa_cons (pv 0) (pa_cons (pv 1) pa_nil)))) (fun _ _ _ _ => pg_lc 0 (by decide) rfl rfl) (fun _ _ _ _ => pts_nil)
      (fun _ _ _ _ => pe_ix (ix_seqK K) (pv 0) pe_int (fun _ _ => rfl))))), ?_⟩
    refine ⟨_, rfl, by show 1 ≤ sizeLine; decide, fun l hl => ?_⟩
    have s1 := same_upd (o := .lst [.str a]) (Same.refl H) hl
    have l1 : upd H l (.lst [.str a]) l = some (.lst [.str a]) := upd_same
    generalize upd H l (.lst [.str a]) = H1 at s1 l1 ⊢
    refine ⟨_, rfl, _, rfl, ra, a, rs, ps, rfl, s1 _ _ hra, hrows.same s1, haps, hps, hz, hrz, fun q H2 s2 hq2 q2 Fu => ?_⟩
    have hlen := full_len Fu haps hps
    have r2 : RowsAt H2 (first rs a) := ⟨fun r hr => s2 _ _ (s1 _ _ (hrows.e r (Fu.sub r hr)))⟩
    refine ⟨q, rfl, ⟨_, SqL.of q2⟩, lcw_list0 (xs := rrefs (first rs a)) (fits (by simp; omega)) (fun i ys σ H3 => ys = ((first rs a).take i).map (fun t => V.str t.2.2.2) ∧ Same H2 H3 ∧ ∃ v, σ = [v]) ⟨rfl, Same.refl _, _, rfl⟩
      (fun i ys σ H3 _ p => ⟨by rw [p.1]; simp; omega, SqL.of (p.2.1 _ _ q2)⟩) ?_ ?_⟩
    · rintro i x ys σ H3 hx ⟨rfl, s3, v, rfl⟩
      obtain ⟨r, hri, rfl⟩ := rowAt_get hx
      exact ⟨_, rfl, rix_of (j := 2) (.inr (SqT.of (s3 _ _ (r2.e r (List.mem_of_getElem? hri))))) rfl rfl ⟨(take_map_succ _ _ _ _ hri).symm, s3, _, rfl⟩⟩
    · rintro ys σ H3 ⟨rfl, s3, v, rfl⟩ c hc
      rw [take_all (first rs a) (by simp)]
      have s4 := same_upd (o := .lst ((first rs a).map fun t => V.str t.2.2.2)) s3 hc
      have c4 : upd H3 c (.lst ((first rs a).map fun t => V.str t.2.2.2)) c = some (.lst ((first rs a).map fun t => V.str t.2.2.2)) := upd_same
      generalize upd H3 c (.lst ((first rs a).map fun t => V.str t.2.2.2)) = H4 at s4 c4 ⊢
      have s04 := s1.trans (s2.trans s4)
      refine ⟨l, c, _, _, rfl, rfl, s4 _ _ (s2 _ _ l1), c4, Nat.le_of_lt (fits (by simp; omega)), fun p hp => k p _ (same_upd s04 hp) (s04.free hp) (by rw [upd_same]; simp [List.map_map]) Fu⟩
end
end K23

set_option Elab.async false
set_option linter.all false
set_option maxRecDepth 100000
set_option maxHeartbeats 4000000
namespace K23
open PySem L2
section
variable {P : Program} {w : World} {K : PySem.W.Frag} {mg : Str → Option Value} {base : Heap}
noncomputable def spShortL : Sp := fun vs H Q _ => ∃ (ra : Addr) (a b : Str) (rs : List T) (ps : List Str), vs = [.ref ra, .str a, .str b] ∧ H ra = some (.lst (rrefs rs)) ∧ RowsAt H rs ∧ a ∈ ps ∧ (∀ r ∈ rs, r.2.2.2 ∈ ps) ∧ ps.length ≤ 100 ∧ rs.length ≤ 60 ∧
  ∀ (H' : Hp), Same H H' → Full rs a (first rs a) → (b ∉ fnd a (first rs a) → Q .non H') ∧ (b ∈ fnd a (first rs a) → ∀ u, H u = none → H' u = some (.tup (nmsV (wayF (first rs a) a b))) → Q (.ref u) H')
theorem ok_short_wayL {f : Addr} {fd : FuncData} (F : Fun K "short_way" "short_way" (top 22) f fd) (F1 : Fn P w K mg base 1 "first_rows" ["rows", "start"] spFirstL) (F2 : Fn P w K mg base 2 "way_along" ["rows", "root", "place"] spAlong) : FnOk P w K mg base CX0 3 f fd ["rows", "start", "end"] spShortL := by
  refine F.ok sc22 (fun vs H Q E h => ?_) (fun cdv A outer s H vs Q E hr h => ?_)
  · obtain ⟨ra, a, b, rs, ps, rfl, _⟩ := h
    rfl
  · obtain ⟨ra, a, b, rs, ps, rfl, hra, hrows, haps, hps, hz, hrz, k⟩ := h
    have hr1 : Room 1 _ := hr.mono (by decide)
    refine ⟨_, pss_cons (ps_set (i := 3) sc22.nd rfl (Or.inl rfl) (pe_fn F1 hr1 (pa_cons (pv 0) (pa_cons (pv 1) pa_nil))))
      (pss_cons (ps_if (PW.pt (pw_and (pt_cmpR op_ne (pv 2) (pv 1) (nomark _)) (pw_and1 (pt_cmpR op_notIn_seq (pv 2) (pe_lc (N := ["row"]) (ix := [none]) ⟨rfl, rfl, rfl, by decide⟩ rfl (pi_list (pv 3)) (fun _ _ _ _ => pg_lc 0 (by decide) rfl rfl) (fun _ _ _ _ => pts_nil)
        (fun _ _ _ _ => pe_ix (ix_seqK K) (pv 0) pe_int (fun _ _ => rfl))) (by with_unfolding_all rfl))))) (pss_one (ps_ret pe_non)) pss_nil)
      (pss_one (ps_ret (pe_fn F2 hr (pa_cons (pv 3) (pa_cons (pv 1) (pa_cons (pv 2) pa_nil))))))), ?_⟩
    refine ⟨_, rfl, _, rfl, ra, a, rs, ps, rfl, hra, hrows, haps, hps, hz, hrz, fun q H1 s1 hq0 q1 Fu => ?_⟩
    have hlen := full_len Fu haps hps
    have r1 : RowsAt H1 (first rs a) := ⟨fun r hr => s1 _ _ (hrows.e r (Fu.sub r hr))⟩
    dsimp only [gName]
    refine if_by (fun σ H2 => σ = [some (.ref ra), some (.str a), some (.str b), some (.ref q)] ∧ Same H1 H2 ∧ b ∈ fnd a (first rs a)) (fun N key => ?_) ?_
    · refine ⟨_, rfl, _, rfl, rfl, _, rfl, ite2 (fun c => ?_) (fun c => iteF (key _ _ ⟨rfl, Same.refl _, ?_⟩))⟩
      · have hne : b ≠ a := fun e => by subst e; simp at c
        refine ⟨_, rfl, _, rfl, q, rfl, ⟨_, SqL.of q1⟩, lcw_list0 (xs := rrefs (first rs a)) (fits (by simp; omega)) (fun i ys σ H3 => ys = ((first rs a).take i).map (fun t => V.str t.2.2.2) ∧ Same H1 H3 ∧ ∃ v, σ = [v]) ⟨rfl, Same.refl _, _, rfl⟩
          (fun i ys σ H3 _ p => ⟨by rw [p.1]; simp; omega, SqL.of (p.2.1 _ _ q1)⟩) ?_ ?_⟩
        · rintro i x ys σ H3 hx ⟨rfl, s3, v, rfl⟩
          obtain ⟨r, hri, rfl⟩ := rowAt_get hx
          exact ⟨_, rfl, rix_of (j := 2) (.inr (SqT.of (s3 _ _ (r1.e r (List.mem_of_getElem? hri))))) rfl rfl ⟨(take_map_succ _ _ _ _ hri).symm, s3, _, rfl⟩⟩
        · rintro ys σ H3 ⟨rfl, s3, v, rfl⟩ c hc
          rw [take_all (first rs a) (by simp)]
          have em : ((first rs a).map fun t => V.str t.2.2.2) = ((first rs a).map (·.2.2.2)).map V.str := by rw [List.map_map]; rfl
          rw [em]
          have s4 := same_upd (o := .lst (((first rs a).map (·.2.2.2)).map V.str)) s3 hc
          refine ⟨c, _, rfl, .inl (SqL.of upd_same), rfl, flat_strs _, _, rfl, ?_⟩
          rw [in_strs]
          show if (!decide (b ∈ (first rs a).map (·.2.2.2))) = true then _ else _
          by_cases hm : b ∈ (first rs a).map (·.2.2.2)
          · exact iteNS hm (key _ _ ⟨rfl, s4, List.mem_cons_of_mem _ hm⟩)
          · exact iteND hm ((k _ (s1.trans s4) Fu).1 fun z => (List.mem_cons.mp z).elim hne hm)
      · have e : b = a := by simpa using c
        subst e; exact List.mem_cons_self
    · rintro σ H2 ⟨rfl, s2, hb⟩
      obtain ⟨n, hd⟩ := Fu.mem b hb
      have hnl := dist_lt haps (fun r hr => by obtain ⟨t, ht, rfl⟩ := List.mem_map.mp hr; exact hps t ht) hd
      refine ⟨_, rfl, _, rfl, _, rfl, q, a, b, first rs a, rs, n, rfl, s2 _ _ q1, r1.same s2, Fu, hb, hd, by omega, by omega, fun u H3 s3 hu0 hu => ?_⟩
      have s03 := s1.trans (s2.trans s3)
      exact (k H3 s03 Fu).2 hb u ((s1.trans s2).free hu0) hu
end
end K23

set_option Elab.async false
set_option linter.all false
set_option maxRecDepth 100000
set_option maxHeartbeats 4000000
namespace K23
open PySem L2
/-! ### what is left of rows when ties are taken; each new way takes one more at its start -/
noncomputable abbrev revR (r : Row) : Row := (r.1, r.2.2, r.2.1)
noncomputable def leftR (R : List Row) (ns : List Str) : List Row := (R.filter fun r => !decide (r.1 ∈ ns)) ++ (R.filter fun r => decide (r.1 ∈ ns)).map revR
theorem left_mem {R : List Row} {ns : List Str} {e : Row} (h : e ∈ leftR R ns) : (e ∈ R ∧ e.1 ∉ ns) ∨ ∃ r ∈ R, r.1 ∈ ns ∧ e = revR r := by
  rcases List.mem_append.mp h with z | z
  · obtain ⟨a, b⟩ := List.mem_filter.mp z
    exact .inl ⟨a, by simpa using b⟩
  · obtain ⟨r, hr, rfl⟩ := List.mem_map.mp z
    obtain ⟨a, b⟩ := List.mem_filter.mp hr
    exact .inr ⟨r, a, by simpa using b, rfl⟩
theorem left_end {R : List Row} {ns ps : List Str} (h : ∀ r ∈ R, r.2.1 ∈ ps ∧ r.2.2 ∈ ps) : ∀ e ∈ leftR R ns, e.2.2 ∈ ps := fun e he => by
  rcases left_mem he with ⟨a, _⟩ | ⟨r, a, _, rfl⟩
  · exact (h e a).2
  · exact (h r a).1
theorem left_len (R : List Row) (ns : List Str) : (leftR R ns).length = R.length := by
  unfold leftR
  rw [List.length_append, List.length_map]
  induction R with
  | nil => rfl
  | cons r t ih =>
    by_cases c : r.1 ∈ ns
    · simp [c] at ih ⊢; omega
    · simp [c] at ih ⊢; omega
/-- an edge way from a: its rows, told by their names -/
structure EW (R : List Row) (a : Str) (es : List Row) : Prop where
  mem : ∀ e ∈ es, e ∈ R
  hd : ∃ e r, es = e :: r ∧ e.2.1 = a
  en : ∀ e ∈ es, e.2.2 ≠ a
theorem WayOk.ew {rs : List T} {a b : Str} {wy : List T} (W : WayOk rs a wy b) (hab : a ≠ b) : EW (rs.map (·.2)) a (wy.map (·.2)) := by
  have d0 : ∀ t ∈ wy, t.2.2.2 ≠ a := fun t ht e => by
    obtain ⟨i, hi⟩ := List.getElem?_of_mem ht
    obtain ⟨_, _, d⟩ := W.at' i t hi
    rw [e] at d
    have := d.uniq Dist.zero
    omega
  refine ⟨fun e he => ?_, ?_, fun e he => ?_⟩
  · obtain ⟨t, ht, rfl⟩ := List.mem_map.mp he
    obtain ⟨i, hi⟩ := List.getElem?_of_mem ht
    exact List.mem_map_of_mem (W.at' i t hi).1
  · cases wy with
    | nil => exact absurd W.last hab
    | cons t r =>
      obtain ⟨_, s, _⟩ := W.at' 0 t rfl
      exact ⟨t.2, r.map (·.2), rfl, s⟩
  · obtain ⟨t, ht, rfl⟩ := List.mem_map.mp he
    exact d0 t ht
noncomputable def oneOf (ns ws : List Str) : List Str := (ns.filter fun x => !decide (x ∈ ws)) ++ (ws.filter fun x => !decide (x ∈ ns))
theorem one_mem {ns ws : List Str} {x : Str} : x ∈ oneOf ns ws ↔ (x ∈ ns ∧ x ∉ ws) ∨ (x ∈ ws ∧ x ∉ ns) := by
  unfold oneOf
  simp [List.mem_append, List.mem_filter]
noncomputable def good (a : Str) (ns : List Str) (r : Row) : Bool := (decide (r.2.1 = a) && decide (r.1 ∈ ns)) || (decide (r.2.2 = a) && !decide (r.1 ∈ ns))
theorem name_inj {R : List Row} (hn : (R.map (·.1)).Nodup) {x y : Row} (hx : x ∈ R) (hy : y ∈ R) (e : x.1 = y.1) : x = y := by
  induction R with
  | nil => cases hx
  | cons r t ih =>
    obtain ⟨h1, h2⟩ := List.nodup_cons.mp (show (r.1 :: t.map (·.1)).Nodup from hn)
    rcases List.mem_cons.mp hx with ex | ex
    · rcases List.mem_cons.mp hy with ey | ey
      · rw [ex, ey]
      · subst ex; exact absurd (List.mem_map_of_mem (f := fun z : Row => z.1) ey) (by rw [← e]; exact h1)
    · rcases List.mem_cons.mp hy with ey | ey
      · subst ey; exact absurd (List.mem_map_of_mem (f := fun z : Row => z.1) ex) (by rw [e]; exact h1)
      · exact ih h2 ex ey
theorem filter_lt {α : Type} {p q : α → Bool} : ∀ {l : List α}, (∀ x ∈ l, p x = true → q x = true) → (∃ x ∈ l, p x = false ∧ q x = true) → (l.filter p).length < (l.filter q).length
  | [], _, ⟨x, hx, _⟩ => nomatch hx
  | y :: l, h, ⟨x, hx, h1, h2⟩ => by
    have le : ∀ {l : List α}, (∀ x ∈ l, p x = true → q x = true) → (l.filter p).length ≤ (l.filter q).length := fun {l} h => by
      induction l with
      | nil => simp
      | cons z m ih =>
        have := ih fun x hx => h x (List.mem_cons_of_mem _ hx)
        cases c : p z with
        | true => simp [c, h z List.mem_cons_self c]; exact this
        | false => cases d : q z <;> simp [c, d] <;> omega
    have ht : ∀ x ∈ l, p x = true → q x = true := fun z hz => h z (List.mem_cons_of_mem _ hz)
    rcases List.mem_cons.mp hx with e | e
    · subst e
      have := le ht
      simp [h1, h2]; omega
    · have := filter_lt ht ⟨x, e, h1, h2⟩
      cases c : p y with
      | true => simp [c, h y List.mem_cons_self c]; exact this
      | false => cases d : q y <;> simp [c, d] <;> omega
theorem flip_more {R : List Row} {a : Str} {ns : List Str} {es : List Row} (hn : (R.map (·.1)).Nodup) (W : EW (leftR R ns) a es) : (R.filter (good a ns)).length < (R.filter (good a (oneOf ns (es.map (·.1))))).length := by
  obtain ⟨e0, r0, he0, ha0⟩ := W.hd
  have in0 : e0 ∈ es := by rw [he0]; simp
  refine filter_lt (fun r hr hg => ?_) ?_
  · by_cases hw : r.1 ∈ es.map (·.1)
    · exfalso
      obtain ⟨e, he, hne⟩ := List.mem_map.mp hw
      have hend := W.en e he
      rcases left_mem (W.mem e he) with ⟨h1, h2⟩ | ⟨r', h1, h2, rfl⟩
      · have := name_inj hn h1 hr hne
        subst this
        unfold good at hg
        rw [decide_eq_false h2, decide_eq_false hend] at hg
        simp at hg
      · have := name_inj hn h1 hr hne
        subst this
        have hend' : r'.2.1 ≠ a := hend
        unfold good at hg
        rw [decide_eq_true h2, decide_eq_false hend'] at hg
        simp at hg
    · have hm : (r.1 ∈ oneOf ns (es.map (·.1))) ↔ r.1 ∈ ns := by
        rw [one_mem]
        constructor
        · rintro (h | h)
          · exact h.1
          · exact absurd h.1 hw
        · exact fun h => .inl ⟨h, hw⟩
      unfold good at hg ⊢
      rw [decide_eq_decide.mpr hm]
      exact hg
  · have hw : ∀ r : Row, r.1 = e0.1 → r.1 ∈ es.map (·.1) := fun r e => by rw [e]; exact List.mem_map_of_mem (f := fun z : Row => z.1) in0
    have hend := W.en e0 in0
    rcases left_mem (W.mem e0 in0) with ⟨h1, h2⟩ | ⟨r, h1, h2, e⟩
    · refine ⟨e0, h1, ?_, ?_⟩
      · unfold good; rw [decide_eq_false h2, decide_eq_false hend]; simp
      · have : e0.1 ∈ oneOf ns (es.map (·.1)) := one_mem.mpr (.inr ⟨hw e0 rfl, h2⟩)
        unfold good; rw [decide_eq_true this, decide_eq_true ha0]; rfl
    · have hs : r.2.1 ≠ a := fun z => hend (by rw [e]; exact z)
      have he : r.2.2 = a := by rw [e] at ha0; exact ha0
      refine ⟨r, h1, ?_, ?_⟩
      · unfold good; rw [decide_eq_true h2, decide_eq_false hs]; simp
      · have : r.1 ∉ oneOf ns (es.map (·.1)) := fun z => by
          rcases one_mem.mp z with q | q
          · exact q.2 (hw r (by rw [e]))
          · exact q.2 h2
        unfold good; rw [decide_eq_false this, decide_eq_true he]; simp
theorem WayOk.nodup {rs : List T} {a b : Str} {wy : List T} (W : WayOk rs a wy b) (hn : (rs.map (·.2.1)).Nodup) : (wy.map (·.2.1)).Nodup := by
  refine List.pairwise_iff_getElem.mpr fun i j hi hj hij e => ?_
  rw [List.length_map] at hi hj
  rw [List.getElem_map, List.getElem_map] at e
  obtain ⟨m1, _, d1⟩ := W.at' i wy[i] (List.getElem?_eq_getElem hi)
  obtain ⟨m2, _, d2⟩ := W.at' j wy[j] (List.getElem?_eq_getElem hj)
  have hn' : ((rs.map (·.2)).map (·.1)).Nodup := by rw [List.map_map]; exact hn
  have := name_inj hn' (List.mem_map_of_mem (f := fun z : T => z.2) m1) (List.mem_map_of_mem (f := fun z : T => z.2) m2) e
  rw [this] at d1
  have := d1.uniq d2
  omega
theorem left_names (R : List Row) (ns : List Str) : ((leftR R ns).map (·.1)).Perm (R.map (·.1)) := by
  unfold leftR
  rw [List.map_append, List.map_map]
  have h2 : ((R.filter fun r => decide (r.1 ∈ ns)).map ((·.1) ∘ revR)) = (R.filter fun r => decide (r.1 ∈ ns)).map (·.1) := rfl
  rw [h2, ← List.map_append]
  refine List.Perm.map _ ?_
  have := List.filter_append_perm (fun r : Row => !decide (r.1 ∈ ns)) R
  simpa using this
theorem one_nodup {ns ws : List Str} (h1 : ns.Nodup) (h2 : ws.Nodup) : (oneOf ns ws).Nodup := by
  refine List.nodup_append.mpr ⟨h1.filter _, h2.filter _, fun x hx y hy e => ?_⟩
  subst e
  have a := (List.mem_filter.mp hx).1
  have b := (List.mem_filter.mp hy).2
  simp [a] at b
end K23

set_option Elab.async false
set_option linter.all false
set_option maxRecDepth 100000
set_option maxHeartbeats 4000000
namespace K23
open PySem L2
theorem tfs {α : Type} (p : α → Bool) (l : List α) (i : Nat) (x : α) (h : l[i]? = some x) : (l.take (i + 1)).filter p = (l.take i).filter p ++ (if p x then [x] else []) := by
  rw [List.take_add_one, h, List.filter_append]
  simp [List.filter_cons]
theorem flen {α : Type} (p : α → Bool) (l : List α) (i : Nat) : ((l.take i).filter p).length ≤ i := Nat.le_trans (List.length_filter_le _ _) (by rw [List.length_take]; omega)
section
variable {P : Program} {w : World} {K : PySem.W.Frag} {mg : Str → Option Value} {base : Heap}
/-! ### rows_of, rows_left, in_one_of -/
theorem sc12 : FnScope ["web", "names"] ["web", "names"] (defScope (top 12)) := ⟨rfl, rfl, rfl, by decide +kernel, rfl, by decide +kernel, by decide +kernel⟩
noncomputable def spRowsOf : Sp := fun vs H Q _ => ∃ (v pa ra tk : Addr) (ps ns : List Str) (rs : List T), vs = [.ref v, .ref tk] ∧ WebAt H v pa ra ps rs ∧ rs.length ≤ 60 ∧ H tk = some (.lst (ns.map V.str)) ∧ ∀ (q : Addr) (H' : Hp), Same H H' → H' q = some (.lst (rrefs (rs.filter fun r => decide (r.2.1 ∈ ns)))) → Q (.ref q) H'
theorem ok_rows_of {f : Addr} {fd : FuncData} (F : Fun K "rows_of" "rows_of" (top 12) f fd) : FnOk P w K mg base CX0 1 f fd ["web", "names"] spRowsOf := by
  refine F.ok sc12 (fun vs H Q E h => ?_) (fun cdv A outer s H vs Q E hr h => ?_)
  · obtain ⟨v, pa, ra, tk, ps, ns, rs, rfl, _⟩ := h
    rfl
  · obtain ⟨v, pa, ra, tk, ps, ns, rs, rfl, W, hz, ht, k⟩ := h
    refine ⟨_, pss_one (ps_ret (pe_lc (N := ["row", "names"]) (ix := [none, some 1]) ⟨rfl, rfl, rfl, by decide⟩ rfl (pi_tup (pe_ix ix_seq (pv 0) pe_int (fun _ _ => rfl))) (fun _ _ _ _ => pg_lc 0 (by decide) rfl rfl)
      (fun _ _ _ _ => pts_one (pt_cmpR (in_seqK K) (pe_ix (ix_seqK K) (pv 0) pe_int (fun _ _ => rfl)) (pv 1) (by with_unfolding_all rfl))) (fun _ _ _ _ => pv 0))), ?_⟩
    refine ⟨_, rfl, rix_of (j := 1) (.inr (SqT.of W.tp)) rfl rfl ⟨ra, rfl, ⟨_, SqT.of W.rl⟩, lcw_tup1 (xs := rrefs rs) (fits (by rw [List.length_map]; omega)) (fun i ys σ H1 => ys = rrefs ((rs.take i).filter fun r => decide (r.2.1 ∈ ns)) ∧ H1 = H ∧ ∃ g, σ = [g, some (.ref tk)]) ⟨rfl, rfl, _, rfl⟩
      (fun i ys σ H1 _ q => ⟨by rw [q.1, List.length_map]; exact flen _ _ _, by rw [q.2.1]; exact SqT.of W.rl⟩) ?_ ?_⟩⟩
    · rintro i x ys σ H1 hx ⟨rfl, rfl, g, rfl⟩
      obtain ⟨r, hri, rfl⟩ := rowAt_get hx
      have tf := tfs (fun r : T => decide (r.2.1 ∈ ns)) rs i r hri
      refine ⟨_, rfl, rix_of (j := 0) (.inr (SqT.of (W.rows r (List.mem_of_getElem? hri)))) rfl rfl ⟨_, rfl, tk, ns.map V.str, rfl, .inl (SqL.of ht), rfl, flat_strs ns, _, rfl, ?_⟩⟩
      show if inV (.str r.2.1) (ns.map V.str) = true then _ else _
      rw [in_strs]
      refine ite2 (fun c => ⟨_, rfl, ?_, rfl, _, rfl⟩) (fun c => ⟨?_, rfl, _, rfl⟩)
      · rw [tf, c]; simp
      · rw [tf]; simp only [Bool.not_eq_true] at c; rw [c]; simp
    · rintro ys σ H1 ⟨rfl, rfl, g, rfl⟩ q hq
      rw [take_all rs (by simp)]
      exact k q _ (same_upd (Same.refl _) hq) upd_same
theorem sc26 : FnScope ["some", "others"] ["some", "others"] (defScope (top 26)) := ⟨rfl, rfl, rfl, by decide +kernel, rfl, by decide +kernel, by decide +kernel⟩
noncomputable def spOneOf : Sp := fun vs H Q _ => ∃ (a b : Addr) (ns ws : List Str), vs = [.ref a, .ref b] ∧ H a = some (.lst (ns.map V.str)) ∧ H b = some (.tup (ws.map V.str)) ∧ ns.length ≤ 100 ∧ ws.length ≤ 100 ∧ ∀ (q : Addr) (H' : Hp), Same H H' → H' q = some (.lst ((oneOf ns ws).map V.str)) → Q (.ref q) H'
theorem ok_one_of {f : Addr} {fd : FuncData} (F : Fun K "in_one_of" "in_one_of" (top 26) f fd) : FnOk P w K mg base CX0 1 f fd ["some", "others"] spOneOf := by
  refine F.ok sc26 (fun vs H Q E h => ?_) (fun cdv A outer s H vs Q E hr h => ?_)
  · obtain ⟨a, b, ns, ws, rfl, _⟩ := h
    rfl
  · obtain ⟨a, b, ns, ws, rfl, ha, hb, hn, hw, k⟩ := h
    refine' ⟨_, pss_one (ps_ret ?r), ?main⟩
    case' r => refine' pe_op op_cat ?r1 ?r2
    case r1 => exact pe_lc (N := ["name", "others"]) (ix := [none, some 1]) ⟨rfl, rfl, rfl, by decide⟩ rfl (pi_list (pv 0)) (fun _ _ _ _ => pg_lc 0 (by decide) rfl rfl) (fun _ _ _ _ => pts_one (pt_cmpR (notIn_seqK K) (pv 0) (pv 1) (by with_unfolding_all rfl))) (fun _ _ _ _ => pv 0)
    case r2 => exact pe_lc (N := ["name", "some"]) (ix := [none, some 0]) ⟨rfl, rfl, rfl, by decide⟩ rfl (pi_tup (pv 1)) (fun _ _ _ _ => pg_lc 0 (by decide) rfl rfl) (fun _ _ _ _ => pts_one (pt_cmpR (notIn_seqK K) (pv 0) (pv 1) (by with_unfolding_all rfl))) (fun _ _ _ _ => pv 0)
    case main =>
    refine ⟨_, rfl, a, rfl, ⟨_, SqL.of ha⟩, lcw_list1 (xs := ns.map V.str) (fits (by rw [List.length_map]; omega)) (fun i ys σ H1 => ys = ((ns.take i).filter fun x => !decide (x ∈ ws)).map V.str ∧ H1 = H ∧ ∃ g, σ = [g, some (.ref b)]) ⟨rfl, rfl, _, rfl⟩
      (fun i ys σ H1 _ q => ⟨by rw [q.1, List.length_map]; exact flen _ _ _, by rw [q.2.1]; exact SqL.of ha⟩) ?_ ?_⟩
    · rintro i x ys σ H1 hx ⟨rfl, rfl, g, rfl⟩
      rw [List.getElem?_map] at hx
      cases hc : ns[i]? with
      | none => rw [hc] at hx; cases hx
      | some z =>
        rw [hc] at hx
        cases hx
        have tf := tfs (fun x : Str => !decide (x ∈ ws)) ns i z hc
        refine ⟨_, rfl, _, rfl, b, ws.map V.str, rfl, .inr (SqT.of hb), rfl, flat_strs ws, _, rfl, ?_⟩
        show if (!inV (.str z) (ws.map V.str)) = true then _ else _
        rw [in_strs]
        refine ite2 (fun c => ⟨_, rfl, ?_, rfl, _, rfl⟩) (fun c => ⟨?_, rfl, _, rfl⟩)
        · rw [tf, c]; simp
        · rw [tf]; simp only [Bool.not_eq_true] at c; rw [c]; simp
    rintro ys σ H1 ⟨rfl, rfl, g, rfl⟩ q1 hq1
    rw [take_all ns (by simp)]
    have s1 := same_upd (o := .lst ((ns.filter fun x => !decide (x ∈ ws)).map V.str)) (Same.refl H1) hq1
    have e1 : upd H1 q1 (.lst ((ns.filter fun x => !decide (x ∈ ws)).map V.str)) q1 = some (.lst ((ns.filter fun x => !decide (x ∈ ws)).map V.str)) := upd_same
    generalize upd H1 q1 (.lst ((ns.filter fun x => !decide (x ∈ ws)).map V.str)) = H2 at s1 e1 ⊢
    refine ⟨_, rfl, b, rfl, ⟨_, SqT.of (s1 _ _ hb)⟩, lcw_tup1 (xs := ws.map V.str) (fits (by rw [List.length_map]; omega)) (fun i ys σ H3 => ys = ((ws.take i).filter fun x => !decide (x ∈ ns)).map V.str ∧ H3 = H2 ∧ ∃ g, σ = [g, some (.ref a)]) ⟨rfl, rfl, _, rfl⟩
      (fun i ys σ H3 _ q => ⟨by rw [q.1, List.length_map]; exact flen _ _ _, by rw [q.2.1]; exact SqT.of (s1 _ _ hb)⟩) ?_ ?_⟩
    · rintro i x ys σ H3 hx ⟨rfl, rfl, g, rfl⟩
      rw [List.getElem?_map] at hx
      cases hc : ws[i]? with
      | none => rw [hc] at hx; cases hx
      | some z =>
        rw [hc] at hx
        cases hx
        have tf := tfs (fun x : Str => !decide (x ∈ ns)) ws i z hc
        refine ⟨_, rfl, _, rfl, a, ns.map V.str, rfl, .inl (SqL.of (s1 _ _ ha)), rfl, flat_strs ns, _, rfl, ?_⟩
        show if (!inV (.str z) (ns.map V.str)) = true then _ else _
        rw [in_strs]
        refine ite2 (fun c => ⟨_, rfl, ?_, rfl, _, rfl⟩) (fun c => ⟨?_, rfl, _, rfl⟩)
        · rw [tf, c]; simp
        · rw [tf]; simp only [Bool.not_eq_true] at c; rw [c]; simp
    rintro ys σ H3 ⟨rfl, rfl, g, rfl⟩ q2 hq2
    rw [take_all ws (by simp)]
    have s2 := same_upd (o := .lst ((ws.filter fun x => !decide (x ∈ ns)).map V.str)) (Same.refl H3) hq2
    have e2 : upd H3 q2 (.lst ((ws.filter fun x => !decide (x ∈ ns)).map V.str)) q2 = some (.lst ((ws.filter fun x => !decide (x ∈ ns)).map V.str)) := upd_same
    generalize upd H3 q2 (.lst ((ws.filter fun x => !decide (x ∈ ns)).map V.str)) = H4 at s2 e2 ⊢
    have l1 := List.length_filter_le (fun x : Str => !decide (x ∈ ws)) ns
    have l2 := List.length_filter_le (fun x : Str => !decide (x ∈ ns)) ws
    refine ⟨q1, q2, _, _, rfl, rfl, s2 _ _ e1, e2, Nat.le_of_lt (fits (by rw [List.length_map, List.length_map]; omega)), fun q hq => ?_⟩
    have s3 := same_upd (o := .lst ((ns.filter fun x => !decide (x ∈ ws)).map V.str ++ (ws.filter fun x => !decide (x ∈ ns)).map V.str)) (Same.refl H4) hq
    refine k q _ (s1.trans (s2.trans s3)) ?_
    rw [upd_same, ← List.map_append]; rfl
noncomputable abbrev N25 : List Str := ["rows", "taken", "back"]
theorem sc25 : FnScope N25 ["rows", "taken"] (defScope (top 25)) := ⟨rfl, rfl, rfl, by decide +kernel, rfl, by decide +kernel, by decide +kernel⟩
noncomputable def spLeft : Sp := fun vs H Q _ => ∃ (ra tk : Addr) (ns : List Str) (rs : List T), vs = [.ref ra, .ref tk] ∧ H ra = some (.tup (rrefs rs)) ∧ RowsAt H rs ∧ rs.length ≤ 60 ∧ H tk = some (.lst (ns.map V.str)) ∧ ∀ (q : Addr) (ls : List T) (H' : Hp), Same H H' → H' q = some (.lst (rrefs ls)) → RowsAt H' ls → ls.map (·.2) = leftR (rs.map (·.2)) ns → Q (.ref q) H'
theorem ok_left {f : Addr} {fd : FuncData} (F : Fun K "rows_left" "rows_left" (top 25) f fd) : FnOk P w K mg base CX0 1 f fd ["rows", "taken"] spLeft := by
  refine F.ok sc25 (fun vs H Q E h => ?_) (fun cdv A outer s H vs Q E hr h => ?_)
  · obtain ⟨ra, tk, ns, rs, rfl, _⟩ := h
    rfl
  · obtain ⟨ra, tk, ns, rs, rfl, hra, hrows, hz, ht, k⟩ := h
    refine' ⟨_, pss_cons ?s1 (pss_one (ps_ret ?r)), ?main⟩
    case s1 =>
      refine' ps_setLc (i := 2) (N := ["name", "start", "end", "taken"]) (ix := [none, none, none, some 1]) sc25.nd rfl (Or.inl rfl) ⟨rfl, rfl, rfl, by decide⟩ rfl ?q1 ?q2 ?q3 ?q4
      case q1 => exact (pi_tup (pv 0))
      case q2 => exact (fun _ _ _ _ => pg_tupK K rfl (n := 3) (pgs_cons (pg_lc 0 (by decide) rfl rfl) (pgs_cons (pg_lc 1 (by decide) rfl rfl) (pgs_cons (pg_lc 2 (by decide) rfl rfl) pgs_nil))))
      case q3 => exact (fun _ _ _ _ => pts_one (pt_cmpR (in_seqK K) (pv 0) (pv 3) (by with_unfolding_all rfl)))
      case q4 => exact (fun _ _ _ _ => pe_tup (pa_cons (pv 0) (pa_cons (pv 2) (pa_cons (pv 1) pa_nil))))
    case' r => refine' pe_op op_cat ?r1 (pv 2)
    case r1 => exact pe_lc (N := ["row", "taken"]) (ix := [none, some 1]) ⟨rfl, rfl, rfl, by decide⟩ rfl (pi_tup (pv 0)) (fun _ _ _ _ => pg_lc 0 (by decide) rfl rfl) (fun _ _ _ _ => pts_one (pt_cmpR (notIn_seqK K) (pe_ix (ix_seqK K) (pv 0) pe_int (fun _ _ => rfl)) (pv 1) (by with_unfolding_all rfl))) (fun _ _ _ _ => pv 0)
    case main =>
    refine ⟨_, rfl, ra, rfl, ⟨_, SqT.of hra⟩, lcw_tup (xs := rrefs rs) (fits (by rw [List.length_map]; omega)) (fun i ys σ H1 => (∃ bs : List T, ys = rrefs bs ∧ bs.length ≤ i ∧ RowsAt H1 bs ∧ bs.map (·.2) = ((((rs.take i).map (·.2)).filter fun r => decide (r.1 ∈ ns)).map revR)) ∧ Same H H1 ∧ ∃ g1 g2 g3, σ = [g1, g2, g3, some (.ref tk)]) ⟨⟨[], rfl, by simp, ⟨fun r hr => nomatch hr⟩, rfl⟩, Same.refl _, _, _, _, rfl⟩
      (fun i ys σ H1 _ q => by obtain ⟨⟨bs, rfl, hb, _⟩, s1, _⟩ := q; exact ⟨by rw [List.length_map]; exact hb, SqT.of (s1 _ _ hra)⟩) ?_ ?_⟩
    · rintro i x ys σ H1 hx ⟨⟨bs, rfl, hb, Rb, eb⟩, s1, g1, g2, g3, rfl⟩
      obtain ⟨r, hri, rfl⟩ := rowAt_get hx
      have hrr := s1 _ _ (hrows.e r (List.mem_of_getElem? hri))
      have tf : (((rs.take (i + 1)).map (·.2)).filter fun r => decide (r.1 ∈ ns)).map revR = (((rs.take i).map (·.2)).filter fun r => decide (r.1 ∈ ns)).map revR ++ (if decide (r.2.1 ∈ ns) = true then [revR r.2] else []) := by
        rw [List.take_add_one, hri, List.map_append, List.filter_append, List.map_append]
        by_cases c : r.2.1 ∈ ns <;> simp [c]
      refine ⟨r.1, _, rfl, SqT.of hrr, rfl, _, _, rfl, _, _, rfl, _, _, rfl, rfl, ?_⟩
      refine ⟨_, rfl, _, rfl, tk, ns.map V.str, rfl, .inl (SqL.of (s1 _ _ ht)), rfl, flat_strs ns, _, rfl, ?_⟩
      show if inV (.str r.2.1) (ns.map V.str) = true then _ else _
      rw [in_strs]
      refine ite2 (fun c => ⟨_, rfl, _, rfl, _, rfl, by show 3 ≤ sizeLine; decide, fun t hT => ?_⟩) (fun c => ⟨⟨bs, rfl, by omega, Rb, by rw [tf, eb]; simp only [Bool.not_eq_true] at c; rw [c]; simp⟩, s1, _, _, _, rfl⟩)
      have s2 := same_upd (o := .tup [.str r.2.1, .str r.2.2.2, .str r.2.2.1]) (Same.refl H1) hT
      refine ⟨⟨bs ++ [(t, revR r.2)], by simp, by simp; omega, ⟨fun b hbm => ?_⟩, by rw [List.map_append, tf, eb, c]; rfl⟩, s1.trans s2, _, _, _, rfl⟩
      rcases List.mem_append.mp hbm with z | z
      · exact s2 _ _ (Rb.e b z)
      · rw [List.mem_singleton.mp z]; exact upd_same
    rintro ys σ H1 ⟨⟨bs, rfl, hb, Rb, eb⟩, s1, g1, g2, g3, rfl⟩ q1 hq1
    rw [take_all rs (by simp)] at eb
    have s2 := same_upd (o := .lst (rrefs bs)) (Same.refl H1) hq1
    have e2 : upd H1 q1 (.lst (rrefs bs)) q1 = some (.lst (rrefs bs)) := upd_same
    generalize upd H1 q1 (.lst (rrefs bs)) = H2 at s2 e2 ⊢
    have t2 := s1.trans s2
    have hra2 := t2 _ _ hra
    refine ⟨_, rfl, ra, rfl, ⟨_, SqT.of hra2⟩, lcw_tup1 (xs := rrefs rs) (fits (by rw [List.length_map]; omega)) (fun i ys σ H3 => ys = rrefs ((rs.take i).filter fun r => !decide (r.2.1 ∈ ns)) ∧ H3 = H2 ∧ ∃ g, σ = [g, some (.ref tk)]) ⟨rfl, rfl, _, rfl⟩
      (fun i ys σ H3 _ q => ⟨by rw [q.1, List.length_map]; exact flen _ _ _, by rw [q.2.1]; exact SqT.of hra2⟩) ?_ ?_⟩
    · rintro i x ys σ H3 hx ⟨rfl, rfl, g, rfl⟩
      obtain ⟨r, hri, rfl⟩ := rowAt_get hx
      have tf := tfs (fun r : T => !decide (r.2.1 ∈ ns)) rs i r hri
      refine ⟨_, rfl, rix_of (j := 0) (.inr (SqT.of (t2 _ _ (hrows.e r (List.mem_of_getElem? hri))))) rfl rfl ⟨_, rfl, tk, ns.map V.str, rfl, .inl (SqL.of (t2 _ _ ht)), rfl, flat_strs ns, _, rfl, ?_⟩⟩
      show if (!inV (.str r.2.1) (ns.map V.str)) = true then _ else _
      rw [in_strs]
      refine ite2 (fun c => ⟨_, rfl, ?_, rfl, _, rfl⟩) (fun c => ⟨?_, rfl, _, rfl⟩)
      · rw [tf, c]; simp
      · rw [tf]; simp only [Bool.not_eq_true] at c; rw [c]; simp
    rintro ys σ H3 ⟨rfl, rfl, g, rfl⟩ q2 hq2
    rw [take_all rs (by simp)]
    have s3 := same_upd (o := .lst (rrefs (rs.filter fun r => !decide (r.2.1 ∈ ns)))) (Same.refl H3) hq2
    have e3 : upd H3 q2 (.lst (rrefs (rs.filter fun r => !decide (r.2.1 ∈ ns)))) q2 = some (.lst (rrefs (rs.filter fun r => !decide (r.2.1 ∈ ns)))) := upd_same
    generalize upd H3 q2 (.lst (rrefs (rs.filter fun r => !decide (r.2.1 ∈ ns)))) = H4 at s3 e3 ⊢
    have l1 := List.length_filter_le (fun r : T => !decide (r.2.1 ∈ ns)) rs
    have hbl : bs.length ≤ rs.length := by simpa using hb
    refine ⟨_, rfl, q2, q1, _, _, rfl, rfl, e3, s3 _ _ e2, Nat.le_of_lt (fits (by rw [List.length_map, List.length_map]; exact Nat.le_trans (Nat.add_le_add (List.length_filter_le _ _) hbl) (by omega))), fun q hq => ?_⟩
    have s4 := same_upd (o := .lst (rrefs (rs.filter fun r => !decide (r.2.1 ∈ ns)) ++ rrefs bs)) (Same.refl H4) hq
    have t4 := t2.trans (s3.trans s4)
    refine k q ((rs.filter fun r => !decide (r.2.1 ∈ ns)) ++ bs) _ t4 (by rw [upd_same, ← List.map_append]) ⟨fun r hr => ?_⟩ ?_
    · rcases List.mem_append.mp hr with z | z
      · exact t4 _ _ (hrows.e r (List.mem_filter.mp z).1)
      · exact (s2.trans (s3.trans s4)) _ _ (Rb.e r z)
    · rw [List.map_append, eb]
      unfold leftR
      rw [List.filter_map, List.filter_map]
      rfl
end
end K23

set_option Elab.async false
set_option linter.all false
set_option maxRecDepth 100000
set_option maxHeartbeats 4000000
namespace K23
open PySem L2
/-! ### no address matters -/
noncomputable abbrev bare (r : Row) : T := (0, r)
noncomputable abbrev zt (t : T) : T := (0, t.2)
theorem ends_z (tk : List T) : (tk.map zt).map (·.2.2.2) = tk.map (·.2.2.2) := by rw [List.map_map]; rfl
theorem fold_z (a x : Str) : ∀ (rs tk : List T), (rs.foldl (stp a x) tk).map zt = (rs.map zt).foldl (stp a x) (tk.map zt)
  | [], tk => rfl
  | r :: t, tk => by
    have e : (stp a x tk r).map zt = stp a x (tk.map zt) (zt r) := by
      unfold stp
      rw [ends_z]
      by_cases c : r.2.2.1 = x ∧ r.2.2.2 ∉ a :: tk.map (·.2.2.2)
      · rw [if_pos c, if_pos c, List.map_append]; rfl
      · rw [if_neg c, if_neg c]
    rw [List.foldl_cons, List.map_cons, List.foldl_cons, fold_z a x t, e]
theorem bfs_z (rs : List T) (a : Str) : ∀ k, (bfs rs a k).map zt = bfs (rs.map zt) a k
  | 0 => rfl
  | k + 1 => by
    have ih := bfs_z rs a k
    show (match (a :: (bfs rs a k).map (fun t : T => t.2.2.2))[k]? with | some x => rs.foldl (stp a x) (bfs rs a k) | none => bfs rs a k).map zt = (match (a :: (bfs (rs.map zt) a k).map (fun t : T => t.2.2.2))[k]? with | some x => (rs.map zt).foldl (stp a x) (bfs (rs.map zt) a k) | none => bfs (rs.map zt) a k)
    rw [← ih, ends_z]
    generalize (a :: (bfs rs a k).map (fun t : T => t.2.2.2))[k]? = o
    cases o with
    | none => rfl
    | some x => exact fold_z a x rs _
theorem wayB_z (tk : List T) (a : Str) : ∀ (f : Nat) (x : Str), (wayB tk a f x).map zt = wayB (tk.map zt) a f x
  | 0, _ => rfl
  | f + 1, x => by
    show (if x = a then [] else match tk.find? (fun t => decide (t.2.2.2 = x)) with | some t => wayB tk a f t.2.2.1 ++ [t] | none => []).map zt = (if x = a then [] else match (tk.map zt).find? (fun t => decide (t.2.2.2 = x)) with | some t => wayB (tk.map zt) a f t.2.2.1 ++ [t] | none => [])
    by_cases c : x = a
    · rw [if_pos c, if_pos c]; rfl
    · rw [if_neg c, if_neg c, List.find?_map]
      have e : ((fun t : T => decide (t.2.2.2 = x)) ∘ zt) = fun t : T => decide (t.2.2.2 = x) := rfl
      rw [e]
      cases tk.find? (fun t => decide (t.2.2.2 = x)) with
      | none => rfl
      | some t =>
        show (wayB tk a f t.2.2.1 ++ [t]).map zt = wayB (tk.map zt) a f t.2.2.1 ++ [zt t]
        rw [List.map_append, wayB_z tk a f]
        rfl
theorem fndR_ex : ∃ f : List Row → Str → List Str, ∀ R a, f R a = fnd a (bfs (R.map bare) a 200) := ⟨_, fun _ _ => rfl⟩
noncomputable def fndR (R : List Row) (a : Str) : List Str := Classical.choose fndR_ex R a
theorem fndR_eq (R : List Row) (a : Str) : fndR R a = fnd a (bfs (R.map bare) a 200) := Classical.choose_spec fndR_ex R a
theorem wayR_ex : ∃ f : List Row → Str → Str → List Row, ∀ R a b, f R a b = (wayB (bfs (R.map bare) a 200) a 200 b).map (·.2) := ⟨_, fun _ _ _ => rfl⟩
noncomputable def wayR (R : List Row) (a b : Str) : List Row := Classical.choose wayR_ex R a b
theorem wayR_eq (R : List Row) (a b : Str) : wayR R a b = (wayB (bfs (R.map bare) a 200) a 200 b).map (·.2) := Classical.choose_spec wayR_ex R a b
theorem zt_bare (ls : List T) : ls.map zt = (ls.map (·.2)).map bare := by rw [List.map_map]; rfl
theorem fnd_bare (ls : List T) (a : Str) : fnd a (first ls a) = fndR (ls.map (·.2)) a := by
  rw [fndR_eq, ← zt_bare, ← bfs_z, first_eq]
  show a :: _ = a :: _
  rw [ends_z]
theorem way_bare (ls : List T) (a b : Str) : (wayF (first ls a) a b).map (·.2) = wayR (ls.map (·.2)) a b := by
  rw [wayR_eq, ← zt_bare, ← bfs_z, wayF_eq, first_eq, ← wayB_z, List.map_map]
  rfl
/-! ### ways as rows -/
inductive Ch : Str → List Row → Str → Prop
  | nil {a : Str} : Ch a [] a
  | cons {r : Row} {es : List Row} {b : Str} : Ch r.2.2 es b → Ch r.2.1 (r :: es) b
theorem Ch.snoc {a b : Str} {es : List Row} {r : Row} (h : Ch a es b) (e : r.2.1 = b) : Ch a (es ++ [r]) r.2.2 := by
  induction h with
  | nil => subst e; exact .cons .nil
  | cons _ ih => exact .cons (ih e)
/-- a way of rows from a place to another, no place twice -/
structure RWay (R : List Row) (a b : Str) (es : List Row) : Prop where
  mem : ∀ e ∈ es, e ∈ R
  ch : Ch a es b
  nd : (a :: es.map (·.2.2)).Nodup
  ew : EW R a es
theorem WayOk.chain {rs : List T} {a b : Str} {w : List T} (W : WayOk rs a w b) : ∀ k, k ≤ w.length → Ch a ((w.take k).map (·.2)) (lst a (w.take k))
  | 0, _ => by rw [List.take_zero]; exact .nil
  | k + 1, h => by
    have ih := W.chain k (by omega)
    have hk : k < w.length := by omega
    have e : w.take (k + 1) = w.take k ++ [w[k]] := by rw [List.take_add_one, List.getElem?_eq_getElem hk]; rfl
    obtain ⟨_, h2, _⟩ := W.at' k w[k] (List.getElem?_eq_getElem hk)
    rw [e, List.map_append, lst_snoc]
    exact ih.snoc h2
theorem WayOk.rway {rs : List T} {a b : Str} {w : List T} (W : WayOk rs a w b) (hab : a ≠ b) : RWay (rs.map (·.2)) a b (w.map (·.2)) := by
  have E := W.ew hab
  refine ⟨E.mem, ?_, ?_, E⟩
  · have := W.chain w.length (Nat.le_refl _)
    rw [List.take_length, W.last] at this
    exact this
  · rw [List.map_map]
    refine List.nodup_cons.mpr ⟨fun h => ?_, ?_⟩
    · obtain ⟨t, ht, e⟩ := List.mem_map.mp h
      exact E.en t.2 (List.mem_map_of_mem ht) e
    · rw [List.nodup_iff_pairwise_ne, List.pairwise_iff_getElem]
      intro i j hi hj hij e
      rw [List.length_map] at hi hj
      rw [List.getElem_map, List.getElem_map] at e
      obtain ⟨_, _, d1⟩ := W.at' i w[i] (List.getElem?_eq_getElem hi)
      obtain ⟨_, _, d2⟩ := W.at' j w[j] (List.getElem?_eq_getElem hj)
      rw [show w[i].2.2.2 = w[j].2.2.2 from e] at d1
      have := d1.uniq d2
      omega
/-! ### what is over a cut -/
noncomputable def wS (S : Str → Bool) (r : Row) : Int := (if S r.2.1 then 1 else 0) - (if S r.2.2 then 1 else 0)
theorem ch_sum (S : Str → Bool) {a b : Str} {es : List Row} (h : Ch a es b) : (es.map (wS S)).sum = (if S a then 1 else 0) - (if S b then 1 else 0) := by
  induction h with
  | nil => simp
  | cons _ ih => rw [List.map_cons, List.sum_cons, ih]; unfold wS; omega
theorem sum_add {α : Type} (f g : α → Int) : ∀ l : List α, (l.map fun r => f r + g r).sum = (l.map f).sum + (l.map g).sum
  | [] => rfl
  | x :: t => by rw [List.map_cons, List.sum_cons, sum_add f g t, List.map_cons, List.sum_cons, List.map_cons, List.sum_cons]; omega
theorem sum_eq {α : Type} {f g : α → Int} : ∀ {l : List α}, (∀ x ∈ l, f x = g x) → (l.map f).sum = (l.map g).sum
  | [], _ => rfl
  | x :: t, h => by rw [List.map_cons, List.sum_cons, sum_eq fun y hy => h y (List.mem_cons_of_mem _ hy), h x List.mem_cons_self, List.map_cons, List.sum_cons]
theorem sum_filter {α : Type} (p : α → Bool) (g : α → Int) : ∀ l : List α, ((l.filter p).map g).sum = (l.map fun r => if p r then g r else 0).sum
  | [] => rfl
  | x :: t => by
    rw [List.filter_cons, List.map_cons, List.sum_cons, ← sum_filter p g t]
    cases p x
    · simp
    · simp
theorem sum_count {α : Type} (p : α → Bool) (l : List α) : (l.map fun r => if p r then (1 : Int) else 0).sum = (l.filter p).length := by
  rw [← sum_filter]
  induction l.filter p with
  | nil => rfl
  | cons x t ih => rw [List.map_cons, List.sum_cons, ih, List.length_cons]; omega
theorem sum_zero {α : Type} {f : α → Int} : ∀ {l : List α}, (∀ x ∈ l, f x = 0) → (l.map f).sum = 0
  | [], _ => rfl
  | x :: t, h => by rw [List.map_cons, List.sum_cons, h x List.mem_cons_self, sum_zero fun y hy => h y (List.mem_cons_of_mem _ hy)]; rfl
theorem sum_one (g : Row → Int) : ∀ {R : List Row}, (R.map (·.1)).Nodup → ∀ {r0 : Row}, r0 ∈ R → (R.map fun r => if r.1 = r0.1 then g r else 0).sum = g r0
  | x :: t, hn, r0, h => by
    rw [List.map_cons] at hn
    obtain ⟨h1, h2⟩ := List.nodup_cons.mp hn
    rw [List.map_cons, List.sum_cons]
    rcases List.mem_cons.mp h with rfl | h
    · rw [if_pos rfl, sum_zero (f := fun r : Row => if r.1 = r0.1 then g r else 0) (fun y hy => if_neg fun e => h1 (by rw [← e]; exact List.mem_map_of_mem hy)), Int.add_zero]
    · rw [if_neg (fun e => h1 (by rw [e]; exact List.mem_map_of_mem h)), sum_one g h2 h, Int.zero_add]
theorem sum_es (u d : Row → Int) {R : List Row} (hn : (R.map (·.1)).Nodup) : ∀ {es : List Row}, (es.map (·.1)).Nodup → (∀ e ∈ es, ∃ r ∈ R, r.1 = e.1 ∧ u e = d r) → (es.map u).sum = (R.map fun r => if r.1 ∈ es.map (·.1) then d r else 0).sum
  | [], _, _ => (sum_zero fun x _ => if_neg (by simp)).symm
  | e :: t, h, k => by
    rw [List.map_cons] at h
    obtain ⟨h1, h2⟩ := List.nodup_cons.mp h
    obtain ⟨r, hr, er, eu⟩ := k e List.mem_cons_self
    rw [List.map_cons, List.sum_cons, sum_es u d hn h2 fun y hy => k y (List.mem_cons_of_mem _ hy), eu, ← sum_one d hn hr, ← sum_add]
    refine sum_eq fun x hx => ?_
    by_cases c : x.1 = r.1
    · have c1 : x.1 ∈ (e :: t).map (·.1) := by rw [List.map_cons, c, er]; exact List.mem_cons_self
      have c2 : x.1 ∉ t.map (·.1) := by rw [c, er]; exact h1
      rw [if_pos c, if_neg c2, if_pos c1]; omega
    · have c1 : x.1 ∈ (e :: t).map (·.1) ↔ x.1 ∈ t.map (·.1) := by
        rw [List.map_cons, List.mem_cons]
        exact ⟨fun z => z.resolve_left fun z => c (by rw [z, er]), .inr⟩
      rw [if_neg c]
      by_cases c2 : x.1 ∈ t.map (·.1)
      · rw [if_pos c2, if_pos (c1.mpr c2)]; omega
      · rw [if_neg c2, if_neg fun z => c2 (c1.mp z)]; rfl
noncomputable def net (S : Str → Bool) (R : List Row) (ns : List Str) : Int := (R.map fun r => if r.1 ∈ ns then wS S r else 0).sum
theorem wS_rev (S : Str → Bool) (r : Row) : wS S (revR r) = - wS S r := by
  show ((if S r.2.2 then (1 : Int) else 0) - (if S r.2.1 then 1 else 0)) = -((if S r.2.1 then 1 else 0) - (if S r.2.2 then 1 else 0))
  omega
theorem net_flip (S : Str → Bool) {R : List Row} (hn : (R.map (·.1)).Nodup) {ns : List Str} {es : List Row} (hm : ∀ e ∈ es, e ∈ leftR R ns) (hnd : (es.map (·.1)).Nodup) : net S R (oneOf ns (es.map (·.1))) = net S R ns + (es.map (wS S)).sum := by
  rw [sum_es (wS S) (fun r => if r.1 ∈ ns then - wS S r else wS S r) hn hnd (fun e he => ?_)]
  · unfold net
    rw [← sum_add]
    refine sum_eq fun r hr => ?_
    by_cases c1 : r.1 ∈ ns <;> by_cases c2 : r.1 ∈ es.map (·.1)
    · rw [if_neg (fun z => (one_mem.mp z).elim (fun z => z.2 c2) (fun z => z.2 c1)), if_pos c1, if_pos c2, if_pos c1]; omega
    · rw [if_pos (one_mem.mpr (.inl ⟨c1, c2⟩)), if_pos c1, if_neg c2]; omega
    · rw [if_pos (one_mem.mpr (.inr ⟨c2, c1⟩)), if_neg c1, if_pos c2, if_neg c1]; omega
    · rw [if_neg (fun z => (one_mem.mp z).elim (fun z => c1 z.1) (fun z => c2 z.1)), if_neg c1, if_neg c2]; rfl
  · rcases left_mem (hm e he) with ⟨h1, h2⟩ | ⟨r, h1, h2, rfl⟩
    · exact ⟨e, h1, rfl, by rw [if_neg h2]⟩
    · exact ⟨r, h1, rfl, by rw [if_pos h2, wS_rev]⟩
/-- the ties taken, after so many ways -/
inductive TK (R : List Row) (a b : Str) : Nat → List Str → Prop
  | zero : TK R a b 0 []
  | succ {n : Nat} {ns : List Str} : TK R a b n ns → b ∈ fndR (leftR R ns) a → RWay (leftR R ns) a b (wayR (leftR R ns) a b) → ((wayR (leftR R ns) a b).map (·.1)).Nodup → TK R a b (n + 1) (oneOf ns ((wayR (leftR R ns) a b).map (·.1)))
theorem TK.net {S : Str → Bool} {R : List Row} {a b : Str} (hn : (R.map (·.1)).Nodup) (ha : S a = true) (hb : S b = false) {n : Nat} {ns : List Str} (h : TK R a b n ns) : K23.net S R ns = n := by
  induction h with
  | zero => exact sum_zero fun x _ => if_neg (by simp)
  | succ t _ W nd ih =>
    rw [net_flip S hn W.mem nd, ih, ch_sum S W.ch, ha, hb]
    simp
theorem TK.uniq {R : List Row} {a b : Str} {n : Nat} {ns : List Str} (h : TK R a b n ns) : ∀ {ms : List Str}, TK R a b n ms → ns = ms := by
  induction h with
  | zero => intro ms g; cases g; rfl
  | succ t _ _ _ ih => intro ms g; cases g with | succ t' _ _ _ => rw [ih t']
theorem TK.pre {R : List Row} {a b : Str} {n : Nat} {ns : List Str} (h : TK R a b n ns) : ∀ {m : Nat}, m < n → ∃ ms, TK R a b m ms ∧ b ∈ fndR (leftR R ms) a := by
  induction h with
  | zero => intro m z; omega
  | @succ n ns t hb _ _ ih =>
    intro m z
    rcases Nat.lt_or_ge m n with lt | ge
    · exact ih lt
    · have : m = n := by omega
      subst this
      exact ⟨ns, t, hb⟩
theorem TK.last {R : List Row} {a b : Str} {n m : Nat} {ns ms : List Str} (h : TK R a b n ns) (g : TK R a b m ms) (hb : b ∉ fndR (leftR R ns) a) (gb : b ∉ fndR (leftR R ms) a) : ns = ms := by
  rcases Nat.lt_trichotomy n m with lt | eq | gt
  · obtain ⟨x, t, q⟩ := g.pre lt
    rw [← h.uniq t] at q
    exact absurd q hb
  · subst eq; exact h.uniq g
  · obtain ⟨x, t, q⟩ := h.pre gt
    rw [← g.uniq t] at q
    exact absurd q gb
/-- the ways taken apart -/
inductive AP (L0 : List Row) (a b : Str) : List (List Row) → List Row → Prop
  | nil : AP L0 a b [] L0
  | snoc {told : List (List Row)} {L : List Row} : AP L0 a b told L → b ∈ fndR L a → RWay L a b (wayR L a b) → ((wayR L a b).map (·.1)).Nodup → AP L0 a b (told ++ [wayR L a b]) (L.filter fun r => !decide (r.1 ∈ (wayR L a b).map (·.1)))
theorem AP.uniq {L0 : List Row} {a b : Str} {told : List (List Row)} {L : List Row} (h : AP L0 a b told L) : ∀ {told' : List (List Row)} {L' : List Row}, AP L0 a b told' L' → told.length = told'.length → told = told' ∧ L = L' := by
  induction h with
  | nil =>
    intro t' L' g e
    cases g with
    | nil => exact ⟨rfl, rfl⟩
    | snoc g _ _ _ => simp at e
  | snoc h _ _ _ ih =>
    intro t' L' g e
    cases g with
    | nil => simp at e
    | snoc g _ _ _ =>
      obtain ⟨e1, e2⟩ := ih g (by simpa using e)
      rw [e1, e2]
      exact ⟨rfl, rfl⟩
theorem AP.pre {L0 : List Row} {a b : Str} {told : List (List Row)} {L : List Row} (h : AP L0 a b told L) : ∀ {m : Nat}, m < told.length → ∃ told' L', told'.length = m ∧ AP L0 a b told' L' ∧ b ∈ fndR L' a := by
  induction h with
  | nil => intro m z; simp at z
  | @snoc told L t hb _ _ ih =>
    intro m z
    rw [List.length_append] at z
    rcases Nat.lt_or_ge m told.length with lt | ge
    · exact ih lt
    · exact ⟨told, L, by simp at z; omega, t, hb⟩
theorem AP.last {L0 : List Row} {a b : Str} {t t' : List (List Row)} {L L' : List Row} (h : AP L0 a b t L) (g : AP L0 a b t' L') (hb : b ∉ fndR L a) (gb : b ∉ fndR L' a) : t = t' := by
  rcases Nat.lt_trichotomy t.length t'.length with lt | eq | gt
  · obtain ⟨x, y, e, q, z⟩ := g.pre lt
    rw [← (h.uniq q e.symm).2] at z
    exact absurd z hb
  · exact (h.uniq g eq).1
  · obtain ⟨x, y, e, q, z⟩ := h.pre gt
    rw [← (g.uniq q e.symm).2] at z
    exact absurd z gb
theorem AP.net {S : Str → Bool} {L0 : List Row} {a b : Str} (hn : (L0.map (·.1)).Nodup) (ha : S a = true) (hb : S b = false) {told : List (List Row)} {L : List Row} (h : AP L0 a b told L) : (L.map (·.1)).Nodup ∧ (∀ r ∈ L, r ∈ L0) ∧ (L.map (wS S)).sum = (L0.map (wS S)).sum - told.length := by
  induction h with
  | nil => exact ⟨hn, fun r h => h, by simp⟩
  | @snoc told L t _ W nd ih =>
    obtain ⟨i1, i2, i3⟩ := ih
    refine ⟨(List.Sublist.map _ List.filter_sublist).nodup i1, fun r hr => i2 r (List.mem_filter.mp hr).1, ?_⟩
    have e := sum_es (wS S) (wS S) i1 nd fun e he => ⟨e, W.mem e he, rfl, rfl⟩
    rw [ch_sum S W.ch, ha, hb] at e
    rw [sum_filter, List.length_append]
    have e2 : ∀ L : List Row, ∀ ws : List Str, (L.map (wS S)).sum = (L.map fun r => if (!decide (r.1 ∈ ws)) = true then wS S r else 0).sum + (L.map fun r => if r.1 ∈ ws then wS S r else 0).sum := fun L ws => by
      rw [← sum_add]
      refine sum_eq fun r _ => ?_
      by_cases c : r.1 ∈ ws <;> simp [c]
    have e3 := e2 L ((wayR L a b).map (·.1))
    rw [i3, ← e] at e3
    simp at e3 ⊢
    omega
structure Told (R : List Row) (a b : Str) (told : List (List Row)) : Prop where
  way : ∀ w ∈ told, RWay R a b w
  nd : ((told.map fun w => w.map (·.1)).flatten).Nodup
theorem EW.imp {R R' : List Row} {a : Str} {es : List Row} (h : EW R a es) (s : ∀ r ∈ R, r ∈ R') : EW R' a es := ⟨fun e he => s e (h.mem e he), h.hd, h.en⟩
theorem RWay.imp {R R' : List Row} {a b : Str} {es : List Row} (h : RWay R a b es) (s : ∀ r ∈ R, r ∈ R') : RWay R' a b es := ⟨fun e he => s e (h.mem e he), h.ch, h.nd, h.ew.imp s⟩
theorem AP.told {L0 : List Row} {a b : Str} {told : List (List Row)} {L : List Row} (h : AP L0 a b told L) : Told L0 a b told ∧ (∀ r ∈ L, r ∈ L0) ∧ ∀ r ∈ L, r.1 ∉ (told.map fun w => w.map (·.1)).flatten := by
  induction h with
  | nil => exact ⟨⟨by simp, by simp⟩, fun r h => h, by simp⟩
  | @snoc told L t _ W nd ih =>
    obtain ⟨i1, i2, i3⟩ := ih
    refine ⟨⟨fun w hw => ?_, ?_⟩, fun r hr => i2 r (List.mem_filter.mp hr).1, fun r hr => ?_⟩
    · rcases List.mem_append.mp hw with z | z
      · exact i1.way w z
      · rw [List.mem_singleton.mp z]; exact W.imp i2
    · rw [List.map_append, List.flatten_append]
      refine List.nodup_append.mpr ⟨i1.nd, by simpa using nd, fun x hx y hy e => ?_⟩
      have hy' : y ∈ (wayR L a b).map (·.1) := by simpa using hy
      obtain ⟨r, hr, rfl⟩ := List.mem_map.mp hy'
      exact i3 r (W.mem r hr) (by rw [← e]; exact hx)
    · obtain ⟨h1, h2⟩ := List.mem_filter.mp hr
      rw [List.map_append, List.flatten_append]
      intro z
      rcases List.mem_append.mp z with z | z
      · exact i3 r h1 z
      · have z' : r.1 ∈ (wayR L a b).map (·.1) := by simpa using z
        rw [decide_eq_true z'] at h2
        cases h2
/-- what is reached is closed -/
noncomputable def Cl (L : List Row) (a : Str) : Prop := a ∈ fndR L a ∧ ∀ r ∈ L, r.2.1 ∈ fndR L a → r.2.2 ∈ fndR L a
theorem Full.closed {ls : List T} {a : Str} (F : Full ls a (first ls a)) : Cl (ls.map (·.2)) a := by
  unfold Cl
  rw [← fnd_bare]
  refine ⟨List.mem_cons_self, fun r hr h => ?_⟩
  obtain ⟨n, d⟩ := F.mem _ h
  exact F.cl (n + 1) _ (.snoc d.1 hr)
theorem as_many {R : List Row} {a b : Str} (hn : (R.map (·.1)).Nodup) {n : Nat} {ns : List Str} (t : TK R a b n ns) (hb : b ∉ fndR (leftR R ns) a) (hc : Cl (leftR R ns) a) {told : List (List Row)} {L : List Row} (h : AP (R.filter fun r => decide (r.1 ∈ ns)) a b told L) (lb : b ∉ fndR L a) (lc : Cl L a) :
    told.length = (R.filter fun r => decide (r.2.1 ∈ fndR (leftR R ns) a) && !decide (r.2.2 ∈ fndR (leftR R ns) a)).length := by
  have hn0 : ((R.filter fun r => decide (r.1 ∈ ns)).map (·.1)).Nodup := (List.Sublist.map _ List.filter_sublist).nodup hn
  have mem1 : ∀ r ∈ R, r.1 ∈ ns → r.2.2 ∈ fndR (leftR R ns) a → r.2.1 ∈ fndR (leftR R ns) a := fun r hr h1 h2 => hc.2 (revR r) (List.mem_append_right _ (List.mem_map_of_mem (List.mem_filter.mpr ⟨hr, decide_eq_true h1⟩))) h2
  have mem2 : ∀ r ∈ R, r.1 ∉ ns → r.2.1 ∈ fndR (leftR R ns) a → r.2.2 ∈ fndR (leftR R ns) a := fun r hr h1 h2 => hc.2 r (List.mem_append_left _ (List.mem_filter.mpr ⟨hr, by rw [decide_eq_false h1]; rfl⟩)) h2
  have e1 := t.net (S := fun x => decide (x ∈ fndR (leftR R ns) a)) hn (decide_eq_true hc.1) (decide_eq_false hb)
  have e2 : net (fun x => decide (x ∈ fndR (leftR R ns) a)) R ns = (R.filter fun r => decide (r.2.1 ∈ fndR (leftR R ns) a) && !decide (r.2.2 ∈ fndR (leftR R ns) a)).length := by
    rw [← sum_count]
    refine sum_eq fun r hr => ?_
    unfold wS
    by_cases c1 : r.1 ∈ ns
    · rw [if_pos c1]
      by_cases c2 : r.2.2 ∈ fndR (leftR R ns) a
      · simp [c2, mem1 r hr c1 c2]
      · by_cases c3 : r.2.1 ∈ fndR (leftR R ns) a <;> simp [c2, c3]
    · rw [if_neg c1]
      by_cases c3 : r.2.1 ∈ fndR (leftR R ns) a
      · simp [c3, mem2 r hr c1 c3]
      · simp [c3]
  have e3 : ((R.filter fun r => decide (r.1 ∈ ns)).map (wS fun x => decide (x ∈ fndR (leftR R ns) a))).sum = n := by
    rw [sum_filter, ← e1]
    refine sum_eq fun r _ => ?_
    by_cases c : r.1 ∈ ns <;> simp [c]
  obtain ⟨_, s1, n1⟩ := h.net (S := fun x => decide (x ∈ fndR (leftR R ns) a)) hn0 (decide_eq_true hc.1) (decide_eq_false hb)
  obtain ⟨_, _, n2⟩ := h.net (S := fun x => decide (x ∈ fndR L a)) hn0 (decide_eq_true lc.1) (decide_eq_false lb)
  have e4 : ((R.filter fun r => decide (r.1 ∈ ns)).map (wS fun x => decide (x ∈ fndR L a))).sum = n := by
    have := t.net (S := fun x => decide (x ∈ fndR L a)) hn (decide_eq_true lc.1) (decide_eq_false lb)
    rw [sum_filter, ← this]
    refine sum_eq fun r _ => ?_
    by_cases c : r.1 ∈ ns <;> simp [c]
  have p1 : 0 ≤ (L.map (wS fun x => decide (x ∈ fndR (leftR R ns) a))).sum := by
    have : ∀ l : List Row, (∀ r ∈ l, 0 ≤ wS (fun x => decide (x ∈ fndR (leftR R ns) a)) r) → 0 ≤ (l.map (wS fun x => decide (x ∈ fndR (leftR R ns) a))).sum := fun l => by
      induction l with
      | nil => intro _; exact Int.le_refl _
      | cons x t ih => intro h; rw [List.map_cons, List.sum_cons]; have := ih fun y hy => h y (List.mem_cons_of_mem _ hy); have := h x List.mem_cons_self; omega
    refine this L fun r hr => ?_
    obtain ⟨m1, m2⟩ := List.mem_filter.mp (s1 r hr)
    unfold wS
    by_cases c2 : r.2.2 ∈ fndR (leftR R ns) a
    · simp [c2, mem1 r m1 (of_decide_eq_true m2) c2]
    · by_cases c3 : r.2.1 ∈ fndR (leftR R ns) a <;> simp [c2, c3]
  have p2 : (L.map (wS fun x => decide (x ∈ fndR L a))).sum ≤ 0 := by
    have : ∀ l : List Row, (∀ r ∈ l, wS (fun x => decide (x ∈ fndR L a)) r ≤ 0) → (l.map (wS fun x => decide (x ∈ fndR L a))).sum ≤ 0 := fun l => by
      induction l with
      | nil => intro _; exact Int.le_refl _
      | cons x t ih => intro h; rw [List.map_cons, List.sum_cons]; have := ih fun y hy => h y (List.mem_cons_of_mem _ hy); have := h x List.mem_cons_self; omega
    refine this L fun r hr => ?_
    unfold wS
    by_cases c3 : r.2.1 ∈ fndR L a
    · simp [c3, lc.2 r hr c3]
    · by_cases c2 : r.2.2 ∈ fndR L a <;> simp [c2, c3]
  omega
end K23

set_option Elab.async false
set_option linter.all false
set_option maxRecDepth 100000
set_option maxHeartbeats 4000000
namespace K23
open PySem L2
theorem left_nil (R : List Row) : leftR R [] = R := by
  unfold leftR
  rw [List.filter_eq_self.mpr (by simp), List.filter_eq_nil_iff.mpr (by simp)]
  simp
/-- the way that short_way tells -/
theorem way_told {rs : List T} {a b : Str} {ps : List Str} (F : Full rs a (first rs a)) (hb : b ∈ fnd a (first rs a)) (ha : a ∈ ps) (h : ∀ r ∈ rs, r.2.2.2 ∈ ps) (hz : ps.length ≤ 100) : WayOk rs a (wayF (first rs a) a b) b ∧ (wayF (first rs a) a b).length ≤ 100 := by
  obtain ⟨n, hd⟩ := F.mem b hb
  have hnl := dist_lt ha (fun r hr => by obtain ⟨t, ht, rfl⟩ := List.mem_map.mp hr; exact h t ht) hd
  obtain ⟨w, l⟩ := F.way 200 n b (by omega) hb hd
  rw [wayF_eq]
  exact ⟨w, by omega⟩
/-- what short_way tells of rows, without addresses -/
structure Wt (L : List Row) (a b : Str) : Prop where
  mem : b ∈ fndR L a
  way : RWay L a b (wayR L a b)
  nd : ((wayR L a b).map (·.1)).Nodup
  len : (wayR L a b).length ≤ 100
theorem wt_of {ls : List T} {a b : Str} {ps : List Str} (F : Full ls a (first ls a)) (hb : b ∈ fnd a (first ls a)) (ha : a ∈ ps) (h : ∀ r ∈ ls, r.2.2.2 ∈ ps) (hz : ps.length ≤ 100) (hab : a ≠ b) (hn : ((ls.map (·.2)).map (·.1)).Nodup) : Wt (ls.map (·.2)) a b := by
  obtain ⟨w1, w2⟩ := way_told F hb ha h hz
  refine ⟨by rw [← fnd_bare]; exact hb, ?_, ?_, ?_⟩
  · rw [← way_bare]; exact w1.rway hab
  · rw [← way_bare, List.map_map]
    refine w1.nodup ?_
    rw [List.map_map] at hn
    exact hn
  · rw [← way_bare, List.length_map]; exact w2
theorem nms_of (ls : List T) (a b : Str) : nmsV (wayF (first ls a) a b) = ((wayR (ls.map (·.2)) a b).map (·.1)).map V.str := by
  rw [← way_bare, List.map_map, List.map_map]; rfl
section
variable {P : Program} {w : World} {K : PySem.W.Frag} {mg : Str → Option Value} {base : Heap}
/-! ### taken_most -/
noncomputable abbrev N27 : List Str := ["rows", "a", "b", "taken", "way"]
theorem sc27 : FnScope N27 ["rows", "a", "b"] (defScope (top 27)) := ⟨rfl, rfl, rfl, by decide +kernel, rfl, by decide +kernel, by decide +kernel⟩
noncomputable def spTaken : Sp := fun vs H Q _ => ∃ (ra : Addr) (a b : Str) (ps : List Str) (rs : List T), vs = [.ref ra, .str a, .str b] ∧ H ra = some (.tup (rrefs rs)) ∧ RowsAt H rs ∧ Good ps (rs.map (·.2)) ∧ a ∈ ps ∧ a ≠ b ∧
  ∀ (q : Addr) (ns : List Str) (n : Nat) (H' : Hp), Same H H' → H' q = some (.lst (ns.map V.str)) → ns.length ≤ 60 → TK (rs.map (·.2)) a b n ns → b ∉ fndR (leftR (rs.map (·.2)) ns) a → Cl (leftR (rs.map (·.2)) ns) a → Q (.ref q) H'
theorem ok_taken {f : Addr} {fd : FuncData} (F : Fun K "taken_most" "taken_most" (top 27) f fd) (Fs : Fn P w K mg base 3 "short_way" ["rows", "start", "end"] spShort) (FsL : Fn P w K mg base 3 "short_way" ["rows", "start", "end"] spShortL) (F1 : Fn P w K mg base 1 "in_one_of" ["some", "others"] spOneOf) (F2 : Fn P w K mg base 1 "rows_left" ["rows", "taken"] spLeft) : FnOk P w K mg base CX0 4 f fd ["rows", "a", "b"] spTaken := by
  refine F.ok sc27 (fun vs H Q E h => ?_) (fun cdv A outer s H vs Q E hr h => ?_)
  · obtain ⟨ra, a, b, ps, rs, rfl, _⟩ := h
    rfl
  · obtain ⟨ra, a, b, ps, rs, rfl, hra, hrows, G, ha, hab, k⟩ := h
    have hr1 : Room 1 _ := hr.mono (by decide)
    refine ⟨_, pss_cons (ps_set (i := 3) sc27.nd rfl (Or.inl rfl) (pe_lst pa_nil))
      (pss_cons (ps_set (i := 4) sc27.nd rfl (Or.inl rfl) (pe_fn Fs hr (pa_cons (pv 0) (pa_cons (pv 1) (pa_cons (pv 2) pa_nil)))))
      (pss_cons (ps_while PassesOwn.never (pt_cmpR op_notN (pv 4) pe_non (nomark _))
        (pss_cons (ps_set (i := 3) sc27.nd rfl (Or.inl rfl) (pe_fn F1 hr1 (pa_cons (pv 3) (pa_cons (pv 4) pa_nil))))
        (pss_one (ps_set (i := 4) sc27.nd rfl (Or.inl rfl) (pe_fn FsL hr (pa_cons (pe_fn F2 hr1 (pa_cons (pv 0) (pa_cons (pv 3) pa_nil))) (pa_cons (pv 1) (pa_cons (pv 2) pa_nil))))))))
      (pss_one (ps_ret (pv 3))))), ?_⟩
    have hrz : rs.length ≤ 60 := by have := G.rz; simpa using this
    have hRn : ((rs.map (·.2)).map (·.1)).Nodup := pw_nodup G.rso
    have hends : ∀ r ∈ rs, r.2.2.2 ∈ ps := fun r hr => (G.rn r.2 (List.mem_map_of_mem hr)).2.2.1
    have hboth : ∀ r ∈ rs.map (·.2), r.2.1 ∈ ps ∧ r.2.2 ∈ ps := fun r hr => ⟨(G.rn r hr).2.1, (G.rn r hr).2.2.1⟩
    refine ⟨Nat.zero_le _, fun tk htk => ?_⟩
    have s1 := same_upd (o := .lst []) (Same.refl H) htk
    have t1 : upd H tk (.lst []) tk = some (.lst (([] : List Str).map V.str)) := upd_same
    generalize upd H tk (.lst []) = H1 at s1 t1 ⊢
    -- what stands ahead of each turn
    let Wy : List Str → V → Hp → Prop := fun ns wv H2 => (wv = .non ∧ b ∉ fndR (leftR (rs.map (·.2)) ns) a ∧ Cl (leftR (rs.map (·.2)) ns) a) ∨ ∃ (u : Addr), wv = .ref u ∧ H2 u = some (.tup (((wayR (leftR (rs.map (·.2)) ns) a b).map (·.1)).map V.str)) ∧ Wt (leftR (rs.map (·.2)) ns) a b
    let J : Nat → L2.St → Hp → Prop := fun m σ H2 => ∃ (ns : List Str) (tk : Addr) (wv : V) (n : Nat), σ = [some (.ref ra), some (.str a), some (.str b), some (.ref tk), some wv] ∧ Same H H2 ∧ H2 tk = some (.lst (ns.map V.str)) ∧ ns.Nodup ∧ (∀ x ∈ ns, x ∈ (rs.map (·.2)).map (·.1)) ∧ Wy ns wv H2 ∧ TK (rs.map (·.2)) a b n ns ∧ m = 100 - ((rs.map (·.2)).filter (good a ns)).length
    have start : ∀ (H2 : Hp) (wv : V), Same H1 H2 → Wy [] wv H2 → J _ [some (.ref ra), some (.str a), some (.str b), some (.ref tk), some wv] H2 := fun H2 wv s2 hw => ⟨[], tk, wv, 0, rfl, s1.trans s2, s2 _ _ t1, List.nodup_nil, by simp, hw, .zero, rfl⟩
    have wayY : ∀ (ls : List T) (ns : List Str), ls.map (·.2) = leftR (rs.map (·.2)) ns → Full ls a (first ls a) → b ∈ fnd a (first ls a) → (∀ r ∈ ls, r.2.2.2 ∈ ps) → ∀ (u : Addr) (H2 : Hp), H2 u = some (.tup (nmsV (wayF (first ls a) a b))) → Wy ns (.ref u) H2 := fun ls ns e Fu hb hle u H2 hu => by
      have hw := wt_of Fu hb ha hle G.pz hab (by rw [e]; exact (left_names _ _).nodup_iff.mpr hRn)
      rw [e] at hw
      refine .inr ⟨u, rfl, ?_, hw⟩
      rw [hu, nms_of, e]
    have wayN : ∀ (ls : List T) (ns : List Str), ls.map (·.2) = leftR (rs.map (·.2)) ns → Full ls a (first ls a) → b ∉ fnd a (first ls a) → ∀ (H2 : Hp), Wy ns .non H2 := fun ls ns e Fu hb H2 => by
      refine .inl ⟨rfl, ?_, ?_⟩
      · rw [← e, ← fnd_bare]; exact hb
      · rw [← e]; exact Fu.closed
    have loop : ∀ (wv : V) (H2 : Hp), Same H1 H2 → Wy [] wv H2 → tSeq (tWhile (tTest (tOp (fun x y H Q => y = .non ∧ Q (.bl (!decide (x = .non))) H) (tVar 4) (tC .non))) (tSeq (tAsg (tCall spOneOf [] E0 (tCons (tVar 3) (tCons (tVar 4) tNil))) (gName 3)) (tAsg (tCall spShortL [] E0 (tCons (tCall spLeft [] E0 (tCons (tVar 0) (tCons (tVar 3) tNil))) (tCons (tVar 1) (tCons (tVar 2) tNil)))) (gName 4)))) (tRet (tVar 3)) { nx := fun _ H' => Q .non H', rt := Q } [some (.ref ra), some (.str a), some (.str b), some (.ref tk), some wv] H2 := by
      intro wv H2 s2 hw
      refine ⟨J, ⟨_, start H2 wv s2 hw⟩, ?_⟩
      rintro m σ H3 ⟨ns, tk, wv, n, rfl, s3, t3, nd, sub, hw, tK, rfl⟩
      have nl : ns.length ≤ 60 := by
        have := nodup_le nd sub
        simp at this
        omega
      refine ⟨_, rfl, rfl, _, rfl, ?_⟩
      rcases hw with ⟨rfl, hnb, hcl⟩ | ⟨u, rfl, hu, W⟩
      · exact iteF ⟨_, rfl, k tk ns n H3 s3 t3 nl tK hnb hcl⟩
      · refine iteT ⟨fun σ' H' => ∃ m', m' < 100 - ((rs.map (·.2)).filter (good a ns)).length ∧ J m' σ' H', fun σ' H' q => q, ?_⟩
        have more := flip_more hRn W.way.ew
        have tK' := TK.succ tK W.mem W.way W.nd
        have wl := W.len
        have nd' := one_nodup nd W.nd
        have sub' : ∀ x ∈ oneOf ns ((wayR (leftR (rs.map (·.2)) ns) a b).map (·.1)), x ∈ (rs.map (·.2)).map (·.1) := fun x hx => by
          rcases one_mem.mp hx with z | z
          · exact sub x z.1
          · obtain ⟨e, he, rfl⟩ := List.mem_map.mp z.1
            exact (left_names _ ns).mem_iff.mp (List.mem_map_of_mem (f := fun z : Row => z.1) (W.way.mem e he))
        have wl2 : ((wayR (leftR (rs.map (·.2)) ns) a b).map (·.1)).length ≤ 100 := by rw [List.length_map]; exact wl
        generalize (wayR (leftR (rs.map (·.2)) ns) a b).map (·.1) = ws at hu more tK' nd' sub' wl2
        refine ⟨_, rfl, _, rfl, tk, u, ns, ws, rfl, t3, hu, by omega, wl2, fun q H4 s4 q4 => ?_⟩
        have cb : ((rs.map (·.2)).filter (good a (oneOf ns ws))).length ≤ 60 := Nat.le_trans (List.length_filter_le _ _) (by rw [List.length_map]; exact hrz)
        have s04 := s3.trans s4
        refine ⟨_, rfl, _, rfl, ra, q, _, rs, rfl, s04 _ _ hra, hrows.same s04, hrz, q4, fun lq ls H5 s5 l5 R5 e5 => ?_⟩
        have hlen : ls.length ≤ 60 := by
          have := congrArg List.length e5
          rw [List.length_map, left_len, List.length_map] at this
          omega
        have hle : ∀ r ∈ ls, r.2.2.2 ∈ ps := fun r hr => left_end hboth r.2 (by rw [← e5]; exact List.mem_map_of_mem hr)
        have s05 := s04.trans s5
        refine ⟨_, rfl, _, rfl, lq, a, b, ls, ps, rfl, l5, R5, ha, hle, G.pz, hlen, fun H6 s6 Fu => ⟨fun hb => ?_, fun hb v hv0 hv => ?_⟩⟩
        · exact ⟨_, by omega, _, q, .non, _, rfl, s05.trans s6, s6 _ _ (s5 _ _ q4), nd', sub', wayN ls _ e5 Fu hb H6, tK', rfl⟩
        · exact ⟨_, by omega, _, q, .ref v, _, rfl, s05.trans s6, s6 _ _ (s5 _ _ q4), nd', sub', wayY ls _ e5 Fu hb hle v H6 hv, tK', rfl⟩
    refine ⟨_, rfl, _, rfl, _, rfl, ra, a, b, rs, ps, rfl, s1 _ _ hra, hrows.same s1, ha, hends, G.pz, hrz, fun H2 s2 Fu => ⟨fun hb => ?_, fun hb u hu0 hu => ?_⟩⟩
    · exact loop .non H2 s2 (wayN rs [] (left_nil _).symm Fu hb H2)
    · exact loop (.ref u) H2 s2 (wayY rs [] (left_nil _).symm Fu hb hends u H2 hu)
end
end K23

set_option Elab.async false
set_option linter.all false
set_option maxRecDepth 100000
set_option maxHeartbeats 4000000
namespace K23
open PySem L2
noncomputable abbrev wrefs (tss : List (Addr × List Row)) : List V := tss.map fun t => V.ref t.1
noncomputable def TssAt (H : Hp) (tss : List (Addr × List Row)) : Prop := ∀ t ∈ tss, H t.1 = some (.tup ((t.2.map (·.1)).map V.str))
theorem TssAt.same {H H' : Hp} {tss : List (Addr × List Row)} (h : TssAt H tss) (s : Same H H') : TssAt H' tss := fun t ht => s _ _ (h t ht)
section
variable {P : Program} {w : World} {K : PySem.W.Frag} {mg : Str → Option Value} {base : Heap}
noncomputable abbrev N28 : List Str := ["rows", "a", "b", "told", "left", "way"]
theorem sc28 : FnScope N28 ["rows", "a", "b"] (defScope (top 28)) := ⟨rfl, rfl, rfl, by decide +kernel, rfl, by decide +kernel, by decide +kernel⟩
noncomputable def spApart : Sp := fun vs H Q _ => ∃ (ra : Addr) (a b : Str) (ps : List Str) (rs : List T), vs = [.ref ra, .str a, .str b] ∧ H ra = some (.lst (rrefs rs)) ∧ RowsAt H rs ∧ a ∈ ps ∧ (∀ r ∈ rs, r.2.2.2 ∈ ps) ∧ ps.length ≤ 100 ∧ rs.length ≤ 60 ∧ a ≠ b ∧ ((rs.map (·.2)).map (·.1)).Nodup ∧
  ∀ (q : Addr) (tss : List (Addr × List Row)) (L : List Row) (H' : Hp), Same H H' → H q = none → H' q = some (.lst (wrefs tss)) → TssAt H' tss → tss.length ≤ 60 → AP (rs.map (·.2)) a b (tss.map (·.2)) L → b ∉ fndR L a → Cl L a → Q (.ref q) H'
theorem ok_apart {f : Addr} {fd : FuncData} (F : Fun K "ways_apart" "ways_apart" (top 28) f fd) (FsL : Fn P w K mg base 3 "short_way" ["rows", "start", "end"] spShortL) : FnOk P w K mg base CX0 4 f fd ["rows", "a", "b"] spApart := by
  refine F.ok sc28 (fun vs H Q E h => ?_) (fun cdv A outer s H vs Q E hr h => ?_)
  · obtain ⟨ra, a, b, ps, rs, rfl, _⟩ := h
    rfl
  · obtain ⟨ra, a, b, ps, rs, rfl, hra, hrows, ha, hends, hpz, hrz, hab, hnd, k⟩ := h
    refine' ⟨_, ?d0, ?main⟩
    case' d0 => refine' pss_cons (ps_set (i := 3) sc28.nd rfl (Or.inl rfl) (pe_lst pa_nil)) ?d1
    case' d1 => refine' pss_cons (ps_set (i := 4) sc28.nd rfl (Or.inl rfl) (pv 0)) ?d2
    case' d2 => refine' pss_cons (ps_set (i := 5) sc28.nd rfl (Or.inr rfl) (pe_fn FsL hr (pa_cons (pv 4) (pa_cons (pv 1) (pa_cons (pv 2) pa_nil))))) ?d3
    case' d3 => refine' pss_cons ?lp (pss_one (ps_ret (pv 3)))
    case' lp => refine' ps_while PassesOwn.never (pt_cmpR op_notN (pv 5) pe_non (nomark _)) ?b0
    case' b0 => refine' pss_cons (ps_expr (pe_bm PySem.F.plainAttrs_list PySem.F.slot_list_append PySem.F.type_list_append mt_append (pv 3) (pa_cons (pv 5) pa_nil))) ?b1
    case' b1 => refine' pss_cons ?b2 (pss_one (ps_set (i := 5) sc28.nd rfl (Or.inr rfl) (pe_fn FsL hr (pa_cons (pv 4) (pa_cons (pv 1) (pa_cons (pv 2) pa_nil))))))
    case b2 =>
      refine' ps_setLc (i := 4) (N := ["row", "way"]) (ix := [none, some 5]) sc28.nd rfl (Or.inl rfl) ⟨rfl, rfl, rfl, by decide⟩ rfl ?q1 ?q2 ?q3 ?q4
      case q1 => exact (pi_list (pv 4))
      case q2 => exact (fun _ _ _ _ => pg_lc 0 (by decide) rfl rfl)
      case q3 => exact (fun _ _ _ _ => pts_one (pt_cmpR (notIn_seqK K) (pe_ix (ix_seqK K) (pv 0) pe_int (fun _ _ => rfl)) (pv 1) (by with_unfolding_all rfl)))
      case q4 => exact (fun _ _ _ _ => pv 0)
    case main =>
    refine ⟨Nat.zero_le _, fun to hto => ?_⟩
    have s1 := same_upd (o := .lst []) (Same.refl H) hto
    have t1 : upd H to (.lst []) to = some (.lst []) := upd_same
    generalize upd H to (.lst []) = H1 at s1 t1 ⊢
    let Wy : List T → V → Hp → Prop := fun ls wv H2 => (wv = .non ∧ b ∉ fndR (ls.map (·.2)) a ∧ Cl (ls.map (·.2)) a) ∨ ∃ (u : Addr), wv = .ref u ∧ H2 u = some (.tup (((wayR (ls.map (·.2)) a b).map (·.1)).map V.str)) ∧ Wt (ls.map (·.2)) a b
    have wayY : ∀ (ls : List T), Full ls a (first ls a) → b ∈ fnd a (first ls a) → (∀ r ∈ ls, r.2.2.2 ∈ ps) → ((ls.map (·.2)).map (·.1)).Nodup → ∀ (u : Addr) (H2 : Hp), H2 u = some (.tup (nmsV (wayF (first ls a) a b))) → Wy ls (.ref u) H2 := fun ls Fu hb hle hn u H2 hu =>
      .inr ⟨u, rfl, by rw [hu, nms_of], wt_of Fu hb ha hle hpz hab hn⟩
    have wayN : ∀ (ls : List T), Full ls a (first ls a) → b ∉ fnd a (first ls a) → ∀ H2 : Hp, Wy ls .non H2 := fun ls Fu hb H2 => .inl ⟨rfl, by rw [← fnd_bare]; exact hb, Fu.closed⟩
    let J : Nat → L2.St → Hp → Prop := fun m σ H2 => ∃ (ls : List T) (lf : Addr) (wv : V) (tss : List (Addr × List Row)), σ = [some (.ref ra), some (.str a), some (.str b), some (.ref to), some (.ref lf), some wv] ∧ Same H H2 ∧ H2 to = some (.lst (wrefs tss)) ∧ tss.length + ls.length ≤ 60 ∧ H2 lf = some (.lst (rrefs ls)) ∧ RowsAt H2 ls ∧ (∀ r ∈ ls, r.2.2.2 ∈ ps) ∧ lf ≠ to ∧ Wy ls wv H2 ∧ TssAt H2 tss ∧ AP (rs.map (·.2)) a b (tss.map (·.2)) (ls.map (·.2)) ∧ ((ls.map (·.2)).map (·.1)).Nodup ∧ m = ls.length
    have nrt : ra ≠ to := fun z => by rw [z, hto] at hra; cases hra
    refine ⟨_, rfl, _, rfl, _, rfl, _, rfl, ra, a, b, rs, ps, rfl, s1 _ _ hra, hrows.same s1, ha, hends, hpz, hrz, fun H2 s2 Fu => ⟨fun hb => ?g1, fun hb u hu0 hu => ?g2⟩⟩
    case' g1 => have hW : Wy rs .non H2 := wayN rs Fu hb H2
    case' g2 => have hW : Wy rs (.ref u) H2 := wayY rs Fu hb hends hnd u H2 hu
    all_goals
      refine ⟨J, ⟨_, rs, ra, _, [], rfl, s1.trans s2, s2 _ _ t1, by simpa using hrz, (s1.trans s2) _ _ hra, hrows.same (s1.trans s2), hends, nrt, hW, (fun t ht => by cases ht), .nil, hnd, rfl⟩, ?_⟩
      rintro m σ H3 ⟨ls, lf, wv, tss, rfl, s3, t3, hl3, lf3, R3, he3, nlt3, hw3, ts3, ap3, nd3, rfl⟩
      refine ⟨_, rfl, rfl, _, rfl, ?_⟩
      rcases hw3 with ⟨rfl, hnb, hcl⟩ | ⟨v, rfl, hv, Wv⟩
      · exact iteF ⟨_, rfl, k to tss _ H3 s3 hto t3 ts3 (by omega) ap3 hnb hcl⟩
      · refine iteT ⟨fun σ' H' => ∃ m', m' < ls.length ∧ J m' σ' H', fun σ' H' q => q, ?_⟩
        have ap4 := AP.snoc ap3 Wv.mem Wv.way Wv.nd
        obtain ⟨tt, htt, hin⟩ : ∃ t ∈ ls, t.2.1 ∈ (wayR (ls.map (·.2)) a b).map (·.1) := by
          obtain ⟨e, r, he, _⟩ := Wv.way.ew.hd
          have hm : e ∈ wayR (ls.map (·.2)) a b := by rw [he]; exact List.mem_cons_self
          obtain ⟨t, ht, ht2⟩ := List.mem_map.mp (Wv.way.mem e hm)
          exact ⟨t, ht, by rw [ht2]; exact List.mem_map_of_mem (f := fun z : Row => z.1) hm⟩
        have wl : ((wayR (ls.map (·.2)) a b).map (·.1)).length ≤ 100 := by rw [List.length_map]; exact Wv.len
        generalize wayR (ls.map (·.2)) a b = es at hv ap4 hin wl
        refine ⟨_, rfl, .inl ⟨rfl, _, SqL.of t3⟩, _, rfl, to, _, .ref v, rfl, rfl, t3, fits (by rw [List.length_map]; omega), ?_⟩
        have e4 : wrefs tss ++ [V.ref v] = wrefs (tss ++ [(v, es)]) := by show _ = List.map _ _; rw [List.map_append]; rfl
        rw [e4]
        have s4 : Same H (upd H3 to (.lst (wrefs (tss ++ [(v, es)])))) := Same.upd0 s3 hto
        have t4 : upd H3 to (.lst (wrefs (tss ++ [(v, es)]))) to = some (.lst (wrefs (tss ++ [(v, es)]))) := upd_same
        have lf4 : upd H3 to (.lst (wrefs (tss ++ [(v, es)]))) lf = some (.lst (rrefs ls)) := by rw [upd_ne nlt3]; exact lf3
        have v4 : upd H3 to (.lst (wrefs (tss ++ [(v, es)]))) v = some (.tup ((es.map (·.1)).map V.str)) := by rw [upd_ne (fun z => by rw [z, t3] at hv; cases hv)]; exact hv
        have ts4 : TssAt (upd H3 to (.lst (wrefs (tss ++ [(v, es)])))) (tss ++ [(v, es)]) := fun t ht => by
          rcases List.mem_append.mp ht with z | z
          · rw [upd_ne (fun z' => by have := ts3 t z; rw [z', t3] at this; cases this)]; exact ts3 t z
          · rw [List.mem_singleton.mp z]; exact v4
        have R4 : RowsAt (upd H3 to (.lst (wrefs (tss ++ [(v, es)])))) ls := ⟨fun r hr => by
          have e := R3.e r hr
          show upd H3 to (.lst (wrefs (tss ++ [(v, es)]))) r.1 = _
          rw [upd_ne (fun z => by have e' : H3 r.1 = _ := e; rw [z, t3] at e'; cases e')]
          exact e⟩
        generalize upd H3 to (.lst (wrefs (tss ++ [(v, es)]))) = H4 at s4 t4 lf4 v4 R4 ts4 ⊢
        have ap5 : AP (rs.map (·.2)) a b ((tss ++ [(v, es)]).map (·.2)) ((ls.filter fun r => !decide (r.2.1 ∈ es.map (·.1))).map (·.2)) := by
          rw [List.map_append]
          have : (ls.filter fun r : T => !decide (r.2.1 ∈ es.map (·.1))).map (·.2) = (ls.map (·.2)).filter fun r : Row => !decide (r.1 ∈ es.map (·.1)) := by rw [List.filter_map]; rfl
          rw [this]
          exact ap4
        have nd5 : (((ls.filter fun r => !decide (r.2.1 ∈ es.map (·.1))).map (·.2)).map (·.1)).Nodup := (List.Sublist.map _ (List.Sublist.map _ List.filter_sublist)).nodup nd3
        have ln5 : (tss ++ [(v, es)]).length = tss.length + 1 := by simp
        generalize tss ++ [(v, es)] = tss5 at t4 ts4 ap5 ln5
        generalize es.map (·.1) = ws at v4 ap5 nd5 hin wl
        refine ⟨_, rfl, lf, rfl, ⟨_, SqL.of lf4⟩, lcw_list1 (xs := rrefs ls) (fits (by rw [List.length_map]; omega)) (fun i ys σ H5 => ys = rrefs ((ls.take i).filter fun r => !decide (r.2.1 ∈ ws)) ∧ H5 = H4 ∧ ∃ g, σ = [g, some (.ref v)]) ⟨rfl, rfl, _, rfl⟩
          (fun i ys σ H5 _ q => ⟨by rw [q.1, List.length_map]; exact flen _ _ _, by rw [q.2.1]; exact SqL.of lf4⟩) ?_ ?_⟩
        · rintro i x ys σ H5 hx ⟨rfl, rfl, g, rfl⟩
          obtain ⟨r, hri, rfl⟩ := rowAt_get hx
          have tf := tfs (fun r : T => !decide (r.2.1 ∈ ws)) ls i r hri
          refine ⟨_, rfl, rix_of (j := 0) (.inr (SqT.of (R4.e r (List.mem_of_getElem? hri)))) rfl rfl ⟨_, rfl, v, ws.map V.str, rfl, .inr (SqT.of v4), rfl, flat_strs ws, _, rfl, ?_⟩⟩
          show if (!inV (.str r.2.1) (ws.map V.str)) = true then _ else _
          rw [in_strs]
          refine ite2 (fun c => ⟨_, rfl, ?_, rfl, _, rfl⟩) (fun c => ⟨?_, rfl, _, rfl⟩)
          · rw [tf, c]; simp
          · rw [tf]; simp only [Bool.not_eq_true] at c; rw [c]; simp
        rintro ys σ H5 ⟨rfl, rfl, g, rfl⟩ l2 hl2
        rw [take_all ls (by simp)]
        have s5 := same_upd (o := .lst (rrefs (ls.filter fun r => !decide (r.2.1 ∈ ws)))) (Same.refl H5) hl2
        have l5 : upd H5 l2 (.lst (rrefs (ls.filter fun r => !decide (r.2.1 ∈ ws)))) l2 = some (.lst (rrefs (ls.filter fun r => !decide (r.2.1 ∈ ws)))) := upd_same
        have less : (ls.filter fun r => !decide (r.2.1 ∈ ws)).length < ls.length := by
          have := filter_lt (p := fun r : T => !decide (r.2.1 ∈ ws)) (q := fun _ => true) (l := ls) (fun _ _ _ => rfl) ⟨tt, htt, by simp [hin], rfl⟩
          rw [List.filter_eq_self.mpr (fun _ _ => rfl)] at this
          exact this
        have R5 : RowsAt (upd H5 l2 (.lst (rrefs (ls.filter fun r => !decide (r.2.1 ∈ ws))))) (ls.filter fun r => !decide (r.2.1 ∈ ws)) := ⟨fun r hr => s5 _ _ (R4.e r (List.mem_filter.mp hr).1)⟩
        have he5 : ∀ r ∈ (ls.filter fun r => !decide (r.2.1 ∈ ws)), r.2.2.2 ∈ ps := fun r hr => he3 r (List.mem_filter.mp hr).1
        have n2 : l2 ≠ to := fun z => by rw [z, t4] at hl2; cases hl2
        generalize (ls.filter fun r => !decide (r.2.1 ∈ ws)) = ls2 at s5 l5 less R5 he5 ap5 nd5 ⊢
        generalize upd H5 l2 (.lst (rrefs ls2)) = H6 at s5 l5 R5 ⊢
        refine ⟨_, rfl, _, rfl, _, rfl, l2, a, b, ls2, ps, rfl, l5, R5, ha, he5, hpz, by omega, fun H7 s7 Fu' => ⟨fun hb' => ?_, fun hb' u' hu0' hu' => ?_⟩⟩
        · exact ⟨_, less, ls2, l2, .non, _, rfl, s4.trans (s5.trans s7), s7 _ _ (s5 _ _ t4), by omega, s7 _ _ l5, R5.same s7, he5, n2, wayN ls2 Fu' hb' H7, ts4.same (s5.trans s7), ap5, nd5, rfl⟩
        · exact ⟨_, less, ls2, l2, .ref u', _, rfl, s4.trans (s5.trans s7), s7 _ _ (s5 _ _ t4), by omega, s7 _ _ l5, R5.same s7, he5, n2, wayY ls2 Fu' hb' he5 nd5 u' H7 hu', ts4.same (s5.trans s7), ap5, nd5, rfl⟩
/-! ### need_two_places, ways -/
theorem sc15 : FnScope ["web", "a", "b"] ["web", "a", "b"] (defScope (top 15)) := ⟨rfl, rfl, rfl, by decide +kernel, rfl, by decide +kernel, by decide +kernel⟩
noncomputable def spTwo : Sp := fun vs H Q _ => ∃ (v pa ra : Addr) (ps : List Str) (rs : List T) (a b : Str), vs = [.ref v, .str a, .str b] ∧ WebAt H v pa ra ps rs ∧ a ∈ ps ∧ b ∈ ps ∧ a ≠ b ∧ Q .non H
theorem ok_two {f : Addr} {fd : FuncData} (F : Fun K "need_two_places" "need_two_places" (top 15) f fd) (F1 : Fn P w K mg base 2 "need_place" ["web", "thing"] spNeedPlace) : FnOk P w K mg base CX0 3 f fd ["web", "a", "b"] spTwo := by
  refine F.ok sc15 (fun vs H Q E h => ?_) (fun cdv A outer s H vs Q E hr h => ?_)
  · obtain ⟨v, pa, ra, ps, rs, a, b, rfl, _⟩ := h
    rfl
  · obtain ⟨v, pa, ra, ps, rs, a, b, rfl, W, ha, hb, hab, k⟩ := h
    refine ⟨_, pss_cons (ps_expr (pe_fn F1 hr (pa_cons (pv 0) (pa_cons (pv 1) pa_nil)))) (pss_cons (ps_expr (pe_fn F1 hr (pa_cons (pv 0) (pa_cons (pv 2) pa_nil))))
      (pss_one (ps_if (pt_cmpR op_eq (pv 1) (pv 2) (nomark _)) pss_never pss_nil))), ?_⟩
    refine ⟨_, rfl, _, rfl, v, pa, ra, ps, rs, a, rfl, W, ha, _, rfl, _, rfl, v, pa, ra, ps, rs, b, rfl, W, hb, _, rfl, _, rfl, rfl, _, rfl, ?_⟩
    rw [decide_eq_false (show ¬ V.str a = V.str b from fun z => hab (V.str.inj z))]
    exact iteF k
noncomputable abbrev N29 : List Str := ["web", "a", "b", "taken", "lot"]
theorem sc29 : FnScope N29 ["web", "a", "b"] (defScope (top 29)) := ⟨rfl, rfl, rfl, by decide +kernel, rfl, by decide +kernel, by decide +kernel⟩
noncomputable def WaysD (ps : List Str) (R : List Row) (a b : Str) (told : List (List Row)) (lot : List Str) : Prop := ∃ (n : Nat) (ns : List Str) (L : List Row), TK R a b n ns ∧ b ∉ fndR (leftR R ns) a ∧ Cl (leftR R ns) a ∧ lot = ps.filter (fun p => !decide (p ∈ fndR (leftR R ns) a)) ∧ AP (R.filter fun r => decide (r.1 ∈ ns)) a b told L ∧ b ∉ fndR L a ∧ Cl L a
theorem WaysD.uniq {ps : List Str} {R : List Row} {a b : Str} {t t' : List (List Row)} {l l' : List Str} (h : WaysD ps R a b t l) (g : WaysD ps R a b t' l') : t = t' ∧ l = l' := by
  obtain ⟨n, ns, L, h1, h2, h3, h4, h5, h6, h7⟩ := h
  obtain ⟨m, ms, M, g1, g2, g3, g4, g5, g6, g7⟩ := g
  have e := h1.last g1 h2 g2
  subst e
  exact ⟨h5.last g5 h6 g6, by rw [h4, g4]⟩
noncomputable def spWays : Sp := fun vs H Q _ => ∃ (v pa ra : Addr) (ps : List Str) (rs : List T) (a b : Str), vs = [.ref v, .str a, .str b] ∧ WebAt H v pa ra ps rs ∧ Good ps (rs.map (·.2)) ∧ a ∈ ps ∧ b ∈ ps ∧ a ≠ b ∧
  ∀ (u q l : Addr) (tss : List (Addr × List Row)) (lot : List Str) (H' : Hp), Same H H' → H' u = some (.tup [.ref q, .ref l]) → H q = none → H' q = some (.lst (wrefs tss)) → TssAt H' tss → tss.length ≤ 60 → H' l = some (.tup (lot.map V.str)) → WaysD ps (rs.map (·.2)) a b (tss.map (·.2)) lot → Q (.ref u) H'
theorem ok_ways {f : Addr} {fd : FuncData} (F : Fun K "ways" "ways" (top 29) f fd) (F1 : Fn P w K mg base 4 "need_web" ["thing"] (spWeb .non)) (F2 : Fn P w K mg base 3 "need_two_places" ["web", "a", "b"] spTwo) (F3 : Fn P w K mg base 4 "taken_most" ["rows", "a", "b"] spTaken) (F4 : Fn P w K mg base 1 "places_beyond" ["web", "found"] spBeyond) (F5 : Fn P w K mg base 2 "come_to" ["rows", "start"] spComeL)
    (F6 : Fn P w K mg base 1 "rows_left" ["rows", "taken"] spLeft) (F7 : Fn P w K mg base 4 "ways_apart" ["rows", "a", "b"] spApart) (F8 : Fn P w K mg base 1 "rows_of" ["web", "names"] spRowsOf) : FnOk P w K mg base CX0 5 f fd ["web", "a", "b"] spWays := by
  refine F.ok sc29 (fun vs H Q E h => ?_) (fun cdv A outer s H vs Q E hr h => ?_)
  · obtain ⟨v, pa, ra, ps, rs, a, b, rfl, _⟩ := h
    rfl
  · obtain ⟨v, pa, ra, ps, rs, a, b, rfl, W, G, ha, hb, hab, k⟩ := h
    have hr3 : Room 3 _ := hr.mono (by decide)
    have hr2 : Room 2 _ := hr.mono (by decide)
    have hr1 : Room 1 _ := hr.mono (by decide)
    refine ⟨_, pss_cons (ps_expr (pe_fn F1 hr (pa_cons (pv 0) pa_nil))) (pss_cons (ps_expr (pe_fn F2 hr3 (pa_cons (pv 0) (pa_cons (pv 1) (pa_cons (pv 2) pa_nil)))))
      (pss_cons (ps_set (i := 3) sc29.nd rfl (Or.inl rfl) (pe_fn F3 hr (pa_cons (pe_ix ix_seq (pv 0) pe_int (fun _ _ => rfl)) (pa_cons (pv 1) (pa_cons (pv 2) pa_nil)))))
      (pss_cons (ps_set (i := 4) sc29.nd rfl (Or.inl rfl) (pe_fn F4 hr1 (pa_cons (pv 0) (pa_cons (pe_fn F5 hr2 (pa_cons (pe_fn F6 hr1 (pa_cons (pe_ix ix_seq (pv 0) pe_int (fun _ _ => rfl)) (pa_cons (pv 3) pa_nil))) (pa_cons (pv 1) pa_nil))) pa_nil))))
      (pss_one (ps_ret (pe_tup (pa_cons (pe_fn F7 hr (pa_cons (pe_fn F8 hr1 (pa_cons (pv 0) (pa_cons (pv 3) pa_nil))) (pa_cons (pv 1) (pa_cons (pv 2) pa_nil)))) (pa_cons (pv 4) pa_nil)))))))), ?_⟩
    have hrz : rs.length ≤ 60 := by have := G.rz; simpa using this
    have hRn : ((rs.map (·.2)).map (·.1)).Nodup := pw_nodup G.rso
    have hends : ∀ r ∈ rs, r.2.2.2 ∈ ps := fun r hr => (G.rn r.2 (List.mem_map_of_mem hr)).2.2.1
    have hboth : ∀ r ∈ rs.map (·.2), r.2.1 ∈ ps ∧ r.2.2 ∈ ps := fun r hr => ⟨(G.rn r hr).2.1, (G.rn r hr).2.2.1⟩
    refine ⟨_, rfl, v, pa, ra, ps, rs, rfl, W, G, fun H1 s1 => ⟨_, rfl, _, rfl, _, rfl, v, pa, ra, ps, rs, a, b, rfl, W.same s1, ha, hb, hab, ?_⟩⟩
    have W1 := W.same s1
    refine ⟨_, rfl, rix_of (j := 1) (.inr (SqT.of W1.tp)) rfl rfl ⟨_, rfl, _, rfl, ra, a, b, ps, rs, rfl, W1.rl, ⟨W1.rows⟩, G, ha, hab, fun tk ns n H2 s2 t2 nl tK hnb hcl => ?_⟩⟩
    have W2 := W1.same s2
    refine ⟨_, rfl, _, rfl, rix_of (j := 1) (.inr (SqT.of W2.tp)) rfl rfl ⟨_, rfl, ra, tk, ns, rs, rfl, W2.rl, ⟨W2.rows⟩, hrz, t2, fun lq ls H3 s3 l3 R3 e3 => ?_⟩⟩
    have hlen : ls.length ≤ 60 := by
      have := congrArg List.length e3
      rw [List.length_map, left_len, List.length_map] at this
      omega
    have hle : ∀ r ∈ ls, r.2.2.2 ∈ ps := fun r hr => left_end hboth r.2 (by rw [← e3]; exact List.mem_map_of_mem hr)
    refine ⟨_, rfl, lq, a, ls, ps, rfl, l3, R3, ha, hle, G.pz, hlen, fun cq H4 s4 _ c4 _ => ?_⟩
    rw [fnd_bare, e3] at c4
    have W4 := W2.same (s3.trans s4)
    refine ⟨v, pa, ra, cq, ps, rs, _, rfl, W4, G.pz, c4, fun bu H5 s5 _ b5 => ?_⟩
    have t25 := s3.trans (s4.trans s5)
    have W5 := W4.same s5
    refine ⟨_, rfl, _, rfl, v, pa, ra, tk, ps, ns, rs, rfl, W5, hrz, t25 _ _ t2, fun oq H6 s6 o6 => ?_⟩
    have ef : (rs.filter fun r : T => decide (r.2.1 ∈ ns)).map (·.2) = (rs.map (·.2)).filter fun r : Row => decide (r.1 ∈ ns) := by rw [List.filter_map]; rfl
    refine ⟨_, rfl, _, rfl, oq, a, b, ps, _, rfl, o6, ⟨fun r hr => (W5.same s6).rows r (List.mem_filter.mp hr).1⟩, ha, fun r hr => hends r (List.mem_filter.mp hr).1, G.pz, Nat.le_trans (List.length_filter_le _ _) hrz, hab, (List.Sublist.map _ (List.Sublist.map _ List.filter_sublist)).nodup hRn, fun wq tss L H7 s7 wq0 w7 ts7 l60 ap lnb lcl => ?_⟩
    refine ⟨_, rfl, by show 2 ≤ sizeLine; decide, fun tq htq => ?_⟩
    have s8 := same_upd (o := .tup [.ref wq, .ref bu]) (Same.refl H7) htq
    have s06 := s1.trans (s2.trans (t25.trans s6))
    rw [ef] at ap
    exact k tq wq bu tss _ _ (s06.trans (s7.trans s8)) upd_same (s06.free wq0) (s8 _ _ w7) (ts7.same s8) l60 (s8 _ _ (s7 _ _ (s6 _ _ b5))) ⟨n, ns, L, tK, hnb, hcl, rfl, ap, lnb, lcl⟩
end
end K23

set_option Elab.async false
set_option linter.all false
set_option maxRecDepth 100000
set_option maxHeartbeats 4000000
namespace K23
open PySem L2
theorem join_le (B : Nat) : ∀ ts : List Str, (∀ t ∈ ts, t.length ≤ B) → (Str.join ", " ts).length ≤ ts.length * (B + 2)
  | [], _ => by show (0 : Nat) ≤ _; exact Nat.zero_le _
  | [x], h => by
    have := h x List.mem_cons_self
    show x.length ≤ 1 * (B + 2)
    omega
  | x :: y :: r, h => by
    have ih := join_le B (y :: r) fun t ht => h t (List.mem_cons_of_mem _ ht)
    have hx := h x List.mem_cons_self
    show (x ++ (", " : Str) ++ Str.join ", " (y :: r)).length ≤ _
    have e2 : ((", " : Str)).length = 2 := by decide
    rw [Str.length_append, Str.length_append, e2]
    simp only [List.length_cons] at ih ⊢
    rw [Nat.add_mul (r.length + 1) 1 (B + 2)]
    omega
theorem tupleText_le {B : Nat} {ts : List Str} (h : ∀ t ∈ ts, t.length ≤ B) : (tupleText ts).length ≤ 3 + ts.length * (B + 2) := by
  have := join_le B ts h
  unfold tupleText
  rw [Str.length_append, Str.length_append]
  have e1 : (("(" : Str)).length = 1 := by decide
  rw [e1]
  by_cases c : (ts.length == 1) = true
  · rw [if_pos c]
    have e3 : ((",)" : String) : Str).length = 2 := by decide
    rw [e3]; omega
  · rw [if_neg c]
    have e3 : ((")" : String) : Str).length = 1 := by decide
    rw [e3]; omega
theorem repr_le {x : Str} (h : NameP x) : (reprText x).length ≤ 82 := by
  have := StrLaws.reprText_len x fun c hc => by have := h.az c hc; omega
  have h8 := h.hi
  omega
theorem shownAll_mem : ∀ {ds : List PyData} {t : Str}, t ∈ PyData.shownAll ds → ∃ d ∈ ds, t = d.shown
  | [], t, h => by simp [PyData.shownAll] at h
  | d :: ds, t, h => by
    rw [PyData.shownAll] at h
    rcases List.mem_cons.mp h with e | h
    · exact ⟨d, List.mem_cons_self, e⟩
    · obtain ⟨d', h1, h2⟩ := shownAll_mem h
      exact ⟨d', List.mem_cons_of_mem _ h1, h2⟩
theorem shownAll_len : ∀ ds : List PyData, (PyData.shownAll ds).length = ds.length
  | [] => rfl
  | d :: ds => by rw [PyData.shownAll, List.length_cons, List.length_cons, shownAll_len ds]
theorem shown_tuple {B : Nat} {ds : List PyData} (h : ∀ d ∈ ds, d.shown.length ≤ B) : (PyData.tuple ds).shown.length ≤ 3 + ds.length * (B + 2) := by
  rw [PyData.shown, ← shownAll_len ds]
  refine tupleText_le fun t ht => ?_
  obtain ⟨d, hd, rfl⟩ := shownAll_mem ht
  exact h d hd
theorem shown_strs {ss : List Str} (h : ∀ x ∈ ss, NameP x) : (PyData.tuple (ss.map PyData.str)).shown.length ≤ 3 + ss.length * 84 := by
  have := shown_tuple (B := 82) (ds := ss.map PyData.str) fun d hd => by
    obtain ⟨x, hx, rfl⟩ := List.mem_map.mp hd
    rw [PyData.shown]
    exact repr_le (h x hx)
  simpa using this
theorem show_strs : ∀ ss : List Str, PyData.showableAll (ss.map PyData.str) = true
  | [] => rfl
  | x :: t => by rw [List.map_cons, PyData.showableAll, show_strs t]; rfl
theorem textFrom_le (B : Nat) : ∀ (ts : List Str) (k : Nat) (acc : Str), (∀ t ∈ ts, t.length ≤ B) → (textFrom k acc ts).length ≤ acc.length + ts.length * (B + 2)
  | [], k, acc, _ => by simp [textFrom]
  | t :: r, k, acc, h => by
    have ht := h t List.mem_cons_self
    have e2 : ((", " : Str)).length = 2 := by decide
    have e0 : (("" : Str)).length = 0 := by decide
    unfold textFrom
    have ih := fun acc' => textFrom_le B r (k + 1) acc' fun x hx => h x (List.mem_cons_of_mem _ hx)
    simp only [List.length_cons]
    rw [Nat.add_mul]
    first
      | (refine Nat.le_trans (ih _) ?_; split <;> simp only [Str.length_append, e2, e0] <;> omega)
      | (split <;> refine Nat.le_trans (ih _) ?_ <;> simp only [Str.length_append, e2, e0] <;> omega)
theorem shown_list {B : Nat} {ds : List PyData} (h : ∀ d ∈ ds, d.shown.length ≤ B) : (PyData.list ds).shown.length ≤ 2 + ds.length * (B + 2) := by
  have q := textFrom_le B (PyData.shownAll ds) 0 "[" fun t ht => by
    obtain ⟨d, hd, rfl⟩ := shownAll_mem ht
    exact h d hd
  rw [shownAll_len] at q
  have e1 : (("[" : Str)).length = 1 := by decide
  have e2 : (("]" : Str)).length = 1 := by decide
  rw [PyData.shown]
  unfold listText
  rw [Str.length_append, e2]
  rw [e1] at q
  omega
section
open PySem.Spec PyProof.Rows
end
end K23

set_option Elab.async false
set_option linter.all false
set_option maxRecDepth 100000
set_option maxHeartbeats 4000000
namespace K23
open PySem L2
theorem nlt_irr {x : Str} : ¬ nlt x x := List.lt_irrefl _
theorem nlt_asy {x y : Str} (h : nlt x y) (h' : nlt y x) : False := List.lt_irrefl _ (List.lt_trans h h')
/-- two rising lists that hold the same are the same -/
theorem pw_ext : ∀ {a b : List Str}, a.Pairwise nlt → b.Pairwise nlt → (∀ x, x ∈ a ↔ x ∈ b) → a = b := by
  intro a
  induction a with
  | nil =>
    intro b _ _ h
    cases b with
    | nil => rfl
    | cons y s => exact absurd ((h y).mpr List.mem_cons_self) (by simp)
  | cons x r ih =>
    intro b ha hb h
    obtain ⟨ha1, ha2⟩ := List.pairwise_cons.mp ha
    cases b with
    | nil => exact absurd ((h x).mp List.mem_cons_self) (by simp)
    | cons y s =>
      obtain ⟨hb1, hb2⟩ := List.pairwise_cons.mp hb
      have e : x = y := by
        rcases List.mem_cons.mp ((h x).mp List.mem_cons_self) with e | e
        · exact e
        · rcases List.mem_cons.mp ((h y).mpr List.mem_cons_self) with e' | e'
          · exact e'.symm
          · exact (nlt_asy (hb1 x e) (ha1 y e')).elim
      subst e
      rw [ih ha2 hb2 fun z => ⟨fun hz => ?_, fun hz => ?_⟩]
      · rcases List.mem_cons.mp ((h z).mp (List.mem_cons_of_mem _ hz)) with e | e
        · subst e; exact (nlt_irr (ha1 _ hz)).elim
        · exact e
      · rcases List.mem_cons.mp ((h z).mpr (List.mem_cons_of_mem _ hz)) with e | e
        · subst e; exact (nlt_irr (hb1 _ hz)).elim
        · exact e
theorem nodup_rev {α : Type} {l : List α} (h : l.Nodup) : l.reverse.Nodup := (List.reverse_perm l).nodup_iff.mpr h
theorem call_setTuW (w : World) {X : Cx} (hc : X.calm = true) (h : X.w = w := by rfl) : CallR X (.type "set") (fun xs H Q => ∃ (p : Addr) (ss : List Str), xs = [.ref p] ∧ SqT X.K H p (ss.map V.str) ∧ ss.length < 3000 ∧
    ∀ (a : Addr), H a = none → Q (.ref a) (upd H a (SetT w a (metS ss.reverse)))) := by subst h; exact call_setTu hc
theorem call_setLiW (w : World) {X : Cx} (hc : X.calm = true) (h : X.w = w := by rfl) : CallR X (.type "set") (fun xs H Q => ∃ (p : Addr) (ss : List Str), xs = [.ref p] ∧ SqL X.K H p (ss.map V.str) ∧ ss.length < 3000 ∧
    ∀ (a : Addr), H a = none → Q (.ref a) (upd H a (SetT w a (metS ss.reverse)))) := by subst h; exact call_setLi hc
theorem call_lenSW (w : World) {X : Cx} (h : X.w = w := by rfl) : CallR X (.builtin "len") (fun xs H Q => ∃ (a : Addr) (ss : List Str), xs = [.ref a] ∧ H a = some (SetT w a ss) ∧ Q (.int ss.length) H) := by subst h; exact call_lenS
theorem call_sortedSetW (w : World) {X : Cx} (hc : X.calm = true) (h : X.w = w := by rfl) : CallR X (.builtin "sorted") (fun xs H Q => ∃ (a : Addr) (ss : List Str), xs = [.ref a] ∧ H a = some (SetT w a ss) ∧ ss.length < 64 ∧
    ∀ (ss' : List Str) (q : Addr), ss'.Perm ss → PyProof.Rows.sortedS ss' = true → H q = none → Q (.ref q) (upd H q (.lst (ss'.map V.str)))) := by subst h; exact call_sortedSet hc
section
variable {P : Program} {w : World} {K : PySem.W.Frag} {mg : Str → Option Value} {base : Heap}
end
end K23

set_option Elab.async false
set_option linter.all false
set_option maxRecDepth 100000
set_option maxHeartbeats 4000000
namespace K23
open PySem L2
theorem lt1' {k : Nat} {A : Around} (r : Room k A) : A.units + 1 < cLine := by have := r.un; omega
theorem b_dict : bootBuiltins "dict" = some (.type "dict") := by decide +kernel
theorem b_set : bootBuiltins "set" = some (.type "set") := by decide +kernel
theorem val_mem {κ : Type} [DecidableEq κ] : ∀ {kvs : List (κ × V)} {k : κ} {v : V}, (kvs.map (·.1)).Nodup → (k, v) ∈ kvs → valV kvs k = some v
  | p :: r, k, v, hn, h => by
    have hn' := List.nodup_cons.mp hn
    rcases List.mem_cons.mp h with e | h
    · rw [← e]; exact valV_pos rfl
    · rw [valV_neg (fun e => hn'.1 (by show p.1 ∈ r.map (·.1); rw [e]; exact List.mem_map_of_mem (f := (·.1)) h))]
      exact val_mem hn'.2 h
theorem rix_last {K : PySem.W.Frag} {H : Hp} {p : Addr} {xs pre : List V} {v : V} {Q : VK} (h : SqL K H p xs) (e : xs = pre ++ [v]) (q : Q v H) : rIx K (.ref p) (.int (-1)) H Q :=
  .inl ⟨p, xs, -1, v, rfl, rfl, h, by rw [e]; exact atI_last _ _, q⟩
/-- what each tie leads from and to -/
noncomputable def Leads (H : Hp) (d : Addr) (R : List Row) : Prop := ∃ kvs : List (Key × V), H d = some (.dK kvs) ∧ ∀ r ∈ R, ∃ n, valV kvs (Sum.inr r.1 : Key) = some (.ref n) ∧ H n = some (.tup [.str r.2.1, .str r.2.2])
theorem Leads.same {H H' : Hp} {d : Addr} {R : List Row} (h : Leads H d R) (s : Same H H') : Leads H' d R := by
  obtain ⟨kvs, h1, h2⟩ := h
  exact ⟨kvs, s _ _ h1, fun r hr => by obtain ⟨n, a, b⟩ := h2 r hr; exact ⟨n, a, s _ _ b⟩⟩
noncomputable abbrev endsR (a : Str) (es : List Row) : List Str := a :: es.map (·.2.2)
theorem Ch.split {a b : Str} {es : List Row} (h : Ch a es b) : ∀ i, i ≤ es.length → ∃ pre c, endsR a (es.take i) = pre ++ [c] ∧ Ch c (es.drop i) b
  | 0, _ => ⟨[], a, rfl, by rw [List.drop_zero]; exact h⟩
  | i + 1, hi => by
    obtain ⟨pre, c, e, q⟩ := h.split i (by omega)
    have hi' : i < es.length := by omega
    rw [List.drop_eq_getElem_cons hi'] at q
    cases q with
    | cons q =>
      refine ⟨pre ++ [es[i].2.1], _, ?_, q⟩
      have e2 : es.take (i + 1) = es.take i ++ [es[i]] := by rw [List.take_add_one, List.getElem?_eq_getElem hi']; rfl
      show a :: (es.take (i + 1)).map (·.2.2) = _
      rw [e2, List.map_append, ← List.cons_append]
      exact congrArg (· ++ [es[i].2.2]) e
theorem RWay.at {R : List Row} {a b : Str} {es : List Row} (W : RWay R a b es) {i : Nat} {r : Row} (h : es[i]? = some r) : r ∈ R ∧ (∃ pre, endsR a (es.take i) = pre ++ [r.2.1]) ∧ r.2.2 ∉ endsR a (es.take i) := by
  have hi : i < es.length := (List.getElem?_eq_some_iff.mp h).1
  have er : es[i] = r := (List.getElem?_eq_some_iff.mp h).2
  refine ⟨W.mem r (List.mem_of_getElem? h), ?_, fun hm => ?_⟩
  · obtain ⟨pre, c, e, q⟩ := W.ch.split i (by omega)
    rw [List.drop_eq_getElem_cons hi, er] at q
    cases q with
    | cons q => exact ⟨pre, e⟩
  · have e1 : es = es.take i ++ r :: es.drop (i + 1) := by rw [← er, ← List.drop_eq_getElem_cons hi, List.take_append_drop]
    have nd := W.nd
    rw [e1, List.map_append, ← List.cons_append] at nd
    exact (List.nodup_append.mp nd).2.2 _ hm _ (by rw [List.map_cons]; exact List.mem_cons_self) rfl
section
variable {P : Program} {w : World} {K : PySem.W.Frag} {mg : Str → Option Value} {base : Heap}
noncomputable def spIsWay : Sp := fun vs H Q _ => ∃ (u d : Addr) (R : List Row) (a b : Str) (es : List Row), vs = [.ref u, .ref d, .str a, .str b] ∧ H u = some (.tup ((es.map (·.1)).map V.str)) ∧ Leads H d R ∧ RWay R a b es ∧ es.length ≤ 100 ∧ ∀ H', Same H H' → Q (.bl true) H'
noncomputable abbrev N37 : List Str := ["_law_told", "_law_leads", "_law_a", "_law_b", "_law_places", "_law_tie"]
theorem sc37 : FnScope N37 ["_law_told", "_law_leads", "_law_a", "_law_b"] (defScope (top 37)) := ⟨rfl, rfl, rfl, by decide +kernel, rfl, by decide +kernel, by decide +kernel⟩
theorem ok_is_way {f : Addr} {fd : FuncData} (F : Fun K "_law_is_way" "_law_is_way" (top 37) f fd) (B : Bl mg) : FnOk P w K mg base CX0 1 f fd ["_law_told", "_law_leads", "_law_a", "_law_b"] spIsWay := by
  refine F.ok sc37 (fun vs H Q E h => ?_) (fun cdv A outer s H vs Q E hr h => ?_)
  · obtain ⟨u, d, R, a, b, es, rfl, _⟩ := h
    rfl
  · obtain ⟨u, d, R, a, b, es, rfl, hu, Ld, W, hz, k⟩ := h
    refine ⟨_, pss_cons (ps_if (pt_not (pt_val (pe_callB (call_isinst (T := "tuple")) rfl B.isinstance b_isinstance (pa_cons (pv 0) (pa_cons (pe_bltn (v := .ty "tuple") rfl B.tuple b_tuple rfl) pa_nil))))) pss_never pss_nil)
      (pss_cons (ps_set (i := 4) sc37.nd rfl (Or.inl rfl) (pe_lst (pa_cons (pv 2) pa_nil)))
      (pss_cons (ps_for PassesOwn.never rfl (pi_tup (pv 0)) (pg_name (i := 5) sc37.nd rfl (Or.inl rfl))
        (pss_cons (ps_if (PW.pt (pw_or (pt_not (pt_val (pe_callB (call_isinst (T := "str")) rfl B.isinstance b_isinstance (pa_cons (pv 5) (pa_cons (pe_bltn (v := .ty "str") rfl B.str b_str rfl) pa_nil)))))
          (pw_or (pt_cmp (pc_dnotin (lt1' hr) (pv 5) (pv 1)) (by with_unfolding_all rfl))
          (pw_or (pt_cmpR op_ne (pe_ix ix_seq (pe_dget (lt1' hr) (pv 1) (pv 5) (fun _ _ => rfl)) pe_int (fun _ _ => rfl)) (pe_ix ix_seq (pv 4) (pe_un un_neg pe_int) (fun _ _ => rfl)) (nomark _))
          (pw_or1 (pt_cmpR op_in_seq (pe_ix ix_seq (pe_dget (lt1' hr) (pv 1) (pv 5) (fun _ _ => rfl)) pe_int (fun _ _ => rfl)) (pv 4) (by with_unfolding_all rfl))))))) pss_never pss_nil)
        (pss_one (ps_expr (pe_bm PySem.F.plainAttrs_list PySem.F.slot_list_append PySem.F.type_list_append mt_append (pv 4) (pa_cons (pe_ix ix_seq (pe_dget (lt1' hr) (pv 1) (pv 5) (fun _ _ => rfl)) pe_int (fun _ _ => rfl)) pa_nil))))))
      (pss_one (ps_ret (pe_cmpR op_eq (pe_ix ix_seq (pv 4) (pe_un un_neg pe_int) (fun _ _ => rfl)) (pv 3) (nomark _)))))), ?_⟩
    refine ⟨_, rfl, _, _, true, rfl, .tup hu, rfl, true, rfl, iteF ?_⟩
    obtain ⟨kvs, hd, hval⟩ := Ld
    refine ⟨_, rfl, by show 1 ≤ sizeLine; decide, fun pl hpl => ?_⟩
    have s5 := same_upd (o := .lst [.str a]) (Same.refl H) hpl
    have p5 : upd H pl (.lst [.str a]) pl = some (.lst ((endsR a (es.take 0)).map V.str)) := upd_same
    generalize upd H pl (.lst [.str a]) = H5 at s5 p5 ⊢
    refine ⟨_, rfl, u, rfl, ⟨_, SqT.of (s5 _ _ hu)⟩, for_tup (K := K) (a := u) (xs := (es.map (·.1)).map V.str) (fun i σ H6 => ∃ g, σ = [some (.ref u), some (.ref d), some (.str a), some (.str b), some (.ref pl), g] ∧ Same H H6 ∧ H6 pl = some (.lst ((endsR a (es.take i)).map V.str)))
      ⟨_, rfl, s5, p5⟩ (fun i σ H6 _ p => by obtain ⟨_, _, s6, _⟩ := p; exact SqT.of (s6 _ _ hu)) ?_ ?_⟩
    · rintro i y σ H6 hy ⟨g, rfl, s6, p6⟩
      rw [List.map_map, List.getElem?_map] at hy
      cases hc : es[i]? with
      | none => rw [hc] at hy; cases hy
      | some t =>
        rw [hc] at hy
        cases hy
        have hil : i < es.length := (List.getElem?_eq_some_iff.mp hc).1
        obtain ⟨ht, ⟨pre, hpre⟩, hfresh⟩ := W.at hc
        obtain ⟨n, hv, hn3⟩ := hval t ht
        have hn6 := s6 _ _ hn3
        have d6 := s6 _ _ hd
        have hpre' : (endsR a (es.take i)).map V.str = pre.map V.str ++ [V.str t.2.1] := by rw [hpre, List.map_append]; rfl
        refine ⟨_, rfl, _, _, true, rfl, .str _, rfl, true, rfl, iteF ⟨_, rfl, _, rfl, d, _, rfl, DGet.k (k := Sum.inr t.1) d6, _, rfl, ?_⟩⟩
        rw [hv]
        have g1 : DGet H6 d (.str t.1) (some (.ref n)) := by rw [← hv]; exact DGet.k (k := Sum.inr t.1) d6
        refine iteF ⟨_, rfl, _, rfl, d, _, rfl, g1, rix_of (j := 0) (.inr (SqT.of hn6)) rfl rfl ⟨_, rfl, _, rfl, rix_last (SqL.of p6) hpre' ⟨rfl, _, rfl, ?_⟩⟩⟩
        rw [decide_eq_true (show V.str t.2.1 = V.str t.2.1 from rfl)]
        refine iteF ⟨_, rfl, _, rfl, d, _, rfl, g1, rix_of (j := 1) (.inr (SqT.of hn6)) rfl rfl ⟨_, rfl, pl, _, rfl, .inl (SqL.of p6), rfl, flat_strs _, _, rfl, ?_⟩⟩
        rw [in_strs]
        show if decide (t.2.2 ∈ endsR a (es.take i)) = true then _ else _
        refine iteDN hfresh ?_
        refine ⟨_, rfl, .inl ⟨rfl, _, SqL.of p6⟩, _, rfl, _, rfl, d, _, rfl, g1, rix_of (j := 1) (.inr (SqT.of hn6)) rfl rfl ⟨pl, _, _, rfl, rfl, p6, fits (by simp; omega), _, rfl, Same.upd0 s6 hpl, ?_⟩⟩
        rw [upd_same, List.take_add_one, hc]
        simp
    · rintro σ H6 ⟨g, rfl, s6, p6⟩
      rw [take_all es (by simp)] at p6
      obtain ⟨pre, c, e, q⟩ := W.ch.split es.length (Nat.le_refl _)
      rw [List.take_length] at e
      rw [List.drop_length] at q
      cases q
      have hpre' : (endsR a es).map V.str = pre.map V.str ++ [V.str b] := by rw [e, List.map_append]; rfl
      refine ⟨_, rfl, _, rfl, rix_last (SqL.of p6) hpre' ⟨_, rfl, rfl, ?_⟩⟩
      rw [decide_eq_true (show V.str b = V.str b from rfl)]
      exact k _ s6
/-! ### the lot -/
noncomputable def spIsLot : Sp := fun vs H Q _ => ∃ (l v pa ra : Addr) (ps lot : List Str) (rs : List T) (a b : Str), vs = [.ref l, .ref v, .str a, .str b] ∧ H l = some (.tup (lot.map V.str)) ∧ WebAt H v pa ra ps rs ∧ Good ps (rs.map (·.2)) ∧ lot.Pairwise nlt ∧ (∀ x ∈ lot, x ∈ ps) ∧ lot.length ≤ 60 ∧ a ∉ lot ∧ b ∈ lot ∧ ∀ H', Same H H' → Q (.bl true) H'
noncomputable abbrev N38 : List Str := ["_law_lot", "_law_web_here", "_law_a", "_law_b"]
theorem sc38 : FnScope N38 ["_law_lot", "_law_web_here", "_law_a", "_law_b"] (defScope (top 38)) := ⟨rfl, rfl, rfl, by decide +kernel, rfl, by decide +kernel, by decide +kernel⟩
theorem ok_is_lot {f : Addr} {fd : FuncData} (F : Fun K "_law_is_lot" "_law_is_lot" (top 38) f fd) (B : Bl mg) : FnOk P w K mg base CX0 1 f fd ["_law_lot", "_law_web_here", "_law_a", "_law_b"] spIsLot := by
  refine F.ok sc38 (fun vs H Q E h => ?_) (fun cdv A outer s H vs Q E hr h => ?_)
  · obtain ⟨l, v, pa, ra, ps, lot, rs, a, b, rfl, _⟩ := h
    rfl
  · obtain ⟨l, v, pa, ra, ps, lot, rs, a, b, rfl, hl, W, G, hso, hin, hz, ha, hb, k⟩ := h
    refine ⟨_, pss_cons (ps_if (PW.pt (pw_or (pt_not (pt_val (pe_callB (call_isinst (T := "tuple")) rfl B.isinstance b_isinstance (pa_cons (pv 0) (pa_cons (pe_bltn (v := .ty "tuple") rfl B.tuple b_tuple rfl) pa_nil)))))
        (pw_or (pt_cmpR op_in_seq (pv 2) (pv 0) (by with_unfolding_all rfl)) (pw_or1 (pt_cmpR op_notIn_seq (pv 3) (pv 0) (by with_unfolding_all rfl)))))) pss_never pss_nil)
      (pss_one (ps_ret (pe_and (pe_cmpR (op_eqD hr) (pe_callTy call_list_of rfl B.list b_list (pa_cons (pv 0) pa_nil)) (pe_callB (call_sortedSetW w rfl) rfl B.sorted b_sorted (pa_cons (pe_callTy (call_setTuW w rfl) rfl B.set b_set (pa_cons (pv 0) pa_nil)) pa_nil)) (nomark _))
        (pe_one (pe_callB (call_allB rfl) rfl B.all b_all (pa_cons (pe_lc (N := ["_law_place", "_law_web_here"]) (ix := [none, some 1]) ⟨rfl, rfl, rfl, by decide⟩ rfl (pi_tup (pv 0)) (fun _ _ _ _ => pg_lc 0 (by decide) rfl rfl) (fun _ _ _ _ => pts_nil)
          (fun _ _ _ _ => pe_cmpR (in_seqK K) (pv 0) (pe_ix (ix_seqK K) (pv 1) pe_int (fun _ _ => rfl)) (by with_unfolding_all rfl))) pa_nil)))))), ?_⟩
    have snd := pw_nodup hso
    have nmo : ∀ x ∈ lot, NameP x := fun x hx => G.nm x (hin x hx)
    refine ⟨_, rfl, _, _, true, rfl, .tup hl, rfl, true, rfl, iteF ⟨_, rfl, _, rfl, l, _, rfl, .inr (SqT.of hl), rfl, flat_strs lot, _, rfl, ?_⟩⟩
    show if inV (.str a) (lot.map V.str) = true then _ else _
    rw [in_strs]
    refine iteDN ha ⟨_, rfl, _, rfl, l, _, rfl, .inr (SqT.of hl), rfl, flat_strs lot, _, rfl, ?_⟩
    show if (!inV (.str b) (lot.map V.str)) = true then _ else _
    rw [in_strs, decide_eq_true hb]
    refine iteF ?_
    refine ⟨_, rfl, l, _, rfl, .inr (SqT.of hl), fun l5a hl5 => ?_⟩
    have s5 := same_upd (o := .lst (lot.map V.str)) (Same.refl H) hl5
    have l5 : upd H l5a (.lst (lot.map V.str)) l5a = some (.lst (lot.map V.str)) := upd_same
    generalize upd H l5a (.lst (lot.map V.str)) = H5 at s5 l5 ⊢
    refine ⟨_, rfl, l, lot, rfl, SqT.of (s5 _ _ hl), by omega, fun st hst => ?_⟩
    have hme : metS lot.reverse = lot.reverse := metS_self (nodup_rev snd)
    rw [hme]
    have s6 := same_upd (o := SetT w st lot.reverse) s5 hst
    have l6 : upd H5 st (SetT w st lot.reverse) l5a = some (.lst (lot.map V.str)) := by rw [upd_ne (ne_of_none l5 hst)]; exact l5
    refine ⟨st, lot.reverse, rfl, upd_same, by rw [List.length_reverse]; omega, fun so' q7 hpm7 hso7 hq7 => ?_⟩
    have eso : so' = lot := pw_ext (sorted_pw hso7 (hpm7.nodup_iff.mpr (nodup_rev snd))) hso fun x => by rw [hpm7.mem_iff, List.mem_reverse]
    subst eso
    have s7 := same_upd (o := .lst (so'.map V.str)) s6 hq7
    have l7 : upd (upd H5 st (SetT w st so'.reverse)) q7 (.lst (so'.map V.str)) l5a = some (.lst (so'.map V.str)) := by rw [upd_ne (ne_of_none l6 hq7)]; exact l6
    have q7' : upd (upd H5 st (SetT w st so'.reverse)) q7 (.lst (so'.map V.str)) q7 = some (.lst (so'.map V.str)) := upd_same
    generalize upd (upd H5 st (SetT w st so'.reverse)) q7 (.lst (so'.map V.str)) = H7 at s7 l7 q7' ⊢
    refine ⟨.list (so'.map PyData.str), .list (so'.map PyData.str), .lst l7 (DVs.strs so'), .lst q7' (DVs.strs so'), (shaped_strs nmo).1, (shaped_strs nmo).1, _, rfl, ?_⟩
    have ev : PyData.eqv (.list (so'.map PyData.str)) (.list (so'.map PyData.str)) = true := (eqvAll_strs so' so').trans (by simp)
    rw [ev]
    refine iteT ?_
    have W7 := W.same s7
    refine ⟨_, rfl, l, rfl, ⟨_, SqT.of (s7 _ _ hl)⟩, lcw_tup0 (xs := so'.map V.str) (fits (by rw [List.length_map]; omega)) (fun i ys σ H8 => ys = (List.replicate i true).map V.bl ∧ H8 = H7 ∧ ∃ g, σ = [g, some (.ref v)]) ⟨rfl, rfl, _, rfl⟩
      (fun i ys σ H8 _ q => ⟨by rw [q.1]; simp, by rw [q.2.1]; exact SqT.of (s7 _ _ hl)⟩) ?_ ?_⟩
    · rintro i x ys σ H8 hx ⟨rfl, rfl, g, rfl⟩
      rw [List.getElem?_map] at hx
      cases hc : so'[i]? with
      | none => rw [hc] at hx; cases hx
      | some z =>
        rw [hc] at hx
        cases hx
        refine ⟨_, rfl, _, rfl, rix_of (j := 0) (.inr (SqT.of W7.tp)) rfl rfl ⟨pa, _, rfl, .inr (SqT.of W7.pl), rfl, flat_strs ps, ?_⟩⟩
        show (_ = _) ∧ _
        refine ⟨?_, rfl, _, rfl⟩
        rw [List.replicate_succ', List.map_append]
        show _ ++ [V.bl (inV (.str z) (ps.map V.str))] = _ ++ [V.bl true]
        rw [in_strs, decide_eq_true (hin z (List.mem_of_getElem? hc))]
    rintro ys σ H8 ⟨rfl, rfl, g, rfl⟩ al hal
    have s8 := same_upd (o := .lst ((List.replicate (so'.map V.str).length true).map V.bl)) s7 hal
    refine ⟨al, List.replicate (so'.map V.str).length true, rfl, SqL.of upd_same, ?_⟩
    have eall : ∀ n : Nat, (List.replicate n true).all id = true := by simp
    rw [eall]
    exact k _ s8
end
end K23

set_option Elab.async false
set_option linter.all false
set_option maxRecDepth 100000
set_option maxHeartbeats 4000000
namespace K23
open PySem L2 PySem.Spec PyProof.Rows
section
open PySem.AutoSeq1
theorem extend_tupD (l : Addr) (items : Array Value) (n : Nat) (b : Addr) (more : Array Value) (m : Nat) (dd : Option Addr) (sl : Array (Option Value)) (long : ¬(!items.isEmpty && Builtin.List.listTooLong (items.size + more.size)) = true) (hs1 : items.size ≤ sizeLine) (hs2 : items.size + more.size ≤ sizeLine + 1) :
    Meets (Builtin.«list.extend» ⟨[.ref l, .ref b], []⟩) (fun _ R s => s.heap.get? l = some { cls := .type "list", dict := none, data := .seq items n, slots := #[] } ∧ s.heap.get? b = some { cls := .type "tuple", dict := dd, data := .seq more m, slots := sl } ∧ R (.ok (.ret Value.none)) { s with heap := s.heap.update l (Obj.mapSeq fun x => x ++ more), toks := s.toks }) := by
  refine .of_wp fun prog w A R s h => ?_
  rcases s with ⟨hp, g, d, tk, os⟩
  rcases h with ⟨hl, hb, h⟩
  have a1 := idx_int
  have a2 := AutoSeq1.sub_tuple_tuple
  have a3 := AutoSeq1.sub_list_list
  have a4 := AutoSeq1.sub_tuple_list
  have a5 := AutoSeq1.sub_list_tuple
  have both : (items ++ more).size ≤ sizeLine + 1 := by rw [Array.size_append]; exact hs2
  wp_walk using (wpAny_updateSeq hl rfl (hz := hs1) (_hz' := both)), wpAny_loadPart' hl, wpAny_loadPart' hb
  exact ⟨_, rfl, h⟩
end
noncomputable def rExtendT : V → List V → Hp → VK → Prop := fun x vs H Q => ∃ l b xs zs, x = .ref l ∧ vs = [.ref b] ∧ H l = some (.lst xs) ∧ H b = some (.tup zs) ∧ xs.length + zs.length ≤ sizeLine ∧ Q .non (upd H l (.lst (xs ++ zs)))
theorem mt_extendT {X : Cx} : MtM X "list.extend" rExtendT := by
  intro pins s σ H x vs v us Q I rx rv h
  obtain ⟨l, b, xs, zs, rfl, rfl, hH, hB, hz, q⟩ := h
  cases rx
  obtain ⟨u, rfl, ru⟩ := rv.one
  cases ru
  obtain ⟨z, its, n, r, hl, e⟩ := I.lstM hH
  obtain ⟨its2, r2, ⟨⟨cls, dd, data, sl⟩, ho, hc, n2, hd⟩, z2⟩ := I.tuple (SqT.of (K := X.K) hB)
  simp only at hc hd
  subst hc hd
  have hl2 := r2.length
  have hsz : its.toArray.size + its2.toArray.size ≤ sizeLine := by rw [List.size_toArray, List.size_toArray]; omega
  have hlong : ¬ (!its.toArray.isEmpty && Builtin.List.listTooLong (its.toArray.size + its2.toArray.size)) = true := by
    rw [notLongL hsz, Bool.and_false]
    exact Bool.false_ne_true
  refine call_meets F.slot_list_extend ⟨_, e, rfl⟩ F.entry_list_extend (F.args_list_extend_2 _ _)
    (extend_tupD l its.toArray n b its2.toArray n2 dd sl hlong (by rw [List.size_toArray]; omega) (by omega)) ⟨e, ho, ?_⟩
  refine ⟨.non, _, I.lset (its' := its ++ its2) hH e (by simp) (r.append r2) ?_, rfl, q⟩
  rw [List.length_append]
  omega
end K23

set_option Elab.async false
set_option linter.all false
set_option maxRecDepth 100000
set_option maxHeartbeats 4000000
namespace K23
open PySem L2
/-! ### what is told, as data -/
theorem lcw_tupY {K : PySem.W.Frag} {g : TG} {te : TE} {σ' : St} {fin : List V → Hp → Prop} {H1 : Hp} {a : Addr} {xs : List V} (hn : xs.length < sizeLine) (Pv : Nat → List V → St → Hp → Prop) (h0 : Pv 0 [] σ' H1) (hl : ∀ i ys σ H, i ≤ xs.length → Pv i ys σ H → ys.length ≤ i ∧ SqT K H a xs)
    (hs : ∀ i x ys σ H, xs[i]? = some x → Pv i ys σ H → g x σ H fun σ2 H2 => te σ2 H2 (fun v H4 => Pv (i + 1) (ys ++ [v]) σ2 H4))
    (hd : ∀ ys σ H, Pv xs.length ys σ H → fin ys H) : LcW (Itt K a) g tYes te σ' fin H1 :=
  lcw_tup hn Pv h0 hl (fun i x ys σ H e p => by simpa [tYes] using hs i x ys σ H e p) hd
noncomputable abbrev wayT (l : List Str) : PyData := .tuple (l.map PyData.str)
noncomputable abbrev foundD (L : List (List Str)) (lot : List Str) : PyData := .tuple [.list (L.map wayT), .tuple (lot.map PyData.str)]
theorem tss_dv {H : Hp} : ∀ {tss : List (Addr × List Row)}, TssAt H tss → DVs H (wrefs tss) ((tss.map fun t => t.2.map (·.1)).map wayT)
  | [], _ => .nil
  | t :: r, h => .cons (.tup (h t List.mem_cons_self) (DVs.strs _)) (tss_dv fun x hx => h x (List.mem_cons_of_mem _ hx))
theorem show_found (L : List (List Str)) (lot : List Str) : (foundD L lot).showable = true ∧ (foundD L lot).hasDict = false ∧ (foundD L lot).depth ≤ 40 := by
  have h1 : ∀ L : List (List Str), PyData.showableAll (L.map wayT) = true := fun L => by
    induction L with
    | nil => rfl
    | cons x t ih => rw [List.map_cons, PyData.showableAll, ih, wayT, PyData.showable, show_strs]; rfl
  have h0 : ∀ ss : List Str, PyData.hasDictAll (ss.map PyData.str) = false := fun ss => by
    induction ss with
    | nil => rfl
    | cons x t ih => rw [List.map_cons, PyData.hasDictAll, ih]; rfl
  have h2 : ∀ L : List (List Str), PyData.hasDictAll (L.map wayT) = false := fun L => by
    induction L with
    | nil => rfl
    | cons x t ih => rw [List.map_cons, PyData.hasDictAll, ih, wayT, PyData.hasDict, h0]; rfl
  have h3 : ∀ ss : List Str, PyData.depthAll (ss.map PyData.str) = 0 := fun ss => by
    induction ss with
    | nil => rfl
    | cons x t ih => rw [List.map_cons, PyData.depthAll, ih]; rfl
  have h4 : ∀ L : List (List Str), PyData.depthAll (L.map wayT) ≤ 1 := fun L => by
    induction L with
    | nil => exact Nat.zero_le _
    | cons x t ih =>
      rw [List.map_cons, PyData.depthAll, wayT, PyData.depth, h3]
      omega
  refine ⟨?_, ?_, ?_⟩
  · simp only [foundD, PyData.showable, PyData.showableAll, h1, show_strs]; rfl
  · simp only [foundD, PyData.hasDict, PyData.hasDictAll, h2, h0]; rfl
  · have := h4 L
    simp only [foundD, PyData.depth, PyData.depthAll, h3]
    omega
theorem found_len {L : List (List Str)} {lot : List Str} (h : ∀ l ∈ L, (∀ x ∈ l, NameP x) ∧ l.length ≤ 8) (hz : L.length ≤ 60) (hl : ∀ x ∈ lot, NameP x) (hlz : lot.length ≤ 8) : (foundD L lot).shown.length ≤ sizeLine := by
  have a := shown_list (B := 700) (ds := L.map wayT) fun d hd => by
    obtain ⟨l, hl, rfl⟩ := List.mem_map.mp hd
    have := shown_strs (h l hl).1
    have := (h l hl).2
    show (PyData.tuple (l.map PyData.str)).shown.length ≤ 700
    omega
  rw [List.length_map] at a
  have b := shown_strs hl
  have c := shown_tuple (B := 60000) (ds := [.list (L.map wayT), .tuple (lot.map PyData.str)]) fun d hd => by
    simp only [List.mem_cons, List.not_mem_nil, or_false] at hd
    rcases hd with rfl | rfl
    · omega
    · omega
  rw [sizeLine_eq]
  simp only [List.length_cons, List.length_nil] at c
  show (PyData.tuple [.list (L.map wayT), .tuple (lot.map PyData.str)]).shown.length ≤ _
  omega
/-- all that the law asks -/
structure Facts (ps : List Str) (R : List Row) (a b : Str) (told : List (List Row)) (lot : List Str) : Prop where
  ways : Told R a b told
  so : lot.Pairwise nlt
  sub : ∀ x ∈ lot, x ∈ ps
  na : a ∉ lot
  hb : b ∈ lot
  many : told.length = (R.filter fun r => decide (r.2.2 ∈ lot) && !decide (r.2.1 ∈ lot)).length
  len : ∀ w ∈ told, w.length ≤ 8
  all : ((told.map fun w => w.map (·.1)).flatten).length ≤ R.length
theorem WaysD.facts {ps : List Str} {R : List Row} {a b : Str} {told : List (List Row)} {lot : List Str} (h : WaysD ps R a b told lot) (hn : (R.map (·.1)).Nodup) (hso : ps.Pairwise nlt) (hR : ∀ r ∈ R, r.2.1 ∈ ps ∧ r.2.2 ∈ ps) (hb : b ∈ ps) (ha : a ∈ ps) (h8 : ps.length ≤ 8) : Facts ps R a b told lot := by
  obtain ⟨n, ns, L, tK, hnb, hcl, rfl, ap, lnb, lcl⟩ := h
  obtain ⟨t1, t2, t3⟩ := ap.told
  have sub : ∀ r ∈ R.filter (fun r => decide (r.1 ∈ ns)), r ∈ R := fun r hr => (List.mem_filter.mp hr).1
  have T : Told R a b told := ⟨fun w hw => (t1.way w hw).imp sub, t1.nd⟩
  refine ⟨T, hso.sublist List.filter_sublist, fun x hx => (List.mem_filter.mp hx).1, fun hx => ?_, List.mem_filter.mpr ⟨hb, by rw [decide_eq_false hnb]; rfl⟩, ?_, fun w hw => ?_, ?_⟩
  · have := (List.mem_filter.mp hx).2
    rw [decide_eq_true hcl.1] at this
    cases this
  · rw [as_many hn tK hnb hcl ap lnb lcl]
    congr 1
    refine List.filter_congr fun r hr => ?_
    obtain ⟨p1, p2⟩ := hR r hr
    by_cases c1 : r.2.1 ∈ fndR (leftR R ns) a <;> by_cases c2 : r.2.2 ∈ fndR (leftR R ns) a <;> simp [List.mem_filter, c1, c2, p1, p2]
  · have Wy := T.way w hw
    have := nodup_le Wy.nd (m := ps) fun x hx => by
      rcases List.mem_cons.mp hx with rfl | hx
      · exact ha
      · obtain ⟨r, hr, rfl⟩ := List.mem_map.mp hx
        exact (hR r (Wy.mem r hr)).2
    simp at this
    omega
  · have := nodup_le T.nd (m := R.map (·.1)) fun x hx => by
      obtain ⟨l, hl, hx⟩ := List.mem_flatten.mp hx
      obtain ⟨w, hw, rfl⟩ := List.mem_map.mp hl
      obtain ⟨r, hr, rfl⟩ := List.mem_map.mp hx
      exact List.mem_map_of_mem (f := fun z : Row => z.1) ((T.way w hw).mem r hr)
    rwa [List.length_map] at this
end K23

set_option Elab.async false
set_option linter.all false
set_option maxRecDepth 100000
set_option maxHeartbeats 4000000
namespace K23
open PySem L2
section
variable {P : Program} {w : World} {K : PySem.W.Frag} {mg : Str → Option Value} {base : Heap}
noncomputable def spRight : Sp := fun vs H Q _ => ∃ (v pa ra : Addr) (ps : List Str) (rs : List T) (a b : Str), vs = [.ref v, .str a, .str b] ∧ WebAt H v pa ra ps rs ∧ Good ps (rs.map (·.2)) ∧ ps.length ≤ 8 ∧ a ∈ ps ∧ b ∈ ps ∧ a ≠ b ∧ ∀ H', Same H H' → Q (.bl true) H'
noncomputable abbrev N39 : List Str := ["_law_web_here", "_law_a", "_law_b", "_law_found", "_law_kept", "_law_told", "_law_lot", "_law_leads", "_law_seen", "_law_way", "_law_many"]
theorem sc39 : FnScope N39 ["_law_web_here", "_law_a", "_law_b"] (defScope (top 39)) := ⟨rfl, rfl, rfl, by decide +kernel, rfl, by decide +kernel, by decide +kernel⟩
theorem ok_right {f : Addr} {fd : FuncData} (F : Fun K "_law_right" "_law_right" (top 39) f fd) (B : Bl mg) (Fw : Fn P w K mg base 5 "ways" ["web", "a", "b"] spWays) (F2 : Fn P w K mg base 1 "_law_is_way" ["_law_told", "_law_leads", "_law_a", "_law_b"] spIsWay) (F3 : Fn P w K mg base 1 "_law_is_lot" ["_law_lot", "_law_web_here", "_law_a", "_law_b"] spIsLot) : FnOk P w K mg base CX0 6 f fd ["_law_web_here", "_law_a", "_law_b"] spRight := by
  refine F.ok sc39 (fun vs H Q E h => ?_) (fun cdv A outer s H vs Q E hr h => ?_)
  · obtain ⟨v, pa, ra, ps, rs, a, b, rfl, _⟩ := h
    rfl
  · obtain ⟨v, pa, ra, ps, rs, a, b, rfl, W, G, h8, ha, hb, hab, k⟩ := h
    have hr1 : Room 1 _ := hr.mono (by decide)
    refine' ⟨_, ?d0, ?main⟩
    case' d0 => refine' pss_cons (ps_set (i := 3) sc39.nd rfl (Or.inl rfl) (pe_fn Fw hr (pa_cons (pv 0) (pa_cons (pv 1) (pa_cons (pv 2) pa_nil))))) ?d1
    case' d1 => refine' pss_cons (ps_if (PW.pt (pw_or (pt_not (pt_val (pe_callB (call_isinst (T := "tuple")) rfl B.isinstance b_isinstance (pa_cons (pv 3) (pa_cons (pe_bltn (v := .ty "tuple") rfl B.tuple b_tuple rfl) pa_nil))))) (pw_or (pt_cmpR op_ne (pe_callB call_len_seq rfl B.len PySem.boot_len (pa_cons (pv 3) pa_nil)) pe_int (nomark _)) (pw_or1 (pt_not (pt_val (pe_callB (call_isinst (T := "list")) rfl B.isinstance b_isinstance (pa_cons (pe_ix ix_seq (pv 3) pe_int (fun _ _ => rfl)) (pa_cons (pe_bltn (v := .ty "list") rfl B.list b_list rfl) pa_nil))))))))) pss_never pss_nil) ?d2
    case' d2 => refine' pss_cons (ps_set (i := 4) sc39.nd rfl (Or.inl rfl) (pe_callB (call_reprD hr) rfl B.repr b_repr (pa_cons (pv 3) pa_nil))) ?d3
    case' d3 => refine' pss_cons (ps_asg (pv 3) (pg_tup rfl (n := 2) (pgs_cons (pg_name (i := 5) sc39.nd rfl (Or.inl rfl)) (pgs_cons (pg_name (i := 6) sc39.nd rfl (Or.inr rfl)) pgs_nil)))) ?d4
    case' d4 => refine' pss_cons ?s5 ?d5
    case s5 =>
      refine' ps_set (i := 7) ?nd5 ?x5 ?y5 ?z5 ?hs5 ?hf5
      case nd5 => exact sc39.nd
      case x5 => exact rfl
      case y5 => exact Or.inr rfl
      case hf5 => first | exact .inl rfl | exact .inr rfl
      case' z5 => refine' pe_callTy (call_dictP rfl) rfl B.dict b_dict ?w5
      case' w5 => refine' pa_cons ?lc5 ?n5 ?e5
      case n5 => exact pa_nil
      case e5 => rfl
      case hs5 => first | rfl | kernel_rfl
      case lc5 => exact pe_lc (N := ["_law_tie", "_law_begin", "_law_end"]) (ix := [none, none, none]) ⟨rfl, rfl, rfl, by decide⟩ rfl (pi_tup (pe_ix ix_seq (pv 0) pe_int (fun _ _ => rfl))) (fun _ _ _ _ => pg_tupK K rfl (n := 3) (pgs_cons (pg_lc 0 (by decide) rfl rfl) (pgs_cons (pg_lc 1 (by decide) rfl rfl) (pgs_cons (pg_lc 2 (by decide) rfl rfl) pgs_nil)))) (fun _ _ _ _ => pts_nil) (fun _ _ _ _ => pe_tup (pa_cons (pv 0) (pa_cons (pe_tup (pa_cons (pv 1) (pa_cons (pv 2) pa_nil))) pa_nil)))
    case' d5 => refine' pss_cons ?s6 ?d6
    case s6 =>
      refine' ps_if ?t6 pss_never pss_nil
      case' t6 => refine' PW.pt (pw_or (pt_not (pt_val ?u6)) (pw_or1 (pt_not (pt_val ?v6))))
      case v6 => exact pe_fn F3 hr1 (pa_cons (pv 6) (pa_cons (pv 0) (pa_cons (pv 1) (pa_cons (pv 2) pa_nil))))
      case' u6 => refine' pe_callB (call_allB rfl) rfl B.all b_all ?w6
      case' w6 => refine' pa_cons ?lc6 ?n6 ?e6
      case n6 => exact pa_nil
      case e6 => rfl
      case lc6 => exact pe_lc (N := ["_law_way", "_law_leads", "_law_a", "_law_b"]) (ix := [none, some 7, some 1, some 2]) ⟨rfl, rfl, rfl, by decide⟩ rfl (pi_list (pv 5)) (fun _ _ _ _ => pg_lc 0 (by decide) rfl rfl) (fun _ _ _ _ => pts_nil) (fun _ _ _ _ => pe_fn F2 hr1 (pa_cons (pv 0) (pa_cons (pv 1) (pa_cons (pv 2) (pa_cons (pv 3) pa_nil)))))
    case' d6 => refine' pss_cons (ps_set (i := 8) sc39.nd rfl (Or.inl rfl) (pe_lst pa_nil)) ?d7
    case' d7 => refine' pss_cons (ps_for PassesOwn.never rfl (pi_list (pv 5)) (pg_name (i := 9) sc39.nd rfl (Or.inl rfl)) (pss_one (ps_expr (pe_bm PySem.F.plainAttrs_list PySem.F.slot_list_extend PySem.F.type_list_extend mt_extendT (pv 8) (pa_cons (pv 9) pa_nil))))) ?d8
    case' d8 => refine' pss_cons (ps_if (pt_cmpR op_ne (pe_callB (call_lenSW w) rfl B.len PySem.boot_len (pa_cons (pe_callTy (call_setLiW w rfl) rfl B.set b_set (pa_cons (pv 8) pa_nil)) pa_nil)) (pe_callB call_len_seq rfl B.len PySem.boot_len (pa_cons (pv 8) pa_nil)) (nomark _)) pss_never pss_nil) ?d9
    case' d9 => refine' pss_cons (ps_set (i := 10) sc39.nd rfl (Or.inl rfl) (pe_callB call_len_seq rfl B.len PySem.boot_len (pa_cons (pv 5) pa_nil))) ?d10
    case' d10 => refine' pss_cons (ps_expr (pe_bm PySem.F.plainAttrs_list PySem.F.slot_list_append PySem.F.type_list_append mt_append (pv 5) (pa_cons (pe_tup pa_nil) pa_nil))) ?d11
    case' d11 => refine' pss_cons ?s12 ?d12
    case s12 =>
      refine' ps_if ?t12 pss_never pss_nil
      case' t12 => refine' pt_cmpR op_ne (pv 10) ?u12 (nomark _)
      case' u12 => refine' pe_callB call_len_seq rfl B.len PySem.boot_len ?w12
      case' w12 => refine' pa_cons ?lc12 ?n12 ?e12
      case n12 => exact pa_nil
      case e12 => rfl
      case lc12 => exact pe_lc (N := ["_law_tie", "_law_begin", "_law_end", "_law_lot"]) (ix := [none, none, none, some 6]) ⟨rfl, rfl, rfl, by decide⟩ rfl (pi_tup (pe_ix ix_seq (pv 0) pe_int (fun _ _ => rfl))) (fun _ _ _ _ => pg_tupK K rfl (n := 3) (pgs_cons (pg_lc 0 (by decide) rfl rfl) (pgs_cons (pg_lc 1 (by decide) rfl rfl) (pgs_cons (pg_lc 2 (by decide) rfl rfl) pgs_nil)))) (fun _ _ _ _ => pts_one (PW.pt (pw_and (pt_cmpR (in_seqK K) (pv 2) (pv 3) (by with_unfolding_all rfl)) (pw_and1 (pt_cmpR (notIn_seqK K) (pv 1) (pv 3) (by with_unfolding_all rfl)))))) (fun _ _ _ _ => pv 0)
    case d12 => exact pss_one (ps_ret (pe_cmpR op_eq (pe_callB (call_reprD hr) rfl B.repr b_repr (pa_cons (pe_fn Fw hr (pa_cons (pv 0) (pa_cons (pv 1) (pa_cons (pv 2) pa_nil)))) pa_nil)) (pv 4) (nomark _)))
    case main =>
    have hrz : rs.length ≤ 60 := by have := G.rz; simpa using this
    have hRn : ((rs.map (·.2)).map (·.1)).Nodup := pw_nodup G.rso
    have hboth : ∀ r ∈ rs.map (·.2), r.2.1 ∈ ps ∧ r.2.2 ∈ ps := fun r hr => ⟨(G.rn r hr).2.1, (G.rn r hr).2.2.1⟩
    refine ⟨_, rfl, _, rfl, _, rfl, v, pa, ra, ps, rs, a, b, rfl, W, G, ha, hb, hab, fun u q l tss lot H1 s1 u1 q0 q1 ts1 l60 l1 hD => ?_⟩
    have Fc := hD.facts hRn G.so hboth hb ha h8
    have hlz : lot.length ≤ 8 := Nat.le_trans (nodup_le (pw_nodup Fc.so) Fc.sub) h8
    have hNm : ∀ x ∈ (tss.map fun t => t.2.map (·.1)), (∀ y ∈ x, NameP y) ∧ x.length ≤ 8 := fun x hx => by
      obtain ⟨t, ht, rfl⟩ := List.mem_map.mp hx
      have hw := List.mem_map_of_mem (f := fun t : Addr × List Row => t.2) ht
      refine ⟨fun y hy => ?_, by rw [List.length_map]; exact Fc.len _ hw⟩
      obtain ⟨r, hr, rfl⟩ := List.mem_map.mp hy
      exact (G.rn r ((Fc.ways.way _ hw).mem r hr)).1
    have hNl : ∀ x ∈ lot, NameP x := fun x hx => G.nm x (Fc.sub x hx)
    obtain ⟨f1, f2, f3⟩ := show_found (tss.map fun t => t.2.map (·.1)) lot
    have f4 := found_len hNm (by rw [List.length_map]; exact l60) hNl hlz
    have W1 := W.same s1
    refine ⟨_, rfl, _, _, true, rfl, .tup u1, rfl, true, rfl, iteF ⟨_, rfl, u, [.ref q, .ref l], rfl, .inr (SqT.of u1), rfl, _, rfl, ?_⟩⟩
    rw [decide_eq_true (show V.int (([V.ref q, V.ref l].length : Nat) : Int) = V.int 2 from rfl)]
    refine iteF ⟨_, rfl, rix_of (j := 0) (.inr (SqT.of u1)) rfl rfl ⟨_, _, true, rfl, .lst q1, rfl, true, rfl, iteF ?_⟩⟩
    have dv1 : DV H1 (.ref u) (foundD (tss.map fun t => t.2.map (·.1)) lot) := .tup u1 (.cons (.lst q1 (tss_dv ts1)) (.cons (.tup l1 (DVs.strs _)) .nil))
    obtain ⟨D, hD0⟩ : ∃ D, D = foundD (tss.map fun t => t.2.map (·.1)) lot := ⟨_, rfl⟩
    rw [← hD0] at dv1 f1 f2 f3 f4
    refine ⟨_, rfl, u, D, rfl, dv1, f1, f2, f3, f4, ?_⟩
    refine ⟨_, rfl, u, _, rfl, SqT.of u1, rfl, _, _, rfl, _, _, rfl, rfl, ?_⟩
    -- the dict of what each tie leads from and to
    refine ⟨_, rfl, rix_of (j := 1) (.inr (SqT.of W1.tp)) rfl rfl ⟨ra, rfl, ⟨_, SqT.of W1.rl⟩, lcw_tupY (K := K) (xs := rrefs rs) (fits (by simp; omega)) (fun i ys σ H2 => (∃ zs : List (T × Addr × Addr), ys = zs.map (fun z => V.ref z.2.1) ∧ zs.map (·.1) = rs.take i ∧ ∀ z ∈ zs, H2 z.2.1 = some (.tup [.str z.1.2.1, .ref z.2.2]) ∧ H2 z.2.2 = some (.tup [.str z.1.2.2.1, .str z.1.2.2.2])) ∧ Same H1 H2 ∧ ∃ x1 x2 x3, σ = [x1, x2, x3])
      ⟨⟨[], rfl, rfl, by simp⟩, Same.refl _, _, _, _, rfl⟩ (fun i ys σ H2 hi q => ?_) ?_ ?_⟩⟩
    · obtain ⟨⟨zs, rfl, e, _⟩, s2, _⟩ := q
      have := congrArg List.length e
      rw [List.length_map, List.length_take] at this
      exact ⟨by simp; omega, SqT.of (s2 _ _ W1.rl)⟩
    · rintro i y ys σ H2 hy ⟨⟨zs, rfl, e, hz⟩, s2, x1, x2, x3, rfl⟩
      obtain ⟨r, hri, rfl⟩ := rowAt_get hy
      have hrr := s2 _ _ (W1.rows r (List.mem_of_getElem? hri))
      refine ⟨r.1, _, rfl, SqT.of hrr, rfl, _, _, rfl, _, _, rfl, _, _, rfl, rfl, ?_⟩
      refine ⟨_, rfl, _, rfl, _, rfl, by show 2 ≤ sizeLine; decide, fun n hn => ?_⟩
      have s3 := same_upd (o := .tup [.str r.2.2.1, .str r.2.2.2]) (Same.refl H2) hn
      have n3 : upd H2 n (.tup [.str r.2.2.1, .str r.2.2.2]) n = some (.tup [.str r.2.2.1, .str r.2.2.2]) := upd_same
      generalize upd H2 n (.tup [.str r.2.2.1, .str r.2.2.2]) = H3 at s3 n3 ⊢
      refine ⟨by show 2 ≤ sizeLine; decide, fun m hm => ?_⟩
      have s4 := same_upd (o := .tup [.str r.2.1, .ref n]) s3 hm
      refine ⟨⟨zs ++ [(r, m, n)], by simp, ?_, fun z hz' => ?_⟩, s2.trans s4, _, _, _, rfl⟩
      · rw [List.map_append, e, List.take_add_one, hri]; rfl
      · rcases List.mem_append.mp hz' with q | q
        · exact ⟨s4 _ _ (hz z q).1, s4 _ _ (hz z q).2⟩
        · have e' : z = (r, m, n) := by simpa using q
          subst e'
          exact ⟨upd_same, same_upd (Same.refl H3) hm _ _ n3⟩
    rintro ys σ H2 ⟨⟨zs, rfl, e, hz⟩, s2, x1, x2, x3, rfl⟩ pr hpr
    rw [take_all rs (by simp)] at e
    have hzl : zs.length = rs.length := by rw [← e]; simp
    have hm0 : (zs.map fun z => V.ref z.2.1) = (zs.map fun z : T × Addr × Addr => (z.2.1, z.1.2.1, V.ref z.2.2)).map fun t => V.ref t.1 := by rw [List.map_map]; rfl
    have s3 := same_upd (o := .lst (zs.map fun z => V.ref z.2.1)) (Same.refl H2) hpr
    have l3 : upd H2 pr (.lst (zs.map fun z => V.ref z.2.1)) pr = some (.lst (zs.map fun z => V.ref z.2.1)) := upd_same
    generalize upd H2 pr (.lst (zs.map fun z => V.ref z.2.1)) = H3 at s3 l3 ⊢
    have hkeys : (zs.map fun z => z.1.2.1).Nodup := by
      have e1 : (zs.map fun z => z.1.2.1) = (rs.map (·.2)).map (·.1) := by rw [← e, List.map_map, List.map_map]; rfl
      rw [e1]
      exact hRn
    refine ⟨pr, zs.map fun z => (z.2.1, z.1.2.1, V.ref z.2.2), rfl, SqL.of (by rw [l3, hm0]), fun t ht => ?_, by simp; omega, by rw [List.map_map]; exact hkeys, fun d hd => ?_⟩
    · obtain ⟨z, hzm, rfl⟩ := List.mem_map.mp ht
      exact s3 _ _ (hz z hzm).1
    have ekv : ((zs.map fun z : T × Addr × Addr => (z.2.1, z.1.2.1, V.ref z.2.2)).map fun t => ((Sum.inr t.2.1 : Key), t.2.2)) = zs.map fun z => ((Sum.inr z.1.2.1 : Key), V.ref z.2.2) := by rw [List.map_map]; rfl
    rw [ekv]
    have hnd : ((zs.map fun z => ((Sum.inr z.1.2.1 : Key), V.ref z.2.2)).map (·.1)).Nodup := by
      rw [List.map_map]
      have : (zs.map ((fun x : Key × V => x.1) ∘ fun z => ((Sum.inr z.1.2.1 : Key), V.ref z.2.2))) = (zs.map fun z => z.1.2.1).map Sum.inr := by rw [List.map_map]; rfl
      rw [this]
      exact List.Pairwise.map _ (fun a b hab e => hab (Sum.inr.inj e)) hkeys
    have s4 := same_upd (o := .dK (zs.map fun z => ((Sum.inr z.1.2.1 : Key), V.ref z.2.2))) (Same.refl H3) hd
    have Ld : Leads (upd H3 d (.dK (zs.map fun z => ((Sum.inr z.1.2.1 : Key), V.ref z.2.2)))) d (rs.map (·.2)) := ⟨_, upd_same, fun r hr => by
      obtain ⟨t, ht, rfl⟩ := List.mem_map.mp hr
      rw [← e] at ht
      obtain ⟨z, hzm, rfl⟩ := List.mem_map.mp ht
      exact ⟨z.2.2, val_mem hnd (List.mem_map_of_mem (f := fun z : T × Addr × Addr => ((Sum.inr z.1.2.1 : Key), V.ref z.2.2)) hzm), s4 _ _ (s3 _ _ (hz z hzm).2)⟩⟩
    generalize upd H3 d (.dK (zs.map fun z => ((Sum.inr z.1.2.1 : Key), V.ref z.2.2))) = H4 at s4 Ld ⊢
    have s14 := s2.trans (s3.trans s4)
    -- each way is one
    refine ⟨_, rfl, q, rfl, ⟨_, SqL.of (s14 _ _ q1)⟩, lcw_list0 (xs := wrefs tss) (fits (by rw [List.length_map]; omega)) (fun i ys σ H5 => ys = (List.replicate i true).map V.bl ∧ Same H4 H5 ∧ ∃ x, σ = [x, some (.ref d), some (.str a), some (.str b)]) ⟨rfl, Same.refl _, _, rfl⟩
      (fun i ys σ H5 _ p => ⟨by rw [p.1]; simp, SqL.of (p.2.1 _ _ (s14 _ _ q1))⟩) ?_ ?_⟩
    · rintro i x ys σ H5 hx ⟨rfl, s5, g, rfl⟩
      rw [List.getElem?_map] at hx
      cases hc : tss[i]? with
      | none => rw [hc] at hx; cases hx
      | some t =>
        rw [hc] at hx
        cases hx
        have htm := List.mem_of_getElem? hc
        have hw := List.mem_map_of_mem (f := fun t : Addr × List Row => t.2) htm
        refine ⟨_, rfl, _, rfl, _, rfl, _, rfl, t.1, d, rs.map (·.2), a, b, t.2, rfl, s5 _ _ (s14 _ _ (ts1 t htm)), Ld.same s5, Fc.ways.way _ hw, by have := Fc.len _ hw; omega, fun H6 s6 => ⟨?_, s5.trans s6, _, rfl⟩⟩
        rw [List.replicate_succ', List.map_append]; rfl
    rintro ys σ H5 ⟨rfl, s5, g, rfl⟩ al hal
    have s6 := same_upd (o := .lst ((List.replicate (wrefs tss).length true).map V.bl)) s5 hal
    refine ⟨al, List.replicate (wrefs tss).length true, rfl, SqL.of upd_same, _, rfl, ?_⟩
    have eall : ∀ n : Nat, (List.replicate n true).all id = true := by simp
    rw [eall]
    refine iteF ?_
    generalize upd H5 al (.lst ((List.replicate (wrefs tss).length true).map V.bl)) = H6 at s6 ⊢
    have s16 := s14.trans s6
    refine ⟨_, rfl, _, rfl, _, rfl, _, rfl, l, v, pa, ra, ps, lot, rs, a, b, rfl, s16 _ _ l1, W1.same s16, G, Fc.so, Fc.sub, by omega, Fc.na, Fc.hb, fun H7 s7 => ⟨_, rfl, iteF ?_⟩⟩
    have s17 := s16.trans s7
    -- no tie twice
    refine ⟨Nat.zero_le _, fun se hse => ?_⟩
    have s8 := same_upd (o := .lst []) s17 hse
    have e8 : upd H7 se (.lst []) se = some (.lst ((((tss.take 0).map fun t => t.2.map (·.1)).flatten).map V.str)) := upd_same
    have se0 : H1 se = none := s17.free hse
    generalize upd H7 se (.lst []) = H8 at s8 e8 ⊢
    have hfl : ∀ i, (((tss.take i).map fun t => t.2.map (·.1)).flatten).length ≤ 60 := fun i => by
      have h1 := Fc.all
      rw [List.map_map, List.length_map] at h1
      have h2 : ((tss.take i).map fun t => t.2.map (·.1)).flatten.length ≤ ((tss.map fun t => t.2.map (·.1)).flatten).length := by
        conv => rhs; rw [← List.take_append_drop i tss, List.map_append, List.flatten_append, List.length_append]
        omega
      exact Nat.le_trans h2 (Nat.le_trans h1 hrz)
    refine ⟨_, rfl, q, rfl, ⟨_, SqL.of (s8 _ _ q1)⟩, for_list (K := K) (a := q) (xs := wrefs tss) (fun i σ H9 => ∃ (g : Option V), σ = [some (.ref v), some (.str a), some (.str b), some (.ref u), some (.str D.shown), some (.ref q), some (.ref l), some (.ref d), some (.ref se), g, none] ∧ Same H1 H9 ∧ H9 se = some (.lst ((((tss.take i).map fun t => t.2.map (·.1)).flatten).map V.str)))
      ⟨none, rfl, s8, e8⟩ (fun i σ H9 _ p => by obtain ⟨_, _, s9, _⟩ := p; exact SqL.of (s9 _ _ q1)) ?_ ?_⟩
    · rintro i x σ H9 hx ⟨g, rfl, s9, e9⟩
      rw [List.getElem?_map] at hx
      cases hc : tss[i]? with
      | none => rw [hc] at hx; cases hx
      | some t =>
        rw [hc] at hx
        cases hx
        have htm := List.mem_of_getElem? hc
        have hw := Fc.len _ (List.mem_map_of_mem (f := fun t : Addr × List Row => t.2) htm)
        have hf := hfl i
        refine ⟨_, rfl, .inl ⟨rfl, _, SqL.of e9⟩, _, rfl, se, t.1, _, _, rfl, rfl, e9, s9 _ _ (ts1 t htm), Nat.le_of_lt (fits (by rw [List.length_map, List.length_map, List.length_map]; omega)), ?_⟩
        refine ⟨_, rfl, Same.upd0 s9 se0, ?_⟩
        rw [upd_same, List.take_add_one, hc, List.map_append, List.flatten_append, ← List.map_append]
        simp
    rintro σ H9 ⟨g, rfl, s9, e9⟩
    rw [take_all tss (by simp)] at e9
    have hnd9 : ((tss.map fun t => t.2.map (·.1)).flatten).Nodup := by
      have := Fc.ways.nd
      rw [List.map_map] at this
      exact this
    have hl9 : ((tss.map fun t => t.2.map (·.1)).flatten).length ≤ 60 := by have := hfl tss.length; rwa [List.take_length] at this
    generalize ((tss.map fun t => t.2.map (·.1)).flatten) = seen at e9 hnd9 hl9
    refine ⟨_, rfl, se, seen, rfl, SqL.of e9, by omega, fun st hst => ?_⟩
    have hme : metS seen.reverse = seen.reverse := metS_self (nodup_rev hnd9)
    rw [hme]
    have s10 := same_upd (o := SetT w st seen.reverse) s9 hst
    have e10 : upd H9 st (SetT w st seen.reverse) se = some (.lst (seen.map V.str)) := by rw [upd_ne (ne_of_none e9 hst)]; exact e9
    have st10 : upd H9 st (SetT w st seen.reverse) st = some (SetT w st seen.reverse) := upd_same
    generalize upd H9 st (SetT w st seen.reverse) = H10 at s10 e10 st10 ⊢
    refine ⟨st, seen.reverse, rfl, st10, _, rfl, se, _, rfl, .inl (SqL.of e10), rfl, _, rfl, ?_⟩
    rw [List.length_reverse, List.length_map, decide_eq_true (show V.int (seen.length : Int) = V.int (seen.length : Int) from rfl)]
    refine iteF ?_
    -- as many as lead into the lot
    refine ⟨_, rfl, q, _, rfl, .inl (SqL.of (s10 _ _ q1)), ?_⟩
    refine ⟨_, rfl, .inl ⟨rfl, _, SqL.of (s10 _ _ q1)⟩, Nat.zero_le _, fun em hem => ?_⟩
    have s11 := same_upd (o := .tup []) s10 hem
    generalize upd H10 em (.tup []) = H11 at s11 ⊢
    refine ⟨q, _, .ref em, rfl, rfl, s11 _ _ q1, fits (by rw [List.length_map]; omega), ?_⟩
    have nq : ∀ x : Addr, (∃ xs, H1 x = some (.tup xs)) → x ≠ q := fun x hx z => by
      obtain ⟨xs, e⟩ := hx
      rw [z, q1] at e; cases e
    have s12 : ∀ x xs, H1 x = some (.tup xs) → upd H11 q (.lst (wrefs tss ++ [.ref em])) x = some (.tup xs) := fun x xs e => by rw [upd_ne (nq x ⟨xs, e⟩)]; exact s11 _ _ e
    have sH : Same H (upd H11 q (.lst (wrefs tss ++ [.ref em]))) := Same.upd0 (s1.trans s11) q0
    have W12 : WebAt (upd H11 q (.lst (wrefs tss ++ [.ref em]))) v pa ra ps rs := W.same sH
    have l12 := s12 _ _ l1
    generalize upd H11 q (.lst (wrefs tss ++ [.ref em])) = H12 at sH W12 l12 ⊢
    refine ⟨_, rfl, _, rfl, rix_of (j := 1) (.inr (SqT.of W12.tp)) rfl rfl ⟨ra, rfl, ⟨_, SqT.of W12.rl⟩, lcw_tup (K := K) (xs := rrefs rs) (fits (by rw [List.length_map]; omega)) (fun i ys σ H13 => ys = ((rs.take i).filter fun r => decide (r.2.2.2 ∈ lot) && !decide (r.2.2.1 ∈ lot)).map (fun r => V.str r.2.1) ∧ H13 = H12 ∧ ∃ x1 x2 x3, σ = [x1, x2, x3, some (.ref l)]) ⟨rfl, rfl, _, _, _, rfl⟩
      (fun i ys σ H13 _ q => ⟨by rw [q.1, List.length_map]; exact flen _ _ _, by rw [q.2.1]; exact SqT.of W12.rl⟩) ?_ ?_⟩⟩
    · rintro i x ys σ H13 hx ⟨rfl, rfl, x1, x2, x3, rfl⟩
      obtain ⟨r, hri, rfl⟩ := rowAt_get hx
      have tf := tfs (fun r : T => decide (r.2.2.2 ∈ lot) && !decide (r.2.2.1 ∈ lot)) rs i r hri
      refine ⟨r.1, _, rfl, SqT.of (W12.rows r (List.mem_of_getElem? hri)), rfl, _, _, rfl, _, _, rfl, _, _, rfl, rfl, ?_⟩
      refine ⟨_, rfl, _, rfl, l, lot.map V.str, rfl, .inr (SqT.of l12), rfl, flat_strs lot, _, rfl, ?_⟩
      show if inV (.str r.2.2.2) (lot.map V.str) = true then _ else _
      rw [in_strs]
      refine ite2 (fun c => ⟨_, rfl, _, rfl, l, lot.map V.str, rfl, .inr (SqT.of l12), rfl, flat_strs lot, _, rfl, ?_⟩) (fun c => iteF ⟨?_, rfl, _, _, _, rfl⟩)
      · show if (!inV (.str r.2.2.1) (lot.map V.str)) = true then _ else _
        rw [in_strs]
        refine ite2 (fun c2 => ⟨_, rfl, ?_, rfl, _, _, _, rfl⟩) (fun c2 => ⟨?_, rfl, _, _, _, rfl⟩)
        · rw [tf, c, c2]; simp
        · rw [tf, c]; simp only [Bool.not_eq_true] at c2; rw [c2]; simp
      · rw [tf]; simp only [Bool.not_eq_true] at c; rw [c]; simp
    rintro ys σ H13 ⟨rfl, rfl, x1, x2, x3, rfl⟩ cl hcl
    rw [take_all rs (by simp)]
    have s14' := same_upd (o := .lst ((rs.filter fun r => decide (r.2.2.2 ∈ lot) && !decide (r.2.2.1 ∈ lot)).map (fun r => V.str r.2.1))) (Same.refl H13) hcl
    refine ⟨cl, _, rfl, .inl (SqL.of upd_same), rfl, _, rfl, ?_⟩
    have em : (wrefs tss).length = (((rs.filter fun r => decide (r.2.2.2 ∈ lot) && !decide (r.2.2.1 ∈ lot)).map (fun r => V.str r.2.1))).length := by
      rw [List.length_map, List.length_map]
      have := Fc.many
      rw [List.length_map] at this
      rw [this]
      have e2 : (rs.map (·.2)).filter (fun r : Row => decide (r.2.2 ∈ lot) && !decide (r.2.1 ∈ lot)) = (rs.filter fun r : T => decide (r.2.2.2 ∈ lot) && !decide (r.2.2.1 ∈ lot)).map (·.2) := by rw [List.filter_map]; rfl
      rw [e2, List.length_map]
    rw [em, decide_eq_true rfl]
    refine iteF ?_
    generalize upd H13 cl (.lst ((rs.filter fun r => decide (r.2.2.2 ∈ lot) && !decide (r.2.2.1 ∈ lot)).map (fun r => V.str r.2.1))) = H14 at s14' ⊢
    have sH14 := sH.trans s14'
    refine ⟨_, rfl, _, rfl, _, rfl, v, pa, ra, ps, rs, a, b, rfl, W.same sH14, G, ha, hb, hab, fun u' q' l' tss' lot' H15 s15 u15 q0' q15 ts15 l60' l15 hD' => ?_⟩
    obtain ⟨eT, eL⟩ := hD.uniq hD'
    subst eL
    have eN : (tss.map fun t => t.2.map (·.1)) = (tss'.map fun t => t.2.map (·.1)) := by
      have := congrArg (List.map fun w : List Row => w.map (·.1)) eT
      rw [List.map_map, List.map_map] at this
      exact this
    have dv2 : DV H15 (.ref u') D := by
      rw [hD0, eN]
      exact .tup u15 (.cons (.lst q15 (tss_dv ts15)) (.cons (.tup l15 (DVs.strs _)) .nil))
    refine ⟨u', D, rfl, dv2, f1, f2, f3, f4, _, rfl, rfl, ?_⟩
    rw [decide_eq_true (show V.str D.shown = V.str D.shown from rfl)]
    exact k _ (sH14.trans s15)
end
end K23

set_option Elab.async false
set_option linter.all false
set_option maxRecDepth 100000
set_option maxHeartbeats 4000000
namespace K23
open PySem L2
theorem kp_same {p : Addr} {H H1 H2 : Hp} (s : Same H H1) (hp : H p = none) (k : Kp [p] H1 H2) : Same H H2 := fun b o e => k b o (s b o e) (by simp; exact ne_of_none e hp)
theorem WebAt.kp {H H' : Hp} {p v pa ra : Addr} {ps : List Str} {rs : List (Addr × Row)} (W : WebAt H v pa ra ps rs) (k : Kp [p] H H') (hp : Pot H p) : WebAt H' v pa ra ps rs := ⟨k.tup hp W.tp, k.tup hp W.pl, k.tup hp W.rl, fun r hr => k.tup hp (W.rows r hr)⟩
section
variable {P : Program} {w : World} {K : PySem.W.Frag} {mg : Str → Option Value} {base : Heap}
noncomputable def spLaw (K : PySem.W.Frag) : Sp := fun vs H Q _ => ∃ (a : Addr) (ns : List Int), vs = [.ref a] ∧ SqL K H a (ns.map V.int) ∧ ns.length ≤ 63 ∧ ∀ H', Q (.bl true) H'
noncomputable abbrev N40 : List Str := ["_law_script", "_law_k", "_law_pot_here", "_law_web_here", "_law_many", "_law_j", "_law_at", "_law_other"]
theorem sc40 : FnScope N40 ["_law_script"] (defScope (top 40)) := ⟨rfl, rfl, rfl, by decide +kernel, rfl, by decide +kernel, by decide +kernel⟩
theorem ok_law {f : Addr} {fd : FuncData} (F : Fun K "law" "law" (top 40) f fd) (B : Bl mg) (Fc : Fn P w K mg base 1 "_law_cell" ["_law_script", "_law_k"] (spCell K)) (Fp : Fn P w K mg base 1 "_law_pot" ["_law_cell_here"] spPot) (Ft : Fn P w K mg base 1 "_law_draw" ["_law_pot_here", "_law_many"] spTake) (Fg : Fn P w K mg base 3 "_law_web" ["_law_pot_here", "_law_most"] spWebG) (Fr : Fn P w K mg base 6 "_law_right" ["_law_web_here", "_law_a", "_law_b"] spRight) : FnOk P w K mg base CX0 7 f fd ["_law_script"] (spLaw K) := by
  refine F.ok sc40 (fun vs H Q E h => ?_) (fun cdv A outer s H vs Q E hr h => ?_)
  · obtain ⟨a, ns, rfl, _⟩ := h
    rfl
  · obtain ⟨a, sc, rfl, hS, hlen, k⟩ := h
    have hr1 : Room 1 _ := hr.mono (by decide)
    have hr3 : Room 3 _ := hr.mono (by decide)
    refine' ⟨_, ?d0, ?main⟩
    case' d0 => refine' pss_cons ?lp (pss_one (ps_ret pe_bl))
    case' lp => refine' ps_for PassesOwn.never rfl (pi_range1 rfl B.range (pa_cons (pe_op op_add (pe_callB (call_min2 rfl) rfl B.min b_min (pa_cons (pe_callB call_len_seq rfl B.len PySem.boot_len (pa_cons (pv 0) pa_nil)) (pa_cons pe_int pa_nil))) pe_int) pa_nil)) (pg_name (i := 1) sc40.nd rfl (Or.inl rfl)) ?b0
    case' b0 => refine' pss_cons (ps_set (i := 2) sc40.nd rfl (Or.inl rfl) (pe_fn Fp hr1 (pa_cons (pe_fn Fc hr1 (pa_cons (pv 0) (pa_cons (pv 1) pa_nil))) pa_nil))) ?b1
    case' b1 => refine' pss_cons (ps_set (i := 3) sc40.nd rfl (Or.inl rfl) (pe_ix ix_seq (pe_fn Fg hr3 (pa_cons (pv 2) (pa_cons pe_int pa_nil))) pe_int (fun _ _ => rfl))) ?b2
    case' b2 => refine' pss_cons (ps_set (i := 4) sc40.nd rfl (Or.inl rfl) (pe_callB call_len_seq rfl B.len PySem.boot_len (pa_cons (pe_ix ix_seq (pv 3) pe_int (fun _ _ => rfl)) pa_nil))) ?b3
    case' b3 => refine' pss_one ?lp2
    case' lp2 => refine' ps_for PassesOwn.never rfl (pi_range1 rfl B.range (pa_cons (pe_op op_mul pe_int (pe_callTy call_int1 rfl B.int b_int (pa_cons (pe_cmpR op_gt (pv 4) pe_int (nomark _)) pa_nil))) pa_nil)) (pg_name (i := 5) sc40.nd rfl (Or.inl rfl)) ?c0
    case' c0 => refine' pss_cons (ps_set (i := 6) sc40.nd rfl (Or.inl rfl) (pe_fn Ft hr1 (pa_cons (pv 2) (pa_cons (pv 4) pa_nil)))) ?c1
    case' c1 => refine' pss_cons (ps_set (i := 7) sc40.nd rfl (Or.inl rfl) (pe_op op_mod (pe_op op_add (pe_op op_add (pv 6) pe_int) (pe_fn Ft hr1 (pa_cons (pv 2) (pa_cons (pe_op op_sub (pv 4) pe_int) pa_nil)))) (pv 4))) ?c2
    case c2 => exact pss_one (ps_if (pt_not (pt_val (pe_fn Fr hr (pa_cons (pv 3) (pa_cons (pe_ix ix_seq (pe_ix ix_seq (pv 3) pe_int (fun _ _ => rfl)) (pv 6) (fun _ _ => rfl)) (pa_cons (pe_ix ix_seq (pe_ix ix_seq (pv 3) pe_int (fun _ _ => rfl)) (pv 7) (fun _ _ => rfl)) pa_nil)))))) pss_never pss_nil)
    case main =>
    refine ⟨_, rfl, a, _, rfl, .inl hS, _, _, rfl, _, _, rfl, rfl, _, rfl, ?_, ?_, ?_⟩
    · split <;> omega
    · split <;> omega
    refine for_range (fun i σ H4 => (∃ g1 g2 g3 g4 g5 g6 g7, σ = [some (.ref a), g1, g2, g3, g4, g5, g6, g7]) ∧ Same H H4) ⟨⟨_, _, _, _, _, _, _, rfl⟩, Same.refl _⟩ ?_ (fun σ H4 _ => k H4)
    rintro i σ H4 hi ⟨⟨g1, g2, g3, g4, g5, g6, g7, rfl⟩, s4⟩
    refine ⟨_, rfl, _, rfl, a, sc, _, rfl, s4.seq hS, by omega, fun c => ⟨_, rfl, fun p H5 s5 p0 P5 => ?_⟩⟩
    refine ⟨_, rfl, p, 30, rfl, P5, by decide, fun vv u pa ra root ps rs H6 P6 v6 W6 G h8 h30 hroot hnow K6 => rix_of (j := 0) (.inr (SqT.of v6)) rfl rfl ?_⟩
    have pn : H p = none := s4.free p0
    have s45 := s4.trans s5
    refine ⟨_, rfl, rix_of (j := 0) (.inr (SqT.of W6.tp)) rfl rfl ⟨pa, _, rfl, .inr (SqT.of W6.pl), ?_⟩⟩
    rw [List.length_map]
    refine ⟨_, rfl, _, _, rfl, rfl, .inr ⟨_, rfl, _, _, rfl, rfl, .inl ⟨by decide, by decide⟩, _, rfl, ?_, ?_, ?_⟩⟩
    · split <;> decide
    · split <;> decide
    have pnd : ps.Nodup := pw_nodup G.so
    refine for_range (fun j σ H7 => (∃ g1 g5 g6 g7, σ = [some (.ref a), g1, some (.ref p), some (.ref u), some (.int ps.length), g5, g6, g7]) ∧ Pot H7 p ∧ Kp [p] H6 H7) ⟨⟨_, _, _, _, rfl⟩, P6, Kp.refl _ _⟩ ?_ ?_
    · rintro j σ H7 hj ⟨⟨g1, g5, g6, g7, rfl⟩, P7, K7⟩
      have hp1 : 1 < ps.length := by
        by_cases c : (1 : Int) < (ps.length : Int)
        · omega
        · rw [decide_eq_false c] at hj
          have : (12 * (if false = true then (1 : Int) else 0)).toNat = 0 := by decide
          omega
      refine ⟨_, rfl, _, rfl, p, _, rfl, P7, by omega, by omega, fun ra' H8 a0 a1 P8 K8 => ?_⟩
      refine ⟨_, rfl, _, _, rfl, rfl, _, rfl, _, rfl, _, _, rfl, rfl, p, _, rfl, P8, by omega, by omega, fun rb H9 b0 b1 P9 K9 => ⟨_, _, rfl, rfl, _, rfl, _, _, rfl, rfl, by omega, ?_⟩⟩
      have hj0 := Int.emod_nonneg (ra' + 1 + rb) (show (ps.length : Int) ≠ 0 by omega)
      have hj1 := Int.emod_lt_of_pos (ra' + 1 + rb) (show (0 : Int) < ps.length by omega)
      have hjne : (ra' + 1 + rb) % (ps.length : Int) ≠ ra' := fun z => by
        rcases Int.lt_or_le (ra' + 1 + rb) ps.length with y | y
        · rw [Int.emod_eq_of_lt (by omega) y] at z; omega
        · rw [← Int.sub_emod_right, Int.emod_eq_of_lt (by omega) (by omega)] at z; omega
      obtain ⟨jb, hjbe⟩ : ∃ jb, (ra' + 1 + rb) % (ps.length : Int) = jb := ⟨_, rfl⟩
      rw [hjbe] at hj0 hj1 hjne
      have hra : ra'.toNat < ps.length := by omega
      have hjb : jb.toNat < ps.length := by omega
      have K79 := (K7.trans K8).trans K9
      have W9 := W6.kp K79 P6
      have hab : ps[ra'.toNat] ≠ ps[jb.toNat] := by
        have hne : ra'.toNat ≠ jb.toNat := by omega
        rcases Nat.lt_or_gt_of_ne hne with y | y
        · exact List.pairwise_iff_getElem.mp pnd _ _ hra hjb y
        · exact fun z => List.pairwise_iff_getElem.mp pnd _ _ hjb hra y z.symm
      refine ⟨_, rfl, _, rfl, rix_of (j := 0) (.inr (SqT.of W9.tp)) rfl rfl ⟨_, rfl, rix_of (j := ra'.toNat) (.inr (SqT.of W9.pl)) (by omega) (by rw [List.getElem?_map, List.getElem?_eq_getElem hra]; rfl) ?_⟩⟩
      refine ⟨_, rfl, rix_of (j := 0) (.inr (SqT.of W9.tp)) rfl rfl ⟨_, rfl, rix_of (j := jb.toNat) (.inr (SqT.of W9.pl)) (by omega) (by rw [List.getElem?_map, List.getElem?_eq_getElem hjb]; rfl) ?_⟩⟩
      exact ⟨u, pa, ra, ps, rs, _, _, rfl, W9, G, h8, List.getElem_mem hra, List.getElem_mem hjb, hab, fun H10 s10 => ⟨_, rfl, iteF ⟨⟨_, _, _, _, rfl⟩, P9.keep (fun o e => s10 _ _ e), K79.of_same s10⟩⟩⟩
    · rintro σ H7 ⟨⟨g1, g5, g6, g7, rfl⟩, P7, K7⟩
      exact ⟨⟨_, _, _, _, _, _, _, rfl⟩, kp_same s45 pn (K6.trans K7)⟩
end
end K23

set_option Elab.async false
set_option linter.all false
set_option maxRecDepth 100000
set_option maxHeartbeats 4000000
namespace K23
open PySem L2
/-- a def of the text as it stands behind the top -/
noncomputable def DefAt (K : PySem.W.Frag) (x : Str) (st : Stmt) : Prop := ∃ (f : Addr) (oc : Value) (od : Option Addr) (kV doc pm : Value) (an : Option Addr) (cd ct : Value) (sl : Array (Option Value)),
  PySem.W.nsIn K mainGlobals x = some (some (.ref f)) ∧ K.lookup f = some ⟨oc, od, .func (PySem.W.fnOf x x (defArgs st) (defBody st) (defScope st) .none kV doc pm an cd ct), sl⟩ ∧ PySem.W.codeIn K cd x = true ∧ PySem.W.keepIn K (.ref f) = true
theorem def_mk {K : PySem.W.Frag} {x : Str} {st : Stmt} {f : Addr} {oc : Value} {od : Option Addr} {kV doc pm : Value} {an : Option Addr} {cd ct : Value} {sl : Array (Option Value)} (a : PySem.W.nsIn K mainGlobals x = some (some (.ref f)))
    (l : K.lookup f = some ⟨oc, od, .func (PySem.W.fnOf x x (defArgs st) (defBody st) (defScope st) .none kV doc pm an cd ct), sl⟩) (c : PySem.W.codeIn K cd x = true) (k : PySem.W.keepIn K (.ref f) = true) : DefAt K x st :=
  ⟨f, oc, od, kV, doc, pm, an, cd, ct, sl, a, l, c, k⟩
theorem fn_def {P : Program} {w : World} {K : PySem.W.Frag} {mg : Str → Option Value} {base h : Heap} {x : Str} {st : Stmt} {k : Nat} {ps : List Str} {sp : Sp} (D : DefAt K x st) (X : K.In h) (G : h.Ns mainGlobals mg)
    (hb : ∀ (kV doc pm : Value) (an : Option Addr) (cdv ct : Value) (us : List Value), us.length = ps.length → bindArgs (PySem.W.fnOf x x (defArgs st) (defBody st) (defScope st) .none kV doc pm an cdv ct) ⟨us, []⟩ = pure (ps.zip us))
    (ok : ∀ (f : Addr) (fd : FuncData), Fun K x x st f fd → FnOk P w K mg base CX0 k f fd ps sp) : Fn P w K mg base k x ps sp := by
  obtain ⟨f, oc, od, kV, doc, pm, an, cd, ct, sl, a, l, c, kk⟩ := D
  have F := fun_mk (st := st) l c kk
  exact ⟨f, _, PySem.W.mg_of X G a, kk, F.binds hb, ok f _ F⟩
theorem all_mk {l : PySem.W.OpenLaw} {w : World} {K : PySem.W.Frag} {h : Heap} {mg : Str → Option Value} {fa : Addr} (X : K.In h) (G : h.Ns mainGlobals mg) (hfa : mg "law" = some (.ref fa)) (B : Bl mg) 
    (d6 : DefAt K "is_name" (top 6))
    (d7 : DefAt K "is_rising" (top 7))
    (d8 : DefAt K "is_sorted_names" (top 8))
    (d9 : DefAt K "is_among" (top 9))
    (d10 : DefAt K "is_tie_row" (top 10))
    (d11 : DefAt K "is_web" (top 11))
    (d12 : DefAt K "rows_of" (top 12))
    (d13 : DefAt K "need_web" (top 13))
    (d14 : DefAt K "need_place" (top 14))
    (d15 : DefAt K "need_two_places" (top 15))
    (d16 : DefAt K "first_rows" (top 16))
    (d17 : DefAt K "come_to" (top 17))
    (d19 : DefAt K "row_to" (top 19))
    (d20 : DefAt K "way_along" (top 20))
    (d22 : DefAt K "short_way" (top 22))
    (d23 : DefAt K "places_beyond" (top 23))
    (d25 : DefAt K "rows_left" (top 25))
    (d26 : DefAt K "in_one_of" (top 26))
    (d27 : DefAt K "taken_most" (top 27))
    (d28 : DefAt K "ways_apart" (top 28))
    (d29 : DefAt K "ways" (top 29))
    (d31 : DefAt K "_law_cell" (top 31))
    (d32 : DefAt K "_law_pot" (top 32))
    (d33 : DefAt K "_law_draw" (top 33))
    (d34 : DefAt K "_law_names" (top 34))
    (d35 : DefAt K "_law_tree_ends" (top 35))
    (d36 : DefAt K "_law_web" (top 36))
    (d37 : DefAt K "_law_is_way" (top 37))
    (d38 : DefAt K "_law_is_lot" (top 38))
    (d39 : DefAt K "_law_right" (top 39))
    (d40 : DefAt K "law" (top 40)) :
    ∃ fd : FuncData, (∀ (s : Shared) (v : Value), BindsTo s fd ⟨[v], []⟩ [("_law_script", v)]) ∧ ∀ base : Heap, K.In base → base.Ns mainGlobals mg → FnOk l.prog w K mg base CX0 7 fa fd ["_law_script"] (spLaw K) := by
  obtain ⟨f, oc, od, kV, doc, pm, an, cd, ct, sl, a, lk, c, kk⟩ := d40
  have e := hfa.symm.trans (PySem.W.mg_of X G a)
  cases e
  refine ⟨PySem.W.fnOf "law" "law" (defArgs (top 40)) (defBody (top 40)) (defScope (top 40)) .none kV doc pm an cd ct, fun s v => .of_eq rfl, fun base KB _ => ?_⟩
  have n6 := fn_def (P := l.prog) (w := w) (base := base) d6 X G (ps := ["thing"]) (fun _ _ _ _ _ _ us hl => match us, hl with | [_], _ => rfl) fun f fd F => ok_is_name F B
  have n7 := fn_def (P := l.prog) (w := w) (base := base) d7 X G (ps := ["names"]) (fun _ _ _ _ _ _ us hl => match us, hl with | [_], _ => rfl) fun f fd F => ok_is_rising F B
  have n8 := fn_def (P := l.prog) (w := w) (base := base) d8 X G (ps := ["thing"]) (fun _ _ _ _ _ _ us hl => match us, hl with | [_], _ => rfl) fun f fd F => ok_is_sorted F B n6 n7
  have n9 := fn_def (P := l.prog) (w := w) (base := base) d9 X G (ps := ["thing", "names"]) (fun _ _ _ _ _ _ us hl => match us, hl with | [_, _], _ => rfl) fun f fd F => ok_is_among F B
  have n10 := fn_def (P := l.prog) (w := w) (base := base) d10 X G (ps := ["thing", "places"]) (fun _ _ _ _ _ _ us hl => match us, hl with | [_, _], _ => rfl) fun f fd F => ok_is_tie_row F B n6 n9
  have n11 := fn_def (P := l.prog) (w := w) (base := base) d11 X G (ps := ["thing"]) (fun _ _ _ _ _ _ us hl => match us, hl with | [_], _ => rfl) fun f fd F => ok_is_web F B n8 n10 n7
  have n12 := fn_def (P := l.prog) (w := w) (base := base) d12 X G (ps := ["web", "names"]) (fun _ _ _ _ _ _ us hl => match us, hl with | [_, _], _ => rfl) fun f fd F => ok_rows_of F
  have n13 := fn_def (P := l.prog) (w := w) (base := base) d13 X G (ps := ["thing"]) (fun _ _ _ _ _ _ us hl => match us, hl with | [_], _ => rfl) fun f fd F => ok_need_web F n11
  have n14 := fn_def (P := l.prog) (w := w) (base := base) d14 X G (ps := ["web", "thing"]) (fun _ _ _ _ _ _ us hl => match us, hl with | [_, _], _ => rfl) fun f fd F => ok_need_place F n9
  have n15 := fn_def (P := l.prog) (w := w) (base := base) d15 X G (ps := ["web", "a", "b"]) (fun _ _ _ _ _ _ us hl => match us, hl with | [_, _, _], _ => rfl) fun f fd F => ok_two F n14
  have n16 := fn_def (P := l.prog) (w := w) (base := base) d16 X G (ps := ["rows", "start"]) (fun _ _ _ _ _ _ us hl => match us, hl with | [_, _], _ => rfl) fun f fd F => ok_first_rows F B
  have n16L := fn_def (P := l.prog) (w := w) (base := base) d16 X G (ps := ["rows", "start"]) (fun _ _ _ _ _ _ us hl => match us, hl with | [_, _], _ => rfl) fun f fd F => ok_first_rowsL F B
  have n17L := fn_def (P := l.prog) (w := w) (base := base) d17 X G (ps := ["rows", "start"]) (fun _ _ _ _ _ _ us hl => match us, hl with | [_, _], _ => rfl) fun f fd F => ok_come_toL F n16L
  have n19 := fn_def (P := l.prog) (w := w) (base := base) d19 X G (ps := ["rows", "place"]) (fun _ _ _ _ _ _ us hl => match us, hl with | [_, _], _ => rfl) fun f fd F => ok_row_to F
  have n20 := fn_def (P := l.prog) (w := w) (base := base) d20 X G (ps := ["rows", "root", "place"]) (fun _ _ _ _ _ _ us hl => match us, hl with | [_, _, _], _ => rfl) fun f fd F => ok_way_along F B n19
  have n22 := fn_def (P := l.prog) (w := w) (base := base) d22 X G (ps := ["rows", "start", "end"]) (fun _ _ _ _ _ _ us hl => match us, hl with | [_, _, _], _ => rfl) fun f fd F => ok_short_way F n16 n20
  have n22L := fn_def (P := l.prog) (w := w) (base := base) d22 X G (ps := ["rows", "start", "end"]) (fun _ _ _ _ _ _ us hl => match us, hl with | [_, _, _], _ => rfl) fun f fd F => ok_short_wayL F n16L n20
  have n23 := fn_def (P := l.prog) (w := w) (base := base) d23 X G (ps := ["web", "found"]) (fun _ _ _ _ _ _ us hl => match us, hl with | [_, _], _ => rfl) fun f fd F => ok_beyond F B
  have n25 := fn_def (P := l.prog) (w := w) (base := base) d25 X G (ps := ["rows", "taken"]) (fun _ _ _ _ _ _ us hl => match us, hl with | [_, _], _ => rfl) fun f fd F => ok_left F
  have n26 := fn_def (P := l.prog) (w := w) (base := base) d26 X G (ps := ["some", "others"]) (fun _ _ _ _ _ _ us hl => match us, hl with | [_, _], _ => rfl) fun f fd F => ok_one_of F
  have n27 := fn_def (P := l.prog) (w := w) (base := base) d27 X G (ps := ["rows", "a", "b"]) (fun _ _ _ _ _ _ us hl => match us, hl with | [_, _, _], _ => rfl) fun f fd F => ok_taken F n22 n22L n26 n25
  have n28 := fn_def (P := l.prog) (w := w) (base := base) d28 X G (ps := ["rows", "a", "b"]) (fun _ _ _ _ _ _ us hl => match us, hl with | [_, _, _], _ => rfl) fun f fd F => ok_apart F n22L
  have n29 := fn_def (P := l.prog) (w := w) (base := base) d29 X G (ps := ["web", "a", "b"]) (fun _ _ _ _ _ _ us hl => match us, hl with | [_, _, _], _ => rfl) fun f fd F => ok_ways F n13 n15 n27 n23 n17L n25 n28 n12
  have n31 := fn_def (P := l.prog) (w := w) (base := base) d31 X G (ps := ["_law_script", "_law_k"]) (fun _ _ _ _ _ _ us hl => match us, hl with | [_, _], _ => rfl) fun f fd F => ok_cell F B
  have n32 := fn_def (P := l.prog) (w := w) (base := base) d32 X G (ps := ["_law_cell_here"]) (fun _ _ _ _ _ _ us hl => match us, hl with | [_], _ => rfl) fun f fd F => ok_pot F B
  have n33 := fn_def (P := l.prog) (w := w) (base := base) d33 X G (ps := ["_law_pot_here", "_law_many"]) (fun _ _ _ _ _ _ us hl => match us, hl with | [_, _], _ => rfl) fun f fd F => ok_draw F B
  have n34 := fn_def (P := l.prog) (w := w) (base := base) d34 X G (ps := ["_law_pot_here", "_law_many"]) (fun _ _ _ _ _ _ us hl => match us, hl with | [_, _], _ => rfl) fun f fd F => ok_names F B n33
  have n35 := fn_def (P := l.prog) (w := w) (base := base) d35 X G (ps := ["_law_pot_here", "_law_places", "_law_root"]) (fun _ _ _ _ _ _ us hl => match us, hl with | [_, _, _], _ => rfl) fun f fd F => ok_ends F B n33
  have n36 := fn_def (P := l.prog) (w := w) (base := base) d36 X G (ps := ["_law_pot_here", "_law_most"]) (fun _ _ _ _ _ _ us hl => match us, hl with | [_, _], _ => rfl) fun f fd F => ok_web F B n33 n34 n35
  have n37 := fn_def (P := l.prog) (w := w) (base := base) d37 X G (ps := ["_law_told", "_law_leads", "_law_a", "_law_b"]) (fun _ _ _ _ _ _ us hl => match us, hl with | [_, _, _, _], _ => rfl) fun f fd F => ok_is_way F B
  have n38 := fn_def (P := l.prog) (w := w) (base := base) d38 X G (ps := ["_law_lot", "_law_web_here", "_law_a", "_law_b"]) (fun _ _ _ _ _ _ us hl => match us, hl with | [_, _, _, _], _ => rfl) fun f fd F => ok_is_lot F B
  have n39 := fn_def (P := l.prog) (w := w) (base := base) d39 X G (ps := ["_law_web_here", "_law_a", "_law_b"]) (fun _ _ _ _ _ _ us hl => match us, hl with | [_, _, _], _ => rfl) fun f fd F => ok_right F B n29 n37 n38
  exact ok_law (fun_mk (st := top 40) lk c kk) B n31 n32 n33 n36 n39
theorem bl_mk {K : PySem.W.Frag} {h : Heap} {mg : Str → Option Value} (X : K.In h) (G : h.Ns mainGlobals mg) {t_lng : Tok}
    (z_len : PySem.W.nsIn K mainGlobals "len" = some none)
    (z_isinstance : PySem.W.nsIn K mainGlobals "isinstance" = some none)
    (z_all : PySem.W.nsIn K mainGlobals "all" = some none)
    (z_range : PySem.W.nsIn K mainGlobals "range" = some none)
    (z_sorted : PySem.W.nsIn K mainGlobals "sorted" = some none)
    (z_repr : PySem.W.nsIn K mainGlobals "repr" = some none)
    (z_max : PySem.W.nsIn K mainGlobals "max" = some none)
    (z_min : PySem.W.nsIn K mainGlobals "min" = some none)
    (z_str : PySem.W.nsIn K mainGlobals "str" = some none)
    (z_tuple : PySem.W.nsIn K mainGlobals "tuple" = some none)
    (z_list : PySem.W.nsIn K mainGlobals "list" = some none)
    (z_int : PySem.W.nsIn K mainGlobals "int" = some none)
    (z_bool : PySem.W.nsIn K mainGlobals "bool" = some none)
    (z_zip : PySem.W.nsIn K mainGlobals "zip" = some none)
    (z_divmod : PySem.W.nsIn K mainGlobals "divmod" = some none)
    (z_abs : PySem.W.nsIn K mainGlobals "abs" = some none)
    (z_dict : PySem.W.nsIn K mainGlobals "dict" = some none)
    (z_set : PySem.W.nsIn K mainGlobals "set" = some none)
    (z_lng : PySem.W.nsIn K mainGlobals "LONGEST_NAME" = some (some (.int 8 t_lng)))
    : Bl mg :=
  ⟨PySem.W.mg_none_of X G z_len, PySem.W.mg_none_of X G z_isinstance, PySem.W.mg_none_of X G z_all, PySem.W.mg_none_of X G z_range, PySem.W.mg_none_of X G z_sorted, PySem.W.mg_none_of X G z_repr, PySem.W.mg_none_of X G z_max, PySem.W.mg_none_of X G z_min, PySem.W.mg_none_of X G z_str, PySem.W.mg_none_of X G z_tuple, PySem.W.mg_none_of X G z_list, PySem.W.mg_none_of X G z_int, PySem.W.mg_none_of X G z_bool, PySem.W.mg_none_of X G z_zip, PySem.W.mg_none_of X G z_divmod, PySem.W.mg_none_of X G z_abs, PySem.W.mg_none_of X G z_dict, PySem.W.mg_none_of X G z_set, ⟨t_lng, PySem.W.mg_of X G z_lng⟩⟩
theorem walk {l : PySem.W.OpenLaw} {q : Program} {loose : List Str} {XP : (Str → Option Value) → Heap → Prop} {YP : World → Heap → Prop} {d : DefRec} {K : Params → PySem.W.Frag} (hn : l.most = some 63) (hdf : d.params.defaults = [])
    (hY : ∀ (w : World) (h : Heap), YP w h → (K w.params).In h)
    (F : ∀ (w : World) (mg : Str → Option Value) (fa : Addr) (h : Heap), (K w.params).In h → h.Ns mainGlobals mg → mg d.name = some (.ref fa) →
      ∃ fd : FuncData, (∀ (s : Shared) (u : Value), BindsTo s fd ⟨[u], []⟩ [("_law_script", u)]) ∧ ∀ base : Heap, (K w.params).In base → base.Ns mainGlobals mg → FnOk l.prog w (K w.params) mg base CX0 7 fa fd ["_law_script"] (spLaw (K w.params))) :
    PySem.W.WalkO q loose XP YP l.row.toRowW d [] (fun f vs => PySem.call f vs) :=
  L2.walk_of (n := 63) (k := 7) (x := "_law_script") (CX := fun _ => CX0) (sp := fun w => spLaw (K w.params)) hn (by decide) hdf ⟨rfl, by decide, by decide, rfl⟩ hY F (fun _ _ a ns hl _ hS => ⟨a, ns, rfl, hS, hl, fun _ => rfl⟩) fun _ _ _ _ _ z => z
end K23
theorem PySem.W.Fast.tw11633411030918746933 : True := trivial
theorem PySem.W.Fast.tw1088838683678543777 : True := trivial
theorem PySem.W.Fast.tw9646709431316645200 : True := trivial
theorem PySem.W.Fast.tw6108461449974629995 : True := trivial
theorem PySem.W.Fast.tw14653074595167850478 : True := trivial
theorem PySem.W.Fast.tw5139644600405163996 : True := trivial
theorem PySem.W.Fast.tw11057994786067583571 : True := trivial
theorem PySem.W.Fast.tw2690124233461712273 : True := trivial
theorem PySem.W.Fast.tw7552284422544854918 : True := trivial
theorem PySem.W.Fast.tw12171780123837440849 : True := trivial
theorem PySem.W.Fast.tw16032138957207724821 : True := trivial
theorem PySem.W.Fast.tw17494072068597260308 : True := trivial
theorem PySem.W.Fast.tw4767093125735807886 : True := trivial
theorem PySem.W.Fast.tw9764090848736006973 : True := trivial
theorem PySem.W.Fast.tw16517860867568679114 : True := trivial
theorem PySem.W.Fast.tw2124763703231384145 : True := trivial
theorem PySem.W.Fast.tw9506159921800692903 : True := trivial
theorem PySem.W.Fast.tw18150582015057135977 : True := trivial
theorem PySem.W.Fast.tw3753304620852880817 : True := trivial
theorem PySem.W.Fast.tw11716894746546010730 : True := trivial
theorem PySem.W.Fast.tw9214945007921976161 : True := trivial
theorem PySem.W.Fast.tw2625572804345954952 : True := trivial
theorem PySem.W.Fast.tw6789031902426836175 : True := trivial
theorem PySem.W.Fast.tw2914308651788090381 : True := trivial
theorem PySem.W.Fast.tw9150474252769249026 : True := trivial
theorem PySem.W.Fast.tw4924176064001204271 : True := trivial
open PySem PySem.W PyProof.Rows
set_option maxRecDepth 100000 in
set_option maxHeartbeats 0 in
theorem PySem.Challenge.cw_rootshares_k23_whole_ways_holds : PySem.Challenge.rw_rootshares_k23_whole_ways.Holds := by
  w_on; o_law; k_head; (case hw => w_witness2)
  k_fill
  refine K23.walk (l := PySem.Challenge.rw_rootshares_k23_whole_ways) rfl rfl (fun w h Y => PySem.W.kIn_of Y) ?F
  case F =>
    intro w mg fa h KX G hmg
    have B : K23.Bl mg := by
      refine' K23.bl_mk KX G ?len ?isinstance ?all ?range ?sorted ?repr ?max ?min ?str ?tuple ?list ?int ?bool ?zip ?divmod ?abs ?dict ?set ?lng
      (case len => k_is)
      (case isinstance => k_is)
      (case all => k_is)
      (case range => k_is)
      (case sorted => k_is)
      (case repr => k_is)
      (case max => k_is)
      (case min => k_is)
      (case str => k_is)
      (case tuple => k_is)
      (case list => k_is)
      (case int => k_is)
      (case bool => k_is)
      (case zip => k_is)
      (case divmod => k_is)
      (case abs => k_is)
      (case dict => k_is)
      (case set => k_is)
      (case lng => k_is)
    refine' K23.all_mk KX G hmg B ?d6 ?d7 ?d8 ?d9 ?d10 ?d11 ?d12 ?d13 ?d14 ?d15 ?d16 ?d17 ?d19 ?d20 ?d22 ?d23 ?d25 ?d26 ?d27 ?d28 ?d29 ?d31 ?d32 ?d33 ?d34 ?d35 ?d36 ?d37 ?d38 ?d39 ?d40
    (case d6 => (refine' K23.def_mk ?a ?l ?c ?k; (case a => k_is); (case l => k_is); (case c => k_is); (case k => k_is)))
    (case d7 => (refine' K23.def_mk ?a ?l ?c ?k; (case a => k_is); (case l => k_is); (case c => k_is); (case k => k_is)))
    (case d8 => (refine' K23.def_mk ?a ?l ?c ?k; (case a => k_is); (case l => k_is); (case c => k_is); (case k => k_is)))
    (case d9 => (refine' K23.def_mk ?a ?l ?c ?k; (case a => k_is); (case l => k_is); (case c => k_is); (case k => k_is)))
    (case d10 => (refine' K23.def_mk ?a ?l ?c ?k; (case a => k_is); (case l => k_is); (case c => k_is); (case k => k_is)))
    (case d11 => (refine' K23.def_mk ?a ?l ?c ?k; (case a => k_is); (case l => k_is); (case c => k_is); (case k => k_is)))
    (case d12 => (refine' K23.def_mk ?a ?l ?c ?k; (case a => k_is); (case l => k_is); (case c => k_is); (case k => k_is)))
    (case d13 => (refine' K23.def_mk ?a ?l ?c ?k; (case a => k_is); (case l => k_is); (case c => k_is); (case k => k_is)))
    (case d14 => (refine' K23.def_mk ?a ?l ?c ?k; (case a => k_is); (case l => k_is); (case c => k_is); (case k => k_is)))
    (case d15 => (refine' K23.def_mk ?a ?l ?c ?k; (case a => k_is); (case l => k_is); (case c => k_is); (case k => k_is)))
    (case d16 => (refine' K23.def_mk ?a ?l ?c ?k; (case a => k_is); (case l => k_is); (case c => k_is); (case k => k_is)))
    (case d17 => (refine' K23.def_mk ?a ?l ?c ?k; (case a => k_is); (case l => k_is); (case c => k_is); (case k => k_is)))
    (case d19 => (refine' K23.def_mk ?a ?l ?c ?k; (case a => k_is); (case l => k_is); (case c => k_is); (case k => k_is)))
    (case d20 => (refine' K23.def_mk ?a ?l ?c ?k; (case a => k_is); (case l => k_is); (case c => k_is); (case k => k_is)))
    (case d22 => (refine' K23.def_mk ?a ?l ?c ?k; (case a => k_is); (case l => k_is); (case c => k_is); (case k => k_is)))
    (case d23 => (refine' K23.def_mk ?a ?l ?c ?k; (case a => k_is); (case l => k_is); (case c => k_is); (case k => k_is)))
    (case d25 => (refine' K23.def_mk ?a ?l ?c ?k; (case a => k_is); (case l => k_is); (case c => k_is); (case k => k_is)))
    (case d26 => (refine' K23.def_mk ?a ?l ?c ?k; (case a => k_is); (case l => k_is); (case c => k_is); (case k => k_is)))
    (case d27 => (refine' K23.def_mk ?a ?l ?c ?k; (case a => k_is); (case l => k_is); (case c => k_is); (case k => k_is)))
    (case d28 => (refine' K23.def_mk ?a ?l ?c ?k; (case a => k_is); (case l => k_is); (case c => k_is); (case k => k_is)))
    (case d29 => (refine' K23.def_mk ?a ?l ?c ?k; (case a => k_is); (case l => k_is); (case c => k_is); (case k => k_is)))
    (case d31 => (refine' K23.def_mk ?a ?l ?c ?k; (case a => k_is); (case l => k_is); (case c => k_is); (case k => k_is)))
    (case d32 => (refine' K23.def_mk ?a ?l ?c ?k; (case a => k_is); (case l => k_is); (case c => k_is); (case k => k_is)))
    (case d33 => (refine' K23.def_mk ?a ?l ?c ?k; (case a => k_is); (case l => k_is); (case c => k_is); (case k => k_is)))
    (case d34 => (refine' K23.def_mk ?a ?l ?c ?k; (case a => k_is); (case l => k_is); (case c => k_is); (case k => k_is)))
    (case d35 => (refine' K23.def_mk ?a ?l ?c ?k; (case a => k_is); (case l => k_is); (case c => k_is); (case k => k_is)))
    (case d36 => (refine' K23.def_mk ?a ?l ?c ?k; (case a => k_is); (case l => k_is); (case c => k_is); (case k => k_is)))
    (case d37 => (refine' K23.def_mk ?a ?l ?c ?k; (case a => k_is); (case l => k_is); (case c => k_is); (case k => k_is)))
    (case d38 => (refine' K23.def_mk ?a ?l ?c ?k; (case a => k_is); (case l => k_is); (case c => k_is); (case k => k_is)))
    (case d39 => (refine' K23.def_mk ?a ?l ?c ?k; (case a => k_is); (case l => k_is); (case c => k_is); (case k => k_is)))
    (case d40 => (refine' K23.def_mk ?a ?l ?c ?k; (case a => k_is); (case l => k_is); (case c => k_is); (case k => k_is)))

