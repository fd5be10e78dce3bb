import PyProof.Rows.All
import Wide.All
import OpenK.AllK
import Wide.FinOn
import Lean
import PyProof.EqAt
import PyProof.EqKinds
import PyProof.TupleCall
import KE.KSortTup
import KE.KDictSum
import KE.KDictOf
import PyProof.AttrMissHeap
import PyProof.WalksEnum
import PyProof.EnumMake
import PyProof.Rows.SetFrom
import PySem.Challenge.RW_rootshares_k11_webs_told_apart
-- CHANGE: your row's module here, as the last of these rows
set_option Elab.async false
set_option linter.all false
set_option maxRecDepth 100000
/-! THE HAND LAYER, for ints, bools, texts, own classes, LISTS and tuples (index, slices, in, append, pop ..), calls, loops. Paste it whole ahead of your own text; what your proof does not reach may be deleted. -/
namespace L2
open PySem PySem.Spec PyProof.Rows

/-- a key: an int or a str -/
noncomputable abbrev Key := Sum Int Str
noncomputable def keyIs : Key → Value → Bool
  | .inl k, v => Value.isInt k v
  | .inr x, v => Value.isStrOf x v
noncomputable def keyH (w : World) : Key → Int
  | .inl k => hashInt k
  | .inr x => hashStr w x
theorem keyIs_shape : ∀ {k : Key} {v : Value}, keyIs k v = true → (∃ i t, k = Sum.inl i ∧ v = Value.int i t) ∨ (∃ x t, k = Sum.inr x ∧ v = Value.str x t)
  | .inl i, v, h => by
    obtain ⟨t, e⟩ := Value.isInt_shape (k := i) (v := v) h
    exact .inl ⟨i, t, rfl, e⟩
  | .inr x, v, h => by
    obtain ⟨t, e⟩ := Value.isStrOf_shape (x := x) (v := v) h
    exact .inr ⟨x, t, rfl, e⟩
theorem key_ll (a b : Int) : decide ((Sum.inl a : Key) = Sum.inl b) = (a == b) := by
  by_cases e : a = b
  · subst e; simp
  · have h : ¬ (Sum.inl a : Key) = Sum.inl b := fun q => e (Sum.inl.inj q)
    rw [decide_eq_false h]
    exact (beq_eq_false_iff_ne.mpr e).symm
theorem key_rr (a b : Str) : decide ((Sum.inr a : Key) = Sum.inr b) = decide (a = b) := by
  by_cases e : a = b
  · subst e; simp
  · have h : ¬ (Sum.inr a : Key) = Sum.inr b := fun q => e (Sum.inr.inj q)
    rw [decide_eq_false h, decide_eq_false e]
theorem key_lr (a : Int) (b : Str) : decide ((Sum.inl a : Key) = Sum.inr b) = false := decide_eq_false (fun q => nomatch q)
theorem key_rl (a : Str) (b : Int) : decide ((Sum.inr a : Key) = Sum.inl b) = false := decide_eq_false (fun q => nomatch q)

noncomputable def mixKind (prog : Program) (w : World) : PySem.KeyKind prog w Key where
  is := keyIs
  hash := keyH w
  inj := fun v a b ha hb => by
    rcases keyIs_shape ha with ⟨i, t, rfl, rfl⟩ | ⟨x, t, rfl, rfl⟩
    · rcases keyIs_shape hb with ⟨j, u, rfl, e⟩ | ⟨y, u, rfl, e⟩
      · injection e with e1 _; rw [e1]
      · exact nomatch e
    · rcases keyIs_shape hb with ⟨j, u, rfl, e⟩ | ⟨y, u, rfl, e⟩
      · exact nomatch e
      · injection e with e1 _; rw [e1]
  byValue := fun k v h => by
    rcases keyIs_shape h with ⟨i, t, rfl, rfl⟩ | ⟨x, t, rfl, rfl⟩ <;> rfl
  pyHash := fun hv h => by
    rcases keyIs_shape hv with ⟨i, t, rfl, rfl⟩ | ⟨x, t, rfl, rfl⟩
    · exact wpAny_pyHash_int h
    · exact wpAny_pyHash_str h
  eqBool := fun hu hv h => by
    rcases keyIs_shape hu with ⟨i, t, rfl, rfl⟩ | ⟨x, t, rfl, rfl⟩
    · rcases keyIs_shape hv with ⟨j, u, rfl, rfl⟩ | ⟨y, u, rfl, rfl⟩
      · rw [key_ll] at h; exact wpAny_eqBool_int h
      · rw [key_lr] at h; exact SeqAt.EqAt.int_str i t y u _ _ _ _ h
    · rcases keyIs_shape hv with ⟨j, u, rfl, rfl⟩ | ⟨y, u, rfl, rfl⟩
      · rw [key_rl] at h; exact SeqAt.EqAt.str_int x t j u _ _ _ _ h
      · rw [key_rr] at h; exact wpAny_eqBool_str h
  «strs» := fun k x t v h => by
    rcases keyIs_shape h with ⟨i, u, rfl, e⟩ | ⟨y, u, rfl, e⟩
    · exact nomatch e
    · injection e with e1 _
      subst e1
      cases v <;> rfl

end L2

namespace L2
open PySem PySem.Spec PyProof.Rows

/-- a value, without the heap -/
inductive V where
  | non | bl (b : Bool) | int (i : Int) | str (x : Str) | byt (b : Array UInt8) | flt (b : UInt64) | ref (a : Addr) | ty (n : String)
  deriving DecidableEq

noncomputable def RelV : V → Value → Prop
  | .non, u => u = Value.none
  | .bl b, u => u = Value.bool b
  | .int i, u => ∃ t, u = Value.int i t
  | .str x, u => ∃ t, u = Value.str x t
  | .byt b, u => ∃ t, u = Value.bytes b t
  | .flt b, u => ∃ t, u = Value.float b t
  | .ref a, u => u = Value.ref a
  | .ty n, u => u = Value.type n

noncomputable abbrev Vals : List V → List Value → Prop := Paired RelV
theorem Vals.length {xs : List V} {us : List Value} (r : Vals xs us) : xs.length = us.length := Paired.length r
theorem Vals.get : ∀ {xs : List V} {us : List Value} {i : Nat} {x : V}, Vals xs us → xs[i]? = some x → ∃ u, us[i]? = some u ∧ RelV x u
  | _, _, _, _, .nil, e => by simp at e
  | _, _, 0, _, .cons r _, e => by simp at e; subst e; exact ⟨_, rfl, r⟩
  | _, _, i + 1, x, .cons _ t, e => by
    obtain ⟨u, h1, h2⟩ := Vals.get (i := i) (x := x) t (by simpa using e)
    exact ⟨u, by simpa using h1, h2⟩
theorem Vals.set {x : V} {u : Value} (r : RelV x u) : ∀ {xs : List V} {us : List Value} (i : Nat), Vals xs us → Vals (xs.set i x) (us.set i u)
  | _, _, _, .nil => .nil
  | _, _, 0, .cons _ t => .cons r t
  | _, _, i + 1, .cons q t => .cons q (Vals.set r i t)
theorem Vals.append : ∀ {xs ys : List V} {us ws : List Value}, Vals xs us → Vals ys ws → Vals (xs ++ ys) (us ++ ws)
  | _, _, _, _, .nil, s => s
  | _, _, _, _, .cons r t, s => .cons r (Vals.append t s)
theorem Vals.take : ∀ {xs : List V} {us : List Value} (n : Nat), Vals xs us → Vals (xs.take n) (us.take n)
  | _, _, 0, _ => .nil
  | _, _, _ + 1, .nil => .nil
  | _, _, n + 1, .cons r t => .cons r (Vals.take n t)
theorem Vals.drop : ∀ {xs : List V} {us : List Value} (n : Nat), Vals xs us → Vals (xs.drop n) (us.drop n)
  | _, _, 0, r => r
  | _, _, _ + 1, .nil => .nil
  | _, _, n + 1, .cons _ t => Vals.drop n t
noncomputable def RelO : Option V → Option Value → Prop
  | some v, some u => RelV v u
  | none, none => True
  | _, _ => False
noncomputable def KV {κ : Type} : List (κ × V) → List (κ × Value) → Prop := Paired fun (p : κ × V) (q : κ × Value) => p.1 = q.1 ∧ RelV p.2 q.2

/-- a key of a dict (00_mix): an int or a text -/
noncomputable def kV : Key → V
  | .inl i => .int i
  | .inr x => .str x

/-- what stands at a tracked address -/
inductive HO where
  /-- a list -/
  | lst (xs : List V)
  /-- a tuple (never changes) -/
  | tup (xs : List V)
  /-- a dict whose keys are ints and texts; one whose keys are tuples of ints and texts (the empty one is both) -/
  | dK (kvs : List (Key × V)) | dT (kvs : List (List Key × V))
  /-- a set of ints: its members, its size -/
  | set (S : Int → Bool) (n : Nat)
  /-- an instance of the class at C, its dict at dx, its attributes -/
  | ins (C dx : Addr) (fs : List (Str × V))
  /-- the dict of the instance at x -/
  | own (x : Addr)
  /-- the dict of an exception -/
  | xd (fs : List (Str × V))
  /-- a bound method, f of x -/
  | met (f x : Addr)
  /-- a range object lo, lo + 1, .. below hi -/
  | rng (lo hi : Int)
  /-- a thing that is known to the object (the script; a dict while a loop walks it): read, never written while it is so -/
  | frz (o : Obj) (u : HO)
  /-- a code object's table -/
  | tbl (ps : Array Value)
  /-- any other thing, by what is true of its one object (a def of one's own: SetO a S n := HO.ext fun h => ..) -/
  | ext (φ : Heap → Prop)

noncomputable abbrev Hp := Addr → Option HO
noncomputable def upd (H : Hp) (a : Addr) (o : HO) : Hp := fun b => if b = a then some o else H b
theorem upd_same {H : Hp} {a : Addr} {o : HO} : upd H a o a = some o := by unfold upd; rw [if_pos rfl]
theorem upd_ne {H : Hp} {a b : Addr} {o : HO} (h : b ≠ a) : upd H a o b = H b := by unfold upd; rw [if_neg h]
/-- two objects of different content stand apart -/
theorem ne_of {H : Hp} {a b : Addr} {o u : HO} (h : H a = some o) (h' : H b = some u) (d : o ≠ u) : a ≠ b := by
  intro e; subst e; rw [h] at h'; exact d (Option.some.inj h')
theorem ne_of_none {H : Hp} {a b : Addr} {o : HO} (h : H a = some o) (h' : H b = none) : a ≠ b := by
  intro e; subst e; rw [h] at h'; cases h'

section
variable (P : Program) (w : World)
noncomputable def ObjOk (H : Hp) (h : Heap) (a : Addr) : HO → Prop
  | .lst xs => xs.length ≤ sizeLine ∧ ∃ (its : List Value) (n : Nat), Vals xs its ∧ h.get? a = some { cls := .type "list", data := .seq its.toArray n }
  | .tup xs => xs.length ≤ sizeLine ∧ ∃ its : List Value, Vals xs its ∧ IsTup h a its.toArray
  | .dK kvs => kvs.length ≤ sizeLine ∧ (a == sysModules) = false ∧ ∃ vs, KV kvs vs ∧ h.DictOf (mixKind P w) a vs
  | .dT kvs => kvs.length ≤ sizeLine ∧ (a == sysModules) = false ∧ ∃ xs : List (List Key × Addr × Value),
      Paired (fun (p : List Key × V) (q : List Key × Addr × Value) => p.1 = q.1 ∧ H q.2.1 = some (.tup (p.1.map kV)) ∧ RelV p.2 q.2.2) kvs xs ∧
      ∃ o es ep, h.get? a = some o ∧ o.ExactDict ∧ o.data = .dict es ep ∧ es.toList = xs.map (entryOfKey (tupleKind (mixKind P w))) ∧ (xs.map (·.1)).Nodup
  | .set S n => h.SetOf (intKind P w) a S n
  | .ins C dx fs => H dx = some (.own a) ∧ fs.length ≤ 1000 ∧ dx ≠ a ∧ h.get? a = some (PySem.W.instObj C dx) ∧
      ∃ mA, h.Ns1 dx mA ∧ (∀ f, RelO (fs.lookup f) (mA f)) ∧ PySem.Within mA (fs.map (·.1))
  | .own _ => ∃ o, h.get? a = some o
  | .xd fs => ∃ mA, h.Ns1 a mA ∧ ∀ f, RelO (fs.lookup f) (mA f)
  | .rng lo hi => ∃ t u v, h.get? a = some { cls := .type "range", data := .fields #[.int lo t, .int hi u, .int 1 v] }
  | .frz o u => h.get? a = some o ∧ ObjOk H h a u
  | .tbl ps => h.get? a = some { cls := .none, data := .fields ps }
  | .met f x => h.get? a = some (PySem.W.methodObj (.ref f) (.ref x))
  | .ext φ => φ h ∧ (∃ o, h.get? a = some o) ∧ ∀ h1 h2 : Heap, φ h1 → (∀ o, h1.get? a = some o → h2.get? a = some o) → φ h2
/-- the abstract heap is held -/
noncomputable def HOk (H : Hp) (h : Heap) : Prop := ∀ a o, H a = some o → ObjOk P w H h a o
end

section
variable {P : Program} {w : World} {H H' : Hp} {h h' : Heap} {a : Addr} {o : HO}
theorem ObjOk.lt (x : ObjOk P w H h a o) : a < h.objs.size := by
  cases o with
  | lst xs => obtain ⟨_, _, _, _, e⟩ := x; exact Heap.lt_size e
  | tup xs => obtain ⟨_, _, _, p⟩ := x; exact p.lt
  | dK kvs => obtain ⟨_, _, _, _, o, _, _, e, _⟩ := x; exact Heap.lt_size e
  | dT kvs => obtain ⟨_, _, _, _, o, _, _, e, _⟩ := x; exact Heap.lt_size e
  | set S n => obtain ⟨o, _, _, _, e, _⟩ := x; exact Heap.lt_size e
  | ins C dx fs => obtain ⟨_, _, _, e, _⟩ := x; exact Heap.lt_size e
  | own y => obtain ⟨_, e⟩ := x; exact Heap.lt_size e
  | xd fs => obtain ⟨_, ⟨_, _, _, e, _⟩, _⟩ := x; exact Heap.lt_size e
  | rng lo hi => obtain ⟨_, _, _, e⟩ := x; exact Heap.lt_size e
  | frz ob u => obtain ⟨e, _⟩ := x; exact Heap.lt_size e
  | tbl ps => exact Heap.lt_size (show h.get? a = some _ from x)
  | met f y => exact Heap.lt_size (show h.get? a = some _ from x)
  | ext φ => obtain ⟨_, ⟨_, e⟩, _⟩ := x; exact Heap.lt_size e
theorem Paired.mapP {α β : Type} {F G : α → β → Prop} : ∀ {l₁ : List α} {l₂ : List β}, Paired F l₁ l₂ → (∀ a b, F a b → G a b) → Paired G l₁ l₂
  | _, _, .nil, _ => .nil
  | _, _, .cons r t, f => .cons (f _ _ r) (Paired.mapP t f)
/-- what an object's description leans on: its own object, its own dict, the tuples -/
theorem ObjOk.stay (x : ObjOk P w H h a o) (k : ∀ b u, (b = a ∨ H b = some (.own a)) → h.get? b = some u → h'.get? b = some u)
    (ho : ∀ b, H b = some (.own a) → H' b = some (.own a)) (ht : ∀ b xs, H b = some (.tup xs) → H' b = some (.tup xs)) : ObjOk P w H' h' a o := by
  induction o with
  | lst xs => obtain ⟨z, its, n, r, e⟩ := x; exact ⟨z, its, n, r, k _ _ (.inl rfl) e⟩
  | tup xs => obtain ⟨z, its, r, ob, e, c⟩ := x; exact ⟨z, its, r, ob, k _ _ (.inl rfl) e, c⟩
  | dK kvs => obtain ⟨z, y, vs, r, ob, es, ep, e, c⟩ := x; exact ⟨z, y, vs, r, ob, es, ep, k _ _ (.inl rfl) e, c⟩
  | dT kvs =>
    obtain ⟨z, y, xs, r, ob, es, ep, e, c⟩ := x
    exact ⟨z, y, xs, Paired.mapP r fun p q z => ⟨z.1, ht _ _ z.2.1, z.2.2⟩, ob, es, ep, k _ _ (.inl rfl) e, c⟩
  | set S n => obtain ⟨ob, es, ep, t, e, c⟩ := x; exact ⟨ob, es, ep, t, k _ _ (.inl rfl) e, c⟩
  | ins C dx fs =>
    obtain ⟨d, z, ne, e, mA, ⟨od, es, ep, e2, c⟩, r⟩ := x
    exact ⟨ho _ d, z, ne, k _ _ (.inl rfl) e, mA, ⟨od, es, ep, k _ _ (.inr d) e2, c⟩, r⟩
  | own y => obtain ⟨ob, e⟩ := x; exact ⟨ob, k _ _ (.inl rfl) e⟩
  | xd fs => obtain ⟨mA, ⟨od, es, ep, e, c⟩, r⟩ := x; exact ⟨mA, ⟨od, es, ep, k _ _ (.inl rfl) e, c⟩, r⟩
  | rng lo hi => obtain ⟨t, u, v, e⟩ := x; exact ⟨t, u, v, k _ _ (.inl rfl) e⟩
  | frz ob u ih => obtain ⟨e, q⟩ := x; exact ⟨k _ _ (.inl rfl) e, ih q⟩
  | tbl ps =>
    have e : h.get? a = some { cls := .none, data := .fields ps } := x
    show h'.get? a = some { cls := .none, data := .fields ps }
    exact k a _ (.inl rfl) e
  | met f y =>
    have e : h.get? a = some (PySem.W.methodObj (.ref f) (.ref y)) := x
    show h'.get? a = some (PySem.W.methodObj (.ref f) (.ref y))
    exact k a _ (.inl rfl) e
  | ext φ => obtain ⟨p, ⟨o, e⟩, st⟩ := x; exact ⟨st _ _ p fun o q => k _ _ (.inl rfl) q, ⟨o, k _ _ (.inl rfl) e⟩, st⟩
theorem HOk.lt (x : HOk P w H h) (e : H a = some o) : a < h.objs.size := (x a o e).lt
theorem HOk.fresh (x : HOk P w H h) (e : h.objs.size ≤ a) : H a = none := by
  cases q : H a with
  | none => rfl
  | some u => exact absurd (Nat.lt_of_lt_of_le (x.lt q) e) (Nat.lt_irrefl _)
/-- every object of the heap is kept -/
theorem HOk.kept (x : HOk P w H h) (k : ∀ b u, h.get? b = some u → h'.get? b = some u) : HOk P w H h' := fun a o e =>
  (x a o e).stay (fun b u _ q => k b u q) (fun _ q => q) fun _ _ q => q
/-- a new object is laid and tracked -/
theorem HOk.laid (x : HOk P w H h) (k : ∀ b u, h.get? b = some u → h'.get? b = some u) (hp : h.objs.size ≤ a) (new : ObjOk P w (upd H a o) h' a o) : HOk P w (upd H a o) h' := fun b u e => by
  have hn := x.fresh hp
  by_cases hb : b = a
  · subst hb; rw [upd_same] at e; cases e; exact new
  · rw [upd_ne hb] at e
    exact (x b u e).stay (fun c v _ q => k c v q) (fun c q => by rw [upd_ne (ne_of_none q hn)]; exact q) fun c xs q => by rw [upd_ne (ne_of_none q hn)]; exact q
end

/-- what may be read as u: it is u, or a known u -/
noncomputable def Rd (H : Hp) (a : Addr) (u : HO) : Prop := H a = some u ∨ ∃ o, H a = some (.frz o u)
theorem Rd.ok {P : Program} {w : World} {H : Hp} {h : Heap} {a : Addr} {u : HO} (r : Rd H a u) (x : HOk P w H h) : ObjOk P w H h a u := by
  rcases r with r | ⟨o, r⟩
  · exact x a u r
  · obtain ⟨_, q⟩ := x a _ r
    exact q
/-- what may be written -/
noncomputable def Mut : Option HO → Prop
  | some (.lst _) => True
  | some (.dK _) => True
  | some (.dT _) => True
  | some (.set _ _) => True
  | some (.ins _ _ _) => True
  | some (.ext _) => True
  | _ => False
section
variable {P : Program} {w : World} {H : Hp} {h h' : Heap} {x e : Addr} {o' : HO}
/-- the object at e is changed: x itself, or the dict of the instance x -/
theorem HOk.write (ok : HOk P w H h) (mu : Mut (H x)) (he : e = x ∨ H e = some (.own x)) (k : ∀ b u, b ≠ e → h.get? b = some u → h'.get? b = some u) (heo : ∃ u, h'.get? e = some u)
    (new : ObjOk P w (upd H x o') h' x o') : HOk P w (upd H x o') h' := fun b u q => by
  have nown : ∀ c y, H c = some (.own y) → c ≠ x := fun c y r z => by subst z; rw [r] at mu; exact mu
  have ntup : ∀ c xs, H c = some (.tup xs) → c ≠ x := fun c xs r z => by subst z; rw [r] at mu; exact mu
  by_cases hb : b = x
  · subst hb; rw [upd_same] at q; cases q; exact new
  · rw [upd_ne hb] at q
    by_cases hbe : b = e
    · have q' : H b = some (.own x) := by
        rcases he with z | z
        · exact absurd (hbe.trans z) hb
        · rw [hbe]; exact z
      rw [q] at q'; cases q'
      obtain ⟨v, hv⟩ := heo
      exact ⟨v, by rw [hbe]; exact hv⟩
    · refine (ok b u q).stay (fun c v hc r => k c v ?_ r) (fun c r => by rw [upd_ne (nown c b r)]; exact r) fun c xs r => by rw [upd_ne (ntup c xs r)]; exact r
      rcases hc with rfl | hc
      · exact hbe
      · rintro rfl
        rcases he with z | z
        · exact nown c b hc z
        · rw [hc] at z; cases z; exact hb rfl
end

/-! ### kept unless tracked; of the frames at fs (the callers') the slots may change (an exception that passes writes there); of the records at ex (iterators) nothing is said -/
structure Un (fs ex : List Addr) (H H' : Hp) (h h' : Heap) : Prop where
  keep : ∀ b o, h.get? b = some o → H b = none → b ∉ fs → b ∉ ex → h'.get? b = some o
  slot : ∀ b o, h.get? b = some o → H b = none → b ∈ fs → b ∉ ex → ∃ sl, h'.get? b = some { o with slots := sl }
  free : ∀ b o, h.get? b = some o → H b = none → b ∉ ex → H' b = none
  there : ∀ b o, h.get? b = some o → b ∉ ex → ∃ o', h'.get? b = some o'
  tups : ∀ b xs, H b = some (.tup xs) → H' b = some (.tup xs)
  frzs : ∀ b o u, H b = some (.frz o u) → H' b = some (.frz o u)
  tbls : ∀ b ps, H b = some (.tbl ps) → ∃ more, H' b = some (.tbl (ps ++ more))
section
variable {fs fs' ex ex' : List Addr} {H H1 H2 : Hp} {h h1 h2 h' : Heap} {a x e : Addr} {o : HO}
theorem Un.any (u : Un fs ex H H1 h h1) {b : Addr} {ob : Obj} (q : h.get? b = some ob) (n : H b = none) (hx : b ∉ ex) : ∃ sl, h1.get? b = some { ob with slots := sl } := by
  by_cases hb : b ∈ fs
  · exact u.slot b ob q n hb hx
  · exact ⟨ob.slots, u.keep b ob q n hb hx⟩
theorem Un.kept (k : ∀ b u, h.get? b = some u → h'.get? b = some u) : Un fs ex H H h h' :=
  ⟨fun b ob q _ _ _ => k b ob q, fun b ob q _ _ _ => ⟨ob.slots, k b ob q⟩, fun _ _ _ n _ => n, fun b ob q _ => ⟨ob, k b ob q⟩, fun _ _ q => q, fun _ _ _ q => q, fun _ ps q => ⟨#[], by rw [q]; simp⟩⟩
theorem Un.refl : Un fs ex H H h h := Un.kept fun _ _ q => q
theorem Un.laid (k : ∀ b u, h.get? b = some u → h'.get? b = some u) (hp : h.objs.size ≤ a) (hn : H a = none) : Un fs ex H (upd H a o) h h' where
  keep := fun b u q _ _ _ => k b u q
  slot := fun b u q _ _ _ => ⟨u.slots, k b u q⟩
  free := fun b u q n _ => by rw [upd_ne (Nat.ne_of_lt (Nat.lt_of_lt_of_le (Heap.lt_size q) hp))]; exact n
  there := fun b u q _ => ⟨u, k b u q⟩
  tups := fun b xs q => by rw [upd_ne (ne_of_none q hn)]; exact q
  frzs := fun b u xs q => by rw [upd_ne (ne_of_none q hn)]; exact q
  tbls := fun b ps q => ⟨#[], by rw [upd_ne (ne_of_none q hn), q]; simp⟩
theorem Un.write (mu : Mut (H x)) (he : e = x ∨ H e = some (.own x)) (k : ∀ b u, b ≠ e → h.get? b = some u → h'.get? b = some u) (heo : ∃ u, h'.get? e = some u) : Un fs ex H (upd H x o) h h' := by
  have hx : ∀ b, H b = none → b ≠ x := fun b n z => by subst z; rw [n] at mu; exact mu
  have hb : ∀ b, H b = none → b ≠ e := fun b n z => by
    subst z
    rcases he with r | r
    · exact hx b n r
    · rw [n] at r; cases r
  have hm : ∀ b u, H b = some u → ¬ Mut (some u) → b ≠ x := fun b u q nm z => by subst z; rw [q] at mu; exact nm mu
  refine ⟨fun b u q n _ _ => k b u (hb b n) q, fun b u q n _ _ => ⟨u.slots, k b u (hb b n) q⟩, fun b u q n _ => by rw [upd_ne (hx b n)]; exact n, fun b u q _ => ?_,
    fun b xs q => by rw [upd_ne (hm b _ q fun z => z)]; exact q, fun b u xs q => by rw [upd_ne (hm b _ q fun z => z)]; exact q, fun b ps q => ⟨#[], by rw [upd_ne (hm b _ q fun z => z), q]; simp⟩⟩
  by_cases hbe : b = e
  · subst hbe; exact heo
  · exact ⟨u, k b u hbe q⟩
end

/-! ### the heap without what is tracked -/
noncomputable def trk (h : Heap) (H : Hp) : List Addr := (List.range h.objs.size).filter fun a => (H a).isSome
noncomputable def hidT (h : Heap) (H : Hp) : Heap := PySem.W.hideAll h (trk h H)
theorem hidT_size (h : Heap) (H : Hp) : (hidT h H).objs.size = h.objs.size := PySem.W.hideAll_size _ _
theorem hidT_get {h : Heap} {H : Hp} {b : Addr} {o : Obj} (e : h.get? b = some o) (n : H b = none) : (hidT h H).get? b = some o :=
  PySem.W.hideAll_get _ e fun hm => by
    have q : (H b).isSome = true := (List.mem_filter.mp hm).2
    rw [n] at q; simp at q
theorem of_hidT {h : Heap} {H : Hp} {b : Addr} {o : Obj} (e : (hidT h H).get? b = some o) : h.get? b = some o ∧ H b = none := by
  have e' : h.get? b = some o := PySem.W.of_hideAll (trk h H) e
  refine ⟨e', ?_⟩
  cases q : H b with
  | none => rfl
  | some x =>
    have hm : b ∈ trk h H := List.mem_filter.mpr ⟨List.mem_range.mpr (Heap.lt_size e'), by simp [q]⟩
    have z : (hidT h H).get? b = none := PySem.W.hideAll_none (trk h H) hm
    rw [z] at e; cases e

/-! ### OpenK's ledger, filled with every new object but one -/
noncomputable def allNews (g h : Heap) (L : Addr) : List (Addr × Obj) := (List.range h.objs.size).filterMap fun a => if a = L ∨ (g.get? a).isSome = true then none else (h.get? a).map fun o => (a, o)
noncomputable def rest (g h : Heap) (L d : Addr) : List (Addr × Obj) := (allNews g h L).filter fun p => decide (p.1 ≠ d)
end L2

namespace L2
open PySem PySem.Spec PyProof.Rows

/-- the module's facts, over the base: the heap at the law's entry without what is tracked there -/
structure Mod (K : PySem.W.Frag) (mg : Str → Option Value) (base : Heap) : Prop where
  kin : K.In base
  glob : base.Ns mainGlobals mg
  blt : ∃ mb, base.Ns builtinsNs mb ∧ ∀ x : Str, x ≠ "__name__" → mb x = bootBuiltins x
  nolimit : base.NoLimit

/-- the context: a def's body (or a comprehension's block) running. base: fixed through the whole law; s₀, H₀: the entry; outer: the frames whose slots others may change (a def's callers); stack: all frames that run;
   ex: iterators that were made ahead of the entry and are walked here (a comprehension's); fn: the names whose cells were made at the entry (a def: all; a comprehension's block: its own); calm: not within an except suite; pn: pins that every state bears; xe: what is wanted of an exception that leaves the code -/
structure Cx where
  prog : Program
  w : World
  K : PySem.W.Frag
  mg : Str → Option Value
  base : Heap
  A : Around
  N : List Str
  s₀ : Shared
  H₀ : Hp
  env : Env
  outer : List Env
  stack : List Env
  ex : List Addr
  fn : Str → Bool
  calm : Bool
  pn : List (Addr × Obj)
  xe : Value → Shared → Prop
/-- the callers' frames -/
noncomputable def frs (l : List Env) : List Addr := l.filterMap (·.frame)
noncomputable abbrev Cx.fs (X : Cx) : List Addr := frs X.outer

noncomputable def Vis (sc : Scope) (x : Str) : Prop := sc.names.lookup x = some .local ∨ sc.names.lookup x = some .cell ∨ sc.names.lookup x = some .free
noncomputable def Loc (sc : Scope) (x : Str) : Prop := sc.names.lookup x = some .local ∨ sc.names.lookup x = some .cell
noncomputable def Look (env : Env) (h : Heap) (m : Str → Option Value) (x : Str) (u : Value) : Prop :=
  (env.kindOf x = some .local ∧ m x = some u) ∨ ((env.kindOf x = some .cell ∨ env.kindOf x = some .free) ∧ ∃ c, env.cells.lookup x = some c ∧ h.IsCell c (some u))

structure Cx.Ok (X : Cx) : Prop where
  mod : Mod X.K X.mg X.base
  kind : X.env.scope.kind = .function
  glob : X.env.globals = mainGlobals
  blt : X.env.builtins = builtinsNs
  above : X.s₀.heap.objs.size ≤ X.env.locals
  inj : ∀ x y c, X.env.cells.lookup x = some c → X.env.cells.lookup y = some c → x = y
  has : ∀ x, (X.env.kindOf x = some .cell ∨ X.env.kindOf x = some .free) → ∃ c, X.env.cells.lookup x = some c
  cab : ∀ x c, X.fn x = true → X.env.cells.lookup x = some c → X.s₀.heap.objs.size ≤ c
  hd : X.calm = true → X.A.handled = none
  frames : X.A.frames = some X.stack
  stk : X.stack = X.outer ∨ (X.stack = X.env :: X.outer ∧ X.env.frame = some X.env.locals)
  exf : ∀ b ∈ X.ex, b ≠ X.env.locals ∧ ∀ x c, X.env.cells.lookup x = some c → c ≠ b
  bs : ∀ b o, X.base.get? b = some o → X.s₀.heap.get? b = some o ∧ X.H₀ b = none
  bsz : X.base.objs.size ≤ X.s₀.heap.objs.size
  noex : ∀ b o, X.base.get? b = some o → b ∉ X.ex
  exfs : ∀ b ∈ X.ex, b ∉ X.fs
  funs : X.s₀.heap.FunFrames X.base X.outer
  frf : ∀ b ∈ X.fs, X.H₀ b = none

structure Inv (X : Cx) (pins : List (Addr × Obj)) (σ : List (Option V)) (H : Hp) (s : Shared) : Prop where
  ok : X.Ok
  os : s.os = X.s₀.os
  bare : AllBare s.gens
  base : Un X.fs X.ex X.H₀ H X.s₀.heap s.heap
  loc : ∃ m, s.heap.Ns X.env.locals m ∧ ∀ (i : Nat) (x : Str) (v : V), X.N[i]? = some x → σ[i]? = some (some v) → Vis X.env.scope x → ∃ u, RelV v u ∧ Look X.env s.heap m x u
  cell : ∀ x c, X.env.cells.lookup x = some c → ∃ v, s.heap.IsCell c v
  free : H X.env.locals = none
  freeC : ∀ x c, X.env.cells.lookup x = some c → H c = none
  pin : ∀ p ∈ X.pn ++ pins, s.heap.get? p.1 = some p.2 ∧ H p.1 = none ∧ p.1 ≠ X.env.locals ∧ p.1 ∉ X.fs ∧ ∀ v, p.2.data ≠ .cell v
  hok : HOk X.prog X.w H s.heap
  len : σ.length = X.N.length

section
variable {X : Cx} {pins : List (Addr × Obj)} {σ : List (Option V)} {H H' : Hp} {s : Shared} {h' : Heap}

theorem Cx.Ok.nofr (ok : X.Ok) {b : Addr} {o : Obj} (e : X.base.get? b = some o) : b ∉ X.fs := fun hb => by
  have := (ok.funs.mem hb).1
  rw [e] at this; cases this
theorem Inv.bs (I : Inv X pins σ H s) : ∀ b o, X.base.get? b = some o → s.heap.get? b = some o ∧ H b = none := fun b o e =>
  ⟨I.base.keep b o (I.ok.bs b o e).1 (I.ok.bs b o e).2 (I.ok.nofr e) (I.ok.noex b o e), I.base.free b o (I.ok.bs b o e).1 (I.ok.bs b o e).2 (I.ok.noex b o e)⟩
theorem Inv.bk (I : Inv X pins σ H s) : ∀ b o, X.base.get? b = some o → s.heap.get? b = some o := fun b o e => (I.bs b o e).1
theorem Inv.mod (I : Inv X pins σ H s) : Mod X.K X.mg X.base := I.ok.mod
theorem Inv.kIn (I : Inv X pins σ H s) : X.K.In s.heap := I.ok.mod.kin.keeps I.bk
theorem Inv.lt (I : Inv X pins σ H s) : X.env.locals < s.heap.objs.size := let ⟨_, hn, _⟩ := I.loc; hn.lt
theorem Inv.sz (I : Inv X pins σ H s) : X.s₀.heap.objs.size ≤ s.heap.objs.size := Nat.le_trans I.ok.above (Nat.le_of_lt I.lt)
theorem Inv.nofs (I : Inv X pins σ H s) {a : Addr} (h : s.heap.objs.size ≤ a) : a ∉ X.fs := fun hb => by
  obtain ⟨_, o, ho, _⟩ := I.ok.funs.mem hb
  exact absurd (Nat.lt_of_lt_of_le (Heap.lt_size ho) (Nat.le_trans I.sz h)) (Nat.lt_irrefl _)
theorem Inv.cne (I : Inv X pins σ H s) : ∀ x c, X.env.cells.lookup x = some c → c ≠ X.env.locals := fun x c e z => by
  obtain ⟨v, o, ho, hd⟩ := I.cell x c e
  obtain ⟨m, ⟨o', es, ep, ho', hd', _⟩, _⟩ := I.loc
  rw [z, ho'] at ho; cases ho; rw [hd'] at hd; cases hd
theorem Inv.funs (I : Inv X pins σ H s) : s.heap.FunFrames X.base X.outer := by
  have all : ∀ (l : List Env), (∀ b ∈ frs l, b ∈ X.fs) → X.s₀.heap.FunFrames X.base l → s.heap.FunFrames X.base l := by
    intro l
    induction l with
    | nil => intro _ _; trivial
    | cons env r ih =>
      intro hs hl
      obtain ⟨hk, ⟨L, o, hf, hn, ho, hd⟩, hr⟩ := hl
      have hL : L ∈ X.fs := hs L (by unfold frs; rw [List.filterMap_cons, hf]; exact List.mem_cons_self)
      obtain ⟨sl, e⟩ := I.base.slot L o ho (I.ok.frf L hL) hL fun z => I.ok.exfs L z hL
      exact ⟨hk, ⟨L, _, hf, hn, e, hd⟩, ih (fun b hb => hs b (by unfold frs; rw [List.filterMap_cons, hf]; exact List.mem_cons_of_mem _ hb)) hr⟩
  exact all X.outer (fun _ hb => hb) I.ok.funs

/-- the frames that run, for a call -/
theorem Inv.stack (I : Inv X pins σ H s) : s.heap.FunFrames X.base X.stack := by
  rcases I.ok.stk with e | ⟨e, hf⟩
  · rw [e]; exact I.funs
  · rw [e]
    obtain ⟨m, hn, _⟩ := I.loc
    refine .cons (by rw [I.ok.kind]; decide) hf hn ?_ I.funs
    exact Heap.get?_none_of_le (Nat.le_trans I.ok.bsz I.ok.above)
theorem Inv.stkSub (I : Inv X pins σ H s) : ∀ b ∈ frs X.stack, b ∈ X.env.locals :: X.fs := fun b hb => by
  rcases I.ok.stk with e | ⟨e, hf⟩
  · rw [e] at hb; exact List.mem_cons_of_mem _ hb
  · rw [e] at hb
    unfold frs at hb
    rw [List.filterMap_cons, hf] at hb
    exact hb
theorem Inv.stkFree (I : Inv X pins σ H s) : ∀ b ∈ frs X.stack, H b = none := fun b hb => by
  rcases List.mem_cons.mp (I.stkSub b hb) with e | hb
  · rw [e]; exact I.free
  · obtain ⟨_, o, ho, _⟩ := I.ok.funs.mem hb
    exact I.base.free b o ho (I.ok.frf b hb) fun z => I.ok.exfs b z hb

/-- THE STEP: the untracked objects but the frame and the records at ch are kept (the callers' frames up to slots), the frame's map is kept, the new abstract heap is held -/
theorem Inv.step {g' : Array GenState} {t' : Nat} {d' : Drawn} {ch : List Addr} (I : Inv X pins σ H s)
    (hch : ∀ b ∈ ch, (b ∈ X.ex ∨ X.s₀.heap.objs.size ≤ b) ∧ b ≠ X.env.locals ∧ (∀ x c, X.env.cells.lookup x = some c → c ≠ b) ∧ ∀ p ∈ X.pn ++ pins, p.1 ≠ b)
    (keep : ∀ b o, b ≠ X.env.locals → b ∉ X.fs → b ∉ ch → s.heap.get? b = some o → H b = none → h'.get? b = some o)
    (slot : ∀ b o, b ≠ X.env.locals → b ∈ X.fs → b ∉ ch → s.heap.get? b = some o → H b = none → ∃ sl, h'.get? b = some { o with slots := sl }) (free : ∀ b o, b ∉ ch → s.heap.get? b = some o → H b = none → H' b = none)
    (there : ∀ b o, b ∉ ch → s.heap.get? b = some o → ∃ o', h'.get? b = some o')
    (tups : ∀ b xs, H b = some (.tup xs) → H' b = some (.tup xs)) (frzs : ∀ b o u, H b = some (.frz o u) → H' b = some (.frz o u)) (tbls : ∀ b ps, H b = some (.tbl ps) → ∃ more, H' b = some (.tbl (ps ++ more)))
    (ns : ∀ m, s.heap.Ns X.env.locals m → h'.Ns X.env.locals m) (hok : HOk X.prog X.w H' h') (hg : AllBare g') :
    Inv X pins σ H' { s with heap := h', gens := g', drawn := d', toks := t' } := by
  have neL : ∀ b o, X.s₀.heap.get? b = some o → b ≠ X.env.locals := fun b o e => Nat.ne_of_lt (Nat.lt_of_lt_of_le (Heap.lt_size e) I.ok.above)
  have neC : ∀ b o, X.s₀.heap.get? b = some o → b ∉ X.ex → b ∉ ch := fun b o e hx hb => by
    rcases (hch b hb).1 with z | z
    · exact hx z
    · exact absurd (Nat.lt_of_lt_of_le (Heap.lt_size e) z) (Nat.lt_irrefl _)
  have cellK : ∀ x c, X.env.cells.lookup x = some c → ∀ v, s.heap.IsCell c v → h'.IsCell c v := fun x c e v ⟨o, ho, hd⟩ => by
    have nch : c ∉ ch := fun z => (hch c z).2.2.1 x c e rfl
    by_cases hc : c ∈ X.fs
    · obtain ⟨sl, q⟩ := slot c o (I.cne x c e) hc nch ho (I.freeC x c e)
      exact ⟨_, q, hd⟩
    · exact ⟨o, keep c o (I.cne x c e) hc nch ho (I.freeC x c e), hd⟩
  refine ⟨I.ok, I.os, hg, ⟨fun b o e n hb hx => ?_, fun b o e n hb hx => ?_, fun b o e n hx => ?_, fun b o e hx => ?_, fun b xs e => tups b xs (I.base.tups b xs e), fun b o xs e => frzs b o xs (I.base.frzs b o xs e), fun b ps e => ?_⟩, ?_, fun x c e => ?_, ?_, fun x c e => ?_, fun p hp => ?_, hok, I.len⟩
  · exact keep b o (neL b o e) hb (neC b o e hx) (I.base.keep b o e n hb hx) (I.base.free b o e n hx)
  · obtain ⟨sl, e1⟩ := I.base.slot b o e n hb hx
    obtain ⟨sl', e2⟩ := slot b _ (neL b o e) hb (neC b o e hx) e1 (I.base.free b o e n hx)
    exact ⟨sl', e2⟩
  · obtain ⟨o', e1⟩ := I.base.there b o e hx
    exact free b o' (neC b o e hx) e1 (I.base.free b o e n hx)
  · obtain ⟨o', e1⟩ := I.base.there b o e hx
    exact there b o' (neC b o e hx) e1
  · obtain ⟨m1, e1⟩ := I.base.tbls b ps e
    obtain ⟨m2, e2⟩ := tbls b _ e1
    exact ⟨m1 ++ m2, by rw [e2, Array.append_assoc]⟩
  · obtain ⟨m, hn, hl⟩ := I.loc
    refine ⟨m, ns m hn, fun i x v e1 e2 e3 => ?_⟩
    obtain ⟨u, r, l⟩ := hl i x v e1 e2 e3
    refine ⟨u, r, ?_⟩
    rcases l with l | ⟨k, c, e, z⟩
    · exact .inl l
    · exact .inr ⟨k, c, e, cellK x c e _ z⟩
  · obtain ⟨v, z⟩ := I.cell x c e
    exact ⟨v, cellK x c e v z⟩
  · obtain ⟨m, ⟨o, _, _, ho, _⟩, _⟩ := I.loc
    exact free _ o (fun z => (hch _ z).2.1 rfl) ho I.free
  · obtain ⟨v, o, ho, hd⟩ := I.cell x c e
    exact free c o (fun z => (hch c z).2.2.1 x c e rfl) ho (I.freeC x c e)
  · obtain ⟨e, n, ne, nf, d⟩ := I.pin p hp
    have nch : p.1 ∉ ch := fun z => (hch p.1 z).2.2.2 p hp rfl
    exact ⟨keep p.1 p.2 ne nf nch e n, free p.1 p.2 nch e n, ne, nf, d⟩
/-- .. where the frame's own object is kept too -/
theorem Inv.un {t' : Nat} (I : Inv X pins σ H s) (u : Un X.fs [] H H' s.heap h') (hok : HOk X.prog X.w H' h') : Inv X pins σ H' { s with heap := h', toks := t' } := by
  obtain ⟨m, ⟨o, es, ep, ho, r⟩, _⟩ := id I.loc
  obtain ⟨sl, hL⟩ := u.any ho I.free (by simp)
  exact I.step (g' := s.gens) (d' := s.drawn) (ch := []) (fun _ z => nomatch z) (fun b o _ hb _ e n => u.keep b o e n hb (by simp)) (fun b o _ hb _ e n => u.slot b o e n hb (by simp)) (fun b o _ e n => u.free b o e n (by simp)) (fun b o _ e => u.there b o e (by simp)) u.tups u.frzs u.tbls (fun m' hm => by
    obtain ⟨o', es', ep', ho', r'⟩ := hm
    rw [ho] at ho'; cases ho'
    exact ⟨_, es', ep', hL, r'⟩) hok I.bare
/-- behind a call (or a comprehension's block): the slots of this frame may have changed too, the records at ch may have turned -/
theorem Inv.call {g' : Array GenState} {t' : Nat} {d' : Drawn} {ch : List Addr} (I : Inv X pins σ H s) (u : Un (frs X.stack) ch H H' s.heap h') (hok : HOk X.prog X.w H' h') (hg : AllBare g')
    (hch : ∀ b ∈ ch, (b ∈ X.ex ∨ X.s₀.heap.objs.size ≤ b) ∧ b ≠ X.env.locals ∧ (∀ x c, X.env.cells.lookup x = some c → c ≠ b) ∧ ∀ p ∈ X.pn ++ pins, p.1 ≠ b) :
    Inv X pins σ H' { s with heap := h', gens := g', drawn := d', toks := t' } := by
  obtain ⟨m, ⟨o, es, ep, ho, r⟩, _⟩ := id I.loc
  obtain ⟨sl, hL⟩ := u.any ho I.free fun z => (hch _ z).2.1 rfl
  exact I.step (ch := ch) hch (fun b o hL hb hc e n => u.keep b o e n (fun z => (List.mem_cons.mp (I.stkSub b z)).elim hL hb) hc) (fun b o _ _ hc e n => u.any e n hc) (fun b o hc e n => u.free b o e n hc) (fun b o hc e => u.there b o e hc) u.tups u.frzs u.tbls (fun m' hm => by
    obtain ⟨o', es', ep', ho', r'⟩ := hm
    rw [ho] at ho'; cases ho'
    exact ⟨_, es', ep', hL, r'⟩) hok hg
/-- an untracked record of ours (an iterator) has turned -/
theorem Inv.turned {t' : Nat} {it : Addr} (I : Inv X pins σ H s) (k : ∀ b o, b ≠ it → s.heap.get? b = some o → h'.get? b = some o) (hn : H it = none) (hL : it ≠ X.env.locals)
    (h1 : it ∈ X.ex ∨ X.s₀.heap.objs.size ≤ it) (h2 : ∀ x c, X.env.cells.lookup x = some c → c ≠ it) (h3 : ∀ p ∈ X.pn ++ pins, p.1 ≠ it) : Inv X pins σ H { s with heap := h', toks := t' } := by
  have nit : ∀ b u, H b = some u → b ≠ it := fun b u e z => by rw [z, hn] at e; cases e
  refine I.step (g' := s.gens) (d' := s.drawn) (ch := [it]) (fun b hb => ?_) (fun b o _ _ hc e _ => k b o (fun z => hc (by simp [z])) e) (fun b o _ _ hc e _ => ⟨o.slots, k b o (fun z => hc (by simp [z])) e⟩) (fun _ _ _ _ n => n)
    (fun b o hc e => ⟨o, k b o (fun z => hc (by simp [z])) e⟩) (fun _ _ e => e) (fun _ _ _ e => e) (fun b ps e => ⟨#[], by rw [e]; simp⟩) (fun m hm => ?_) (fun b u e => ?_) I.bare
  · have e : b = it := by simpa using hb
    subst e
    exact ⟨h1, hL, h2, h3⟩
  · obtain ⟨o, es, ep, ho, r⟩ := hm
    exact ⟨o, es, ep, k _ o (Ne.symm hL) ho, r⟩
  · refine (I.hok b u e).stay (fun c v hc q => k c v ?_ q) (fun _ q => q) fun _ _ q => q
    rcases hc with z | z
    · rw [z]; exact nit b u e
    · exact nit c _ z
theorem Inv.tok (I : Inv X pins σ H s) (t : Nat) : Inv X pins σ H { s with toks := t } := I.un (h' := s.heap) (t' := t) Un.refl I.hok
/-- all objects kept -/
theorem Inv.kept {t' : Nat} (I : Inv X pins σ H s) (k : ∀ b u, s.heap.get? b = some u → h'.get? b = some u) : Inv X pins σ H { s with heap := h', toks := t' } := I.un (Un.kept k) (I.hok.kept k)
/-- a new object laid and tracked -/
theorem Inv.laid {a : Addr} {o : HO} {t' : Nat} (I : Inv X pins σ H s) (k : ∀ b u, s.heap.get? b = some u → h'.get? b = some u) (hp : s.heap.objs.size ≤ a) (new : ObjOk X.prog X.w (upd H a o) h' a o) :
    Inv X pins σ (upd H a o) { s with heap := h', toks := t' } := I.un (Un.laid k hp (I.hok.fresh hp)) (I.hok.laid k hp new)
/-- an object written -/
theorem Inv.write {x e : Addr} {o : HO} {t' : Nat} (I : Inv X pins σ H s) (mu : Mut (H x)) (he : e = x ∨ H e = some (.own x)) (k : ∀ b u, b ≠ e → s.heap.get? b = some u → h'.get? b = some u) (heo : ∃ u, h'.get? e = some u)
    (new : ObjOk X.prog X.w (upd H x o) h' x o) : Inv X pins σ (upd H x o) { s with heap := h', toks := t' } := I.un (Un.write mu he k heo) (I.hok.write mu he k heo new)
theorem Inv.pins_of {pins' : List (Addr × Obj)} (I : Inv X pins σ H s) (h : ∀ p ∈ pins', s.heap.get? p.1 = some p.2 ∧ H p.1 = none ∧ p.1 ≠ X.env.locals ∧ p.1 ∉ X.fs ∧ ∀ v, p.2.data ≠ .cell v) : Inv X pins' σ H s :=
  ⟨I.ok, I.os, I.bare, I.base, I.loc, I.cell, I.free, I.freeC, fun p hp => (List.mem_append.mp hp).elim (fun z => I.pin p (List.mem_append_left _ z)) (h p), I.hok, I.len⟩

theorem nodup_ix {N : List Str} (hN : N.Nodup) {i j : Nat} {x : Str} (a : N[i]? = some x) (b : N[j]? = some x) : i = j := by
  obtain ⟨h1, e1⟩ := List.getElem?_eq_some_iff.mp a
  obtain ⟨h2, e2⟩ := List.getElem?_eq_some_iff.mp b
  exact (List.getElem_inj hN).mp (e1.trans e2.symm)

/-- a name is stored; what changed -/
theorem store_ok2 {M : Model} {A : Around} {E : Value → Shared → Prop} {i : Nat} {x : Str} {v : V} {u : Value} {Q : Unit → Shared → Prop} (I : Inv X pins σ H s) (hN : X.N.Nodup) (hi : X.N[i]? = some x) (hx : Loc X.env.scope x) (r : RelV v u)
    (h : ∀ s', Inv X pins (σ.set i (some v)) H s' → (∃ a, Heap.SameBut a s.heap s'.heap ∧ (a = X.env.locals ∨ X.env.cells.lookup x = some a)) → Q () s') (hf : X.fn x = true ∨ X.env.scope.names.lookup x = some .local := by first | exact .inl rfl | exact .inr rfl | assumption) : wpAny M A (storeName X.env x u) Q E s := by
  obtain ⟨m, hn, hl⟩ := id I.loc
  have hcls : (X.env.scope.kind == .class || (X.env.scope.kind == .module && X.env.locals != X.env.globals)) = false := by rw [I.ok.kind]; rfl
  have hiσ : i < σ.length := by rw [I.len]; exact (List.getElem?_eq_some_iff.mp hi).1
  have cne := I.cne
  have tracked : ∀ {a : Addr} {h' : Heap}, (∃ o, s.heap.get? a = some o ∧ H a = none) → Heap.SameBut a s.heap h' → HOk X.prog X.w H h' := fun {a h'} ha hs b ob e => by
    obtain ⟨_, _, hfree⟩ := ha
    refine (I.hok b ob e).stay (fun c w' hc q => (hs.2 c ?_).trans q) (fun _ q => q) fun _ _ q => q
    rintro rfl
    rcases hc with rfl | hc
    · rw [hfree] at e; cases e
    · rw [hfree] at hc; cases hc
  rcases hx with hk | hk
  · refine wpAny_storeName_local hk hn (fun h' hn' hs => ?_) hcls
    obtain ⟨oL, _, _, hoL, _⟩ := id hn
    refine h _ ⟨I.ok, I.os, I.bare, ⟨fun b o e n hb hx => ?_, fun b o e n hb hx => ?_, I.base.free, fun b o e hx => ?_, I.base.tups, I.base.frzs, I.base.tbls⟩, ⟨_, hn', fun j y v' e1 e2 e3 => ?_⟩, fun y c e => ?_, I.free, I.freeC, fun p hp => ?_, tracked ⟨oL, hoL, I.free⟩ hs, by simpa using I.len⟩ ⟨_, hs, .inl rfl⟩
    · exact (hs.2 b (Nat.ne_of_lt (Nat.lt_of_lt_of_le (Heap.lt_size e) I.ok.above))).trans (I.base.keep b o e n hb hx)
    · obtain ⟨sl, e1⟩ := I.base.slot b o e n hb hx
      exact ⟨sl, (hs.2 b (Nat.ne_of_lt (Nat.lt_of_lt_of_le (Heap.lt_size e) I.ok.above))).trans e1⟩
    · obtain ⟨o', e1⟩ := I.base.there b o e hx
      exact ⟨o', (hs.2 b (Nat.ne_of_lt (Nat.lt_of_lt_of_le (Heap.lt_size e) I.ok.above))).trans e1⟩
    · by_cases hj : j = i
      · subst hj
        rw [hi] at e1; cases e1
        rw [List.getElem?_set_self hiσ] at e2
        cases e2
        exact ⟨u, r, .inl ⟨hk, by simp⟩⟩
      · rw [List.getElem?_set_ne (Ne.symm hj)] at e2
        obtain ⟨u', r', q⟩ := hl j y v' e1 e2 e3
        refine ⟨u', r', ?_⟩
        rcases q with ⟨k, e⟩ | ⟨k, c, e, z⟩
        · refine .inl ⟨k, ?_⟩
          have : y ≠ x := fun e => hj (nodup_ix hN e1 (e ▸ hi))
          simp [this, e]
        · exact .inr ⟨k, c, e, z.sameBut hs (cne y c e)⟩
    · obtain ⟨w', z⟩ := I.cell y c e
      exact ⟨w', z.sameBut hs (cne y c e)⟩
    · obtain ⟨e, n, ne, nf, d⟩ := I.pin p hp
      exact ⟨(hs.2 p.1 ne).trans e, n, ne, nf, d⟩
  · have hfn : X.fn x = true := by
      rcases hf with z | z
      · exact z
      · rw [z] at hk; cases hk
    obtain ⟨c, hc⟩ := I.ok.has x (.inl hk)
    obtain ⟨w', z⟩ := I.cell x c hc
    refine wpAny_storeName_cell I.ok.kind hk hc z (fun h' hc' hs => ?_)
    obtain ⟨oc, hoc, hocd⟩ := id z
    refine h { s with heap := h' } ⟨I.ok, I.os, I.bare, ⟨fun b o e n hb hx => ?_, fun b o e n hb hx => ?_, I.base.free, fun b o e hx => ?_, I.base.tups, I.base.frzs, I.base.tbls⟩, ⟨m, hn.sameBut hs (Ne.symm (cne x c hc)), fun j y v' e1 e2 e3 => ?_⟩, fun y c' e => ?_, I.free, I.freeC, fun p hp => ?_, tracked ⟨oc, hoc, I.freeC x c hc⟩ hs, by simpa using I.len⟩ ⟨c, hs, .inr hc⟩
    · exact (hs.2 b (Nat.ne_of_lt (Nat.lt_of_lt_of_le (Heap.lt_size e) (I.ok.cab x c hfn hc)))).trans (I.base.keep b o e n hb hx)
    · obtain ⟨sl, e1⟩ := I.base.slot b o e n hb hx
      exact ⟨sl, (hs.2 b (Nat.ne_of_lt (Nat.lt_of_lt_of_le (Heap.lt_size e) (I.ok.cab x c hfn hc)))).trans e1⟩
    · obtain ⟨o', e1⟩ := I.base.there b o e hx
      exact ⟨o', (hs.2 b (Nat.ne_of_lt (Nat.lt_of_lt_of_le (Heap.lt_size e) (I.ok.cab x c hfn hc)))).trans e1⟩
    · by_cases hj : j = i
      · subst hj
        rw [hi] at e1; cases e1
        rw [List.getElem?_set_self hiσ] at e2
        cases e2
        exact ⟨u, r, .inr ⟨.inl hk, c, hc, hc'⟩⟩
      · rw [List.getElem?_set_ne (Ne.symm hj)] at e2
        obtain ⟨u', r', q⟩ := hl j y v' e1 e2 e3
        refine ⟨u', r', ?_⟩
        rcases q with q | ⟨k, c', e, z'⟩
        · exact .inl q
        · refine .inr ⟨k, c', e, z'.sameBut hs ?_⟩
          rintro rfl
          exact hj (nodup_ix hN e1 (I.ok.inj _ _ _ e hc ▸ hi))
    · by_cases hcc : c' = c
      · subst hcc; exact ⟨_, hc'⟩
      · obtain ⟨w2, z2⟩ := I.cell y c' e
        exact ⟨w2, z2.sameBut hs hcc⟩
    · obtain ⟨e, n, ne, nf, d⟩ := I.pin p hp
      refine ⟨(hs.2 p.1 ?_).trans e, n, ne, nf, d⟩
      intro q
      rw [q, hoc] at e
      have q' : oc = p.2 := Option.some.inj e
      exact d w' (by rw [← q']; exact hocd)
theorem store_ok {M : Model} {A : Around} {E : Value → Shared → Prop} {i : Nat} {x : Str} {v : V} {u : Value} {Q : Unit → Shared → Prop} (I : Inv X pins σ H s) (hN : X.N.Nodup) (hi : X.N[i]? = some x) (hx : Loc X.env.scope x) (r : RelV v u)
    (h : ∀ s', Inv X pins (σ.set i (some v)) H s' → Q () s') (hf : X.fn x = true ∨ X.env.scope.names.lookup x = some .local := by first | exact .inl rfl | exact .inr rfl | assumption) : wpAny M A (storeName X.env x u) Q E s :=
  store_ok2 I hN hi hx r (fun s' I' _ => h s' I') hf
/-- behind a call or a block, the state as it is -/
theorem Inv.call' {s' : Shared} {ch : List Addr} (I : Inv X pins σ H s) (ho : s'.os = s.os) (u : Un (frs X.stack) ch H H' s.heap s'.heap) (hok : HOk X.prog X.w H' s'.heap) (hg : AllBare s'.gens)
    (hch : ∀ b ∈ ch, (b ∈ X.ex ∨ X.s₀.heap.objs.size ≤ b) ∧ b ≠ X.env.locals ∧ (∀ x c, X.env.cells.lookup x = some c → c ≠ b) ∧ ∀ p ∈ X.pn ++ pins, p.1 ≠ b) : Inv X pins σ H' s' := by
  obtain ⟨h', g', d', t', o'⟩ := s'
  have e : o' = s.os := ho
  subst e
  exact I.call (g' := g') (t' := t') (d' := d') u hok hg hch
end

/-! ### the judgements -/
/-- an exception: its class, its own dict's address (where it has one), the abstract heap behind it -/
noncomputable abbrev XK := Value → Option Addr → Hp → Prop
noncomputable abbrev St := List (Option V)
noncomputable abbrev VK := V → Hp → Prop
/-- an expression's reading; a test's; an argument list's -/
noncomputable abbrev TE := St → Hp → VK → Prop
noncomputable abbrev TT := St → Hp → (Bool → Hp → Prop) → Prop
noncomputable abbrev TA := St → Hp → (List V → Hp → Prop) → Prop
/-- what is wanted behind a statement -/
structure Ends where
  nx : St → Hp → Prop
  rt : VK
  bk : St → Hp → Prop := fun _ _ => False
  ct : St → Hp → Prop := fun _ _ => False
noncomputable abbrev TS := Ends → St → Hp → Prop

noncomputable def EP (X : Cx) (pins : List (Addr × Obj)) (σ : St) (Q : VK) (u : Value) (s' : Shared) : Prop := ∃ v H', Inv X pins σ H' s' ∧ RelV v u ∧ Q v H'
noncomputable def TP (X : Cx) (pins : List (Addr × Obj)) (σ : St) (Q : Bool → Hp → Prop) (b : Bool) (s' : Shared) : Prop := ∃ H', Inv X pins σ H' s' ∧ Q b H'
noncomputable def AP (X : Cx) (pins : List (Addr × Obj)) (σ : St) (Q : List V → Hp → Prop) (us : List Value) (s' : Shared) : Prop := ∃ vs H', Inv X pins σ H' s' ∧ Vals vs us ∧ Q vs H'
noncomputable def SP (X : Cx) (pins : List (Addr × Obj)) (D : Ends) (f : Flow) (s' : Shared) : Prop :=
  match f with
  | .next => ∃ σ' H', Inv X pins σ' H' s' ∧ D.nx σ' H'
  | .brk => ∃ σ' H', Inv X pins σ' H' s' ∧ D.bk σ' H'
  | .cont => ∃ σ' H', Inv X pins σ' H' s' ∧ D.ct σ' H'
  | .ret u => ∃ v σ' H', Inv X pins σ' H' s' ∧ RelV v u ∧ D.rt v H'

noncomputable def PE (X : Cx) (e : Expr) (t : TE) : Prop :=
  ∀ (pins : List (Addr × Obj)) (s : Shared) (σ : St) (H : Hp) (Q : VK), Inv X pins σ H s → t σ H Q → wpAny (model X.prog X.w) X.A (eval e X.env) (EP X pins σ Q) X.xe s
noncomputable def PT (X : Cx) (e : Expr) (t : TT) : Prop :=
  ∀ (pins : List (Addr × Obj)) (s : Shared) (σ : St) (H : Hp) (Q : Bool → Hp → Prop), Inv X pins σ H s → t σ H Q → wpAny (model X.prog X.w) X.A (isTrue e X.env (eval e X.env)) (TP X pins σ Q) X.xe s
/-- a test whatever its 'whole' is (and, or) -/
noncomputable def PW (X : Cx) (e : Expr) (t : TT) : Prop :=
  ∀ (whole : Sem Value) (pins : List (Addr × Obj)) (s : Shared) (σ : St) (H : Hp) (Q : Bool → Hp → Prop), Inv X pins σ H s → t σ H Q → wpAny (model X.prog X.w) X.A (isTrue e X.env whole) (TP X pins σ Q) X.xe s
theorem PW.pt {X : Cx} {e : Expr} {t : TT} (h : PW X e t) : PT X e t := h _
/-- an argument list (no star), from the left -/
noncomputable def PA (X : Cx) (es : List Expr) (t : TA) : Prop :=
  ∀ (pos : Pos) (pins : List (Addr × Obj)) (s : Shared) (σ : St) (H : Hp) (Q : List V → Hp → Prop), Inv X pins σ H s → t σ H Q → wpAny (model X.prog X.w) X.A (spliced (backTo pos (starEach es X.env))) (AP X pins σ Q) X.xe s
noncomputable def PS (X : Cx) (st : Stmt) (t : TS) : Prop :=
  ∀ (pins : List (Addr × Obj)) (s : Shared) (σ : St) (H : Hp) (D : Ends), Inv X pins σ H s → t D σ H → wpAny (model X.prog X.w) X.A (exec st X.env) (SP X pins D) X.xe s
noncomputable def PSs (X : Cx) (st : List Stmt) (t : TS) : Prop :=
  ∀ (pins : List (Addr × Obj)) (s : Shared) (σ : St) (H : Hp) (D : Ends), Inv X pins σ H s → t D σ H → wpAny (model X.prog X.w) X.A (execs st X.env) (SP X pins D) X.xe s
/-- weaken the end -/
theorem thn {α : Type} {t : Sem α} {Q Q' : α → Shared → Prop} {M : Model} {A : Around} {E : Value → Shared → Prop} {s : Shared} (h : wpAny M A t Q E s) (hQ : ∀ a s, Q a s → Q' a s) : wpAny M A t Q' E s := wpAny_mono h hQ fun _ _ x => x
end L2

namespace L2
open PySem PySem.Spec PyProof.Rows
section
variable {X : Cx}

/-! ### names and constants -/
noncomputable def tVar (i : Nat) : TE := fun σ H Q => ∃ v, σ[i]? = some (some v) ∧ Q v H
noncomputable def tC (v : V) : TE := fun _ H Q => Q v H
theorem pe_var {i : Nat} {x : Str} {pos : Pos} (hN : X.N[i]? = some x) (hv : Vis X.env.scope x) (hd : (x == ("__debug__" : Str)) = false := by decide) (hcd : (x == ("__classdict__" : Str)) = false := by decide) : PE X (.Name x pos) (tVar i) := by
  intro pins s σ H Q I h
  obtain ⟨v, e, h⟩ := h
  obtain ⟨m, hn, hl⟩ := I.loc
  obtain ⟨u, r, l⟩ := hl i x v hN e hv
  have fin : EP X pins σ Q u s := ⟨v, H, I, r, h⟩
  rcases l with ⟨hk, hm⟩ | ⟨hk, c, hc, hcell⟩
  · exact wpAny_Name (wpAny_loadName_local I.ok.kind hk hn hm fin) hd
  · rcases hk with hk | hk
    · exact wpAny_Name (wpAny_loadName_cell I.ok.kind hk hc hcell fin) hd
    · exact wpAny_Name (wpAny_loadName_free I.ok.kind hk hc hcell fin hcd) hd
theorem pe_int {i j pos} : PE X (.Constant (.int i) j pos) (tC (.int i)) := fun _ _ _ H _ I h => wpAny_Constant_int ⟨.int i, H, I.tok _, ⟨_, rfl⟩, h⟩
theorem pe_bl {b j pos} : PE X (.Constant (.bool b) j pos) (tC (.bl b)) := fun _ _ _ H _ I h => Constant_bool ⟨.bl b, H, I, rfl, h⟩
theorem pe_non {j pos} : PE X (.Constant .none j pos) (tC .non) := fun _ _ _ H _ I h => Constant_none ⟨.non, H, I, rfl, h⟩
theorem pe_str {x j pos} : PE X (.Constant (.str x) j pos) (tC (.str x)) := fun _ _ _ H _ I h => Calls.Constant_str ⟨.str x, H, I.tok _, ⟨_, rfl⟩, h⟩

/-- a global name of the def -/
noncomputable def Gl (X : Cx) (x : Str) : Prop := X.env.kindOf x = some .globalImplicit
theorem ld_glob {E : Value → Shared → Prop} {pins : List (Addr × Obj)} {s : Shared} {σ : St} {H : Hp} {x : Str} {u : Value} {pos : Pos} {Q : Value → Shared → Prop} (I : Inv X pins σ H s) (hg : Gl X x) (hm : X.mg x = some u) (h : Q u s)
    (hd : (x == ("__debug__" : Str)) = false := by decide) : wpAny (model X.prog X.w) X.A (eval (.Name x pos) X.env) Q E s :=
  Calls.Name_function_global I.ok.kind hg (Calls.loadGlobal_global (by rw [I.ok.glob]; exact I.mod.glob.keeps I.bk) hm h) hd
theorem ld_blt {E : Value → Shared → Prop} {pins : List (Addr × Obj)} {s : Shared} {σ : St} {H : Hp} {x : Str} {u : Value} {pos : Pos} {Q : Value → Shared → Prop} (I : Inv X pins σ H s) (hg : Gl X x) (hm : X.mg x = none) (hv : bootBuiltins x = some u) (h : Q u s)
    (hn : x ≠ "__name__" := by decide) (hd : (x == ("__debug__" : Str)) = false := by decide) : wpAny (model X.prog X.w) X.A (eval (.Name x pos) X.env) Q E s := by
  obtain ⟨mb, h1, h2⟩ := I.mod.blt
  exact Calls.Name_function_global I.ok.kind hg (Calls.loadGlobal_builtin (by rw [I.ok.glob]; exact I.mod.glob.keeps I.bk) hm (by rw [I.ok.blt]; exact h1.keeps I.bk) ((h2 x hn).trans hv) h) hd
/-- a module's constant, a class, a function, as a value -/
theorem pe_glob {x : Str} {v : V} {u : Value} {pos : Pos} (hg : Gl X x) (hm : X.mg x = some u) (r : RelV v u) (hd : (x == ("__debug__" : Str)) = false := by decide) : PE X (.Name x pos) (tC v) :=
  fun _ _ _ H _ I h => ld_glob I hg hm ⟨v, H, I, r, h⟩ hd
theorem pe_bltn {x : Str} {v : V} {u : Value} {pos : Pos} (hg : Gl X x) (hm : X.mg x = none) (hv : bootBuiltins x = some u) (r : RelV v u) (hn : x ≠ "__name__" := by decide) (hd : (x == ("__debug__" : Str)) = false := by decide) : PE X (.Name x pos) (tC v) :=
  fun _ _ _ H _ I h => ld_blt I hg hm hv ⟨v, H, I, r, h⟩ hn hd

/-! ### arithmetic -/
variable {a b : Expr} {ta tb : TE} {pos : Pos}
/-! ### comparisons -/
/-- a comparison as a value, as a test -/
noncomputable def tB (t : TE) : TT := fun σ H Q => t σ H fun x H1 => ∃ c, x = .bl c ∧ Q c H1
/-- an expression whose value is a bool, as a test -/
theorem pt_val {e : Expr} {t : TE} (h : PE X e t) (he : ∀ whole, isTrue e X.env whole = (do let v ← whole; standAt e.pos; holding [v] (truthy v)) := by intro _; rfl) : PT X e (tB t) := by
  intro pins s σ H Q I hw
  refine isTrue_plain (thn (h pins s σ H _ I hw) fun v s1 ⟨x, H1, I1, r1, q1⟩ => ?_) (he _)
  obtain ⟨d, rfl, q⟩ := q1
  cases r1
  exact wpAny_truthy_bool ⟨H1, I1, q⟩

/-! ### and, or, not -/
variable {tA tB' : TT} {rest : List Expr}
noncomputable def tOr (t u : TT) : TT := fun σ H Q => t σ H fun c H1 => if c = true then Q true H1 else u σ H1 Q
noncomputable def tNot (t : TT) : TT := fun σ H Q => t σ H fun c H1 => Q (!c) H1
theorem pw_or1 (ha : PT X a tA) : PW X (.BoolOp .Or [a] pos) tA := by
  intro wh pins s σ H Q I h
  refine isTrue_or (thn (ha pins s σ H Q I h) fun c s1 e => ?_)
  cases c with
  | false => exact isTrue_or_nil e
  | true => exact e
theorem pw_or (ha : PT X a tA) (hb : PW X (.BoolOp .Or (b :: rest) pos) tB') : PW X (.BoolOp .Or (a :: b :: rest) pos) (tOr tA tB') := by
  intro wh pins s σ H Q I h
  refine isTrue_or (thn (ha pins s σ H _ I h) fun c s1 ⟨H1, I1, q1⟩ => ?_)
  cases c with
  | true => exact ⟨H1, I1, q1⟩
  | false => exact hb wh pins s1 σ H1 Q I1 q1
theorem pt_not (ha : PT X a tA) : PT X (.UnaryOp .Not a pos) (tNot tA) := by
  intro pins s σ H Q I h
  exact isTrue_not (ha pins s σ H (fun c H1 => Q (!c) H1) I h)
/-- .. as values (bools) -/
noncomputable def tAndV (ta tb : TE) : TE := fun σ H Q => ta σ H fun x H1 => ∃ c, x = .bl c ∧ if c = true then tb σ H1 Q else Q (.bl false) H1
theorem pe_one {op} {t : TE} (h : PE X a t) : PE X (.BoolOp op [a] pos) t := fun pins s σ H Q I hw => BoolOp_one (h pins s σ H Q I hw)
theorem pe_and (ha : PE X a ta) (hb : PE X (.BoolOp .And (b :: rest) pos) tb) : PE X (.BoolOp .And (a :: b :: rest) pos) (tAndV ta tb) := by
  intro pins s σ H Q I h
  refine BoolOp_and (thn (ha pins s σ H _ I h) fun v s1 ⟨x, H1, I1, r1, q1⟩ => ?_)
  obtain ⟨c, rfl, q1⟩ := q1
  cases r1
  refine wpAny_truthy_bool ?_
  cases c with
  | true => exact hb pins s1 σ H1 Q I1 q1
  | false => exact ⟨.bl false, H1, I1, rfl, q1⟩
end
end L2

namespace L2
open PySem PySem.Spec PyProof.Rows

/-! ### a list, a tuple that is read: tracked, frozen, or an object of the module -/
noncomputable def SqL (K : PySem.W.Frag) (H : Hp) (a : Addr) (xs : List V) : Prop :=
  Rd H a (.lst xs) ∨
    ∃ (o : Obj) (its : Array Value) (n : Nat), K.lookup a = some o ∧ o.cls = .type "list" ∧ o.dict = none ∧ o.data = .seq its n ∧ its.size ≤ sizeLine ∧ Vals xs its.toList
noncomputable def SqT (K : PySem.W.Frag) (H : Hp) (a : Addr) (xs : List V) : Prop :=
  Rd H a (.tup xs) ∨
    ∃ (o : Obj) (its : Array Value) (n : Nat), K.lookup a = some o ∧ o.cls = .type "tuple" ∧ o.data = .seq its n ∧ its.size ≤ sizeLine ∧ Vals xs its.toList
noncomputable def absV : Value → Option V
  | .none => some .non
  | .bool b => some (.bl b)
  | .int i _ => some (.int i)
  | .str x _ => some (.str x)
  | .bytes b _ => some (.byt b)
  | .float b _ => some (.flt b)
  | .ref a => some (.ref a)
  | .type n => some (.ty n)
  | _ => none
theorem RelV.abs {x : V} {u : Value} (r : RelV x u) : absV u = some x := by
  cases x with
  | non => cases r; rfl
  | bl _ => cases r; rfl
  | int _ => obtain ⟨t, rfl⟩ := r; rfl
  | str _ => obtain ⟨t, rfl⟩ := r; rfl
  | byt _ => obtain ⟨t, rfl⟩ := r; rfl
  | flt _ => obtain ⟨t, rfl⟩ := r; rfl
  | ref _ => cases r; rfl
  | ty _ => cases r; rfl
theorem RelV.inj {x y : V} {u : Value} (r : RelV x u) (q : RelV y u) : x = y := Option.some.inj (r.abs.symm.trans q.abs)
theorem Vals.inj : ∀ {xs ys : List V} {us : List Value}, Vals xs us → Vals ys us → xs = ys
  | _, _, _, .nil, .nil => rfl
  | _, _, _, .cons r t, .cons r' t' => by rw [r.inj r', Vals.inj t t']
section
variable {X : Cx} {pins : List (Addr × Obj)} {σ : St} {H : Hp} {s : Shared} {a : Addr} {xs ys : List V}
theorem SqL.of {K : PySem.W.Frag} (h : H a = some (.lst xs)) : SqL K H a xs := .inl (.inl h)
theorem SqT.of {K : PySem.W.Frag} (h : H a = some (.tup xs)) : SqT K H a xs := .inl (.inl h)
theorem Inv.list (I : Inv X pins σ H s) (h : SqL X.K H a xs) : ∃ its : List Value, Vals xs its ∧ PlainL s.heap a its.toArray ∧ xs.length ≤ sizeLine := by
  rcases h with h | ⟨o, its, n, hk, hc, hd, hs, hz, r⟩
  · obtain ⟨z, its, n, r, e⟩ := h.ok I.hok
    exact ⟨its, r, ⟨_, n, e, rfl, rfl, rfl⟩, z⟩
  · refine ⟨its.toList, r, ⟨o, n, I.kIn a o hk, hc, hd, by simpa using hs⟩, ?_⟩
    have e := r.length
    simp only [Array.length_toList] at e
    omega
theorem Inv.tuple (I : Inv X pins σ H s) (h : SqT X.K H a xs) : ∃ its : List Value, Vals xs its ∧ IsTup s.heap a its.toArray ∧ xs.length ≤ sizeLine := by
  rcases h with h | ⟨o, its, n, hk, hc, hs, hz, r⟩
  · obtain ⟨z, its, r, p⟩ := h.ok I.hok
    exact ⟨its, r, p, z⟩
  · refine ⟨its.toList, r, ⟨o, I.kIn a o hk, hc, n, by simpa using hs⟩, ?_⟩
    have e := r.length
    simp only [Array.length_toList] at e
    omega
theorem Inv.list_inj (I : Inv X pins σ H s) (h : SqL X.K H a xs) (h' : SqL X.K H a ys) : xs = ys := by
  obtain ⟨its, r, ⟨o, n, e, _, _, d⟩, _⟩ := I.list h
  obtain ⟨its', r', ⟨o', n', e', _, _, d'⟩, _⟩ := I.list h'
  rw [e] at e'; cases e'
  rw [d] at d'
  injection d' with d1 _
  have : its = its' := by simpa using congrArg Array.toList d1
  subst this
  exact r.inj r'
theorem Inv.tuple_inj (I : Inv X pins σ H s) (h : SqT X.K H a xs) (h' : SqT X.K H a ys) : xs = ys := by
  obtain ⟨its, r, ⟨o, e, _, n, d⟩, _⟩ := I.tuple h
  obtain ⟨its', r', ⟨o', e', _, n', d'⟩, _⟩ := I.tuple h'
  rw [e] at e'; cases e'
  rw [d] at d'
  injection d' with d1 _
  have : its = its' := by simpa using congrArg Array.toList d1
  subst this
  exact r.inj r'
end

/-! ### another wish about exceptions -/
noncomputable abbrev Cx.wish (X : Cx) (E : Value → Shared → Prop) : Cx := { X with xe := E }
/-- no exception leaves -/
noncomputable abbrev Cx.nox (X : Cx) : Cx := X.wish fun _ _ => False
theorem Cx.Ok.wish {X : Cx} (ok : X.Ok) (E : Value → Shared → Prop) : (X.wish E).Ok :=
  ⟨ok.mod, ok.kind, ok.glob, ok.blt, ok.above, ok.inj, ok.has, ok.cab, ok.hd, ok.frames, ok.stk, ok.exf, ok.bs, ok.bsz, ok.noex, ok.exfs, ok.funs, ok.frf⟩
theorem Cx.Ok.unwish {X : Cx} {E : Value → Shared → Prop} (ok : (X.wish E).Ok) : X.Ok :=
  ⟨ok.mod, ok.kind, ok.glob, ok.blt, ok.above, ok.inj, ok.has, ok.cab, ok.hd, ok.frames, ok.stk, ok.exf, ok.bs, ok.bsz, ok.noex, ok.exfs, ok.funs, ok.frf⟩
section
variable {X : Cx} {pins : List (Addr × Obj)} {σ : St} {H : Hp} {s : Shared} {E : Value → Shared → Prop}
theorem Inv.wish (I : Inv X pins σ H s) (E : Value → Shared → Prop) : Inv (X.wish E) pins σ H s := ⟨I.ok.wish E, I.os, I.bare, I.base, I.loc, I.cell, I.free, I.freeC, I.pin, I.hok, I.len⟩
theorem Inv.unwish (I : Inv (X.wish E) pins σ H s) : Inv X pins σ H s := ⟨I.ok.unwish, I.os, I.bare, I.base, I.loc, I.cell, I.free, I.freeC, I.pin, I.hok, I.len⟩
theorem SP.unwish {D : Ends} {f : Flow} {s' : Shared} (h : SP (X.wish E) pins D f s') : SP X pins D f s' := by
  cases f with
  | next => obtain ⟨σ', H', I, q⟩ := h; exact ⟨σ', H', I.unwish, q⟩
  | brk => obtain ⟨σ', H', I, q⟩ := h; exact ⟨σ', H', I.unwish, q⟩
  | cont => obtain ⟨σ', H', I, q⟩ := h; exact ⟨σ', H', I.unwish, q⟩
  | ret u => obtain ⟨v, σ', H', I, r, q⟩ := h; exact ⟨v, σ', H', I.unwish, r, q⟩
theorem PSs.nox {st : List Stmt} {t : TS} (h : PSs X.nox st t) : PSs X st t := fun pins s σ H D I hw =>
  wpAny_mono (h pins s σ H D (I.wish _) hw) (fun _ _ q => q.unwish) fun _ _ z => False.elim z
end

/-! ### blocks and small statements -/
section
variable {X : Cx} {st : Stmt} {rest : List Stmt} {t u : TS} {e : Expr} {te : TE} {pos : Pos}
noncomputable def tNext : TS := fun D σ H => D.nx σ H
noncomputable def tSeq (t u : TS) : TS := fun D σ H => t { D with nx := u D } σ H
theorem pss_nil : PSs X [] tNext := fun _ _ σ H _ I h => wpAny_execs_nil ⟨σ, H, I, h⟩
theorem pss_cons (h1 : PS X st t) (h2 : PSs X rest u) : PSs X (st :: rest) (tSeq t u) := by
  intro pins s σ H D I h
  refine wpAny_execs_cons (thn (h1 pins s σ H { D with nx := u D } I h) fun f s1 q => ?_)
  cases f with
  | next =>
    obtain ⟨σ', H', I', q⟩ := q
    exact h2 pins s1 σ' H' D I' q
  | ret v => exact q
  | brk => exact q
  | cont => exact q
theorem pss_one (h1 : PS X st t) : PSs X [st] t := by
  intro pins s σ H D I h
  refine wpAny_execs_cons (thn (h1 pins s σ H D I h) fun f s1 q => ?_)
  cases f with
  | next => exact wpAny_execs_nil q
  | ret v => exact q
  | brk => exact q
  | cont => exact q
/-- in a def's body nothing is shown -/
theorem Inv.quiet {pins : List (Addr × Obj)} {σ : St} {H : Hp} {s : Shared} (I : Inv X pins σ H s) : interactive X.env = false := by simp [interactive, I.ok.kind]
/-- an expression whose value is dropped -/
noncomputable def tDrop (te : TE) : TS := fun D σ H => te σ H fun _ H1 => D.nx σ H1
theorem ps_expr (he : PE X e te) (hs : swapsWith e none pos.line X.env = pure false := by rfl) : PS X (.Expr e pos) (tDrop te) := by
  intro pins s σ H D I h
  exact wpAny_Expr_any (thn (he pins s σ H _ I h) fun v s1 ⟨x, H1, I1, r1, q1⟩ => ⟨σ, H1, I1, q1⟩) I.quiet hs
noncomputable def tRet (te : TE) : TS := fun D σ H => te σ H D.rt
theorem ps_ret (he : PE X e te) : PS X (.Return (some e) pos) (tRet te) := by
  intro pins s σ H D I h
  exact wpAny_Return_some (thn (he pins s σ H _ I h) fun v s1 ⟨x, H1, I1, r1, q1⟩ => ⟨x, σ, H1, I1, r1, q1⟩)
noncomputable def tIfS (c : TT) (t u : TS) : TS := fun D σ H => c σ H fun b H1 => if b = true then t D σ H1 else u D σ H1
theorem ps_if {c : Expr} {a b : List Stmt} {tc : TT} (hc : PT X c tc) (ha : PSs X a t) (hb : PSs X b u) : PS X (.If c a b pos) (tIfS tc t u) := by
  intro pins s σ H D I h
  refine wpAny_If (thn (hc pins s σ H _ I h) fun d s1 ⟨H1, I1, q1⟩ => ?_)
  cases d with
  | true => exact ha pins s1 σ H1 D I1 q1
  | false => exact hb pins s1 σ H1 D I1 q1
/-- code that the proof never comes to -/
noncomputable def tNever : TS := fun _ _ _ => False
theorem pss_never {sts : List Stmt} : PSs X sts tNever := fun _ _ _ _ _ _ h => h.elim
end

/-! ### targets -/
noncomputable abbrev TG := V → St → Hp → (St → Hp → Prop) → Prop
noncomputable abbrev TGs := List V → St → Hp → (St → Hp → Prop) → Prop
noncomputable def PG (X : Cx) (target : Expr) (t : TG) : Prop :=
  ∀ (pins : List (Addr × Obj)) (s : Shared) (σ : St) (H : Hp) (v : V) (u : Value) (Q : St → Hp → Prop), Inv X pins σ H s → RelV v u → t v σ H Q →
    wpAny (model X.prog X.w) X.A (assign target X.env u) (fun _ s' => ∃ σ' H', Inv X pins σ' H' s' ∧ Q σ' H') X.xe s
/-- several targets, one after another -/
noncomputable def PGs (X : Cx) (ts : List Expr) (t : TGs) : Prop :=
  ∀ (pins : List (Addr × Obj)) (s : Shared) (σ : St) (H : Hp) (vs : List V) (us : List Value) (Q : St → Hp → Prop), Inv X pins σ H s → Vals vs us → t vs σ H Q →
    wpAny (model X.prog X.w) X.A (assignInOrder ((assignEach ts X.env).map (·.2)) us) (fun _ s' => ∃ σ' H', Inv X pins σ' H' s' ∧ Q σ' H') X.xe s
/-- o[i] = v, by values -/
noncomputable abbrev TSet := V → V → V → Hp → (Hp → Prop) → Prop
noncomputable def PSet (X : Cx) (t : TSet) : Prop :=
  ∀ (pins : List (Addr × Obj)) (s : Shared) (σ : St) (H : Hp) (o i v : V) (ov iv u : Value) (Q : Hp → Prop), Inv X pins σ H s → RelV o ov → RelV i iv → RelV v u → t o i v H Q →
    wpAny (model X.prog X.w) X.A (setItem ov iv u) (fun _ s' => ∃ H', Inv X pins σ H' s' ∧ Q H') X.xe s
section
variable {X : Cx} {pos : Pos}
noncomputable def gName (i : Nat) : TG := fun v σ H Q => Q (σ.set i (some v)) H
theorem pg_name {i : Nat} {x : Str} (hN : X.N.Nodup) (hi : X.N[i]? = some x) (hx : Loc X.env.scope x) (hf : X.fn x = true ∨ X.env.scope.names.lookup x = some .local := by first | exact .inl rfl | exact .inr rfl | assumption) : PG X (.Name x pos) (gName i) := by
  intro pins s σ H v u Q I r h
  exact wpAny_assign_Name (store_ok I hN hi hx r (fun s' I' => ⟨_, H, I', h⟩) hf)
noncomputable def gNil : TGs := fun vs σ H Q => vs = [] ∧ Q σ H
noncomputable def gCons (t : TG) (u : TGs) : TGs := fun vs σ H Q => ∃ v r, vs = v :: r ∧ t v σ H fun σ' H' => u r σ' H' Q
theorem pgs_nil : PGs X [] gNil := by
  intro pins s σ H vs us Q I r h
  obtain ⟨e, h⟩ := h
  subst e
  cases r
  exact assignInOrder_nil ⟨σ, H, I, h⟩
theorem pgs_cons {e : Expr} {es : List Expr} {t : TG} {u : TGs} (h1 : PG X e t) (h2 : PGs X es u)
    (hs : (assignEach (e :: es) X.env).map (·.2) = assign e X.env :: (assignEach es X.env).map (·.2) := by rfl) : PGs X (e :: es) (gCons t u) := by
  intro pins s σ H vs us Q I r h
  obtain ⟨v, vr, e1, h⟩ := h
  subst e1
  cases r with
  | cons r rr =>
    rw [hs]
    refine assignInOrder_cons (thn (h1 pins s σ H _ _ _ I r h) fun _ s1 ⟨σ1, H1, I1, q1⟩ => ?_)
    exact h2 pins s1 σ1 H1 _ _ Q I1 rr q1
/-- (a, b, ..) = a tuple of that length -/
noncomputable def gTup (K : PySem.W.Frag) (n : Nat) (t : TGs) : TG := fun v σ H Q => ∃ a xs, v = .ref a ∧ SqT K H a xs ∧ xs.length = n ∧ t xs σ H Q
theorem pg_tup {es : List Expr} {k : Nat} {t : TGs} {n : Nat} (hc : X.calm = true) (h : PGs X es t)
    (hn : (assignEach es X.env).length = n := by rfl) (hst : (assignEach es X.env).findIdx? (·.1) = none := by rfl) : PG X (.Tuple es k pos) (gTup X.K n t) := by
  intro pins s σ H v u Q I r hw
  obtain ⟨a, xs, e1, hq, hl, hw⟩ := hw
  subst e1
  cases r
  obtain ⟨its, rv, ht, hz⟩ := I.tuple hq
  refine assign_Tuple_tuple (I.ok.hd hc) ht (by simp [hn, ← hl, rv.length]) hst fun h' hx => ?_
  have I1 : Inv X pins σ H { s with heap := h' } := I.kept (t' := s.toks) fun b o e => hx b o (Nat.ne_of_lt (Heap.lt_size e)) e
  exact h pins _ σ H xs _ Q I1 (by simpa using rv) hw
/-- o[i] = .. -/
noncomputable def gSub (to ti : TE) (t : TSet) : TG := fun v σ H Q => to σ H fun o H1 => ti σ H1 fun i H2 => t o i v H2 fun H3 => Q σ H3
theorem pg_sub {o i : Expr} {to ti : TE} {t : TSet} (ho : PE X o to) (hi : PE X i ti) (hs : PSet X t)
    (ha : ∀ v, assign (.Subscript o i pos) X.env v = (do
      let ov ← holding [v] (eval o X.env)
      let iv ← holding [v, ov] (eval i X.env)
      standAt pos
      holding [v, ov, iv] (setItem ov iv v)
      release [v, ov, iv] []) := by intro _; rfl) : PG X (.Subscript o i pos) (gSub to ti t) := by
  intro pins s σ H v u Q I r h
  rw [ha]
  refine wpAny_bind (wpAny_holding (thn (ho pins s σ H _ I h) fun ov s1 ⟨x, H1, I1, r1, q1⟩ => ?_))
  refine wpAny_bind (wpAny_holding (thn (hi pins s1 σ H1 _ I1 q1) fun iv s2 ⟨y, H2, I2, r2, q2⟩ => ?_))
  refine wpAny_bind (wpAny_standAt (wpAny_bind (wpAny_holding (thn (hs pins s2 σ H2 x y v ov iv u _ I2 r1 r2 r q2) fun _ s3 ⟨H3, I3, q3⟩ => ?_))))
  exact wpAny_release ⟨σ, H3, I3, q3⟩
/-- target = value -/
noncomputable def tAsg (te : TE) (g : TG) : TS := fun D σ H => te σ H fun x H1 => g x σ H1 D.nx
theorem ps_asg {tg e : Expr} {te : TE} {g : TG} (he : PE X e te) (hg : PG X tg g) (hs : swapsWithSole [tg] e pos.line X.env = pure false := by rfl) (hw : swappedStores [tg] e X.env = pure none := by rfl)
    (h1 : (assignEach [tg] X.env).map (·.2) = [assign tg X.env] := by rfl) : PS X (.Assign [tg] e pos) (tAsg te g) := by
  intro pins s σ H D I h
  refine wpAny_Assign_stores (thn (he pins s σ H _ I h) fun v s1 ⟨x, H1, I1, r1, q1⟩ => ?_) hs hw
  rw [h1]
  exact thn (hg pins s1 σ H1 x v _ I1 r1 q1) fun _ s2 q => q
/-- name = value -/
theorem ps_set {i : Nat} {x : Str} {e : Expr} {te : TE} {pos' : Pos} (hN : X.N.Nodup) (hi : X.N[i]? = some x) (hx : Loc X.env.scope x) (he : PE X e te) (hs : swapsWith e (some (.Name x pos')) pos.line X.env = pure false := by rfl) (hf : X.fn x = true ∨ X.env.scope.names.lookup x = some .local := by first | exact .inl rfl | exact .inr rfl | assumption) :
    PS X (.Assign [.Name x pos'] e pos) (tAsg te (gName i)) := by
  intro pins s σ H D I h
  refine wpAny_Assign_Name (thn (he pins s σ H _ I h) fun v s1 ⟨y, H1, I1, r1, q1⟩ => ?_) hs
  exact store_ok I1 hN hi hx r1 (fun s2 I2 => ⟨_, H1, I2, q1⟩) hf
end

/-! ### while -/
section
variable {X : Cx} {pos : Pos}
/-- the invariant W with its measure -/
noncomputable def tWhile (c : TT) (tb : TS) : TS := fun D σ H => ∃ W : Nat → St → Hp → Prop, (∃ m, W m σ H) ∧ ∀ m σ H, W m σ H →
  c σ H fun b H1 => if b = true then ∃ N : St → Hp → Prop, (∀ σ' H', N σ' H' → ∃ m', m' < m ∧ W m' σ' H') ∧ tb { D with nx := N, ct := N, bk := D.nx } σ H1 else D.nx σ H1
theorem ps_while {c : Expr} {body : List Stmt} {tc : TT} {tb : TS} (hp : PassesOwn (model X.prog X.w) X.A X.env X.xe) (hc : PT X c tc) (hb : PSs X body tb) : PS X (.While c body [] pos) (tWhile tc tb) := by
  intro pins s σ H D I h
  obtain ⟨W, ⟨m0, w0⟩, turn⟩ := h
  refine wpAny_While (codeAny_whileLoop (fun n s' => ∃ σ' H', Inv X pins σ' H' s' ∧ W n σ' H') ?_ m0 ⟨σ, H, I, w0⟩)
  rintro n s1 ⟨σ1, H1, I1, w1⟩
  refine wpAny_passesOwn hp (thn (hc pins s1 σ1 H1 _ I1 (turn n σ1 H1 w1)) fun b s2 ⟨H2, I2, q2⟩ => ?_)
  cases b with
  | true =>
    obtain ⟨N, hN, q2⟩ := q2
    rw [if_pos rfl]
    refine wpAny_passesOwn hp (thn (hb pins s2 σ1 H2 _ I2 q2) fun f s3 q3 => ?_)
    cases f with
    | next =>
      obtain ⟨σ3, H3, I3, n3⟩ := q3
      obtain ⟨m', hm, w3⟩ := hN σ3 H3 n3
      exact ⟨m', hm, σ3, H3, I3, w3⟩
    | cont =>
      obtain ⟨σ3, H3, I3, n3⟩ := q3
      obtain ⟨m', hm, w3⟩ := hN σ3 H3 n3
      exact ⟨m', hm, σ3, H3, I3, w3⟩
    | brk => exact q3
    | ret v => exact q3
  | false =>
    rw [if_neg Bool.false_ne_true]
    exact wpAny_execs_nil ⟨σ1, H2, I2, q2⟩
end

/-! ### what a loop or a comprehension walks -/
/-- at turn i: it yields x (the heap may grow), or it stops -/
structure It where
  go : Nat → Hp → Prop
  yld : Nat → Hp → V → Hp → Prop
  stop : Nat → Hp → Prop
/-- the iterator's own objects may turn: they are not the frame's, not pinned, younger than the entry (or a comprehension's own) -/
noncomputable def FpOk (X : Cx) (pins : List (Addr × Obj)) (H : Hp) (b : Addr) : Prop :=
  H b = none ∧ b ≠ X.env.locals ∧ b ∉ X.fs ∧ (b ∈ X.ex ∨ X.s₀.heap.objs.size ≤ b) ∧ (∀ x c, X.env.cells.lookup x = some c → c ≠ b) ∧ ∀ p ∈ X.pn ++ pins, p.1 ≠ b
theorem Inv.fpOk {X : Cx} {pins : List (Addr × Obj)} {σ : St} {H H' : Hp} {s : Shared} {b : Addr} (I : Inv X pins σ H s) (hb : s.heap.objs.size ≤ b) (hn : H' b = none) : FpOk X pins H' b := by
  refine ⟨hn, Nat.ne_of_gt (Nat.lt_of_lt_of_le I.lt hb), I.nofs hb, .inr (Nat.le_trans I.sz hb), fun x c e z => ?_, fun p hp z => ?_⟩
  · obtain ⟨v, q⟩ := I.cell x c e
    exact absurd (Nat.lt_of_lt_of_le q.lt (by rw [z]; exact hb)) (Nat.lt_irrefl _)
  · exact absurd (Nat.lt_of_lt_of_le (Heap.lt_size (I.pin p hp).1) (by rw [z]; exact hb)) (Nat.lt_irrefl _)
structure Turn (P : Program) (w : World) (K : PySem.W.Frag) (tg : Expr) (J : It) (fp : List Addr) (it : Addr) (tn : Nat → Heap → Prop) : Prop where
  mem : it ∈ fp
  obj : ∀ i h, tn i h → ∀ b ∈ fp, ∃ o, h.get? b = some o ∧ ∀ v, o.data ≠ .cell v
  keep : ∀ i h h', tn i h → (∀ b ∈ fp, ∀ o, h.get? b = some o → h'.get? b = some o) → tn i h'
  item : ∀ (X : Cx), X.prog = P → X.w = w → X.K = K → X.calm = true → ∀ (i : Nat) (pins : List (Addr × Obj)) (s : Shared) (σ : St) (H : Hp) (E : Value → Shared → Prop), Inv X pins σ H s → (∀ b ∈ fp, FpOk X pins H b) → tn i s.heap → J.go i H →
    wpAny (model P w) X.A (pyNext (.ref it)) (fun r s1 => ∃ u, r = some u ∧
      wpAny (model P w) X.A (letOwnedTupleGo tg (.ref it) u) (fun _ s2 => ∃ x H', Inv X pins σ H' s2 ∧ RelV x u ∧ J.yld i H x H' ∧ tn (i + 1) s2.heap ∧ ∀ b ∈ fp, H' b = none) E s1) E s
  done : ∀ (X : Cx), X.prog = P → X.w = w → X.K = K → X.calm = true → ∀ (i : Nat) (pins : List (Addr × Obj)) (s : Shared) (σ : St) (H : Hp) (E : Value → Shared → Prop), Inv X pins σ H s → (∀ b ∈ fp, FpOk X pins H b) → tn i s.heap → J.stop i H →
    wpAny (model P w) X.A (pyNext (.ref it)) (fun r s1 => r = none ∧ Inv X pins σ H s1) E s
  self : ∀ (A : Around) (i : Nat) (s : Shared) (Q : Value → Shared → Prop) (E : Value → Shared → Prop), tn i s.heap → Q (.ref it) s → wpAny (model P w) A (pyIter (.ref it)) Q E s
noncomputable abbrev TI := St → Hp → (It → Hp → Prop) → Prop
/-- an iterator has come -/
noncomputable def PIE (X : Cx) (pins : List (Addr × Obj)) (σ : St) (tg : Expr) (R : It → Hp → Prop) (itv : Value) (s2 : Shared) : Prop :=
  ∃ (it : Addr) (fp : List Addr) (tn : Nat → Heap → Prop) (J : It) (H' : Hp), itv = .ref it ∧ Inv X pins σ H' s2 ∧ Turn X.prog X.w X.K tg J fp it tn ∧ tn 0 s2.heap ∧ (∀ b ∈ fp, FpOk X pins H' b) ∧ R J H'
noncomputable def PI (X : Cx) (tg iter : Expr) (wi : TI) : Prop :=
  ∀ (pins : List (Addr × Obj)) (s : Shared) (σ : St) (H : Hp) (R : It → Hp → Prop), Inv X pins σ H s → wi σ H R →
    wpAny (model X.prog X.w) X.A (eval iter X.env) (fun v s1 => wpAny (model X.prog X.w) X.A (pyIter v) (PIE X pins σ tg R) X.xe s1) X.xe s

/-- the step ahead of the store is nothing for an iterator that keeps no tuple -/
theorem go_of {M : Model} {A : Around} {E : Value → Shared → Prop} {s : Shared} {tg : Expr} {it : Addr} {u : Value} {o : Obj} {n : String} {vs : Array Value} {Q : Unit → Shared → Prop} (ho : s.heap.get? it = some o) (hc : o.cls = .type n) (hd : o.data = .fields vs)
    (hn : ["enumerate", "zip", "dict_itemiterator", "dict_reverseitemiterator", "odict_iterator", "itertools.zip_longest", "itertools.pairwise"].contains n = false) (hQ : Q () s) : wpAny M A (letOwnedTupleGo tg (.ref it) u) Q E s := by
  unfold letOwnedTupleGo
  cases tg <;> first
    | exact wpAny_pure hQ
    | (cases u <;> first
        | exact wpAny_pure hQ
        | (refine wpAny_bind (wpAny_load ho ?_)
           rw [hc, hd]
           show wpAny M A (if (["enumerate", "zip", "dict_itemiterator", "dict_reverseitemiterator", "odict_iterator", "itertools.zip_longest", "itertools.pairwise"].contains n && vs[0]? == some (rawInt _)) = true then _ else _) Q E s
           rw [if_neg (by intro h; rw [hn, Bool.false_and] at h; cases h)]
           exact wpAny_pure hQ))

/-- the list at a, as it stands at each turn (a loop may append to it) -/
noncomputable def Itl (K : PySem.W.Frag) (a : Addr) : It :=
  ⟨fun i H => ∃ xs x, SqL K H a xs ∧ xs[i]? = some x, fun i H x H' => H' = H ∧ ∀ xs, SqL K H a xs → xs[i]? = some x, fun i H => ∃ xs, SqL K H a xs ∧ xs.length ≤ i⟩
noncomputable def Itt (K : PySem.W.Frag) (a : Addr) : It :=
  ⟨fun i H => ∃ xs x, SqT K H a xs ∧ xs[i]? = some x, fun i H x H' => H' = H ∧ ∀ xs, SqT K H a xs → xs[i]? = some x, fun i H => ∃ xs, SqT K H a xs ∧ xs.length ≤ i⟩
/-- lo, lo + 1, .. (n of them) -/
noncomputable def Itr (lo : Int) (n : Nat) : It := ⟨fun i _ => i < n, fun i H x H' => H' = H ∧ x = .int (lo + i), fun i _ => n ≤ i⟩
theorem turn_list {P : Program} {w : World} {K : PySem.W.Frag} {tg : Expr} (a it : Addr) : Turn P w K tg (Itl K a) [it] it (fun i h => h.IsListIter it a i) where
  mem := by simp
  obj := fun i h st b hb => by
    have e : b = it := by simpa using hb
    subst e
    obtain ⟨o, e, c, d⟩ := st
    exact ⟨o, e, fun v z => by rw [d] at z; cases z⟩
  keep := fun i h h' st k => st.at fun o e => k it (by simp) o e
  item := by
    intro X hP hw hK hc i pins s σ H E I hf st hg
    subst hP hw hK
    obtain ⟨xs, x, hq, hx⟩ := hg
    obtain ⟨its, rv, p, hz⟩ := I.list hq
    obtain ⟨u, hu, ru⟩ := rv.get hx
    obtain ⟨f0, f1, f2, f3, f4, f5⟩ := hf it (by simp)
    refine wpAny_pyNext_list_item st p.isList (x := u) (by simpa using hu) fun h' st' sb => ?_
    have I1 : Inv X pins σ H { s with heap := h' } := I.turned (t' := s.toks) (fun b o hb e => (sb.2 b hb).trans e) f0 f1 f3 f4 f5
    obtain ⟨o, e, c, d⟩ := id st'
    exact ⟨u, rfl, go_of (s := { s with heap := h' }) e c d (by decide) ⟨x, H, I1, ru, ⟨rfl, fun ys hy => by rw [I.list_inj hy hq]; exact hx⟩, st', fun b hb => (hf b hb).1⟩⟩
  done := by
    intro X hP hw hK hc i pins s σ H E I hf st hg
    subst hP hw hK
    obtain ⟨xs, hq, hx⟩ := hg
    obtain ⟨its, rv, p, hz⟩ := I.list hq
    obtain ⟨f0, f1, f2, f3, f4, f5⟩ := hf it (by simp)
    have hl := rv.length
    exact wpAny_pyNext_list_end (I.ok.hd hc) st p.isList (by simp; omega) fun h' eb => ⟨rfl, I.turned (t' := s.toks) (fun b o hb e => eb b o hb e) f0 f1 f3 f4 f5⟩
  self := fun _ _ _ _ _ st h => wpAny_pyIter_listiter st h
theorem turn_tuple {P : Program} {w : World} {K : PySem.W.Frag} {tg : Expr} (a it : Addr) : Turn P w K tg (Itt K a) [it] it (fun i h => h.IsTupleIter it a i) where
  mem := by simp
  obj := fun i h st b hb => by
    have e : b = it := by simpa using hb
    subst e
    obtain ⟨o, e, c, d⟩ := st
    exact ⟨o, e, fun v z => by rw [d] at z; cases z⟩
  keep := fun i h h' st k => st.at fun o e => k it (by simp) o e
  item := by
    intro X hP hw hK hc i pins s σ H E I hf st hg
    subst hP hw hK
    obtain ⟨xs, x, hq, hx⟩ := hg
    obtain ⟨its, rv, p, hz⟩ := I.tuple hq
    obtain ⟨u, hu, ru⟩ := rv.get hx
    obtain ⟨f0, f1, f2, f3, f4, f5⟩ := hf it (by simp)
    refine wpAny_pyNext_tuple_item st (show s.heap.IsTuple a its.toArray from p) (x := u) (by simpa using hu) fun h' st' sb => ?_
    have I1 : Inv X pins σ H { s with heap := h' } := I.turned (t' := s.toks) (fun b o hb e => (sb.2 b hb).trans e) f0 f1 f3 f4 f5
    obtain ⟨o, e, c, d⟩ := id st'
    exact ⟨u, rfl, go_of (s := { s with heap := h' }) e c d (by decide) ⟨x, H, I1, ru, ⟨rfl, fun ys hy => by rw [I.tuple_inj hy hq]; exact hx⟩, st', fun b hb => (hf b hb).1⟩⟩
  done := by
    intro X hP hw hK hc i pins s σ H E I hf st hg
    subst hP hw hK
    obtain ⟨xs, hq, hx⟩ := hg
    obtain ⟨its, rv, p, hz⟩ := I.tuple hq
    obtain ⟨f0, f1, f2, f3, f4, f5⟩ := hf it (by simp)
    have hl := rv.length
    exact wpAny_pyNext_tuple_end (I.ok.hd hc) st (show s.heap.IsTuple a its.toArray from p) (by simp; omega) fun h' eb => ⟨rfl, I.turned (t' := s.toks) (fun b o hb e => eb b o hb e) f0 f1 f3 f4 f5⟩
  self := fun _ _ _ _ _ st h => wpAny_pyIter_tupleiter st h
theorem turn_range {P : Program} {w : World} {K : PySem.W.Frag} {tg : Expr} (it : Addr) (lo : Int) (n : Nat) : Turn P w K tg (Itr lo n) [it] it (fun i h => IsRangeIter h it (lo + (i : Nat) * 1) ((n : Int) - (i : Nat)) 1) where
  mem := by simp
  obj := fun i h st b hb => by
    have e : b = it := by simpa using hb
    subst e
    exact ⟨_, st, fun v z => by
      have z' : Data.fields _ = Data.cell v := z
      cases z'⟩
  keep := fun i h h' st k => k it (by simp) _ st
  item := by
    intro X hP hw hK hc i pins s σ H E I hf st hg
    subst hP hw hK
    obtain ⟨f0, f1, f2, f3, f4, f5⟩ := hf it (by simp)
    have W := Walks.range (prog := X.prog) (w := X.w) (I.ok.hd hc) it lo 1 n
    refine W.item i s _ _ hg st fun v h' tk hv st' kk => ?_
    obtain ⟨t, rfl⟩ := hv
    have I1 : Inv X pins σ H { s with heap := h', toks := tk } := I.turned (fun b o hb e => kk b o (by simpa using hb) e) f0 f1 f3 f4 f5
    refine ⟨_, rfl, go_of (s := { s with heap := h', toks := tk }) (n := "range_iterator") st' rfl rfl (by decide) ⟨.int (lo + i), H, I1, ⟨t, ?_⟩, ⟨rfl, rfl⟩, st', fun b hb => (hf b hb).1⟩⟩
    rw [Int.mul_one]
  done := by
    intro X hP hw hK hc i pins s σ H E I hf st hg
    subst hP hw hK
    obtain ⟨f0, f1, f2, f3, f4, f5⟩ := hf it (by simp)
    exact wpAny_pyNext_range_end (I.ok.hd hc) st (by have : n ≤ i := hg; omega) fun h' eb => ⟨rfl, I.turned (t' := s.toks) (fun b o hb e => eb b o hb e) f0 f1 f3 f4 f5⟩
  self := fun _ _ _ _ _ st h => wpAny_pyIter_rangeiter st h
end L2

namespace L2
open PySem PySem.Spec PyProof.Rows
section
variable {X : Cx} {tg : Expr}
noncomputable def iList (K : PySem.W.Frag) (tl : TE) : TI := fun σ H R => tl σ H fun x H1 => ∃ a, x = .ref a ∧ (∃ xs, SqL K H1 a xs) ∧ R (Itl K a) H1
noncomputable def iTup (K : PySem.W.Frag) (tl : TE) : TI := fun σ H R => tl σ H fun x H1 => ∃ a, x = .ref a ∧ (∃ xs, SqT K H1 a xs) ∧ R (Itt K a) H1
theorem pi_list {l : Expr} {tl : TE} (hl : PE X l tl) : PI X tg l (iList X.K tl) := by
  intro pins s σ H R I h
  refine thn (hl pins s σ H _ I h) fun v s1 ⟨x, H1, I1, r1, q1⟩ => ?_
  obtain ⟨a, e, ⟨xs, hq⟩, q⟩ := q1
  subst e
  cases r1
  obtain ⟨its, rv, p, hz⟩ := I1.list hq
  refine wpAny_pyIter_list p.isList ?_
  refine ⟨s1.heap.objs.size, [s1.heap.objs.size], _, _, H1, rfl, I1.kept (t' := s1.toks) fun b o e => Heap.get?_push_of_some _ e, turn_list a _, ⟨_, Heap.get?_push_size _ rfl, rfl, rfl⟩, fun b hb => ?_, q⟩
  have e : b = s1.heap.objs.size := by simpa using hb
  subst e
  exact I1.fpOk (Nat.le_refl _) (I1.hok.fresh (Nat.le_refl _))
theorem pi_tup {l : Expr} {tl : TE} (hl : PE X l tl) : PI X tg l (iTup X.K tl) := by
  intro pins s σ H R I h
  refine thn (hl pins s σ H _ I h) fun v s1 ⟨x, H1, I1, r1, q1⟩ => ?_
  obtain ⟨a, e, ⟨xs, hq⟩, q⟩ := q1
  subst e
  cases r1
  obtain ⟨its, rv, p, hz⟩ := I1.tuple hq
  refine wpAny_pyIter_tuple (show s1.heap.IsTuple a its.toArray from p) ?_
  refine ⟨s1.heap.objs.size, [s1.heap.objs.size], _, _, H1, rfl, I1.kept (t' := s1.toks) fun b o e => Heap.get?_push_of_some _ e, turn_tuple a _, ⟨_, Heap.get?_push_size _ rfl, rfl, rfl⟩, fun b hb => ?_, q⟩
  have e : b = s1.heap.objs.size := by simpa using hb
  subst e
  exact I1.fpOk (Nat.le_refl _) (I1.hok.fresh (Nat.le_refl _))
/-- a range object just made, walked -/
theorem range_it {pins : List (Addr × Obj)} {σ : St} {H : Hp} {s : Shared} {R : It → Hp → Prop} {E : Value → Shared → Prop} {lo hi : Int} {t u v : Tok} {tk : Nat} (I : Inv X pins σ H s) (h1 : -(2 ^ 62) ≤ lo) (h2 : lo < 2 ^ 62) (h3 : -(2 ^ 62) ≤ hi) (h4 : hi < 2 ^ 62)
    (q : R (Itr lo (hi - lo).toNat) H) : wpAny (model X.prog X.w) X.A (pyIter (.ref s.heap.objs.size)) (PIE X pins σ tg R) E { s with heap := s.heap.push { cls := .type "range", data := .fields #[.int lo t, .int hi u, .int 1 v] }, toks := tk } := by
  refine wpAny_pyIter_range (IsRange.new ..) (small_one h1 h2 h3 h4) ?_
  have I1 : Inv X pins σ H { s with heap := s.heap.push { cls := .type "range", data := .fields #[.int lo t, .int hi u, .int 1 v] }, toks := tk } := I.kept fun b o e => Heap.get?_push_of_some _ e
  refine ⟨(s.heap.push { cls := .type "range", data := .fields #[.int lo t, .int hi u, .int 1 v] }).objs.size, [(s.heap.push { cls := .type "range", data := .fields #[.int lo t, .int hi u, .int 1 v] }).objs.size], _, _, H, rfl,
    I1.kept (t' := tk) fun b o e => Heap.get?_push_of_some _ e, turn_range _ lo (hi - lo).toNat, ?_, fun b hb => ?_, q⟩
  · have e1 : lo + ((0 : Nat) : Int) * 1 = lo := by simp
    have e2 : (((hi - lo).toNat : Nat) : Int) - ((0 : Nat) : Int) = Builtin.Range.rangeSize lo hi 1 := by rw [rangeSize_one]; split <;> omega
    show IsRangeIter _ _ (lo + ((0 : Nat) : Int) * 1) ((((hi - lo).toNat : Nat) : Int) - ((0 : Nat) : Int)) 1
    rw [e1, e2]
    exact Heap.get?_push_size _ rfl
  · have e : b = (s.heap.push { cls := .type "range", data := .fields #[.int lo t, .int hi u, .int 1 v] }).objs.size := by simpa using hb
    subst e
    exact I1.fpOk (Nat.le_refl _) (I1.hok.fresh (Nat.le_refl _))
noncomputable def iRng1 (ta : TA) : TI := fun σ H R => ta σ H fun vs H1 => ∃ j : Int, vs = [.int j] ∧ -(2 ^ 62) ≤ j ∧ j < 2 ^ 62 ∧ R (Itr 0 j.toNat) H1
noncomputable def iRng2 (ta : TA) : TI := fun σ H R => ta σ H fun vs H1 => ∃ i j : Int, vs = [.int i, .int j] ∧ (-(2 ^ 62) ≤ i ∧ i < 2 ^ 62 ∧ -(2 ^ 62) ≤ j ∧ j < 2 ^ 62) ∧ R (Itr i (j - i).toNat) H1
theorem pi_range1 {a : Expr} {ta : TA} {p pos : Pos} (hg : Gl X "range") (hm : X.mg "range" = none) (ha : PA X [a] ta) (hs : starEach [a] X.env = [(false, eval a X.env)] := by rfl) : PI X tg (.Call (.Name "range" p) [a] [] pos) (iRng1 ta) := by
  intro pins s σ H R I h
  refine Call_ (ld_blt I hg hm boot_range (PyProof.Rows.callWith_type1 (thn (ha pos pins s σ H _ I h) fun us s1 ⟨vs, H1, I1, r1, q1⟩ => ?_) hs rfl))
  obtain ⟨j, e, q1, q2, q⟩ := q1
  subst e
  cases r1 with
  | cons r rr =>
    cases rr
    obtain ⟨t, rfl⟩ := r
    exact call_range_1 (range_it I1 (by omega) (by omega) q1 q2 (by simpa using q))
theorem pi_range2 {a b : Expr} {ta : TA} {p pos : Pos} (hg : Gl X "range") (hm : X.mg "range" = none) (ha : PA X [a, b] ta) (hs : starEach [a, b] X.env = [(false, eval a X.env), (false, eval b X.env)] := by rfl) (hs2 : starEach [b] X.env = [(false, eval b X.env)] := by rfl) :
    PI X tg (.Call (.Name "range" p) [a, b] [] pos) (iRng2 ta) := by
  intro pins s σ H R I h
  refine Call_ (ld_blt I hg hm boot_range (PyProof.Rows.callWith_type1 (thn (ha pos pins s σ H _ I h) fun us s1 ⟨vs, H1, I1, r1, q1⟩ => ?_) (by rw [hs, hs2]) (by rw [hs2]; rfl)))
  obtain ⟨i, j, e, ⟨q1, q2, q3, q4⟩, q⟩ := q1
  subst e
  cases r1 with
  | cons r rr =>
    cases rr with
    | cons r' rr =>
      cases rr
      obtain ⟨t, rfl⟩ := r
      obtain ⟨t', rfl⟩ := r'
      exact call_range_2 (range_it I1 q1 q2 q3 q4 q)

/-! ### for -/
/-- W: the invariant by the turn and a measure; N: what the body is to reach -/
noncomputable def tFor (wi : TI) (g : TG) (tb : TS) : TS := fun D σ H => wi σ H fun J H1 => ∃ W : Nat → Nat → St → Hp → Prop, (∃ m, W 0 m σ H1) ∧ ∀ i m σ H, W i m σ H →
  (J.stop i H ∧ D.nx σ H) ∨ (J.go i H ∧ ∃ N : St → Hp → Prop, (∀ σ' H', N σ' H' → ∃ m', m' < m ∧ W (i + 1) m' σ' H') ∧ ∀ x H', J.yld i H x H' → g x σ H' fun σ2 H2 => tb { D with nx := N, ct := N, bk := D.nx } σ2 H2)
/-- the records at fp as they stand -/
noncomputable def pinsAt (fp : List Addr) (h : Heap) : List (Addr × Obj) := fp.filterMap fun b => (h.get? b).map fun o => (b, o)
theorem mem_pinsAt {fp : List Addr} {h : Heap} {b : Addr} {o : Obj} (hb : b ∈ fp) (e : h.get? b = some o) : (b, o) ∈ pinsAt fp h := List.mem_filterMap.mpr ⟨b, hb, by rw [e]; rfl⟩
theorem of_pinsAt {fp : List Addr} {h : Heap} {p : Addr × Obj} (hp : p ∈ pinsAt fp h) : p.1 ∈ fp ∧ h.get? p.1 = some p.2 := by
  obtain ⟨b, hb, e⟩ := List.mem_filterMap.mp hp
  cases q : h.get? b with
  | none => rw [q] at e; cases e
  | some o =>
    rw [q] at e
    have e' : (b, o) = p := Option.some.inj e
    subst e'
    exact ⟨hb, q⟩
theorem Inv.pinned {pins : List (Addr × Obj)} {σ : St} {H : Hp} {s : Shared} {fp : List Addr} (I : Inv X pins σ H s) (hf : ∀ b ∈ fp, FpOk X pins H b) (ho : ∀ b ∈ fp, ∃ o, s.heap.get? b = some o ∧ ∀ v, o.data ≠ .cell v) : Inv X (pins ++ pinsAt fp s.heap) σ H s :=
  I.pins_of fun p hp => (List.mem_append.mp hp).elim (fun z => I.pin p (List.mem_append_right _ z)) fun z => by
    obtain ⟨hb, e⟩ := of_pinsAt z
    obtain ⟨f0, f1, f2, _⟩ := hf p.1 hb
    obtain ⟨o, e', d⟩ := ho p.1 hb
    rw [e] at e'; cases e'
    exact ⟨e, f0, f1, f2, d⟩
theorem Inv.unpinned {pins pl : List (Addr × Obj)} {σ : St} {H : Hp} {s : Shared} (I : Inv X (pins ++ pl) σ H s) : Inv X pins σ H s := I.pins_of fun p hp => I.pin p (List.mem_append_right _ (List.mem_append_left _ hp))
theorem ps_for {iter : Expr} {body : List Stmt} {wi : TI} {g : TG} {tb : TS} {pos : Pos} (hp : PassesOwn (model X.prog X.w) X.A X.env X.xe) (hc : X.calm = true) (hi : PI X tg iter wi) (hg : PG X tg g) (hb : PSs X body tb)
    (hs : ∀ x, foldedSetIterable iter X.env x = pure x := by intro _; rfl) : PS X (.For tg iter body [] pos) (tFor wi g tb) := by
  intro pins s σ H D I h
  refine wpAny_For (thn (hi pins s σ H _ I h) fun v s1 h1 => thn h1 fun itv s2 h2 => ?_) hs
  obtain ⟨it, fp, tn, J, H2, e, I2, T, st2, f2, W, ⟨m0, w0⟩, turn⟩ := h2
  subst e
  -- what stays true of the iterator's objects through the loop
  have stat : ∀ {H' : Hp}, (∀ b ∈ fp, H' b = none) → ∀ b ∈ fp, FpOk X pins H' b := fun hn b hb => ⟨hn b hb, (f2 b hb).2⟩
  refine codeAny_forLoop_any (fun n s' => ∃ i σ' H', Inv X pins σ' H' s' ∧ tn i s'.heap ∧ (∀ b ∈ fp, H' b = none) ∧ W i n σ' H') ?_ m0 ⟨0, σ, H2, I2, st2, fun b hb => (f2 b hb).1, w0⟩
  rintro n s3 ⟨i, σ3, H3, I3, st3, fr3, w3⟩
  rcases turn i n σ3 H3 w3 with ⟨stop, qn⟩ | ⟨go, N, hN, step⟩
  · refine wpAny_passesOwn hp (thn (T.done X rfl rfl rfl hc i pins s3 σ3 H3 X.xe I3 (stat fr3) st3 stop) fun r s4 ⟨hr, I4⟩ => ?_)
    subst hr
    exact wpAny_execs_nil ⟨σ3, H3, I4, qn⟩
  · refine wpAny_passesOwn hp (thn (T.item X rfl rfl rfl hc i pins s3 σ3 H3 X.xe I3 (stat fr3) st3 go) fun r s4 ⟨u, hr, h4⟩ => ?_)
    subst hr
    refine wpAny_passesOwn hp (thn h4 fun _ s5 ⟨x, H5, I5, r5, y5, st5, fr5⟩ => ?_)
    have I5' := I5.pinned (stat fr5) (T.obj _ _ st5)
    refine wpAny_passesOwn hp (thn (hg _ s5 σ3 H5 x u _ I5' r5 (step x H5 y5)) fun _ s6 ⟨σ6, H6, I6, q6⟩ => ?_)
    refine wpAny_passesOwn hp (thn (hb _ s6 σ6 H6 _ I6 q6) fun f s7 q7 => ?_)
    have again : ∀ {σ7 : St} {H7 : Hp}, Inv X (pins ++ pinsAt fp s5.heap) σ7 H7 s7 → N σ7 H7 → ∃ m, m < n ∧ ∃ i σ' H', Inv X pins σ' H' s7 ∧ tn i s7.heap ∧ (∀ b ∈ fp, H' b = none) ∧ W i m σ' H' := fun {σ7 H7} I7 n7 => by
      obtain ⟨m', hm, w7⟩ := hN σ7 H7 n7
      refine ⟨m', hm, i + 1, σ7, H7, I7.unpinned, T.keep _ _ _ st5 fun b hb o e => (I7.pin (b, o) (List.mem_append_right _ (List.mem_append_right _ (mem_pinsAt hb e)))).1, fun b hb => ?_, w7⟩
      obtain ⟨o, e, d⟩ := T.obj _ _ st5 b hb
      exact (I7.pin (b, o) (List.mem_append_right _ (List.mem_append_right _ (mem_pinsAt hb e)))).2.1
    cases f with
    | next => obtain ⟨σ7, H7, I7, n7⟩ := q7; exact again I7 n7
    | cont => obtain ⟨σ7, H7, I7, n7⟩ := q7; exact again I7 n7
    | brk => obtain ⟨σ7, H7, I7, q7⟩ := q7; exact ⟨σ7, H7, I7.unpinned, q7⟩
    | ret v => obtain ⟨x7, σ7, H7, I7, r7, q7⟩ := q7; exact ⟨x7, σ7, H7, I7.unpinned, r7, q7⟩
end

/-! ### the forms one uses -/
/-- over a list that the body leaves as it is -/
theorem for_list {K : PySem.W.Frag} {a : Addr} {xs : List V} {g : TG} {tb : TS} {D : Ends} {σ : St} {H : Hp} (Pv : Nat → St → Hp → Prop) (h0 : Pv 0 σ H) (hl : ∀ i σ H, i ≤ xs.length → Pv i σ H → SqL K H a xs)
    (hs : ∀ i x σ H, xs[i]? = some x → Pv i σ H → g x σ H fun σ2 H2 => tb { D with nx := Pv (i + 1), ct := Pv (i + 1), bk := D.nx } σ2 H2) (hd : ∀ σ H, Pv xs.length σ H → D.nx σ H) :
    ∃ W : Nat → Nat → St → Hp → Prop, (∃ m, W 0 m σ H) ∧ ∀ i m σ H, W i m σ H →
      ((Itl K a).stop i H ∧ D.nx σ H) ∨ ((Itl K a).go i H ∧ ∃ N : St → Hp → Prop, (∀ σ' H', N σ' H' → ∃ m', m' < m ∧ W (i + 1) m' σ' H') ∧ ∀ x H', (Itl K a).yld i H x H' → g x σ H' fun σ2 H2 => tb { D with nx := N, ct := N, bk := D.nx } σ2 H2) := by
  refine ⟨fun i m σ H => m = xs.length - i ∧ i ≤ xs.length ∧ Pv i σ H, ⟨xs.length, by simp, Nat.zero_le _, h0⟩, ?_⟩
  rintro i m σ H ⟨rfl, hi, p⟩
  have q := hl i σ H hi p
  by_cases hlt : i < xs.length
  · refine .inr ⟨⟨xs, xs[i], q, by simp [hlt]⟩, Pv (i + 1), fun σ' H' p' => ⟨xs.length - (i + 1), by omega, rfl, hlt, p'⟩, fun x H' y => ?_⟩
    obtain ⟨e, y⟩ := y
    subst e
    exact hs i x σ _ (y xs q) p
  · have e : i = xs.length := by omega
    subst e
    exact .inl ⟨⟨xs, q, Nat.le_refl _⟩, hd σ H p⟩
theorem for_range {lo : Int} {n : Nat} {g : TG} {tb : TS} {D : Ends} {σ : St} {H : Hp} (Pv : Nat → St → Hp → Prop) (h0 : Pv 0 σ H)
    (hs : ∀ i σ H, i < n → Pv i σ H → g (.int (lo + i)) σ H fun σ2 H2 => tb { D with nx := Pv (i + 1), ct := Pv (i + 1), bk := D.nx } σ2 H2) (hd : ∀ σ H, Pv n σ H → D.nx σ H) :
    ∃ W : Nat → Nat → St → Hp → Prop, (∃ m, W 0 m σ H) ∧ ∀ i m σ H, W i m σ H →
      ((Itr lo n).stop i H ∧ D.nx σ H) ∨ ((Itr lo n).go i H ∧ ∃ N : St → Hp → Prop, (∀ σ' H', N σ' H' → ∃ m', m' < m ∧ W (i + 1) m' σ' H') ∧ ∀ x H', (Itr lo n).yld i H x H' → g x σ H' fun σ2 H2 => tb { D with nx := N, ct := N, bk := D.nx } σ2 H2) := by
  refine ⟨fun i m σ H => m = n - i ∧ i ≤ n ∧ Pv i σ H, ⟨n, by simp, Nat.zero_le _, h0⟩, ?_⟩
  rintro i m σ H ⟨rfl, hi, p⟩
  by_cases hlt : i < n
  · refine .inr ⟨hlt, Pv (i + 1), fun σ' H' p' => ⟨n - (i + 1), by omega, rfl, hlt, p'⟩, fun x H' y => ?_⟩
    obtain ⟨e, y⟩ := y
    subst e y
    exact hs i σ _ hlt p
  · have e : i = n := by omega
    subst e
    exact .inl ⟨Nat.le_refl _, hd σ H p⟩
end L2

namespace L2
open PySem PySem.Spec PyProof.Rows

noncomputable abbrev R2 := V → V → Hp → VK → Prop
/-- a two-place operation on values: f is binaryOp op, inplaceOp op or compareOp op -/
noncomputable def OpR (X : Cx) (f : Value → Value → Sem Value) (r : R2) : Prop :=
  ∀ (pins : List (Addr × Obj)) (s : Shared) (σ : St) (H : Hp) (x y : V) (v u : Value) (Q : VK), Inv X pins σ H s → RelV x v → RelV y u → r x y H Q →
    wpAny (model X.prog X.w) X.A (f v u) (EP X pins σ Q) X.xe s
/-- a one-place operation -/
noncomputable def UnR (X : Cx) (f : Value → Sem Value) (r : V → Hp → VK → Prop) : Prop :=
  ∀ (pins : List (Addr × Obj)) (s : Shared) (σ : St) (H : Hp) (x : V) (v : Value) (Q : VK), Inv X pins σ H s → RelV x v → r x H Q →
    wpAny (model X.prog X.w) X.A (f v) (EP X pins σ Q) X.xe s
/-- a call of a value that is known (a builtin, a type) with values -/
noncomputable def CallR (X : Cx) (f : Value) (r : List V → Hp → VK → Prop) : Prop :=
  ∀ (pins : List (Addr × Obj)) (s : Shared) (σ : St) (H : Hp) (xs : List V) (us : List Value) (Q : VK), Inv X pins σ H s → Vals xs us → r xs H Q →
    wpAny (model X.prog X.w) X.A (call f us) (EP X pins σ Q) X.xe s
noncomputable def tOp (r : R2) (ta tb : TE) : TE := fun σ H Q => ta σ H fun x H1 => tb σ H1 fun y H2 => r x y H2 Q
noncomputable def tUn (r : V → Hp → VK → Prop) (ta : TE) : TE := fun σ H Q => ta σ H fun x H1 => r x H1 Q
/-- ints in, under C, and a value out -/
noncomputable def rI (C : Int → Int → Prop) (g : Int → Int → V) : R2 := fun x y H Q => ∃ i j, x = .int i ∧ y = .int j ∧ C i j ∧ Q (g i j) H
noncomputable def rI0 (g : Int → Int → V) : R2 := fun x y H Q => ∃ i j, x = .int i ∧ y = .int j ∧ Q (g i j) H
noncomputable def rU (g : Int → V) : V → Hp → VK → Prop := fun x H Q => ∃ i, x = .int i ∧ Q (g i) H

section
variable {X : Cx} {a b c : Expr} {ta tb tc : TE} {pos : Pos}

theorem binT (ha : PE X a ta) (hb : PE X b tb) {pins : List (Addr × Obj)} {s : Shared} {σ : St} {H : Hp} {R : V → V → Hp → Prop} (I : Inv X pins σ H s)
    (h : ta σ H fun x H1 => tb σ H1 fun y H2 => R x y H2) {Q : Value → Shared → Prop} {f : Value → Value → Sem Value}
    (hf : ∀ v u s2 x y H2, Inv X pins σ H2 s2 → RelV x v → RelV y u → R x y H2 → wpAny (model X.prog X.w) X.A (f v u) Q X.xe s2) :
    wpAny (model X.prog X.w) X.A (eval a X.env) (fun v s₁ => wpAny (model X.prog X.w) X.A (eval b X.env) (fun u s₂ => wpAny (model X.prog X.w) X.A (f v u) Q X.xe s₂) X.xe s₁) X.xe s := by
  refine thn (ha pins s σ H _ I h) fun v s1 ⟨x, H1, I1, r1, q1⟩ => ?_
  refine thn (hb pins s1 σ H1 _ I1 q1) fun u s2 ⟨y, H2, I2, r2, q2⟩ => ?_
  exact hf v u s2 x y H2 I2 r1 r2 q2

theorem pe_op {op : Operator} {r : R2} (ho : OpR X (binaryOp op) r) (ha : PE X a ta) (hb : PE X b tb) : PE X (.BinOp a op b pos) (tOp r ta tb) := by
  intro pins s σ H Q I h
  exact wpAny_BinOp (binT ha hb I h fun v u s2 x y H2 I2 rx ry q => ho pins s2 σ H2 x y v u Q I2 rx ry q)
theorem pe_un {op : UnaryOp} {r : V → Hp → VK → Prop} (ho : UnR X (unaryOp op) r) (ha : PE X a ta) : PE X (.UnaryOp op a pos) (tUn r ta) := by
  intro pins s σ H Q I h
  exact UnaryOp_ (thn (ha pins s σ H _ I h) fun v s1 ⟨x, H1, I1, r1, q1⟩ => ho pins s1 σ H1 x v Q I1 r1 q1)
/-! ### ints -/
theorem opI {f : Value → Value → Sem Value} {C : Int → Int → Prop} {g : Int → Int → Int}
    (rule : ∀ (i j : Int) (t u : Tok) (s : Shared) (Q : Value → Shared → Prop) (E : Value → Shared → Prop), C i j → Q (.int (g i j) s.toks) { s with toks := s.toks + 1 } → wpAny (model X.prog X.w) X.A (f (.int i t) (.int j u)) Q E s) :
    OpR X f (rI C fun i j => .int (g i j)) := by
  intro pins s σ H x y v u Q I rx ry h
  obtain ⟨i, j, rfl, rfl, hc, q⟩ := h
  obtain ⟨t, rfl⟩ := rx
  obtain ⟨t', rfl⟩ := ry
  exact rule i j t t' s _ _ hc ⟨.int (g i j), H, I.tok _, ⟨_, rfl⟩, q⟩
theorem opI0 {f : Value → Value → Sem Value} {g : Int → Int → Int}
    (rule : ∀ (i j : Int) (t u : Tok) (s : Shared) (Q : Value → Shared → Prop) (E : Value → Shared → Prop), Q (.int (g i j) s.toks) { s with toks := s.toks + 1 } → wpAny (model X.prog X.w) X.A (f (.int i t) (.int j u)) Q E s) :
    OpR X f (rI0 fun i j => .int (g i j)) := by
  intro pins s σ H x y v u Q I rx ry h
  obtain ⟨i, j, rfl, rfl, q⟩ := h
  obtain ⟨t, rfl⟩ := rx
  obtain ⟨t', rfl⟩ := ry
  exact rule i j t t' s _ _ ⟨.int (g i j), H, I.tok _, ⟨_, rfl⟩, q⟩
theorem opB0 {f : Value → Value → Sem Value} {g : Int → Int → Bool}
    (rule : ∀ (i j : Int) (t u : Tok) (s : Shared) (Q : Value → Shared → Prop) (E : Value → Shared → Prop), Q (.bool (g i j)) s → wpAny (model X.prog X.w) X.A (f (.int i t) (.int j u)) Q E s) :
    OpR X f (rI0 fun i j => .bl (g i j)) := by
  intro pins s σ H x y v u Q I rx ry h
  obtain ⟨i, j, rfl, rfl, q⟩ := h
  obtain ⟨t, rfl⟩ := rx
  obtain ⟨t', rfl⟩ := ry
  exact rule i j t t' s _ _ ⟨.bl (g i j), H, I, rfl, q⟩

noncomputable def CDiv (i j : Int) : Prop := 0 < j ∧ j < 1073741824
noncomputable def CPow (i j : Int) : Prop := 0 ≤ j ∧ j ≤ 1000000 ∧ i.natAbs < 2 ^ 64
noncomputable def CMul (i j : Int) : Prop := (-(2 ^ 64) < i ∧ i < 2 ^ 64) ∨ (-(2 ^ 64) < j ∧ j < 2 ^ 64)
theorem CMul.ok {i j : Int} (h : CMul i j) : IntMulOk i j := by
  rcases h with ⟨h1, h2⟩ | ⟨h1, h2⟩
  · exact .of_left (intBits_le_64 h1 h2)
  · exact .of_right (intBits_le_64 h1 h2)
theorem op_add : OpR X (binaryOp .Add) (rI0 fun i j => .int (i + j)) := opI0 fun _ _ _ _ _ _ _ q => add_int q
theorem op_sub : OpR X (binaryOp .Sub) (rI0 fun i j => .int (i - j)) := opI0 fun _ _ _ _ _ _ _ q => sub_int q
theorem op_mul : OpR X (binaryOp .Mult) (rI CMul fun i j => .int (i * j)) := opI fun _ _ _ _ _ _ _ hc q => mul_int q hc.ok
/-- // by a positive divisor -/
theorem op_fdiv : OpR X (binaryOp .FloorDiv) (rI CDiv fun i j => .int (i / j)) := opI fun i j _ _ _ _ _ hc q => by
  have h1 : (0 : Int) < j := hc.1
  have h2 : j < 1073741824 := hc.2
  exact floordiv_int (by omega) (by rw [Int.fdiv_eq_ediv_of_nonneg i (by omega)]; exact q) (.inl (PyProof.noPylong_small (by omega)))
/-- % by a positive divisor of any size -/
theorem op_mod : OpR X (binaryOp .Mod) (rI (fun _ j => 0 < j) fun i j => .int (i % j)) := opI fun i j _ _ _ _ _ hc q => by
  have h1 : (0 : Int) < j := hc
  exact mod_int' (by omega) (by rw [Int.fmod_eq_emod_of_nonneg i (by omega)]; exact q)
theorem op_pow : OpR X (binaryOp .Pow) (rI CPow fun i j => .int (i ^ j.toNat)) := opI fun _ _ _ _ _ _ _ hc q => pow_int_small hc.1 hc.2.1 hc.2.2 q
theorem unI {f : Value → Sem Value} {g : Int → Int}
    (rule : ∀ (i : Int) (t : Tok) (s : Shared) (Q : Value → Shared → Prop) (E : Value → Shared → Prop), Q (.int (g i) s.toks) { s with toks := s.toks + 1 } → wpAny (model X.prog X.w) X.A (f (.int i t)) Q E s) :
    UnR X f (rU fun i => .int (g i)) := by
  intro pins s σ H x v Q I rx h
  obtain ⟨i, rfl, q⟩ := h
  obtain ⟨t, rfl⟩ := rx
  exact rule i t s _ _ ⟨.int (g i), H, I.tok _, ⟨_, rfl⟩, q⟩
theorem un_neg : UnR X (unaryOp .USub) (rU fun i => .int (-i)) := unI fun _ _ _ _ _ q => neg_int q
/-! ### bools among ints: n += (a < b) -/
end

/-! ### comparisons -/
/-- the scalars that == tells apart as data does -/
noncomputable def scal : V → V → Bool
  | .non, .non => true | .non, .int _ => true | .int _, .non => true | .non, .bl _ => true | .bl _, .non => true | .non, .str _ => true | .str _, .non => true
  | .int _, .int _ => true | .bl _, .bl _ => true | .str _, .str _ => true | .byt _, .byt _ => true
  | .int _, .str _ => true | .str _, .int _ => true | .bl _, .str _ => true | .str _, .bl _ => true
  | _, _ => false
noncomputable def rEq : R2 := fun x y H Q => scal x y = true ∧ Q (.bl (decide (x = y))) H
noncomputable def rNe : R2 := fun x y H Q => scal x y = true ∧ Q (.bl (!decide (x = y))) H

theorem dec_int {i j : Int} : decide (V.int i = V.int j) = (i == j) := by
  rw [Bool.eq_iff_iff]
  simp
theorem dec_bl {i j : Bool} : decide (V.bl i = V.bl j) = (i == j) := by
  rw [Bool.eq_iff_iff]
  simp
theorem dec_str {i j : Str} : decide (V.str i = V.str j) = (i == j) := by
  rw [Bool.eq_iff_iff]
  simp
theorem dec_byt {i j : Array UInt8} : decide (V.byt i = V.byt j) = (i.toList == j.toList) := by
  rw [Bool.eq_iff_iff]
  cases i
  cases j
  simp

section
variable {X : Cx} {a b c : Expr} {ta tb tc : TE} {pos : Pos}
theorem fin_bl {pins : List (Addr × Obj)} {σ : St} {H : Hp} {s : Shared} {Q : VK} {k k' : Bool} (I : Inv X pins σ H s) (q : Q (.bl k) H) (e : k = k') : EP X pins σ Q (.bool k') s := by
  subst e
  exact ⟨.bl k, H, I, rfl, q⟩
theorem op_eq : OpR X (compareOp .Eq) rEq := by
  intro pins s σ H x y v u Q I rx ry h
  obtain ⟨hs, q⟩ := h
  cases x with
  | non =>
    cases rx
    cases y with
    | non => cases ry; exact PySem.EqNone.eq_none_none (fin_bl I q (by simp))
    | bl j => cases ry; exact PySem.EqNone.eq_none_bool (fin_bl I q (by simp))
    | int j => obtain ⟨t', rfl⟩ := ry; exact PySem.EqNone.eq_none_int (fin_bl I q (by simp))
    | str j => obtain ⟨t', rfl⟩ := ry; exact PySem.EqNone.eq_none_str (fin_bl I q (by simp))
    | _ => exact absurd (show false = true from hs) Bool.false_ne_true
  | bl i =>
    cases rx
    cases y with
    | non => cases ry; exact PySem.EqNone.eq_bool_none (fin_bl I q (by simp))
    | bl j => cases ry; exact eq_bool (fin_bl I q dec_bl)
    | str j => obtain ⟨t', rfl⟩ := ry; exact PySem.EqMixed.eq_bool_str (fin_bl I q (by simp))
    | _ => exact absurd (show false = true from hs) Bool.false_ne_true
  | int i =>
    obtain ⟨t, rfl⟩ := rx
    cases y with
    | non => cases ry; exact PySem.EqNone.eq_int_none (fin_bl I q (by simp))
    | int j => obtain ⟨t', rfl⟩ := ry; exact eq_int (fin_bl I q dec_int)
    | str j => obtain ⟨t', rfl⟩ := ry; exact PySem.EqMixed.eq_int_str (fin_bl I q (by simp))
    | _ => exact absurd (show false = true from hs) Bool.false_ne_true
  | str i =>
    obtain ⟨t, rfl⟩ := rx
    cases y with
    | non => cases ry; exact PySem.EqNone.eq_str_none (fin_bl I q (by simp))
    | bl j => cases ry; exact PySem.EqMixed.eq_str_bool (fin_bl I q (by simp))
    | int j => obtain ⟨t', rfl⟩ := ry; exact PySem.EqMixed.eq_str_int (fin_bl I q (by simp))
    | str j => obtain ⟨t', rfl⟩ := ry; exact eq_str (fin_bl I q dec_str)
    | _ => exact absurd (show false = true from hs) Bool.false_ne_true
  | byt i =>
    obtain ⟨t, rfl⟩ := rx
    cases y with
    | byt j => obtain ⟨t', rfl⟩ := ry; exact PySem.W.eq_bytes (fin_bl I q dec_byt)
    | _ => exact absurd (show false = true from hs) Bool.false_ne_true
  | _ => cases y <;> exact absurd (show false = true from hs) Bool.false_ne_true
theorem op_ne : OpR X (compareOp .NotEq) rNe := by
  intro pins s σ H x y v u Q I rx ry h
  obtain ⟨hs, q⟩ := h
  cases x with
  | non =>
    cases rx
    cases y with
    | non => cases ry; exact PySem.EqNone.ne_none_none (fin_bl I q (by simp))
    | bl j => cases ry; exact PySem.EqNone.ne_none_bool (fin_bl I q (by simp))
    | int j => obtain ⟨t', rfl⟩ := ry; exact PySem.EqNone.ne_none_int (fin_bl I q (by simp))
    | str j => obtain ⟨t', rfl⟩ := ry; exact PySem.EqNone.ne_none_str (fin_bl I q (by simp))
    | _ => exact absurd (show false = true from hs) Bool.false_ne_true
  | bl i =>
    cases rx
    cases y with
    | non => cases ry; exact PySem.EqNone.ne_bool_none (fin_bl I q (by simp))
    | bl j => cases ry; exact ne_bool (fin_bl I q (congrArg not dec_bl))
    | str j => obtain ⟨t', rfl⟩ := ry; exact PySem.EqMixed.ne_bool_str (fin_bl I q (by simp))
    | _ => exact absurd (show false = true from hs) Bool.false_ne_true
  | int i =>
    obtain ⟨t, rfl⟩ := rx
    cases y with
    | non => cases ry; exact PySem.EqNone.ne_int_none (fin_bl I q (by simp))
    | int j => obtain ⟨t', rfl⟩ := ry; exact ne_int (fin_bl I q (congrArg not dec_int))
    | str j => obtain ⟨t', rfl⟩ := ry; exact PySem.EqMixed.ne_int_str (fin_bl I q (by simp))
    | _ => exact absurd (show false = true from hs) Bool.false_ne_true
  | str i =>
    obtain ⟨t, rfl⟩ := rx
    cases y with
    | non => cases ry; exact PySem.EqNone.ne_str_none (fin_bl I q (by simp))
    | bl j => cases ry; exact PySem.EqMixed.ne_str_bool (fin_bl I q (by simp))
    | int j => obtain ⟨t', rfl⟩ := ry; exact PySem.EqMixed.ne_str_int (fin_bl I q (by simp))
    | str j => obtain ⟨t', rfl⟩ := ry; exact ne_str (fin_bl I q (congrArg not dec_str))
    | _ => exact absurd (show false = true from hs) Bool.false_ne_true
  | byt i =>
    obtain ⟨t, rfl⟩ := rx
    cases y with
    | byt j => obtain ⟨t', rfl⟩ := ry; exact PySem.W.ne_bytes (fin_bl I q (congrArg not dec_byt))
    | _ => exact absurd (show false = true from hs) Bool.false_ne_true
  | _ => cases y <;> exact absurd (show false = true from hs) Bool.false_ne_true

theorem op_lt : OpR X (compareOp .Lt) (rI0 fun i j => .bl (decide (i < j))) := opB0 fun _ _ _ _ _ _ _ q => lt_int q
theorem op_le : OpR X (compareOp .LtE) (rI0 fun i j => .bl (decide (i ≤ j))) := opB0 fun _ _ _ _ _ _ _ q => le_int q
theorem op_gt : OpR X (compareOp .Gt) (rI0 fun i j => .bl (decide (j < i))) := opB0 fun _ _ _ _ _ _ _ q => gt_int q
theorem op_lt_str : OpR X (compareOp .Lt) (fun x y H Q => ∃ i j, x = .str i ∧ y = .str j ∧ Q (.bl (decide (i.cps.toList < j.cps.toList))) H) := by
  intro pins s σ H x y v u Q I rx ry h
  obtain ⟨i, j, rfl, rfl, q⟩ := h
  obtain ⟨t, rfl⟩ := rx
  obtain ⟨t', rfl⟩ := ry
  exact lt_str (fin_bl I q rfl)
theorem nomark (b : Expr) {op : CmpOp} (h : op ≠ .In := by decide) (h2 : op ≠ .NotIn := by decide) : behindInMarks op b = false := by
  have e1 : (op == CmpOp.In) = false := by cases op <;> first | rfl | exact absurd rfl h
  have e2 : (op == CmpOp.NotIn) = false := by cases op <;> first | rfl | exact absurd rfl h2
  cases b <;> simp [behindInMarks, e1, e2]
/-- a comparison as a value; hm: nomark b, or (for in, not in) by with_unfolding_all rfl -/
theorem pe_cmpR {op : CmpOp} {r : R2} (ho : OpR X (compareOp op) r) (ha : PE X a ta) (hb : PE X b tb) (hm : behindInMarks op b = false) : PE X (.Compare a [op] [b] pos) (tOp r ta tb) := by
  intro pins s σ H Q I h
  exact wpAny_Compare1 (binT ha hb I h fun v u s2 x y H2 I2 rx ry q => ho pins s2 σ H2 x y v u Q I2 rx ry q) hm
/-- a reading of a value as a test -/
noncomputable def tTest (t : TE) : TT := fun σ H Q => t σ H fun x H' => ∃ k, x = .bl k ∧ Q k H'
theorem pt_cmpR {op : CmpOp} {r : R2} (ho : OpR X (compareOp op) r) (ha : PE X a ta) (hb : PE X b tb) (hm : behindInMarks op b = false) : PT X (.Compare a [op] [b] pos) (tTest (tOp r ta tb)) := by
  intro pins s σ H Q I h
  refine wpAny_isTrue_Compare1 (thn (ha pins s σ H _ I h) fun v s1 ⟨x, H1, I1, r1, q1⟩ => thn (hb pins s1 σ H1 _ I1 q1) fun u s2 ⟨y, H2, I2, r2, q2⟩ =>
    thn (ho pins s2 σ H2 x y v u _ I2 r1 r2 q2) fun c s3 ⟨z, H3, I3, r3, k, e, q3⟩ => ?_) hm
  subst e
  cases r3
  exact wpAny_truthy_bool ⟨H3, I3, q3⟩
/-- a op1 b op2 c -/
noncomputable def tChain (r r' : R2) (ta tb tc : TE) : TE := fun σ H Q => ta σ H fun x H1 => tb σ H1 fun y H2 => r x y H2 fun z H3 => ∃ k, z = .bl k ∧
  (if k = true then tc σ H3 fun w' H4 => r' y w' H4 Q else Q (.bl false) H3)
theorem pe_chain {op op' : CmpOp} {r r' : R2} (ho : OpR X (compareOp op) r) (ho' : OpR X (compareOp op') r') (ha : PE X a ta) (hb : PE X b tb) (hc : PE X c tc)
    (hm : lastMarks [op, op'] [b, c] = false := by with_unfolding_all rfl) : PE X (.Compare a [op, op'] [b, c] pos) (tChain r r' ta tb tc) := by
  intro pins s σ H Q I h
  refine Compare_chain (thn (ha pins s σ H _ I h) fun v s1 ⟨x, H1, I1, r1, q1⟩ => chain_link (thn (hb pins s1 σ H1 _ I1 q1) fun u s2 ⟨y, H2, I2, r2, q2⟩ =>
    thn (ho pins s2 σ H2 x y v u _ I2 r1 r2 q2) fun d s3 ⟨z, H3, I3, r3, k, e, q3⟩ => ?_)) hm
  subst e
  cases r3
  refine wpAny_truthy_bool ?_
  cases k with
  | false => exact ite_ff ⟨.bl false, H3, I3, rfl, q3⟩
  | true => exact ite_tt (chain_last (thn (hc pins s3 σ H3 _ I3 q3) fun w' s4 ⟨z', H4, I4, r4, q4⟩ => ho' pins s4 σ H4 y z' u w' Q I4 r2 r4 q4))
theorem pt_chain {op op' : CmpOp} {r r' : R2} (ho : OpR X (compareOp op) r) (ho' : OpR X (compareOp op') r') (ha : PE X a ta) (hb : PE X b tb) (hc : PE X c tc)
    (hm : lastMarks [op, op'] [b, c] = false := by with_unfolding_all rfl) : PT X (.Compare a [op, op'] [b, c] pos) (tTest (tChain r r' ta tb tc)) := by
  intro pins s σ H Q I h
  refine isTrue_chain (thn (ha pins s σ H _ I h) fun v s1 ⟨x, H1, I1, r1, q1⟩ => test_link (thn (hb pins s1 σ H1 _ I1 q1) fun u s2 ⟨y, H2, I2, r2, q2⟩ =>
    thn (ho pins s2 σ H2 x y v u _ I2 r1 r2 q2) fun d s3 ⟨z, H3, I3, r3, k, e, q3⟩ => ?_)) hm
  subst e
  cases r3
  refine wpAny_truthy_bool ?_
  cases k with
  | false =>
    obtain ⟨k', e', q'⟩ := q3
    cases e'
    exact ite_ff ⟨H3, I3, q'⟩
  | true =>
    refine ite_tt (test_last (thn (hc pins s3 σ H3 _ I3 q3) fun w' s4 ⟨z', H4, I4, r4, q4⟩ => thn (ho' pins s4 σ H4 y z' u w' _ I4 r2 r4 q4) fun d' s5 ⟨z2, H5, I5, r5, k2, e2, q5⟩ => ?_))
    subst e2
    cases r5
    exact wpAny_truthy_bool ⟨H5, I5, q5⟩

/-! ### truth -/
theorem line63 : (sizeLine : Nat) < 2 ^ 63 := by rw [sizeLine_eq]; decide
/-! ### strs and bytes -/
theorem op_add_str : OpR X (binaryOp .Add) (fun x y H Q => ∃ i j, x = .str i ∧ y = .str j ∧ i.length + j.length ≤ sizeLine ∧ Q (.str (i ++ j)) H) := by
  intro pins s σ H x y v u Q I rx ry h
  obtain ⟨i, j, rfl, rfl, hz, q⟩ := h
  obtain ⟨t, rfl⟩ := rx
  obtain ⟨t', rfl⟩ := ry
  exact add_str (fun t' tk => ⟨.str (i ++ j), H, I.tok _, ⟨_, rfl⟩, q⟩) hz
/-! ### scalar builtins, by CallR -/
theorem vals1 {x : V} {us : List Value} (r : Vals [x] us) : ∃ u, us = [u] ∧ RelV x u := by
  cases r with
  | cons r1 r2 => cases r2; exact ⟨_, rfl, r1⟩
theorem vals2 {x y : V} {us : List Value} (r : Vals [x, y] us) : ∃ u w', us = [u, w'] ∧ RelV x u ∧ RelV y w' := by
  cases r with
  | cons r1 r2 =>
    cases r2 with
    | cons r3 r4 => cases r4; exact ⟨_, _, rfl, r1, r3⟩
theorem call_max2 (hc : X.calm = true) : CallR X (.builtin "max") (fun xs H Q => ∃ i j, xs = [.int i, .int j] ∧ Q (.int (if j > i then j else i)) H) := by
  intro pins s σ H xs us Q I r h
  obtain ⟨i, j, rfl, q⟩ := h
  obtain ⟨u, w', rfl, ⟨t, rfl⟩, ⟨t', rfl⟩⟩ := vals2 r
  refine max_two_ints (I.ok.hd hc) fun h' tk k => ⟨_, H, I.kept k, ?_, q⟩
  by_cases hj : j > i
  · rw [if_pos hj, if_pos hj]; exact ⟨_, rfl⟩
  · rw [if_neg hj, if_neg hj]; exact ⟨_, rfl⟩
theorem call_min2 (hc : X.calm = true) : CallR X (.builtin "min") (fun xs H Q => ∃ i j, xs = [.int i, .int j] ∧ Q (.int (if j < i then j else i)) H) := by
  intro pins s σ H xs us Q I r h
  obtain ⟨i, j, rfl, q⟩ := h
  obtain ⟨u, w', rfl, ⟨t, rfl⟩, ⟨t', rfl⟩⟩ := vals2 r
  refine min_two_ints (I.ok.hd hc) fun h' tk k => ⟨_, H, I.kept k, ?_, q⟩
  by_cases hj : j < i
  · rw [if_pos hj, if_pos hj]; exact ⟨_, rfl⟩
  · rw [if_neg hj, if_neg hj]; exact ⟨_, rfl⟩
theorem call_int1 : CallR X (.type "int") (fun xs H Q => (∃ i, xs = [.int i] ∧ Q (.int i) H) ∨ ∃ k, xs = [.bl k] ∧ Q (.int (if k then 1 else 0)) H) := by
  intro pins s σ H xs us Q I r h
  rcases h with ⟨i, rfl, q⟩ | ⟨k, rfl, q⟩
  · obtain ⟨u, rfl, t, rfl⟩ := vals1 r
    exact call_int_int ⟨.int i, H, I, ⟨_, rfl⟩, q⟩
  · obtain ⟨u, rfl, r1⟩ := vals1 r
    cases r1
    exact call_int_bool ⟨.int (if k then 1 else 0), H, I.tok _, ⟨_, rfl⟩, q⟩
end
end L2

namespace L2
open PySem PySem.Spec PyProof.Rows

/-! ### an instance, its attributes a map -/
structure ObjM (h : Heap) (x dx C : Addr) (mA : Str → Option Value) : Prop where
  obj : h.get? x = some (PySem.W.instObj C dx)
  ns : h.Ns1 dx mA
  ne : dx ≠ x

theorem lookIn_ns {h : Heap} {dx : Addr} {mA : Str → Option Value} (n : h.Ns1 dx mA) : ∃ od, h.get? dx = some od ∧ ∀ name, PySem.W.lookIn name od = some (mA name) := by
  obtain ⟨o, es, ep, ho, hd, hk, _, hm⟩ := n
  refine ⟨o, ho, fun name => ?_⟩
  have e := hm name
  unfold nsFind findBy at e
  rw [← Array.find?_toList] at e
  unfold PySem.W.lookIn
  rw [hd]
  dsimp only
  split
  · rename_i y q
    rw [q] at e
    exact congrArg some e
  · rename_i q
    rw [q] at e
    have a : es.toList.any (·.refKey) = false := by
      rw [List.any_eq_false]
      intro y hy
      obtain ⟨z, t, hkey⟩ := hk y (Array.mem_toList_iff.mp hy)
      simp [DictEntry.refKey, hkey]
    have a' : ¬ es.toList.any (·.refKey) = true := by rw [a]; exact Bool.false_ne_true
    rw [if_neg a']
    exact congrArg some e

theorem ObjM.look {h : Heap} {x dx C : Addr} {mA : Str → Option Value} (I : ObjM h x dx C mA) : ∃ od, PySem.W.InstAt h x (PySem.W.instObj C dx) C (some od) ∧ ∀ name, PySem.W.lookIn name od = some (mA name) :=
  let ⟨od, ho, hl⟩ := lookIn_ns I.ns
  ⟨od, ⟨I.obj, rfl, rfl, ho⟩, hl⟩

section
variable {prog : Program} {w : World} {A : Around} {E : Value → Shared → Prop} {s : Shared} {K : PySem.W.Frag} {x dx C f : Addr} {mA : Str → Option Value} {name : Str} {v : Value}

end

/-! ### the attributes as a list of pairs -/
section
variable {P : Program} {w : World} {H H' : Hp} {h h' : Heap} {a C dx : Addr} {fs fs' : List (Str × V)}
theorem ins_get (hok : HOk P w H h) (e : H a = some (.ins C dx fs)) : ∃ mA, ObjM h a dx C mA ∧ (∀ f, RelO (fs.lookup f) (mA f)) ∧ PySem.Within mA (fs.map (·.1)) ∧ fs.length ≤ 1000 ∧ H dx = some (.own a) := by
  obtain ⟨d, z, ne, ob, mA, n, r, q⟩ := (show ObjOk P w H h a (.ins C dx fs) from hok a _ e)
  exact ⟨mA, ⟨ob, n, ne⟩, r, q, z, d⟩
end

/-! ### what of the text a class must have -/
structure Cls (K : PySem.W.Frag) (C : Addr) : Prop where
  pg : PySem.W.plainGet K C Str.empty = true
  hd : PySem.W.hasDictIn K C = true
  po : PySem.W.plainOver K C = true
  sa : PySem.W.findIn K (.ref C) "__setattr__" = some (some (.builtin "object.__setattr__"))
theorem Cls.get {K : PySem.W.Frag} {C : Addr} (c : Cls K C) (f : Str) : PySem.W.plainGet K C f = true := c.pg
/-- a constant of the class -/
structure Con (K : PySem.W.Frag) (C : Addr) (f : Str) (v : V) (u : Value) : Prop where
  at_ : PySem.W.findIn K (.ref C) f = some (some u)
  rel : RelV v u
  get : PySem.W.specialIn K u "__get__" = some none
  cp : PySem.W.copiedNames.contains f = false
/-- a method: a plain def of the class or of one above it -/
structure Meth (K : PySem.W.Frag) (C : Addr) (m : Str) (f : Addr) : Prop where
  at_ : PySem.W.findIn K (.ref C) m = some (some (.ref f))
  fn : PySem.W.isFn K (.ref f) = true
  kp : PySem.W.keepIn K (.ref f) = true

section
variable {X : Cx} {pins : List (Addr × Obj)} {σ : St} {H : Hp} {s : Shared} {a C dx : Addr} {fs : List (Str × V)} {f : Str} {v : V} {A : Around} {E : Value → Shared → Prop}

end

/-! ### readings and rules -/
section
variable {X : Cx} {o e value : Expr} {f : Str} {pos pos' tpos : Pos} {ta tv : TE}
end

/-! ### isinstance -/
section
variable {X : Cx} {pins : List (Addr × Obj)} {σ : St} {H : Hp} {s : Shared} {A : Around} {E : Value → Shared → Prop} {Q : Value → Shared → Prop} {c : Value} {b : Bool}
/-- the type of a value, as the fragment's deciders take it; for an instance its class -/
inductive TyOf (K : PySem.W.Frag) (H : Hp) : V → Value → Prop where
  | non : TyOf K H .non (.type "NoneType")
  | bl (x : Bool) : TyOf K H (.bl x) (.type "bool")
  | int (i : Int) : TyOf K H (.int i) (.type "int")
  | str (x : Str) : TyOf K H (.str x) (.type "str")
  | flt (x : UInt64) : TyOf K H (.flt x) (.type "float")
  | lst {a : Addr} {xs : List V} (e : H a = some (.lst xs)) : TyOf K H (.ref a) (.type "list")
  | frz {a : Addr} {o : Obj} {xs : List V} (e : H a = some (.frz o (.lst xs))) : TyOf K H (.ref a) (.type "list")
  | tup {a : Addr} {xs : List V} (e : H a = some (.tup xs)) : TyOf K H (.ref a) (.type "tuple")
  | dK {a : Addr} {kvs : List (Key × V)} (e : H a = some (.dK kvs)) : TyOf K H (.ref a) (.type "dict")
  | dT {a : Addr} {kvs : List (List Key × V)} (e : H a = some (.dT kvs)) : TyOf K H (.ref a) (.type "dict")
  | ins {a C dx : Addr} {fs : List (Str × V)} (e : H a = some (.ins C dx fs)) (cl : Cls K C) (ha : PySem.W.findIn K (.ref C) "__class__" = some (some (.builtin "object.__class__")))
      (hn : PySem.W.specialIn K (.builtin "object.__class__") "__get__" = some (some (.builtin "getset_descriptor.__get__"))) (htk : PySem.W.takesIn K (.builtin "object.__class__") = some true)
      (hm : PySem.W.mroIn K C (.type "object") = some true) : TyOf K H (.ref a) (.ref C)
/-- isinstance(x, c) for one class c, a built-in or an own one: kitOne's answer -/
theorem isinst_ok {x : V} {u t : Value} (I : Inv X pins σ H s) (rx : RelV x u) (ty : TyOf X.K H x t) (e : PySem.W.kitOne X.K t c = some b) (h : ∀ tk, Q (.bool b) { s with toks := tk }) :
    wpAny (model X.prog X.w) A (call (.builtin "isinstance") [u, c]) Q E s := by
  cases ty with
  | non => cases (show u = Value.none from rx); exact PySem.W.kia_one PySem.W.kitx_none I.kIn True.intro e (fun z => nomatch z) h
  | bl y => cases (show u = Value.bool y from rx); exact PySem.W.kia_one PySem.W.kitx_bool I.kIn True.intro e (fun z => nomatch z) h
  | int i => obtain ⟨t, q⟩ := (show ∃ t, u = Value.int i t from rx); cases q; exact PySem.W.kia_one PySem.W.kitx_int I.kIn True.intro e (fun z => nomatch z) h
  | str y => obtain ⟨t, q⟩ := (show ∃ t, u = Value.str y t from rx); cases q; exact PySem.W.kia_one PySem.W.kitx_str I.kIn True.intro e (fun z => nomatch z) h
  | flt y => obtain ⟨t, q⟩ := (show ∃ t, u = Value.float y t from rx); cases q; exact PySem.W.kia_one PySem.W.kitx_float I.kIn True.intro e (fun z => nomatch z) h
  | @lst a xs ea =>
    cases (show u = Value.ref a from rx)
    obtain ⟨_, _, n, _, h1⟩ := (show ObjOk X.prog X.w H s.heap a (.lst xs) from I.hok a _ ea)
    exact PySem.W.kia_one PySem.W.kitx_list I.kIn ⟨_, h1, rfl⟩ e (fun z => nomatch z) h
  | @frz a ob xs ea =>
    cases (show u = Value.ref a from rx)
    obtain ⟨_, _, _, n, _, h1⟩ := (show ObjOk X.prog X.w H s.heap a (.frz ob (.lst xs)) from I.hok a _ ea)
    exact PySem.W.kia_one PySem.W.kitx_list I.kIn ⟨_, h1, rfl⟩ e (fun z => nomatch z) h
  | @tup a xs ea =>
    cases (show u = Value.ref a from rx)
    obtain ⟨_, _, _, p⟩ := (show ObjOk X.prog X.w H s.heap a (.tup xs) from I.hok a _ ea)
    obtain ⟨o, h1, h2, _⟩ := p
    exact PySem.W.kia_one PySem.W.kitx_tuple I.kIn ⟨o, h1, h2⟩ e (fun z => nomatch z) h
  | @dK a kvs ea =>
    cases (show u = Value.ref a from rx)
    obtain ⟨_, _, vs, _, p⟩ := (show ObjOk X.prog X.w H s.heap a (.dK kvs) from I.hok a _ ea)
    obtain ⟨o, es, ep, h1, h2, _⟩ := p
    exact PySem.W.kia_one PySem.W.kitx_dict I.kIn ⟨o, h1, h2.1⟩ e (fun z => nomatch z) h
  | @dT a kvs ea =>
    cases (show u = Value.ref a from rx)
    obtain ⟨_, _, xs, _, o, es, ep, h1, h2, _⟩ := (show ObjOk X.prog X.w H s.heap a (.dT kvs) from I.hok a _ ea)
    exact PySem.W.kia_one PySem.W.kitx_dict I.kIn ⟨o, h1, h2.1⟩ e (fun z => nomatch z) h
  | @ins a C dx fs ea cl ha hn htk hm =>
    cases (show u = Value.ref a from rx)
    obtain ⟨mA, O, _⟩ := ins_get I.hok ea
    obtain ⟨od, J, _⟩ := O.look
    exact PySem.W.kia_one (PySem.W.kitx_own (cl.get _) cl.hd ha hn htk hm) I.kIn J e (fun z => nomatch z) h
end
end L2

namespace L2
open PySem PySem.Spec PyProof.Rows

/-! ### room -/
structure Room (k : Nat) (A : Around) : Prop where
  hd : A.handled = none
  dp : A.depth + 3 * k + 5 < recursionLimit
  un : A.units + 16 * k + 200 < cLine
  gd : A.guards = some []
theorem Room.mono {j k : Nat} {A : Around} (r : Room k A) (h : j ≤ k) : Room j A := ⟨r.hd, by have := r.dp; omega, by have := r.un; omega, r.gd⟩
theorem Room.deeper {k : Nat} {A : Around} (r : Room (k + 1) A) (env : Env) : Room k (A.deeper env) :=
  ⟨r.hd, by have := r.dp; show A.depth + 1 + 3 * k + 5 < _; omega, by have := r.un; show A.units + 3 + 16 * k + 200 < _; omega, r.gd⟩
theorem Room.depth {k : Nat} {A : Around} (r : Room k A) : A.depth < recursionLimit := by have := r.dp; omega
theorem Room.units {k : Nat} {A : Around} (r : Room k A) : A.units + 64 < cLine := by have := r.un; omega
/-! ### argument lists and displays -/
noncomputable def tNil : TA := fun _ H Q => Q [] H
noncomputable def tCons (ta : TE) (tr : TA) : TA := fun σ H Q => ta σ H fun x H1 => tr σ H1 fun xs H2 => Q (x :: xs) H2
section
variable {X : Cx} {e : Expr} {es : List Expr} {te : TE} {t : TA} {pos : Pos}
theorem pa_nil : PA X [] tNil := fun _ _ _ _ H Q I h => Calls.spliced_nil ⟨[], H, I, .nil, h⟩
theorem pa_cons (ha : PE X e te) (hr : PA X es t) (hs : starEach (e :: es) X.env = (false, eval e X.env) :: starEach es X.env := by rfl) : PA X (e :: es) (tCons te t) := by
  intro pos pins s σ H Q I h
  rw [hs]
  show wpAny _ _ (spliced ((false, eval e X.env) :: backTo pos (starEach es X.env))) _ _ s
  refine Calls.spliced_cons (thn (ha pins s σ H _ I h) fun u s1 ⟨x, H1, I1, r1, q1⟩ => ?_)
  exact thn (hr pos pins s1 σ H1 _ I1 q1) fun us s2 ⟨xs, H2, I2, r2, q2⟩ => ⟨x :: xs, H2, I2, .cons r1 r2, q2⟩

/-- a tuple, a list of written items -/
noncomputable def tTup (t : TA) : TE := fun σ H Q => t σ H fun xs H1 => xs.length ≤ sizeLine ∧ ∀ p, H1 p = none → Q (.ref p) (upd H1 p (.tup xs))
noncomputable def tLst (t : TA) : TE := fun σ H Q => t σ H fun xs H1 => xs.length ≤ sizeLine ∧ ∀ p, H1 p = none → Q (.ref p) (upd H1 p (.lst xs))
theorem pe_tup {x1} (h : PA X es t) : PE X (.Tuple es x1 pos) (tTup t) := by
  intro pins s σ H Q I hq
  refine wpAny_Tuple_spliced (thn (h pos pins s σ H _ I hq) fun us s1 ⟨xs, H1, I1, r, z, q⟩ => ⟨by rw [← r.length]; exact z, ?_⟩)
  have hf : H1 s1.heap.objs.size = none := I1.hok.fresh (Nat.le_refl _)
  refine ⟨.ref s1.heap.objs.size, upd H1 s1.heap.objs.size (.tup xs), I1.laid (t' := s1.toks) (fun b u e => Heap.get?_push_of_some _ e) (Nat.le_refl _) ?_, rfl, q _ hf⟩
  exact ⟨z, us, r, ⟨_, Heap.get?_push_size _ rfl, rfl, _, rfl⟩⟩
theorem pe_lst (h : PA X es t) : PE X (.List es pos) (tLst t) := by
  intro pins s σ H Q I hq
  refine wpAny_List_spliced (thn (h pos pins s σ H _ I hq) fun us s1 ⟨xs, H1, I1, r, z, q⟩ => ⟨by rw [← r.length]; exact z, ?_⟩)
  have hf : H1 s1.heap.objs.size = none := I1.hok.fresh (Nat.le_refl _)
  refine ⟨.ref s1.heap.objs.size, upd H1 s1.heap.objs.size (.lst xs), I1.laid (t' := s1.toks) (fun b u e => Heap.get?_push_of_some _ e) (Nat.le_refl _) ?_, rfl, q _ hf⟩
  exact ⟨z, us, 0, r, Heap.get?_push_size _ rfl⟩
end

/-! ### what a def promises -/
/-- a def's promise: the bound arguments in the parameters' order, the heap, the wanted end, the wanted exception -/
noncomputable abbrev Sp := List V → Hp → VK → XK → Prop
/-- how an exception lies behind a call (file 08 gives it): the callers' frames, abstract heap and state ahead of the call, the wish, the exception, the state -/
noncomputable abbrev CXT := List Env → Hp → Shared → XK → Value → Shared → Prop

/-- the state at a call -/
structure Env0 (P : Program) (w : World) (K : PySem.W.Frag) (mg : Str → Option Value) (base : Heap) (A : Around) (outer : List Env) (s : Shared) (H : Hp) : Prop where
  frames : A.frames = some outer
  mod : Mod K mg base
  bs : ∀ b o, base.get? b = some o → s.heap.get? b = some o ∧ H b = none
  bsz : base.objs.size ≤ s.heap.objs.size
  funs : s.heap.FunFrames base outer
  frf : ∀ b ∈ frs outer, H b = none
  hok : HOk P w H s.heap
  bare : AllBare s.gens
/-- a call's end -/
noncomputable def CE (outer : List Env) (P : Program) (w : World) (H : Hp) (s : Shared) (Q : VK) (u : Value) (s' : Shared) : Prop :=
  ∃ v H', s'.os = s.os ∧ AllBare s'.gens ∧ Un (frs outer) [] H H' s.heap s'.heap ∧ HOk P w H' s'.heap ∧ RelV v u ∧ Q v H'
noncomputable def CR (CX : CXT) (outer : List Env) (P : Program) (w : World) (H : Hp) (s : Shared) (Q : VK) (E : XK) (r : Result) (s' : Shared) : Prop :=
  match r with
  | .ok (.ret u) => CE outer P w H s Q u s'
  | .ok _ => False
  | .error e => CX outer H s E e s'
structure FnOk (P : Program) (w : World) (K : PySem.W.Frag) (mg : Str → Option Value) (base : Heap) (CX : CXT) (k : Nat) (f : Addr) (fd : FuncData) (ps : List Str) (sp : Sp) : Prop where
  len : ∀ vs H Q E, sp vs H Q E → vs.length = ps.length
  run : ∀ (A : Around) (outer : List Env) (s : Shared) (H : Hp) (args : Args) (us : List Value) (vs : List V) (Q : VK) (E : XK), Room k A → Env0 P w K mg base A outer s H → BindsTo s fd args (ps.zip us) → Vals vs us → sp vs H Q E →
    codeAny (model P w) A (.call (.ref f) args) (CR CX outer P w H s Q E) s
/-- a weaker promise -/
theorem FnOk.imp {P : Program} {w : World} {K : PySem.W.Frag} {mg : Str → Option Value} {base : Heap} {CX : CXT} {k : Nat} {f : Addr} {fd : FuncData} {ps : List Str} {sp sp' : Sp} (F : FnOk P w K mg base CX k f fd ps sp)
    (h : ∀ vs H Q E, sp' vs H Q E → sp vs H Q E) : FnOk P w K mg base CX k f fd ps sp' :=
  ⟨fun vs H Q E q => F.len vs H Q E (h _ _ _ _ q), fun A outer s H args us vs Q E hr he hb hv hs => F.run A outer s H args us vs Q E hr he hb hv (h _ _ _ _ hs)⟩

section
variable {X : Cx} {pins : List (Addr × Obj)} {σ : St} {H : Hp} {s s' : Shared}
/-- from a body: what a callee wants -/
theorem Inv.env0 (I : Inv X pins σ H s) : Env0 X.prog X.w X.K X.mg X.base X.A X.stack s H :=
  ⟨I.ok.frames, I.ok.mod, I.bs, Nat.le_trans I.ok.bsz I.sz, I.stack, I.stkFree, I.hok, I.bare⟩
/-- behind a call -/
theorem Inv.after {Q : VK} {u : Value} (I : Inv X pins σ H s) (h : CE X.stack X.prog X.w H s Q u s') : EP X pins σ Q u s' := by
  obtain ⟨v, H', os, bare, un, hok, r, q⟩ := h
  obtain ⟨hh, g, d, t, os'⟩ := s'
  obtain rfl : os' = s.os := os
  exact ⟨v, H', I.call (h' := hh) (g' := g) (d' := d) (t' := t) (ch := []) un hok bare (fun b z => absurd z (by simp)), r, q⟩
end

/-! ### calls -/
/-- f(..): the written arguments, then the defaults dvs; E: what is wanted of an exception -/
noncomputable def tCall (sp : Sp) (dvs : List V) (E : XK) (t : TA) : TE := fun σ H Q => t σ H fun vs H1 => sp (vs ++ dvs) H1 Q E
/-- how the parameters are bound: us the positional arguments, kw the keywords' values by name, ds the defaults that fill up -/
noncomputable def Binds (K : PySem.W.Frag) (fd : FuncData) (ps : List Str) (ds : List Value) : Prop :=
  ∀ (s : Shared) (us : List Value), K.In s.heap → (us ++ ds).length = ps.length → BindsTo s fd ⟨us, []⟩ (ps.zip (us ++ ds))
/-- every parameter is given -/
theorem Binds.all {K : PySem.W.Frag} {fd : FuncData} {ps : List Str} (h : ∀ us : List Value, us.length = ps.length → bindArgs fd ⟨us, []⟩ = pure (ps.zip us)) : Binds K fd ps [] := fun s us _ hl => by
  rw [List.append_nil] at hl ⊢
  exact .of_eq (h us hl)

/-- an exception of a callee reaches what this body wants of exceptions -/
noncomputable def Passes (CX : CXT) (X : Cx) (E : XK) : Prop := ∀ (pins : List (Addr × Obj)) (σ : St) (H : Hp) (s : Shared) (e : Value) (s' : Shared), Inv X pins σ H s → CX X.stack H s E e s' → X.xe e s'

section
variable {X : Cx} {CX : CXT} {k : Nat} {f C : Addr} {fd : FuncData} {ps : List Str} {sp : Sp} {dvs : List V} {ds : List Value} {E : XK} {x m : Str} {p pos apos : Pos} {e o : Expr} {es : List Expr} {ta : TE} {t : TA}

/-- the callee runs -/
theorem run_fn {pins : List (Addr × Obj)} {σ : St} {H : Hp} {s : Shared} {Q : VK} {us : List Value} {vs : List V} (F : FnOk X.prog X.w X.K X.mg X.base CX k f fd ps sp) (hr : Room k X.A) (hb : Binds X.K fd ps ds) (hd : Vals dvs ds) (hx : Passes CX X E)
    (I : Inv X pins σ H s) (r : Vals vs us) (h : sp (vs ++ dvs) H Q E) : wpAny (model X.prog X.w) X.A (call (.ref f) us) (EP X pins σ Q) X.xe s := by
  have r2 : Vals (vs ++ dvs) (us ++ ds) := r.append hd
  have hl : (us ++ ds).length = ps.length := by rw [← r2.length]; exact F.len _ _ _ _ h
  refine wpAny_call (codeAny_mono (F.run X.A X.stack s H ⟨us, []⟩ (us ++ ds) (vs ++ dvs) Q E hr I.env0 (hb s us I.kIn hl) r2 h) fun r s' hq => ?_)
  cases r with
  | error e => exact hx pins σ H s e s' I hq
  | ok fl =>
    cases fl with
    | ret u => exact I.after hq
    | next => exact False.elim hq
    | brk => exact False.elim hq
    | cont => exact False.elim hq

theorem pe_call (F : FnOk X.prog X.w X.K X.mg X.base CX k f fd ps sp) (hr : Room k X.A) (hg : Gl X x) (hm : X.mg x = some (.ref f)) (hk : PySem.W.keepIn X.K (.ref f) = true) (hb : Binds X.K fd ps ds) (hd : Vals dvs ds) (hx : Passes CX X E)
    (ha : PA X (e :: es) t) (hdb : (x == ("__debug__" : Str)) = false := by decide) (he : starEach (e :: es) X.env = (false, eval e X.env) :: starEach es X.env := by rfl) (hpl : (backTo pos (starEach es X.env)).any (·.1) = false := by rfl) :
    PE X (.Call (.Name x p) (e :: es) [] pos) (tCall sp dvs E t) := by
  intro pins s σ H Q I h
  refine wpAny_Call_Name_kw (ld_glob I hg hm ?_ hdb)
  refine PySem.W.callWith_K (h₀ := X.base) I.ok.mod.kin hk (thn (ha pos pins s σ H _ I h) fun us s1 ⟨vs, H1, I1, r, q⟩ => ⟨I1.kIn, ?_⟩) he hpl
  exact run_fn F hr hb hd hx I1 r q
/-- what a class must have to be made -/
structure Mk (K : PySem.W.Frag) (C f : Addr) : Prop where
  makes : PySem.W.makesIn K C = true
  init : PySem.W.findIn K (.ref C) "__init__" = some (some (.ref f))
  fn : PySem.W.isFn K (.ref f) = true
  kp : PySem.W.keepIn K (.ref C) = true

end

/-! ### keywords -/
section
variable {X : Cx} {CX : CXT} {k : Nat} {f C : Addr} {fd : FuncData} {ps ks : List Str} {sp : Sp} {E : XK} {x m : Str} {p pos apos kpos : Pos} {e o : Expr} {es : List Expr} {kws : List Keyword} {te ta : TE} {t tk : TA} {nm : Option Str}
/-- how a call with keywords binds: g puts the positional values us and the keywords' values ws (names ks) in the parameters' order, defaults among them -/
structure KBinds (K : PySem.W.Frag) (fd : FuncData) (ps ks : List Str) (g : List Value → List Value → List Value) (gV : List V → List V → List V) : Prop where
  to : ∀ (s : Shared) (us ws : List Value), K.In s.heap → (g us ws).length = ps.length → BindsTo s fd ⟨us, ks.zip ws⟩ (ps.zip (g us ws))
  rel : ∀ {vs : List V} {us : List Value} {zs : List V} {ws : List Value}, Vals vs us → Vals zs ws → Vals (gV vs zs) (g us ws)
variable {g : List Value → List Value → List Value} {gV : List V → List V → List V}
end

/-! ### a def's body keeps its promise -/
/-- names: the parameters first -/
structure FnScope (N P : List Str) (sc : Scope) : Prop where
  kind : sc.kind = .function
  co : sc.isCoroutine = false
  gen : sc.isGenerator = false
  nd : N.Nodup
  pre : N.take P.length = P
  par : ∀ x ∈ P, sc.names.lookup x = some .local ∨ sc.names.lookup x = some .cell
  nofree : ∀ y ∈ sc.names, y.2 ≠ .free

theorem bindL_out {kindOf : Str → Option NameKind} {x : Str} : ∀ {binds : List (Str × Value)} {m : Str → Option Value}, (∀ v, (x, v) ∉ binds) → bindL kindOf binds m x = m x
  | [], _, _ => rfl
  | (n, v) :: r, m, h => by
    unfold bindL
    rw [bindL_out fun w hw => h w (List.mem_cons_of_mem _ hw)]
    split
    · have : x ≠ n := by rintro rfl; exact h v List.mem_cons_self
      simp [this]
    · rfl
theorem bindC_out {kindOf : Str → Option NameKind} {x : Str} : ∀ {binds : List (Str × Value)} {m : Str → Option Value}, (∀ v, (x, v) ∉ binds) → bindC kindOf binds m x = m x
  | [], _, _ => rfl
  | (n, v) :: r, m, h => by
    unfold bindC
    rw [bindC_out fun w hw => h w (List.mem_cons_of_mem _ hw)]
    split
    · rfl
    · have : x ≠ n := by rintro rfl; exact h v List.mem_cons_self
      simp [this]
theorem bindL_get {kindOf : Str → Option NameKind} {x : Str} {v : Value} : ∀ {P : List Str} {vs : List Value} {i : Nat} {m : Str → Option Value}, P.Nodup → P[i]? = some x → vs[i]? = some v → kindOf x = some .local →
    bindL kindOf (P.zip vs) m x = some v
  | [], _, _, _, _, h, _, _ => by simp at h
  | _ :: _, [], _, _, _, _, h, _ => by simp at h
  | p :: P, w :: vs, 0, m, nd, h1, h2, hk => by
    simp at h1 h2; subst h1; subst h2
    show bindL kindOf ((p, w) :: P.zip vs) m p = _
    unfold bindL
    rw [bindL_out fun v hv => (List.nodup_cons.mp nd).1 (List.of_mem_zip hv).1, if_pos hk]
    simp
  | p :: P, w :: vs, i + 1, m, nd, h1, h2, hk => by
    show bindL kindOf ((p, w) :: P.zip vs) m x = _
    unfold bindL
    exact bindL_get (i := i) (List.nodup_cons.mp nd).2 (by simpa using h1) (by simpa using h2) hk
theorem bindC_get {kindOf : Str → Option NameKind} {x : Str} {v : Value} : ∀ {P : List Str} {vs : List Value} {i : Nat} {m : Str → Option Value}, P.Nodup → P[i]? = some x → vs[i]? = some v → kindOf x ≠ some .local →
    bindC kindOf (P.zip vs) m x = some v
  | [], _, _, _, _, h, _, _ => by simp at h
  | _ :: _, [], _, _, _, _, h, _ => by simp at h
  | p :: P, w :: vs, 0, m, nd, h1, h2, hk => by
    simp at h1 h2; subst h1; subst h2
    show bindC kindOf ((p, w) :: P.zip vs) m p = _
    unfold bindC
    rw [bindC_out fun v hv => (List.nodup_cons.mp nd).1 (List.of_mem_zip hv).1, if_neg hk]
    simp
  | p :: P, w :: vs, i + 1, m, nd, h1, h2, hk => by
    show bindC kindOf ((p, w) :: P.zip vs) m x = _
    unfold bindC
    exact bindC_get (i := i) (List.nodup_cons.mp nd).2 (by simpa using h1) (by simpa using h2) hk

/-- the names' values at the entry -/
noncomputable def start (N : List Str) (vs : List V) : St := vs.map some ++ List.replicate (N.length - vs.length) none

/-- the context of a def's body, at its entry; an exception leaves the frame, then lies as CX says -/
noncomputable def cxOf (CX : CXT) (P : Program) (w : World) (K : PySem.W.Frag) (mg : Str → Option Value) (base : Heap) (N : List Str) (qual : Str) (scope : Scope) (f : Addr) (cd : Value) (A : Around) (outer : List Env) (s : Shared) (H : Hp) (E : XK) : Cx where
  prog := P
  w := w
  K := K
  mg := mg
  base := base
  A := A.deeper (envOfC qual scope s.heap.objs.size f cd)
  N := N
  s₀ := s
  H₀ := H
  env := envOfC qual scope s.heap.objs.size f cd
  outer := outer
  stack := envOfC qual scope s.heap.objs.size f cd :: outer
  ex := []
  calm := true
  fn := fun _ => true
  pn := []
  xe := fun e s' => wpAny (model P w) (A.deeper (envOfC qual scope s.heap.objs.size f cd)) (leaving (envOfC qual scope s.heap.objs.size f cd) e) (fun _ s'' => CX outer H s E e s'') (fun e' s'' => CX outer H s E e' s'') s'

theorem cell_has {sc : Scope} {n : Nat} {x : Str} (h : sc.names.lookup x = some .cell) : ∃ c, (cellsFrom n sc.names []).lookup x = some c := by
  have q := PySem.W.cellsFrom_some sc.names n [] (.inl h)
  exact Option.isSome_iff_exists.mp q

theorem inv_start {CX : CXT} {P : Program} {w : World} {K : PySem.W.Frag} {mg : Str → Option Value} {base : Heap} {N ps : List Str} {qual : Str} {scope : Scope} {f : Addr} {cd : Value} {A : Around} {outer : List Env} {s s1 : Shared} {H : Hp} {E : XK} {us : List Value} {vs : List V}
    (S : FnScope N ps scope) (hd : A.handled = none) (e0 : Env0 P w K mg base A outer s H) (hl : vs.length = ps.length) (r : Vals vs us)
    (x : InCallC s s.heap.objs.size (bindL (envOfC qual scope s.heap.objs.size f cd).kindOf (ps.zip us) fun _ => none) (cellsFrom (s.heap.objs.size + 1) scope.names []) (bindC (envOfC qual scope s.heap.objs.size f cd).kindOf (ps.zip us) fun _ => none) s1) :
    Inv (cxOf CX P w K mg base N qual scope f cd A outer s H E) [] (start N vs) H s1 := by
  have hpl : ps.length ≤ N.length := by have := congrArg List.length S.pre; rw [List.length_take] at this; omega
  obtain ⟨h1, tk, rfl, hk⟩ := x.done
  have noA : ∀ b : Addr, b ∉ (cxOf CX P w K mg base N qual scope f cd A outer s H E).ex := fun b z => absurd (show b ∈ ([] : List Addr) from z) (by simp)
  refine ⟨⟨e0.mod, S.kind, rfl, rfl, Nat.le_refl _, fun y z c h1 h2 => ?_, fun y hy => ?_, fun y c _ h => ?_, fun _ => hd, Around.frames_deeper e0.frames, .inr ⟨rfl, rfl⟩, fun b z => absurd z (noA b), e0.bs, e0.bsz, fun b _ _ => noA b, fun b z => absurd z (noA b), e0.funs, e0.frf⟩,
    rfl, e0.bare, Un.kept hk, ⟨_, x.toInCall.ns, fun i y v h1 h2 h3 => ?_⟩, fun y c h => ⟨_, x.cell y c h⟩, e0.hok.fresh (Nat.le_refl _), fun y c h => ?_, fun p hp => absurd (show p ∈ ([] : List (Addr × Obj)) from hp) (by simp), e0.hok.kept hk, ?_⟩
  · exact name_of_addr x.apart (PySem.mem_of_lookup h1) (PySem.mem_of_lookup h2)
  · have hy : scope.names.lookup y = some .cell ∨ scope.names.lookup y = some .free := hy
    rcases hy with hy | hy
    · exact cell_has hy
    · exact absurd rfl (S.nofree _ (PySem.mem_of_lookup hy))
  · exact Nat.le_of_lt (x.above y c (PySem.mem_of_lookup h))
  · have hi : i < vs.length := by
      unfold start at h2
      by_cases hi : i < vs.length
      · exact hi
      · rw [List.getElem?_append_right (by simpa using hi)] at h2
        rw [List.getElem?_replicate] at h2
        split at h2 <;> cases h2
    have ha : vs[i]? = some v := by
      unfold start at h2
      rw [List.getElem?_append_left (by simpa using hi), List.getElem?_map] at h2
      cases e : vs[i]? with
      | none => rw [e] at h2; cases h2
      | some a => rw [e] at h2; cases h2; rfl
    obtain ⟨u, hu, rv⟩ := r.get ha
    have hp : ps[i]? = some y := by
      rw [← S.pre, List.getElem?_take_of_lt (by omega)]; exact h1
    have ndP : ps.Nodup := by rw [← S.pre]; exact S.nd.sublist (List.take_sublist _ _)
    refine ⟨u, rv, ?_⟩
    rcases S.par y (List.mem_of_getElem? hp) with k | k
    · exact .inl ⟨k, bindL_get ndP hp hu k⟩
    · obtain ⟨c, e⟩ := cell_has (n := s.heap.objs.size + 1) k
      refine .inr ⟨.inl k, c, e, ?_⟩
      have q := x.cell y c e
      rw [bindC_get ndP hp hu (by show scope.names.lookup y ≠ _; rw [k]; decide)] at q
      exact q
  · exact e0.hok.fresh (Nat.le_of_lt (x.above y c (PySem.mem_of_lookup h)))
  · unfold start
    show _ = N.length
    rw [List.length_append, List.length_map, List.length_replicate]
    omega

/-- THE RULE: a def (or a method) of the text, by its body. The body's reading t is chosen for each entry; it is run at the parameters' values -/
theorem fn_of {CX : CXT} {P : Program} {w : World} {K : PySem.W.Frag} {mg : Str → Option Value} {base : Heap} {k : Nat} {f : Addr} {name qual : Str} {params : Arguments} {body : List Stmt} {scope : Scope} {dV kV doc pm cdv ct oc : Value} {an od : Option Addr}
    {osl : Array (Option Value)} {N ps : List Str} {sp : Sp} (lk : K.lookup f = some ⟨oc, od, .func (PySem.W.fnOf name qual params body scope dV kV doc pm an cdv ct), osl⟩) (hcd : PySem.W.codeIn K cdv qual = true) (S : FnScope N ps scope)
    (len : ∀ vs H Q E, sp vs H Q E → vs.length = ps.length)
    (hbody : ∀ (A : Around) (outer : List Env) (s : Shared) (H : Hp) (vs : List V) (Q : VK) (E : XK), Room k (A.deeper (envOfC qual scope s.heap.objs.size f cdv)) → sp vs H Q E →
      ∃ t, PSs (cxOf CX P w K mg base N qual scope f cdv A outer s H E) body t ∧ t { nx := fun _ H' => Q .non H', rt := Q } (start N vs) H) :
    FnOk P w K mg base CX (k + 1) f (PySem.W.fnOf name qual params body scope dV kV doc pm an cdv ct) ps sp := by
  refine ⟨len, fun A outer s H args us vs Q E hr e0 hb r hsp => ?_⟩
  have hl := len _ _ _ _ hsp
  have KX : K.In s.heap := e0.mod.kin.keeps fun b o e => (e0.bs b o e).1
  have lim : s.heap.NoLimit := e0.mod.nolimit.keeps fun b o e => (e0.bs b o e).1
  have hkind : ∀ y ∈ ps.zip us, scope.names.lookup y.1 = some .local ∨ (scope.names.lookup y.1 = some .cell ∧ ((cellsFrom (s.heap.objs.size + 1) scope.names []).lookup y.1).isSome = true) := fun ⟨n, v⟩ hy => by
    rcases S.par n (List.of_mem_zip hy).1 with q | q
    · exact .inl q
    · exact .inr ⟨q, PySem.W.cellsFrom_some _ _ _ (.inl q)⟩
  refine codeAny_call_function hr.depth (KX _ _ lk) rfl S.co S.gen rfl (PySem.W.codeRec_of KX hcd) (hb _ _ _ _ ?_)
  refine wpAny_newFunctionEnv_cells S.kind hkind fun env he s1 x => ?_
  subst he
  refine ⟨lim.keeps x.toInCall.keep, codeAny_func ?_⟩
  obtain ⟨t, ht, hq⟩ := hbody A outer s H vs Q E (hr.deeper _) hsp
  have I : Inv (cxOf CX P w K mg base N qual scope f cdv A outer s H E) [] (start N vs) H s1 := inv_start S hr.hd e0 hl r x
  refine wpAny_mono (ht [] s1 (start N vs) H _ I hq) (fun fl s' hs => ?_) fun e s' hs => hs
  have fin : ∀ {σ' : St} {H' : Hp} {v : V} {u : Value}, Inv (cxOf CX P w K mg base N qual scope f cdv A outer s H E) [] σ' H' s' → RelV v u → Q v H' → CE outer P w H s Q u s' :=
    fun {σ' H' v u} J rv q => ⟨v, H', J.os, J.bare, J.base, J.hok, rv, q⟩
  cases fl with
  | ret u =>
    obtain ⟨v, σ', H', J, rv, q⟩ := hs
    exact fin J rv q
  | next =>
    obtain ⟨σ', H', J, q⟩ := hs
    exact fin (v := V.non) (u := Value.none) J rfl q
  | brk =>
    obtain ⟨_, _, _, q⟩ := hs
    exact False.elim q
  | cont =>
    obtain ⟨_, _, _, q⟩ := hs
    exact False.elim q
end L2

namespace L2
open PySem PySem.Spec PyProof.Rows
section
variable {X : Cx} {x : Str} {p pos : Pos} {e : Expr} {es : List Expr} {t : TA} {id T : String} {r : List V → Hp → VK → Prop}

noncomputable def tCB (r : List V → Hp → VK → Prop) (t : TA) : TE := fun σ H Q => t σ H fun vs H1 => r vs H1 Q
/-- f(e, ..), f a built-in function -/
theorem pe_callB (hc : CallR X (.builtin id) r) (hg : Gl X x) (hm : X.mg x = none) (hv : bootBuiltins x = some (.builtin id)) (ha : PA X (e :: es) t) (hn : x ≠ "__name__" := by decide) (hdb : (x == ("__debug__" : Str)) = false := by decide)
    (he : starEach (e :: es) X.env = (false, eval e X.env) :: starEach es X.env := by rfl) (hpl : (backTo pos (starEach es X.env)).any (·.1) = false := by rfl) : PE X (.Call (.Name x p) (e :: es) [] pos) (tCB r t) := by
  intro pins s σ H Q I h
  refine wpAny_Call_Name_kw (ld_blt I hg hm hv ?_ hn hdb)
  exact PyProof.Rows.callWith_builtin1 (thn (ha pos pins s σ H _ I h) fun us s1 ⟨vs, H1, I1, r1, q1⟩ => hc pins s1 σ H1 vs us Q I1 r1 q1) he hpl
/-- T(e, ..), T a built-in type -/
theorem pe_callTy (hc : CallR X (.type T) r) (hg : Gl X x) (hm : X.mg x = none) (hv : bootBuiltins x = some (.type T)) (ha : PA X (e :: es) t) (hn : x ≠ "__name__" := by decide) (hdb : (x == ("__debug__" : Str)) = false := by decide)
    (he : starEach (e :: es) X.env = (false, eval e X.env) :: starEach es X.env := by rfl) (hpl : (backTo pos (starEach es X.env)).any (·.1) = false := by rfl) : PE X (.Call (.Name x p) (e :: es) [] pos) (tCB r t) := by
  intro pins s σ H Q I h
  refine wpAny_Call_Name_kw (ld_blt I hg hm hv ?_ hn hdb)
  exact PyProof.Rows.callWith_type1 (thn (ha pos pins s σ H _ I h) fun us s1 ⟨vs, H1, I1, r1, q1⟩ => hc pins s1 σ H1 vs us Q I1 r1 q1) he hpl
end
end L2

namespace HT
open PySem PyProof.Rows

section
open PySem.SeqAt
open PySem.AutoSeq1 (wpAny_loadPart')
open PySem.MeetsSeq PySem.MeetsSeq2 PySem.MeetsSeq3

end

section
variable {prog : Program} {w : World} {A : Around} {E : Value → Shared → Prop} {s : Shared}

/-- t + u, t not empty -/
theorem cat_tup {t b : Addr} {vs ws : List Value} {Q : Value → Shared → Prop} (ht : IsTup s.heap t vs.toArray) (hb : IsTup s.heap b ws.toArray) (hv : vs ≠ [])
    (h1 : ws = [] → Q (.ref t) s) (h2 : ws ≠ [] → Q (.ref s.heap.objs.size) { s with heap := s.heap.push { cls := .type "tuple", data := .seq (vs ++ ws).toArray } })
    (hsz : vs.length + ws.length ≤ sizeLine) : wpAny (model prog w) A (binaryOp .Add (.ref t) (.ref b)) Q E s := by
  obtain ⟨⟨cls, dd, data, sl⟩, ho, hc, n, hd⟩ := id ht
  obtain ⟨⟨cls2, dd2, data2, sl2⟩, ho2, hc2, n2, hd2⟩ := id hb
  simp only at hc hd hc2 hd2
  subst hc hd hc2 hd2
  have e : vs.toArray ++ ws.toArray = (vs ++ ws).toArray := by simp
  by_cases hw : ws = []
  · exact concat_meets ⟨_, ho, rfl⟩ ⟨_, ho2, rfl⟩ noFill_tuple_add seq_tuple_add PySem.F.slot_tuple_add PySem.F.entry_tuple_add (PySem.F.args_tuple_add_2 _ _)
      (tuple_addW1 t b vs.toArray ws.toArray n n2 dd dd2 sl sl2 (by simpa using hv) (by simp [hw])) ⟨ho, ho2, h1 hw⟩
  · refine concat_meets ⟨_, ho, rfl⟩ ⟨_, ho2, rfl⟩ noFill_tuple_add seq_tuple_add PySem.F.slot_tuple_add PySem.F.entry_tuple_add (PySem.F.args_tuple_add_2 _ _)
      (tuple_addW2 t b vs.toArray ws.toArray n n2 dd dd2 sl sl2 (by simpa using hv) (by simpa using hw) (by rw [List.size_toArray, List.size_toArray]; exact hsz)) ⟨ho, ho2, ?_⟩
    rw [e]
    exact h2 hw

/-! ### t[a:b], not the whole -/
/-- a slice's bound as a place among n (d where it is left out) -/
noncomputable def sIx (n d : Nat) : Option Int → Nat
  | none => d
  | some v => if v < 0 then (v + (n : Int)).toNat else min v.toNat n
theorem sIx_none (n d : Nat) : sIx n d none = d := rfl
theorem sIx_nat (n d k : Nat) : sIx n d (some (k : Int)) = min k n := by
  show (if (k : Int) < 0 then ((k : Int) + (n : Int)).toNat else min (k : Int).toNat n) = min k n
  rw [if_neg (by omega), Int.toNat_natCast]
theorem sIx_le (n d : Nat) (hd : d ≤ n) (o : Option Int) : sIx n d o ≤ n := by
  cases o with
  | none => exact hd
  | some v =>
    show (if v < 0 then (v + (n : Int)).toNat else min v.toNat n) ≤ n
    by_cases hv : v < 0
    · rw [if_pos hv]; omega
    · rw [if_neg hv]; exact Nat.min_le_right _ _
theorem clip_eq (v : Int) (n d : Nat) : (if v < 0 then max (v + (n : Int)) 0 else min v (n : Int)) = ((sIx n d (some v) : Nat) : Int) := by
  show (if v < 0 then max (v + (n : Int)) 0 else min v (n : Int)) = (((if v < 0 then (v + (n : Int)).toNat else min v.toNat n) : Nat) : Int)
  by_cases hv : v < 0
  · simp only [if_pos hv]; omega
  · simp only [if_neg hv]; omega
theorem adjust_gen (lo hi : Option Int) (n : Nat) : Builtin.Slice.sliceAdjust lo hi 1 (n : Int) = (((sIx n 0 lo : Nat) : Int), ((sIx n n hi : Nat) : Int)) := by
  have h1 : ¬ ((1 : Int) < 0) := by omega
  unfold Builtin.Slice.sliceAdjust
  simp only [h1, if_false]
  refine Prod.ext ?_ ?_
  · cases lo with
    | none => rfl
    | some v => exact clip_eq v n 0
  · cases hi with
    | none => rfl
    | some v => exact clip_eq v n n
theorem places_gen (i j : Nat) : Builtin.Slice.slicePlaces (i : Int) (j : Int) 1 = j - i := by
  unfold Builtin.Slice.slicePlaces
  have h1 : (1 : Int) > 0 := by omega
  simp only [h1, if_true, Int.ediv_one]
  split <;> omega
theorem slicePart_ {v : Value} {o : Option Int} {Q : Option Int → Shared → Prop} (p : IsPart v o) (h : Q o s) : wpAny (model prog w) A (Builtin.Slice.slicePartIndex v) Q E s := by
  cases p with
  | none => exact slicePart_none h
  | int i t => exact slicePart_int h
theorem sliceApplied_gen {sl : Addr} {vl vu : Value} {lo hi : Option Int} {n : Nat} {Q : Int × Int × Nat → Shared → Prop} (hs : s.heap.IsSliceOf sl vl vu .none) (pl : IsPart vl lo) (pu : IsPart vu hi)
    (h : Q (((sIx n 0 lo : Nat) : Int), 1, sIx n n hi - sIx n 0 lo) s) : wpAny (model prog w) A (Builtin.Slice.sliceApplied (.ref sl) (pure (n : Int))) Q E s := by
  obtain ⟨os, hos, hcs, hds⟩ := id hs
  unfold Builtin.Slice.sliceApplied Builtin.Slice.sliceFields
  refine wpAny_bind (wpAny_bind (wpAny_field hos hds (x := vl) rfl (wpAny_bind (wpAny_field hos hds (x := vu) rfl (wpAny_bind (wpAny_field hos hds (x := .none) rfl (wpAny_pure ?_)))))))
  refine wpAny_bind (slicePart_none ?_)
  show wpAny _ _ (if ((1 : Int) == 0) = true then _ else _) _ _ s
  rw [if_neg (by decide)]
  refine wpAny_bind (slicePart_ pl (wpAny_bind (slicePart_ pu (wpAny_bind (wpAny_pure ?_)))))
  show wpAny _ _ (match Builtin.Slice.sliceAdjust lo hi 1 (n : Int) with | (lo, hi) => pure (lo, (1 : Int), Builtin.Slice.slicePlaces lo hi 1)) _ _ s
  rw [adjust_gen lo hi n]
  show wpAny _ _ (pure (((sIx n 0 lo : Nat) : Int), (1 : Int), Builtin.Slice.slicePlaces ((sIx n 0 lo : Nat) : Int) ((sIx n n hi : Nat) : Int) 1)) _ _ s
  rw [places_gen]
  exact wpAny_pure h
theorem pick_gen (xs : Array Value) (i k : Nat) : ((List.range k).filterMap fun (m : Nat) => xs[((i : Int) + (m : Int) * 1).toNat]?).toArray = ((xs.toList.drop i).take k).toArray := by
  have e : (fun (m : Nat) => xs[((i : Int) + (m : Int) * 1).toNat]?) = fun m => xs[i + m]? := by
    funext m
    have : ((i : Int) + (m : Int) * 1).toNat = i + m := by omega
    rw [this]
  rw [e]
  have := pick_run xs i k
  rw [List.filterMap_map] at this
  have e2 : ((fun x => xs[x]?) ∘ fun x => i + x) = fun m => xs[i + m]? := rfl
  rw [e2] at this
  rw [this]

theorem getItem_tuple_cut {t sl : Addr} {items : Array Value} {vl vu : Value} {lo hi : Option Int} {Q : Value → Shared → Prop} (ht : IsTup s.heap t items) (hs : s.heap.IsSliceOf sl vl vu .none) (pl : IsPart vl lo) (pu : IsPart vu hi)
    (hw : ¬ (sIx items.size 0 lo = 0 ∧ sIx items.size items.size hi = items.size))
    (h : Q (.ref s.heap.objs.size) { s with heap := s.heap.push { cls := .type "tuple", data := .seq ((items.toList.drop (sIx items.size 0 lo)).take (sIx items.size items.size hi - sIx items.size 0 lo)).toArray } })
    (hsz : items.size ≤ sizeLine) : wpAny (model prog w) A (getItem (.ref t) (.ref sl)) Q E s := by
  have htake : sizeOk (.seq ((items.toList.drop (sIx items.size 0 lo)).take (sIx items.size items.size hi - sIx items.size 0 lo)).toArray) := by
    show ((items.toList.drop (sIx items.size 0 lo)).take (sIx items.size items.size hi - sIx items.size 0 lo)).toArray.size ≤ sizeLine
    rw [List.size_toArray, List.length_take, List.length_drop, Array.length_toList]
    omega
  have hj : sIx items.size items.size hi ≤ items.size := sIx_le _ _ (Nat.le_refl _) hi
  obtain ⟨os, hos, hcs, hds⟩ := id hs
  have hTs : s.TypeIs (.ref sl) "slice" := ⟨os, hos, hcs⟩
  unfold getItem
  try with_reducible refine wpAny_holding ?_
  first | refine wpAny_bind (wpAny_pure ?_) | skip
  refine wpAny_bind (wpAny_sequenceKey ht.typeIs (by decide) ?_)
  refine wpAny_bind (wpAny_callSpecial?_slot (name := Str.ofString "__getitem__") ht.typeIs PyProof.Rows.slot_tuple_getitem
    (wpAny_call_entry PyProof.Rows.slot_tuple_getitem ht.typeIs entry_tuple_getitem ?_ (args_tuple_getitem _ _)))
  show wpAny _ _ (Builtin.Tuple.tupleItemsOf (.ref t) >>= _) _ _ s
  refine wpAny_bind (tupleItemsOf_ ht ?_)
  refine wpAny_bind (wpAny_typeOf hTs ?_)
  rw [if_pos (by decide)]
  refine wpAny_bind (sliceApplied_gen hs pl pu ?_)
  have hno : ¬ ((((sIx items.size 0 lo : Nat) : Int) == 0 && (1 : Int) == 1 && (sIx items.size items.size hi - sIx items.size 0 lo) == items.size) = true) := by
    intro q
    rw [Bool.and_eq_true, Bool.and_eq_true] at q
    have q1 : ((sIx items.size 0 lo : Nat) : Int) = 0 := eq_of_beq q.1.1
    have q2 : sIx items.size items.size hi - sIx items.size 0 lo = items.size := eq_of_beq q.2
    exact hw ⟨by omega, by omega⟩
  show wpAny _ _ (if (((sIx items.size 0 lo : Nat) : Int) == 0 && (1 : Int) == 1 && (sIx items.size items.size hi - sIx items.size 0 lo) == items.size) = true then _ else _) _ _ s
  rw [if_neg hno, pick_gen]
  first
    | exact wpAny_bind (m := Builtin.Tuple.tupleExact _) (wpAny_newObj_type (wpAny_pure ⟨_, rfl, wpAny_pure h⟩) htake)
    | exact wpAny_bind (m := Builtin.Tuple.tupleExact _) (wpAny_newObj_type (wpAny_bind (wpAny_pure (wpAny_pure ⟨_, rfl, wpAny_pure h⟩))) htake)
    | exact wpAny_bind (wpAny_bind (m := Builtin.Tuple.tupleExact _) (wpAny_newObj_type (wpAny_pure (wpAny_pure ⟨_, rfl, wpAny_pure h⟩)) htake))
    | exact wpAny_bind (wpAny_bind (m := Builtin.Tuple.tupleExact _) (wpAny_newObj_type (wpAny_pure ⟨_, rfl, wpAny_pure h⟩) htake))
end
end HT

namespace L2
open PySem PySem.Spec PyProof.Rows

/-! ### the parts of a slice -/
noncomputable abbrev TO := St → Hp → (Option Int → Hp → Prop) → Prop
/-- a slice's part (left out, or an int) -/
noncomputable def PO (X : Cx) (e : Option Expr) (t : TO) : Prop :=
  ∀ (pins : List (Addr × Obj)) (s : Shared) (σ : St) (H : Hp) (Q : Option Int → Hp → Prop), Inv X pins σ H s → t σ H Q →
    wpAny (model X.prog X.w) X.A (evalPart e X.env) (fun u s' => ∃ o H', Inv X pins σ H' s' ∧ IsPart u o ∧ Q o H') X.xe s
noncomputable def tNoPart : TO := fun _ H Q => Q none H
noncomputable def tPart (t : TE) : TO := fun σ H Q => t σ H fun x H1 => ∃ i, x = .int i ∧ Q (some i) H1

section
variable {X : Cx} {e : Expr} {te : TE} {lo hi : Option Expr} {tl th : TO} {pos p2 : Pos}

theorem po_none : PO X none tNoPart := by
  intro pins s σ H Q I h
  rw [evalPart_none]
  exact wpAny_pure ⟨none, H, I, .none, h⟩
theorem po_some (h : PE X e te) : PO X (some e) (tPart te) := by
  intro pins s σ H Q I hw
  rw [evalPart_some]
  refine thn (h pins s σ H _ I hw) fun u s1 ⟨x, H1, I1, r1, q1⟩ => ?_
  obtain ⟨i, rfl, q⟩ := q1
  obtain ⟨t, rfl⟩ := r1
  exact ⟨some i, H1, I1, .int i t, q⟩

/-- what a slice of a value is, by values: the slice object stands at sl -/
noncomputable def SlR (X : Cx) (r : V → Option Int → Option Int → Hp → VK → Prop) : Prop :=
  ∀ (pins : List (Addr × Obj)) (s : Shared) (σ : St) (H : Hp) (x : V) (v vl vu : Value) (lo hi : Option Int) (sl : Addr) (Q : VK), Inv X pins σ H s → RelV x v → s.heap.IsSliceOf sl vl vu .none → IsPart vl lo → IsPart vu hi → r x lo hi H Q →
    ∃ T id, typeLookup (.type T) "__getitem__" = pure (some (.builtin id)) ∧ s.TypeIs v T ∧ wpAny (model X.prog X.w) X.A (getItem v (.ref sl)) (EP X pins σ Q) X.xe s
noncomputable def tSl (r : V → Option Int → Option Int → Hp → VK → Prop) (te : TE) (tl th : TO) : TE := fun σ H Q => te σ H fun x H1 => tl σ H1 fun l H2 => th σ H2 fun u H3 => r x l u H3 Q
/-- a[lo:hi], any a -/
theorem pe_slice {r : V → Option Int → Option Int → Hp → VK → Prop} (hr : SlR X r) (he : PE X e te) (hl : PO X lo tl) (hu : PO X hi th) : PE X (.Subscript e (.Slice lo hi none p2) pos) (tSl r te tl th) := by
  intro pins s σ H Q I h
  refine Subscript_ (thn (he pins s σ H _ I h) fun v s1 ⟨x, H1, I1, r1, q1⟩ => ?_)
  refine wpAny_Slice (thn (hl pins s1 σ H1 _ I1 q1) fun vl s2 ⟨l, H2, I2, pl, q2⟩ => thn (hu pins s2 σ H2 _ I2 q2) fun vu s3 ⟨u, H3, I3, pu, q3⟩ => ?_)
  rw [evalPart_none]
  refine wpAny_pure ?_
  have I4 : Inv X pins σ H3 { s3 with heap := s3.heap.push { cls := .type "slice", data := .fields #[vl, vu, .none] } } := I3.kept (t' := s3.toks) fun b ob q => Heap.get?_push_of_some _ q
  obtain ⟨T, id, hT, ht, hg⟩ := hr pins { s3 with heap := s3.heap.push { cls := .type "slice", data := .fields #[vl, vu, .none] } } σ H3 x v vl vu l u s3.heap.objs.size Q I4 r1 (Heap.IsSliceOf.new ..) pl pu q3
  show wpAny (model X.prog X.w) X.A (subscriptTail e (.Slice lo hi none p2) v (.ref s3.heap.objs.size)) (EP X pins σ Q) X.xe { s3 with heap := s3.heap.push { cls := .type "slice", data := .fields #[vl, vu, .none] } }
  exact tail_any (ops := [.ref s3.heap.objs.size, v]) ht hT hg (by with_unfolding_all rfl)

/-- the items of xs[lo:hi] -/
noncomputable def cutV (xs : List V) (lo hi : Option Int) : List V := (xs.drop (HT.sIx xs.length 0 lo)).take (HT.sIx xs.length xs.length hi - HT.sIx xs.length 0 lo)
theorem cutV_length (xs : List V) (lo hi : Option Int) : (cutV xs lo hi).length ≤ xs.length := by
  unfold cutV
  rw [List.length_take, List.length_drop]
  omega
/-- t[lo:hi], not the whole of it (the whole would be t itself) -/
noncomputable def rSlT (K : PySem.W.Frag) : V → Option Int → Option Int → Hp → VK → Prop := fun x lo hi H Q => ∃ a xs, x = .ref a ∧ SqT K H a xs ∧
  ¬ (HT.sIx xs.length 0 lo = 0 ∧ HT.sIx xs.length xs.length hi = xs.length) ∧ ∀ p, H p = none → Q (.ref p) (upd H p (.tup (cutV xs lo hi)))
theorem sl_tup : SlR X (rSlT X.K) := by
  intro pins s σ H x v vl vu lo hi sl Q I rx hs pl pu h
  obtain ⟨a, xs, rfl, hx, hw, q⟩ := h
  cases rx
  obtain ⟨its, r, ht, hz⟩ := I.tuple hx
  have hlen : its.toArray.size = xs.length := by rw [List.size_toArray]; exact r.length.symm
  refine ⟨"tuple", _, PyProof.Rows.slot_tuple_getitem.lookup, ht.typeIs, ?_⟩
  refine HT.getItem_tuple_cut ht hs pl pu (by rw [hlen]; exact hw) ?_ (by rw [hlen]; exact hz)
  rw [hlen]
  refine ⟨.ref s.heap.objs.size, _, I.laid (t' := s.toks) (o := .tup (cutV xs lo hi)) (fun b ob q => Heap.get?_push_of_some _ q) (Nat.le_refl _) ?_, rfl, q _ (I.hok.fresh (Nat.le_refl _))⟩
  exact ⟨Nat.le_trans (cutV_length xs lo hi) hz, _, (r.drop (HT.sIx xs.length 0 lo)).take (HT.sIx xs.length xs.length hi - HT.sIx xs.length 0 lo), IsTup.new _ _⟩

/-! ### t < u, t + u -/
/-- t + u, t not empty: u empty gives t itself -/
noncomputable def rCatT (K : PySem.W.Frag) : R2 := fun x y H Q => ∃ a b xs ys, x = .ref a ∧ y = .ref b ∧ SqT K H a xs ∧ SqT K H b ys ∧ xs ≠ [] ∧ xs.length + ys.length ≤ sizeLine ∧
  (ys = [] → Q (.ref a) H) ∧ (ys ≠ [] → ∀ p, H p = none → Q (.ref p) (upd H p (.tup (xs ++ ys))))
theorem Vals.nil_iff {xs : List V} {us : List Value} (r : Vals xs us) : us = [] ↔ xs = [] := by
  cases r with
  | nil => simp
  | cons _ _ => simp
theorem op_catT : OpR X (binaryOp .Add) (rCatT X.K) := by
  intro pins s σ H x y v u Q I rx ry h
  obtain ⟨a, b, xs, ys, rfl, rfl, ha, hb, hx, hz, q1, q2⟩ := h
  cases rx
  cases ry
  obtain ⟨its, r1, p1, _⟩ := I.tuple ha
  obtain ⟨its2, r2, p2, _⟩ := I.tuple hb
  refine HT.cat_tup p1 p2 (fun z => hx (r1.nil_iff.mp z)) (fun z => ⟨.ref a, H, I, rfl, q1 (r2.nil_iff.mp z)⟩) (fun z => ?_) (by rw [← r1.length, ← r2.length]; exact hz)
  refine ⟨.ref s.heap.objs.size, _, I.laid (t' := s.toks) (o := .tup (xs ++ ys)) (fun b ob q => Heap.get?_push_of_some _ q) (Nat.le_refl _) ?_, rfl, q2 (fun w => z (r2.nil_iff.mpr w)) _ (I.hok.fresh (Nat.le_refl _))⟩
  exact ⟨by rw [List.length_append]; exact hz, _, r1.append r2, IsTup.new _ _⟩
end
end L2

namespace L2
open PySem PySem.Spec PyProof.Rows

/-! ### places -/
/-- the place that an index of any sign means -/
noncomputable def ixN (n : Nat) (i : Int) : Option Nat := if 0 ≤ i then (if i < n then some i.toNat else none) else if -(n : Int) ≤ i then some (i + n).toNat else none
noncomputable def atI {α : Type} (xs : List α) (i : Int) : Option α := (ixN xs.length i).bind fun j => xs[j]?
theorem ixN_seq {n : Nat} {i : Int} {j : Nat} (h : ixN n i = some j) : seqIndex? i n = some j ∧ j < n ∧ -(n : Int) ≤ i ∧ i < n := by
  unfold ixN at h
  by_cases h0 : 0 ≤ i
  · rw [if_pos h0] at h
    by_cases h1 : i < n
    · rw [if_pos h1] at h
      have e : i.toNat = j := Option.some.inj h
      exact ⟨by rw [seqIndex_of h0 h1, e], by omega, by omega, h1⟩
    · rw [if_neg h1] at h; cases h
  · rw [if_neg h0] at h
    by_cases h1 : -(n : Int) ≤ i
    · rw [if_pos h1] at h
      have e : (i + n).toNat = j := Option.some.inj h
      exact ⟨by rw [seqIndex_neg (by omega) h1, e], by omega, h1, by omega⟩
    · rw [if_neg h1] at h; cases h
theorem atI_get {α : Type} {xs : List α} {i : Int} {v : α} (h : atI xs i = some v) : ∃ j, seqIndex? i xs.length = some j ∧ xs[j]? = some v ∧ j < xs.length ∧ -(xs.length : Int) ≤ i ∧ i < xs.length := by
  unfold atI at h
  cases e : ixN xs.length i with
  | none => rw [e] at h; cases h
  | some j =>
    rw [e] at h
    obtain ⟨h1, h2, h3, h4⟩ := ixN_seq e
    exact ⟨j, h1, h, h2, h3, h4⟩
theorem atI_nat {α : Type} {xs : List α} {j : Nat} {v : α} (h : xs[j]? = some v) : atI xs (j : Int) = some v := by
  have hj : j < xs.length := (List.getElem?_eq_some_iff.mp h).1
  have e : ixN xs.length (j : Int) = some j := by
    unfold ixN
    rw [if_pos (by omega), if_pos (by omega)]; simp
  unfold atI; rw [e]; exact h
theorem atI_last {α : Type} (xs : List α) (v : α) : atI (xs ++ [v]) (-1) = some v := by
  have hl : (xs ++ [v]).length = xs.length + 1 := by simp
  have e : ixN (xs ++ [v]).length (-1) = some xs.length := by
    unfold ixN
    rw [hl, if_neg (by decide), if_pos (by omega)]
    congr 1
    omega
  unfold atI
  rw [e]
  show (xs ++ [v])[xs.length]? = some v
  simp

/-! ### what may be subscripted -/
/-- what stands as an index of a plain subscript -/
noncomputable def PlainIx (b : Expr) : Prop := ∀ o i, subscripted b false o i = operate [o, i] (getItem o i)
/-- a subscript by values -/
noncomputable def IxR (X : Cx) (r : R2) : Prop :=
  ∀ (value slice : Expr) (pins : List (Addr × Obj)) (s : Shared) (σ : St) (H : Hp) (x y : V) (v u : Value) (Q : VK), Inv X pins σ H s → RelV x v → RelV y u → r x y H Q →
    subscripted slice false v u = operate [v, u] (getItem v u) → wpAny (model X.prog X.w) X.A (subscriptTail value slice v u) (EP X pins σ Q) X.xe s
/-- a call of a builtin's method by values: the receiver, the arguments -/
noncomputable def MtR (X : Cx) (id : String) (r : V → List V → Hp → VK → Prop) : Prop :=
  ∀ (pins : List (Addr × Obj)) (s : Shared) (σ : St) (H : Hp) (x : V) (xs : List V) (v : Value) (us : List Value) (Q : VK), Inv X pins σ H s → RelV x v → Vals xs us → r x xs H Q →
    wpAny (model X.prog X.w) X.A (call (.builtin id) (v :: us)) (EP X pins σ Q) X.xe s
section
variable {X : Cx} {a b : Expr} {ta tb : TE} {pos : Pos}
theorem IxR.or {r r' : R2} (h : IxR X r) (h' : IxR X r') : IxR X (fun x y H Q => r x y H Q ∨ r' x y H Q) := by
  intro value slice pins s σ H x y v u Q I rx ry q hs
  rcases q with q | q
  · exact h value slice pins s σ H x y v u Q I rx ry q hs
  · exact h' value slice pins s σ H x y v u Q I rx ry q hs
/-- a[b] -/
theorem pe_ix {r : R2} (hr : IxR X r) (ha : PE X a ta) (hb : PE X b tb) (hs : PlainIx b) : PE X (.Subscript a b pos) (tOp r ta tb) := by
  intro pins s σ H Q I h
  exact Subscript_ (binT ha hb I h fun v u s2 x y H2 I2 rx ry q => hr a b pins s2 σ H2 x y v u Q I2 rx ry q (hs _ _))

noncomputable def rIxL (K : PySem.W.Frag) : R2 := fun x y H Q => ∃ p xs i v, x = .ref p ∧ y = .int i ∧ SqL K H p xs ∧ atI xs i = some v ∧ Q v H
noncomputable def rIxT (K : PySem.W.Frag) : R2 := fun x y H Q => ∃ p xs i v, x = .ref p ∧ y = .int i ∧ SqT K H p xs ∧ atI xs i = some v ∧ Q v H
noncomputable def rIxS : R2 := fun x y H Q => ∃ z i c, x = .str z ∧ y = .int i ∧ z.length ≤ sizeLine ∧ atI z.cps.toList i = some c ∧ Q (.str ⟨#[c]⟩) H
theorem ix_list : IxR X (rIxL X.K) := by
  intro value slice pins s σ H x y v u Q I rx ry h hs
  obtain ⟨p, xs, i, z, rfl, rfl, hq, he, q⟩ := h
  cases rx
  obtain ⟨t, rfl⟩ := ry
  obtain ⟨its, r, pl, hz⟩ := I.list hq
  obtain ⟨j, h1, h2, h3, h4, h5⟩ := atI_get he
  obtain ⟨w, ew, rw'⟩ := r.get h2
  have hl := r.length
  have hn := line63
  have fin : EP X pins σ Q w s := ⟨z, H, I, rw', q⟩
  by_cases h0 : 0 ≤ i
  · have hj : i.toNat = j := by
      rw [seqIndex_of h0 h5] at h1
      exact Option.some.inj h1
    exact item_listR pl.isList h0 (by omega) (by rw [hj]; simpa using ew) fin hs
  · have hj : (i + (its.toArray.size : Int)).toNat = j := by
      rw [seqIndex_neg (by omega) h4] at h1
      rw [List.size_toArray, ← hl]
      exact Option.some.inj h1
    exact subscriptTail_builtinR (x := w) pl.isList.typeIs slot_list_getitem.lookup
      (wpAny_getItem_list_neg (Q := fun r s' => r = w ∧ EP X pins σ Q r s') pl.isList (by omega) (by rw [List.size_toArray] <;> omega) (by omega) (by rw [hj]; simpa using ew) ⟨rfl, fin⟩) hs
theorem ix_tup : IxR X (rIxT X.K) := by
  intro value slice pins s σ H x y v u Q I rx ry h hs
  obtain ⟨p, xs, i, z, rfl, rfl, hq, he, q⟩ := h
  cases rx
  obtain ⟨t, rfl⟩ := ry
  obtain ⟨its, r, pl, hz⟩ := I.tuple hq
  obtain ⟨j, h1, h2, h3, h4, h5⟩ := atI_get he
  obtain ⟨w, ew, rw'⟩ := r.get h2
  have hl := r.length
  have hn := line63
  have fin : EP X pins σ Q w s := ⟨z, H, I, rw', q⟩
  exact subscriptTail_builtinR (x := w) pl.typeIs slot_tuple_getitem.lookup
    (getItem_tuple (j := j) (Q := fun r s' => r = w ∧ EP X pins σ Q r s') pl (by omega) (by omega) (by rw [List.size_toArray, ← hl]; exact h1) (by simpa using ew) ⟨rfl, fin⟩) hs
theorem ix_str : IxR X rIxS := by
  intro value slice pins s σ H x y v u Q I rx ry h hs
  obtain ⟨z, i, c, rfl, rfl, hz, he, q⟩ := h
  obtain ⟨t, rfl⟩ := rx
  obtain ⟨t', rfl⟩ := ry
  obtain ⟨j, h1, h2, h3, h4, h5⟩ := atI_get he
  have hl : z.cps.toList.length = z.length := by simp [Str.length]
  rw [hl] at h1 h4 h5
  have hn := line63
  exact tail_any (typeIs_str s z t) slot_str_getitem.lookup (getItem_str (c := c) (by
    have e1 : decide (i < -(2 ^ 63 : Int)) = false := decide_eq_false (by omega)
    have e2 : decide (i ≥ 2 ^ 63) = false := decide_eq_false (by omega)
    rw [e1, e2, Bool.or_false]) (by rw [h1]; simpa using h2) ⟨.str ⟨#[c]⟩, H, I.tok _, ⟨_, rfl⟩, q⟩) hs
/-- list, tuple or str -/
noncomputable def rIx (K : PySem.W.Frag) : R2 := fun x y H Q => rIxL K x y H Q ∨ rIxT K x y H Q ∨ rIxS x y H Q
theorem ix_seq : IxR X (rIx X.K) := ix_list.or (ix_tup.or ix_str)

/-! ### xs[i] = v, any sign -/
/-- the list's object behind a store -/
theorem mapSeq_set (its : List Value) (n j : Nat) (u : Value) : Obj.mapSeq (·.setIfInBounds j u) { cls := .type "list", data := .seq its.toArray n } = { cls := .type "list", data := .seq (its.set j u).toArray n } := by
  simp [Obj.mapSeq]
theorem Inv.lst {pins : List (Addr × Obj)} {σ : St} {H : Hp} {s : Shared} {p : Addr} {xs : List V} (I : Inv X pins σ H s) (h : H p = some (.lst xs)) :
    ∃ (its : List Value) (n : Nat), Vals xs its ∧ s.heap.get? p = some { cls := .type "list", data := .seq its.toArray n } ∧ xs.length ≤ sizeLine := by
  obtain ⟨z, its, n, r, e⟩ := I.hok p _ h
  exact ⟨its, n, r, e, z⟩
/-- the list at p is written by an update of its object -/
theorem Inv.lstUpd {pins : List (Addr × Obj)} {σ : St} {H : Hp} {s : Shared} {p : Addr} {xs ys : List V} {its its' : List Value} {n n' : Nat} {f : Obj → Obj} (I : Inv X pins σ H s) (h : H p = some (.lst xs))
    (ho : s.heap.get? p = some { cls := .type "list", data := .seq its.toArray n }) (hf : f { cls := .type "list", data := .seq its.toArray n } = { cls := .type "list", data := .seq its'.toArray n' }) (r : Vals ys its') (hz : ys.length ≤ sizeLine) (t : Nat) :
    Inv X pins σ (upd H p (.lst ys)) { s with heap := s.heap.update p f, toks := t } := by
  have e : (s.heap.update p f).get? p = some { cls := .type "list", data := .seq its'.toArray n' } := by
    rw [Heap.get?_update_self f ho (by rw [hf] <;> rfl), hf]
  refine I.write (x := p) (e := p) (by rw [h]; trivial) (.inl rfl) (fun b u hb q => (Heap.get?_update_other _ _ (Ne.symm hb)).trans q) ⟨_, e⟩ ?_
  exact ⟨hz, its', n', r, e⟩
noncomputable def rSetL : V → V → V → Hp → (Hp → Prop) → Prop := fun o i v H Q => ∃ p xs k j, o = .ref p ∧ i = .int k ∧ H p = some (.lst xs) ∧ ixN xs.length k = some j ∧ Q (upd H p (.lst (xs.set j v)))
theorem set_list : PSet X rSetL := by
  intro pins s σ H o i v ov iv u Q I ro ri rv h
  obtain ⟨p, xs, k, j, rfl, rfl, hp, hj, q⟩ := h
  cases ro
  obtain ⟨t, rfl⟩ := ri
  obtain ⟨its, n, r, ho, hz⟩ := I.lst hp
  obtain ⟨h1, h2, h3, h4⟩ := ixN_seq hj
  have hl := r.length
  have hn := line63
  have I' : Inv X pins σ (upd H p (.lst (xs.set j v))) { s with heap := s.heap.update p (Obj.mapSeq (·.setIfInBounds j u)) } :=
    I.lstUpd hp ho (mapSeq_set its n j u) (r.set rv j) (by rw [List.length_set]; exact hz) s.toks
  by_cases h0 : 0 ≤ k
  · have hk : k.toNat = j := by
      rw [seqIndex_of h0 h4] at h1
      exact Option.some.inj h1
    exact PySem.W.ki_setAt ho h0 (by omega) (by rw [List.size_toArray, ← hl]; exact h4) (by rw [hk]; exact ⟨_, I', q⟩)
  · have hk : (k + (its.toArray.size : Int)).toNat = j := by
      rw [seqIndex_neg (by omega) h3] at h1
      rw [List.size_toArray, ← hl]
      exact Option.some.inj h1
    exact PySem.W.ki_setBack ho (by omega) (by rw [List.size_toArray, ← hl]; exact h3) (by omega) (by rw [hk]; exact ⟨_, I', q⟩)

/-! ### slices -/
/-! ### in, not in: flat items -/
noncomputable def flatV : V → Bool
  | .non => true
  | .bl _ => true
  | .int _ => true
  | .str _ => true
  | _ => false
/-- == of flat values -/
noncomputable def eqV : V → V → Bool
  | .non, .non => true
  | .bl a, .bl b => a == b
  | .bl a, .int b => (if a then 1 else 0) == b
  | .int a, .bl b => a == (if b then 1 else 0)
  | .int a, .int b => a == b
  | .str a, .str b => a == b
  | _, _ => false
theorem eqAt_V {A : Around} {s : Shared} {y x : V} {u v : Value} (ry : RelV y u) (rx : RelV x v) (fy : flatV y = true) (fx : flatV x = true) : SeqAt.EqAt A s u v (eqV y x) := by
  cases y with
  | non =>
    cases ry
    cases x with
    | non => cases rx; exact SeqAt.EqAt.same _
    | bl b => cases rx; exact SeqAt.EqAt.none_bool b
    | int b => obtain ⟨t, rfl⟩ := rx; exact SeqAt.EqAt.none_int b t
    | str b => obtain ⟨t, rfl⟩ := rx; exact SeqAt.EqAt.none_str b t
    | _ => exact absurd (show false = true from fx) Bool.false_ne_true
  | bl a =>
    cases ry
    cases x with
    | non => cases rx; exact SeqAt.EqAt.bool_none a
    | bl b => cases rx; exact SeqAt.EqAt.bool_bool a b
    | int b => obtain ⟨t, rfl⟩ := rx; exact SeqAt.EqAt.bool_int a b t
    | str b => obtain ⟨t, rfl⟩ := rx; exact SeqAt.EqAt.bool_str a b t
    | _ => exact absurd (show false = true from fx) Bool.false_ne_true
  | int a =>
    obtain ⟨t', rfl⟩ := ry
    cases x with
    | non => cases rx; exact SeqAt.EqAt.int_none a t'
    | bl b => cases rx; exact SeqAt.EqAt.int_bool a t' b
    | int b => obtain ⟨t, rfl⟩ := rx; exact SeqAt.EqAt.int_int a t' b t
    | str b => obtain ⟨t, rfl⟩ := rx; exact SeqAt.EqAt.int_str a t' b t
    | _ => exact absurd (show false = true from fx) Bool.false_ne_true
  | str a =>
    obtain ⟨t', rfl⟩ := ry
    cases x with
    | non => cases rx; exact SeqAt.EqAt.str_none a t'
    | bl b => cases rx; exact SeqAt.EqAt.str_bool a t' b
    | int b => obtain ⟨t, rfl⟩ := rx; exact SeqAt.EqAt.str_int a t' b t
    | str b => obtain ⟨t, rfl⟩ := rx; exact SeqAt.EqAt.str_str a t' b t
    | _ => exact absurd (show false = true from fx) Bool.false_ne_true
  | _ => exact absurd (show false = true from fy) Bool.false_ne_true
/-- the items' answers, read off the values (a value's own answer does not lean on its token) -/
noncomputable def eqU (x : V) (u : Value) : Bool := match u with
  | .none => eqV .non x
  | .bool b => eqV (.bl b) x
  | .int i _ => eqV (.int i) x
  | .str z _ => eqV (.str z) x
  | _ => false
theorem eqU_of {x y : V} {u : Value} (r : RelV y u) (f : flatV y = true) : eqU x u = eqV y x := by
  cases y with
  | non => cases r; rfl
  | bl b => cases r; rfl
  | int i => obtain ⟨t, rfl⟩ := r; rfl
  | str z => obtain ⟨t, rfl⟩ := r; rfl
  | _ => exact absurd (show false = true from f) Bool.false_ne_true
theorem any_eqU {x : V} : ∀ {xs : List V} {us : List Value}, Vals xs us → xs.all flatV = true → us.any (eqU x) = xs.any fun y => eqV y x
  | _, _, .nil, _ => rfl
  | y :: xs, u :: us, .cons r t, f => by
    rw [List.all_cons, Bool.and_eq_true] at f
    rw [List.any_cons, List.any_cons, eqU_of r f.1, any_eqU t f.2]
theorem mem_eqAt {A : Around} {s : Shared} {x : V} {v : Value} (rx : RelV x v) (fx : flatV x = true) : ∀ {xs : List V} {us : List Value}, Vals xs us → xs.all flatV = true → ∀ u ∈ us, SeqAt.EqAt A s u v (eqU x u)
  | _, _, .nil, _ => fun u hu => by cases hu
  | y :: xs, u :: us, .cons r t, f => fun u' hu => by
    rw [List.all_cons, Bool.and_eq_true] at f
    rcases List.mem_cons.mp hu with rfl | hu
    · rw [eqU_of r f.1]; exact eqAt_V r rx f.1 fx
    · exact mem_eqAt rx fx t f.2 u' hu
noncomputable def inV (x : V) (xs : List V) : Bool := xs.any fun y => eqV y x
/-- x in a list or tuple of flat items -/
noncomputable def rIn (K : PySem.W.Frag) (neg : Bool) : R2 := fun x y H Q => ∃ p xs, y = .ref p ∧ (SqL K H p xs ∨ SqT K H p xs) ∧ flatV x = true ∧ xs.all flatV = true ∧ Q (.bl (if neg then !inV x xs else inV x xs)) H
theorem op_in_seq : OpR X (compareOp .In) (rIn X.K false) := by
  intro pins s σ H x y v u Q I rx ry h
  obtain ⟨p, xs, rfl, hq, fx, fs, q⟩ := h
  cases ry
  rcases hq with hq | hq
  · obtain ⟨its, r, pl, hz⟩ := I.list hq
    refine SeqAt.in_listAt (eqU x) pl.isList (fun w hw => mem_eqAt rx fx r fs w (by simpa using hw)) ⟨.bl _, H, I, rfl, ?_⟩
    rw [show its.toArray.any (eqU x) = its.any (eqU x) by simp, any_eqU r fs]
    exact q
  · obtain ⟨its, r, pl, hz⟩ := I.tuple hq
    refine SeqAt.in_tupleAt (eqU x) pl (fun w hw => mem_eqAt rx fx r fs w (by simpa using hw)) ⟨.bl _, H, I, rfl, ?_⟩
    rw [show its.toArray.any (eqU x) = its.any (eqU x) by simp, any_eqU r fs]
    exact q
theorem op_notIn_seq : OpR X (compareOp .NotIn) (rIn X.K true) := by
  intro pins s σ H x y v u Q I rx ry h
  obtain ⟨p, xs, rfl, hq, fx, fs, q⟩ := h
  cases ry
  rcases hq with hq | hq
  · obtain ⟨its, r, pl, hz⟩ := I.list hq
    refine SeqAt.notIn_listAt (eqU x) pl.isList (fun w hw => mem_eqAt rx fx r fs w (by simpa using hw)) ⟨.bl _, H, I, rfl, ?_⟩
    rw [show its.toArray.any (eqU x) = its.any (eqU x) by simp, any_eqU r fs]
    exact q
  · obtain ⟨its, r, pl, hz⟩ := I.tuple hq
    refine SeqAt.notIn_tupleAt (eqU x) pl (fun w hw => mem_eqAt rx fx r fs w (by simpa using hw)) ⟨.bl _, H, I, rfl, ?_⟩
    rw [show its.toArray.any (eqU x) = its.any (eqU x) by simp, any_eqU r fs]
    exact q
/-! ### len, list(x), tuple(x) of any list or tuple that is read -/
theorem call_len_seq : CallR X (.builtin "len") (fun xs H Q => ∃ p ys, xs = [.ref p] ∧ (SqL X.K H p ys ∨ SqT X.K H p ys) ∧ Q (.int ys.length) H) := by
  intro pins s σ H xs us Q I r h
  obtain ⟨p, ys, rfl, hq, q⟩ := h
  obtain ⟨u, rfl, rx⟩ := vals1 r
  cases rx
  have hn := line63
  rcases hq with hq | hq
  · obtain ⟨its, r', pl, hz⟩ := I.list hq
    have hlen := r'.length
    exact Calls.call_len_list pl.isList (by simp only [List.size_toArray] <;> omega) ⟨.int ys.length, H, I.tok _, ⟨s.toks + 1, by rw [List.size_toArray, hlen]⟩, q⟩
  · obtain ⟨its, r', pl, hz⟩ := I.tuple hq
    have hlen := r'.length
    exact len_tuple pl (by simp only [List.size_toArray] <;> omega) ⟨.int ys.length, H, I.tok _, ⟨s.toks + 1, by rw [List.size_toArray, hlen]⟩, q⟩
theorem call_len_str : CallR X (.builtin "len") (fun xs H Q => ∃ z, xs = [.str z] ∧ z.length ≤ sizeLine ∧ Q (.int z.length) H) := by
  intro pins s σ H xs us Q I r h
  obtain ⟨z, rfl, hz, q⟩ := h
  obtain ⟨u, rfl, t, rfl⟩ := vals1 r
  have hn := line63
  exact len_str (by omega) ⟨.int z.length, H, I.tok _, ⟨_, rfl⟩, q⟩
theorem call_list_of : CallR X (.type "list") (fun xs H Q => ∃ p ys, xs = [.ref p] ∧ (SqL X.K H p ys ∨ SqT X.K H p ys) ∧ ∀ l, H l = none → Q (.ref l) (upd H l (.lst ys))) := by
  intro pins s σ H xs us Q I r h
  obtain ⟨p, ys, rfl, hq, q⟩ := h
  obtain ⟨u, rfl, rx⟩ := vals1 r
  cases rx
  have fin : ∀ (its : List Value), Vals ys its → ys.length ≤ sizeLine → ∀ (h' : Heap) (c' : Nat), (∀ b o', s.heap.get? b = some o' → h'.get? b = some o') →
      h'.get? s.heap.objs.size = some { cls := .type "list", dict := none, data := .seq its.toArray c', slots := #[] } → EP X pins σ Q (.ref s.heap.objs.size) { s with heap := h' } := fun its r' hz h' c' kp e =>
    ⟨.ref s.heap.objs.size, _, I.laid (t' := s.toks) kp (Nat.le_refl _) (show ObjOk X.prog X.w _ h' _ (.lst ys) from ⟨hz, its, c', r', e⟩), rfl, q _ (I.hok.fresh (Nat.le_refl _))⟩
  rcases hq with hq | hq
  · obtain ⟨its, r', pl, hz⟩ := I.list hq
    have hlen := r'.length
    obtain ⟨o, ho, hc, n, hd⟩ := pl.isList
    exact call_list_seq p (.inl rfl) ho hc hd (fun h' c' kp e => fin its r' hz h' c' kp e) (by simp only [List.size_toArray] <;> omega)
  · obtain ⟨its, r', pl, hz⟩ := I.tuple hq
    have hlen := r'.length
    obtain ⟨o, ho, hc, n, hd⟩ := pl
    exact call_list_seq p (.inr rfl) ho hc hd (fun h' c' kp e => fin its r' hz h' c' kp e) (by simp only [List.size_toArray] <;> omega)
theorem call_tuple_of : CallR X (.type "tuple") (fun xs H Q => ∃ p ys, xs = [.ref p] ∧ ((SqL X.K H p ys ∧ ∀ l, H l = none → Q (.ref l) (upd H l (.tup ys))) ∨ (SqT X.K H p ys ∧ Q (.ref p) H))) := by
  intro pins s σ H xs us Q I r h
  obtain ⟨p, ys, rfl, h⟩ := h
  obtain ⟨u, rfl, rx⟩ := vals1 r
  cases rx
  rcases h with ⟨hq, q⟩ | ⟨hq, q⟩
  · obtain ⟨its, r', pl, hz⟩ := I.list hq
    have hlen := r'.length
    refine call_tuple_list pl.isList (fun h' kp => ?_) (by simp only [List.size_toArray] <;> omega)
    have I1 : Inv X pins σ H { s with heap := h' } := I.kept (t' := s.toks) kp
    have I2 : Inv X pins σ (upd H h'.objs.size (.tup ys)) { s with heap := h'.push { cls := .type "tuple", data := .seq its.toArray } } :=
      I1.laid (t' := s.toks) (fun b o e => Heap.get?_push_of_some _ e) (Nat.le_refl _) (show ObjOk X.prog X.w _ _ _ (.tup ys) from ⟨hz, its, r', IsTup.new _ _⟩)
    exact ⟨.ref h'.objs.size, _, I2, rfl, q _ (I1.hok.fresh (Nat.le_refl _))⟩
  · obtain ⟨its, r', pl, hz⟩ := I.tuple hq
    exact call_tuple_same pl ⟨.ref p, H, I, rfl, q⟩

/-! ### the call of a builtin's method: o.m(..) -/
/-- the value is of that builtin type -/
noncomputable def tyV (K : PySem.W.Frag) (T : String) (x : V) (H : Hp) : Prop := match x with
  | .str _ => T = "str"
  | .int _ => T = "int"
  | .ref p => (T = "list" ∧ ∃ xs, SqL K H p xs) ∨ (T = "tuple" ∧ ∃ o, K.lookup p = some o ∧ o.cls = .type "tuple" ∧ o.dict = none) ∨
      (T = "dict" ∧ ((∃ kvs, H p = some (.dK kvs)) ∨ ∃ kvs, H p = some (.dT kvs))) ∨ (T = "set" ∧ ∃ S n, H p = some (.set S n))
  | _ => False
theorem tyV_is {pins : List (Addr × Obj)} {σ : St} {H : Hp} {s : Shared} {T : String} {x : V} {v : Value} (I : Inv X pins σ H s) (r : RelV x v) (ty : tyV X.K T x H) :
    s.TypeIs v T ∧ ∀ a, v = .ref a → ∃ ob, s.heap.get? a = some ob ∧ ob.dict = none := by
  cases x with
  | str z =>
    obtain ⟨t, rfl⟩ := r
    cases (show T = "str" from ty)
    exact ⟨typeIs_str s z t, fun _ e => nomatch e⟩
  | int i =>
    obtain ⟨t, rfl⟩ := r
    cases (show T = "int" from ty)
    exact ⟨typeIs_int s i t, fun _ e => nomatch e⟩
  | ref p =>
    cases r
    rcases ty with ⟨rfl, xs, hq⟩ | ⟨rfl, o, hk, hc, hd⟩ | ⟨rfl, hk⟩ | ⟨rfl, S, n, hk⟩
    · obtain ⟨its, _, pl, _⟩ := I.list hq
      refine ⟨pl.isList.typeIs, fun a e => ?_⟩
      cases e
      obtain ⟨o, n, e, c, hd, _⟩ := pl
      exact ⟨o, e, hd⟩
    · refine ⟨⟨o, I.kIn p o hk, hc⟩, fun a e => ?_⟩
      cases e
      exact ⟨o, I.kIn _ o hk, hd⟩
    · have z : ∃ o, s.heap.get? p = some o ∧ o.ExactDict := by
        rcases hk with ⟨kvs, hk⟩ | ⟨kvs, hk⟩
        · obtain ⟨_, _, _, _, o, _, _, e, ex, _⟩ := I.hok p _ hk
          exact ⟨o, e, ex⟩
        · obtain ⟨_, _, _, _, o, _, _, e, ex, _⟩ := I.hok p _ hk
          exact ⟨o, e, ex⟩
      obtain ⟨o, e, ex⟩ := z
      refine ⟨⟨o, e, ex.1⟩, fun a e2 => ?_⟩
      cases e2
      exact ⟨o, e, ex.2.1⟩
    · obtain ⟨o, _, _, _, e, ex, _⟩ := I.hok p _ hk
      refine ⟨⟨o, e, ex.1⟩, fun a e2 => ?_⟩
      cases e2
      exact ⟨o, e, ex.2.1⟩
  | _ => exact False.elim ty
noncomputable def tBM (K : PySem.W.Frag) (T : String) (r : V → List V → Hp → VK → Prop) (to : TE) (t : TA) : TE := fun σ H Q => to σ H fun x H1 => tyV K T x H1 ∧ t σ H1 fun xs H2 => r x xs H2 Q
variable {o e : Expr} {es : List Expr} {to : TE} {t : TA} {name : Str} {apos cpos : Pos} {T id : String} {r : V → List V → Hp → VK → Prop}
theorem pe_bm (pa : PlainAttrs T) (slot : Slot T name id) (hty : typeOf (.builtin id) = pure (.type "method_descriptor")) (hm : MtR X id r) (ho : PE X o to) (ha : PA X (e :: es) t)
    (hbase : attributeBase o name X.env (eval o X.env) = eval o X.env := by rfl)
    (hfew : ((backTo cpos (starEach (e :: es) X.env)).all (fun x => !x.1) && (backToKw cpos (keywordEach [] X.env)).all (fun x => x.1.isSome)
      && decide ((e :: es).length + ([] : List Keyword).length + (if ([] : List Keyword).isEmpty then 0 else 1) < 30)) = true := by rfl)
    (hline : (apos.endLine == cpos.line) = true := by rfl) (hs : starEach (e :: es) X.env = (false, eval e X.env) :: starEach es X.env := by rfl) (hplain : (backTo cpos (starEach es X.env)).any (·.1) = false := by rfl) :
    PE X (.Call (.Attribute o name apos) (e :: es) [] cpos) (tBM X.K T r to t) := by
  intro pins s σ H Q I h
  refine wpAny_Call_method_late hbase hfew hline rfl (thn (ho pins s σ H _ I h) fun v s1 ⟨x, H1, I1, r1, ty, q1⟩ => ?_)
  obtain ⟨h1, h2⟩ := tyV_is I1 r1 ty
  refine ⟨T, id, pa, slot, hty, h1, h2, ?_⟩
  have hA := ha cpos pins s1 σ H1 _ I1 q1
  rw [hs] at hA ⊢
  refine Calls.callWith_builtin (by show (false || (backTo cpos (starEach es X.env)).any (·.1)) = false; rw [hplain] <;> rfl) (Calls.evalArgs_plain ?_)
  exact thn hA fun us s2 ⟨vs, H2, I2, r2, q2⟩ => hm pins s2 σ H2 x vs v us Q I2 r1 r2 q2
/- xs.append(e), list.index on a module's tuple .. are MtR facts of 06m -/
end
end L2

namespace L2
open PySem PySem.Spec PyProof.Rows

noncomputable def MtM (X : Cx) (id : String) (r : V → List V → Hp → VK → Prop) : Prop :=
  ∀ (pins : List (Addr × Obj)) (s : Shared) (σ : St) (H : Hp) (x : V) (xs : List V) (v : Value) (us : List Value) (Q : VK), Inv X pins σ H s → RelV x v → Vals xs us → r x xs H Q →
    wpAny (model X.prog X.w) X.A (call (.builtin id) (v :: us)) (EP X pins σ Q) X.xe s

/-! ### lists of values -/
theorem Vals.one : ∀ {x : V} {us : List Value}, Vals [x] us → ∃ u, us = [u] ∧ RelV x u
  | _, _, .cons r .nil => ⟨_, rfl, r⟩
theorem Vals.eraseIdx : ∀ {xs : List V} {us : List Value} (i : Nat), Vals xs us → Vals (xs.eraseIdx i) (us.eraseIdx i)
  | _, _, _, .nil => .nil
  | _, _, 0, .cons _ t => t
  | _, _, i + 1, .cons r t => .cons r (Vals.eraseIdx i t)
theorem Vals.reverse {xs : List V} {us : List Value} (h : Vals xs us) : Vals xs.reverse us.reverse := by
  induction h with
  | nil => exact .nil
  | cons r t ih => rw [List.reverse_cons, List.reverse_cons]; exact Vals.append ih (.cons r .nil)
theorem len_erase {α : Type} : ∀ (l : List α) (i : Nat), (l.eraseIdx i).length ≤ l.length
  | [], _ => Nat.le_refl _
  | _ :: _, 0 => Nat.le_succ _
  | _ :: r, i + 1 => Nat.succ_le_succ (len_erase r i)
section
variable {X : Cx} {pins : List (Addr × Obj)} {σ : St} {H : Hp} {s : Shared} {l b : Addr} {xs ys zs : List V}

/-! ### the two steps: a tracked list is rewritten, a new list is laid -/
theorem Inv.lset {its its' : List Value} {n : Nat} {f : Array Value → Array Value} {t' : Nat} (I : Inv X pins σ H s) (hH : H l = some (.lst xs))
    (e : s.heap.get? l = some { cls := .type "list", data := .seq its.toArray n }) (hf : f its.toArray = its'.toArray) (hv : Vals ys its') (hz : ys.length ≤ sizeLine) :
    Inv X pins σ (upd H l (.lst ys)) { s with heap := s.heap.update l (Obj.mapSeq f), toks := t' } := by
  have q := PySem.IsL.update e f
  rw [hf] at q
  refine I.write (x := l) (e := l) (by rw [hH]; exact trivial) (.inl rfl) (fun b' u hb hu => (Heap.get?_update_other s.heap (Obj.mapSeq f) (Ne.symm hb)).trans hu) ⟨_, q⟩ ?_
  exact ⟨hz, its', _, hv, q⟩
theorem Inv.lnew {its : List Value} {t' : Nat} (I : Inv X pins σ H s) (hv : Vals ys its) (hz : ys.length ≤ sizeLine) :
    Inv X pins σ (upd H s.heap.objs.size (.lst ys)) { s with heap := s.heap.push { cls := .type "list", data := .seq its.toArray }, toks := t' } :=
  I.laid (fun _ _ q => Heap.get?_push_of_some _ q) (Nat.le_refl _) ⟨hz, its, 0, hv, Heap.get?_push_size _ rfl⟩
theorem Inv.fresh (I : Inv X pins σ H s) : H s.heap.objs.size = none := I.hok.fresh (Nat.le_refl _)
theorem Inv.lstM (I : Inv X pins σ H s) (hH : H l = some (.lst xs)) : xs.length ≤ sizeLine ∧ ∃ (its : List Value) (n : Nat), Vals xs its ∧ xs.length = its.length ∧ s.heap.get? l = some { cls := .type "list", data := .seq its.toArray n } := by
  obtain ⟨z, its, n, r, e⟩ := I.hok l _ hH
  exact ⟨z, its, n, r, r.length, e⟩

end

section
variable {X : Cx}

/-! ### methods -/
noncomputable def rAppend : V → List V → Hp → VK → Prop := fun x vs H Q => ∃ l xs y, x = .ref l ∧ vs = [y] ∧ H l = some (.lst xs) ∧ xs.length < sizeLine ∧ Q .non (upd H l (.lst (xs ++ [y])))
theorem mt_append : MtM X "list.append" rAppend := by
  intro pins s σ H x vs v us Q I rx rv h
  obtain ⟨l, xs, y, rfl, rfl, hH, hz, q⟩ := h
  cases rx
  obtain ⟨u, rfl, ru⟩ := rv.one
  obtain ⟨z, its, n, r, hl, e⟩ := I.lstM hH
  refine call_meets F.slot_list_append ⟨_, e, rfl⟩ F.entry_list_append (F.args_list_append_2 _ _) (PySem.list_append l its.toArray n u (by rw [List.size_toArray]; omega)) ⟨e, ?_⟩
  refine ⟨.non, _, I.lset (its' := its ++ [u]) hH e (by simp) (r.append (.cons ru .nil)) ?_, rfl, q⟩
  rw [List.length_append, List.length_singleton]
  omega

noncomputable def rPopAt : V → List V → Hp → VK → Prop := fun x vs H Q => ∃ l xs i k y, x = .ref l ∧ vs = [.int i] ∧ H l = some (.lst xs) ∧ -(2 ^ 63) ≤ i ∧ i < 2 ^ 63 ∧ seqIndex? i xs.length = some k ∧ xs[k]? = some y ∧ Q y (upd H l (.lst (xs.eraseIdx k)))
theorem mt_popAt : MtM X "list.pop" rPopAt := by
  intro pins s σ H x vs v us Q I rx rv h
  obtain ⟨l, xs, i, k, y, rfl, rfl, hH, h1, h2, hk, hy, q⟩ := h
  cases rx
  obtain ⟨u, rfl, ru⟩ := rv.one
  obtain ⟨t, rfl⟩ := ru
  obtain ⟨z, its, n, r, hl, e⟩ := I.lstM hH
  obtain ⟨w, hw, rw'⟩ := r.get hy
  refine call_meets F.slot_list_pop ⟨_, e, rfl⟩ F.entry_list_pop (F.args_list_pop_2 _ _)
    (MeetsSeq.list_pop_at l its.toArray n i t k w (fitsIndex_both h1 h2) (by rw [List.size_toArray, ← hl]; exact hk) (by rw [← Array.getElem?_toList]; exact hw) (by rw [List.size_toArray]; omega)) ⟨e, ?_⟩
  refine ⟨y, _, I.lset (its' := its.eraseIdx k) hH e ?_ (r.eraseIdx k) ?_, rw', q⟩
  · show its.toArray.eraseIdxIfInBounds k = (its.eraseIdx k).toArray
    rw [List.eraseIdxIfInBounds_toArray]
  · have := len_erase xs k
    omega

/-! ### list + list, list += list, list * int -/
noncomputable def rCat : R2 := fun x y H Q => ∃ l b xs zs, x = .ref l ∧ y = .ref b ∧ H l = some (.lst xs) ∧ H b = some (.lst zs) ∧ xs.length + zs.length ≤ sizeLine ∧ ∀ p, H p = none → Q (.ref p) (upd H p (.lst (xs ++ zs)))
theorem op_cat : OpR X (binaryOp .Add) rCat := by
  intro pins s σ H x y v u Q I rx ry h
  obtain ⟨l, b, xs, zs, rfl, rfl, hH, hB, hz, q⟩ := h
  cases rx
  cases ry
  obtain ⟨z, its, n, r, hl, e⟩ := I.lstM hH
  obtain ⟨z2, its2, n2, r2, hl2, e2⟩ := I.lstM hB
  refine PySem.P.add_list e e2 ?_ (by rw [List.size_toArray, List.size_toArray]; omega)
  have ea : its.toArray ++ its2.toArray = (its ++ its2).toArray := by simp
  rw [ea]
  exact ⟨.ref _, _, I.lnew (t' := s.toks) (r.append r2) (by rw [List.length_append]; omega), rfl, q _ I.fresh⟩
/-! ### del xs[i] -/
end

/-! ### xs[a:b] = ys -/
section
variable {prog : Program} {w : World} {A : Around} {E : Value → Shared → Prop} {s : Shared}
end

section
variable {X : Cx}
end
end L2

namespace Att
open PySem PySem.W PySem.Calls PyProof.Rows

/-! ### the script -/
theorem ints_of_wellAll {P : Params} {h : Heap} : ∀ (ns : List Int) (vs : List Value), WellAll P h vs (ns.map WData.int) → IntsAre vs ns := by
  intro ns
  induction ns with
  | nil =>
    intro vs w
    rw [List.map_nil] at w
    cases w
    exact .nil
  | cons n ns ih =>
    intro vs w
    rw [List.map_cons] at w
    cases w with
    | cons a b =>
      cases a
      exact .cons _ _ (ih _ b)

theorem script_of {l : OpenLaw} {n : Nat} (hn : l.most = some n) {P : Params} {h : Heap} {args : List WData} {vals : List Value}
    (hpre : l.row.toRowW.claim.pre args = true) (hwl : WellAll P h vals args) :
    ∃ a vs ns, vals = [Value.ref a] ∧ args = [WData.list (ns.map WData.int)] ∧ h.get? a = some { cls := .type "list", data := .seq vs.toArray } ∧ IntsAre vs ns ∧ ns.length ≤ n := by
  have hsh : WShape.hasAll [] args [.list .int] = true := (pre_splitW hpre).1
  have hc : l.pre.holds [] { args := args } = true := (pre_splitW hpre).2
  obtain ⟨d, r, rfl, h1, h2⟩ := hasAllW_cons hsh
  obtain rfl := hasAllW_nil h2
  obtain ⟨xs, rfl, h3⟩ := hasW_list h1
  obtain ⟨ns, rfl⟩ := items_int h3
  have hlen : ns.length ≤ n := by
    unfold OpenLaw.pre at hc
    have h4 : (WTm.not (.lt (.lit (.int (n : Int))) (.len (.arg 0)))).holds [] { args := [.list (ns.map .int)] } = true := by
      have h4 := (holds_andW hc).1
      rw [hn] at h4
      exact h4
    have h5 := condW_of h4 (w_not (w_lt w_lit (w_len_list (w_arg rfl))))
    rw [List.length_map] at h5
    refine Nat.le_of_not_lt fun q => ?_
    have q' : (n : Int) < ((ns.length : Nat) : Int) := by omega
    first
      | (rw [decide_eq_true q'] at h5; exact absurd h5 (by decide))
      | (simp at h5; omega)
  cases hwl with
  | cons w1 w2 =>
    cases w2
    cases w1 with
    | list ho hall => exact ⟨_, _, ns, rfl, rfl, ho, ints_of_wellAll ns _ hall, hlen⟩

theorem post_true (l : OpenLaw) (args : List WData) : l.row.toRowW.claim.post args (.bool true) args = true :=
  postW_of (r := l.row.toRowW) (X := (true == true))
    (show WShape.has [] (.bool true) .bool = true by first | rfl | decide | simp [WShape.has, WShape.arms, WShape.armsAll])
    (show (WTm.eq .res (.lit (.bool true))).value [] { args := args, res := some (.bool true), after := args } = some (.bool (true == true)) from w_eq_bool (w_res rfl) w_lit) rfl

/-! ### the attachment: holds_open's last premise (the goal 'hc' behind k_head) from a wpAny of the law's body -/
/-- the same from a codeAny of the CALL (for a layer whose function contracts speak of calls) -/
theorem attach_call {l : OpenLaw} {n : Nat} {q : Program} {loose : List Str} {XP : (Str → Option Value) → Heap → Prop} {YP : World → Heap → Prop} {d : DefRec}
    (hn : l.most = some n) (hdf : d.params.defaults = [])
    (call : ∀ (w : World) (s₀ s₁ : Shared) (mg mb : Str → Option Value) (fa : Addr) (o : Obj) (pm cd doc : Value) (a : Addr) (vs : List Value) (ns : List Int),
      Ground q loose [] XP w s₀ mg mb s₁.heap → YP w s₁.heap →
      s₁.heap.get? fa = some o → o.data = .func (docDef d.name d.params d.body d.scope pm cd doc) → s₁.heap.CodeRec cd d.name → mg d.name = some (.ref fa) →
      s₁.heap.get? a = some { cls := .type "list", data := .seq vs.toArray } → IntsAre vs ns → ns.length ≤ n → s₁.gens = #[] →
      codeAny (model l.prog w) callerA (.call (.ref fa) ⟨[.ref a], []⟩) (fun r s' => r = .ok (.ret (.bool true)) ∧ OldK s₁.heap s'.heap ∧ s'.os = s₁.os ∧ AllBare s'.gens) s₁) :
    WalkO q loose XP YP l.row.toRowW d [] (fun f vs => PySem.call f vs) := by
  intro w s₀ s₁ mg mb G Y fa o pm cd doc dV kV ho hd hcd hD hmg hg args vals as hpre hlay hrd hwl hlo
  obtain rfl : dV = .none := Dflts.none hD hdf
  obtain rfl : kV = .none := Dflts.noKw hD
  obtain ⟨a, vs, ns, rfl, rfl, hobj, hints, hlen⟩ := script_of hn hpre hwl
  refine enter_call (codeAny_mono (call w s₀ s₁ mg mb fa o pm cd doc a vs ns G Y ho (fd_plain hd) hcd hmg hobj hints hlen hg) fun r s' hq => ?_)
  obtain ⟨rfl, h2, h3, h4⟩ := hq
  exact ⟨.inl ⟨.bool true, .bool true, [], rfl, fun _ => rfl, .bool true, post_true l _, fun _ => ⟨List.Pairwise.nil, fun _ hm => (nomatch hm)⟩⟩, h2, h3, h4⟩

/-! ### rules over ANY heap (no ledger) from facts about the written part K: the library's own take a ledger (News) for what they write -/
section
variable {prog : Program} {w : World} {A : Around} {E : Value → Shared → Prop} {s : Shared} {K : Frag}

/-! the whole heap as the ledger: makes every rule that writes through a ledger a rule over any heap -/
end
end Att

namespace L2
open PySem PySem.Spec PyProof.Rows

theorem vals_ints : ∀ {vs : List Value} {ns : List Int}, IntsAre vs ns → Vals (ns.map V.int) vs
  | _, _, .nil => .nil
  | _, _, .cons n t h => .cons ⟨t, rfl⟩ (vals_ints h)

/-- nothing is tracked but the script, known to the object (or it is an object of the module) -/
noncomputable def Only (H : Hp) : Prop := ∀ b, H b = none ∨ ∃ o xs, H b = some (.frz o (.lst xs))

/-- THE HEAD: the law's promise, at the heap behind the top. F, the promise of the law's def, may use that base is part of the heap (so K.In base, base.Ns mainGlobals mg stand in Mod) -/
theorem law_call {P : Program} {w : World} {K : PySem.W.Frag} {mg mb : Str → Option Value} {CX : CXT} {k : Nat} {fa a : Addr} {fd : FuncData} {x : Str} {sp : Sp} {s₁ : Shared} {vs : List Value} {ns : List Int}
    (KX : K.In s₁.heap) (hns : s₁.heap.Ns mainGlobals mg) (hb : s₁.heap.Ns builtinsNs mb) (hbb : ∀ x : Str, x ≠ "__name__" → mb x = bootBuiltins x) (hlim : s₁.heap.NoLimit) (hg : s₁.gens = #[])
    (ha : s₁.heap.get? a = some { cls := .type "list", data := .seq vs.toArray }) (hi : IntsAre vs ns) (hl : ns.length ≤ sizeLine) (hr : Room k callerA)
    (F : ∀ base : Heap, K.In base → base.Ns mainGlobals mg → FnOk P w K mg base CX k fa fd [x] sp) (hbind : ∀ (s : Shared) (u : Value), BindsTo s fd ⟨[u], []⟩ [(x, u)])
    (hsp : ∀ H : Hp, Only H → SqL K H a (ns.map V.int) → sp [.ref a] H (fun v _ => v = .bl true) fun _ _ _ => False)
    (hCX : ∀ H e s', CX [] H s₁ (fun _ _ _ => False) e s' → False) :
    codeAny (model P w) callerA (.call (.ref fa) ⟨[.ref a], []⟩) (fun r s' => r = .ok (.ret (.bool true)) ∧ OldK s₁.heap s'.heap ∧ s'.os = s₁.os ∧ AllBare s'.gens) s₁ := by
  have rv := vals_ints hi
  have lenV := hi.length
  -- from an abstract heap in which nothing but the script may be tracked
  have core : ∀ H : Hp, Only H → SqL K H a (ns.map V.int) → HOk P w H s₁.heap → (∀ b, H b ≠ none → b = a) → (H a ≠ none → K.lookup a = none) →
      codeAny (model P w) callerA (.call (.ref fa) ⟨[.ref a], []⟩) (fun r s' => r = .ok (.ret (.bool true)) ∧ OldK s₁.heap s'.heap ∧ s'.os = s₁.os ∧ AllBare s'.gens) s₁ := by
    intro H hO hS hok hA hK
    have base_of : ∀ {b : Addr} {o : Obj}, s₁.heap.get? b = some o → H b = none → (hidT s₁.heap H).get? b = some o := fun e n => hidT_get e n
    have noA : ∀ {b : Addr} {o : Obj} {es : Array DictEntry} {ep : Nat}, s₁.heap.get? b = some o → o.data = .dict es ep → H b = none := fun {b o es ep} e d => by
      cases q : H b with
      | none => rfl
      | some u =>
        have e' : b = a := hA b (by rw [q]; simp)
        subst e'
        rw [ha] at e; cases e
        have d' : Data.seq vs.toArray _ = Data.dict es ep := d
        cases d'
    have nsK : ∀ {b : Addr} {m : Str → Option Value}, s₁.heap.Ns b m → (hidT s₁.heap H).Ns b m := fun {b m} ⟨o, es, ep, e, d, r⟩ => ⟨o, es, ep, base_of e (noA e d), d, r⟩
    have hKb : K.In (hidT s₁.heap H) := fun b o e => base_of (KX b o e) (by
      cases q : H b with
      | none => rfl
      | some u =>
        have e' : b = a := hA b (by rw [q]; simp)
        subst e'
        rw [hK (by rw [q]; simp)] at e; cases e)
    have hM : Mod K mg (hidT s₁.heap H) := ⟨hKb, nsK hns, ⟨mb, nsK hb, hbb⟩, let ⟨mc, h1, h2⟩ := hlim; ⟨mc, nsK h1, h2⟩⟩
    have e0 : Env0 P w K mg (hidT s₁.heap H) callerA [] s₁ H := ⟨rfl, hM, fun b o e => of_hidT e, Nat.le_of_eq (hidT_size _ _), trivial, fun b hb => absurd (show b ∈ ([] : List Addr) from hb) (by simp), hok, .of_eq hg⟩
    refine codeAny_mono ((F _ hKb (nsK hns)).run callerA [] s₁ H ⟨[.ref a], []⟩ [.ref a] [.ref a] _ _ hr e0 (hbind s₁ (.ref a)) (.cons rfl .nil) (hsp H hO hS)) fun r s' h => ?_
    cases r with
    | error e => exact (hCX H e s' h).elim
    | ok fl =>
      cases fl with
      | next => exact False.elim h
      | brk => exact False.elim h
      | cont => exact False.elim h
      | ret u =>
        obtain ⟨v, H', os, bare, un, hok', r', q⟩ := h
        have q' : v = .bl true := q
        subst q'
        obtain rfl : u = Value.bool true := r'
        refine ⟨rfl, OldK.of_keep fun b o e => ?_, os, bare⟩
        cases q : H b with
        | none => exact un.keep b o e q (by intro z; exact absurd (show b ∈ ([] : List Addr) from z) (by simp)) (by simp)
        | some u =>
          rcases hO b with z | ⟨ob, xs, z⟩
          · rw [q] at z; cases z
          · have z2 := un.frzs b ob _ z
            obtain ⟨e1, _⟩ := hok b _ z
            obtain ⟨e2, _⟩ := hok' b _ z2
            rw [e] at e1; cases e1
            exact e2
  cases hk : K.lookup a with
  | some o =>
    -- the script is one of the module's own objects
    have e := KX a o hk
    rw [ha] at e
    cases e
    refine core (fun _ => none) (fun _ => .inl rfl) (.inr ⟨_, vs.toArray, _, hk, rfl, rfl, rfl, by rw [List.size_toArray, lenV]; exact hl, by simpa using rv⟩) (fun b u z => by have z' : (none : Option HO) = some u := z; cases z') (fun b z => absurd rfl z) fun z => absurd rfl z
  | none =>
    refine core (fun b => if b = a then some (.frz { cls := .type "list", data := .seq vs.toArray } (.lst (ns.map V.int))) else none) (fun b => ?_) (.inl (.inr ⟨{ cls := .type "list", data := .seq vs.toArray }, if_pos rfl⟩)) (fun b u z => ?_) (fun b z => ?_) fun _ => hk
    · by_cases hb : b = a
      · exact .inr ⟨_, _, if_pos hb⟩
      · exact .inl (if_neg hb)
    · by_cases hb : b = a
      · have z' := (if_pos hb).symm.trans z
        cases z'
        subst hb
        exact ⟨ha, by rw [List.length_map]; exact hl, vs, _, rv, ha⟩
      · have z' := (if_neg hb).symm.trans z
        cases z'
    · by_cases hb : b = a
      · exact hb
      · exact absurd (if_neg hb) z
end L2

namespace L2
open PySem PySem.Spec PyProof.Rows

/-- the goal that k_head leaves (case hc), from the law's promise. F gives the function object fd (K's own) once, then the promise over every base -/
theorem walk_of {l : PySem.W.OpenLaw} {n k : Nat} {q : Program} {loose : List Str} {XP : (Str → Option Value) → Heap → Prop} {YP : World → Heap → Prop} {d : DefRec} {K : Params → PySem.W.Frag} {CX : World → CXT} {sp : World → Sp} {x : Str}
    (hn : l.most = some n) (hn2 : n ≤ sizeLine) (hdf : d.params.defaults = []) (hr : Room k callerA)
    (hY : ∀ (w : World) (h : Heap), YP w h → (K w.params).In h)
    (F : ∀ (w : World) (mg : Str → Option Value) (fa : Addr) (h : Heap), (K w.params).In h → h.Ns mainGlobals mg → mg d.name = some (.ref fa) →
      ∃ fd : FuncData, (∀ (s : Shared) (u : Value), BindsTo s fd ⟨[u], []⟩ [(x, u)]) ∧
        ∀ base : Heap, (K w.params).In base → base.Ns mainGlobals mg → FnOk l.prog w (K w.params) mg base (CX w) k fa fd [x] (sp w))
    (hsp : ∀ (w : World) (H : Hp) (a : Addr) (ns : List Int), ns.length ≤ n → Only H → SqL (K w.params) H a (ns.map V.int) → sp w [.ref a] H (fun v _ => v = .bl true) fun _ _ _ => False)
    (hCX : ∀ (w : World) (H : Hp) (s : Shared) (e : Value) (s' : Shared), CX w [] H s (fun _ _ _ => False) e s' → False) :
    PySem.W.WalkO q loose XP YP l.row.toRowW d [] (fun f vs => PySem.call f vs) := by
  refine Att.attach_call hn hdf fun w s₀ s₁ mg mb fa o pm cd doc a vs ns G Y ho hd hcd hmg hobj hints hlen hg => ?_
  have KX := hY w _ Y
  obtain ⟨fd, hb, hF⟩ := F w mg fa _ KX G.T.g hmg
  exact law_call KX G.T.g G.T.b G.T.builtins G.T.nolimit hg hobj hints (Nat.le_trans hlen hn2) hr hF hb (fun H hO hS => hsp w H a ns hlen hO hS) fun H e s' => hCX w H s₁ e s'
end L2

/- THE LAST THEOREM (shape; LID, My.* are yours):
   My.Adr: a structure of the addresses that your layer names (classes, functions); My.Txt K t: a structure (Prop) of the equations over K;
   My.txt_mk : {K} {implicit addresses ..} (e1 : nsIn K mainGlobals "law" = some (some (.ref f))) (e2 : K.lookup f = some ⟨oc, od, .func (fnOf "law" "law" params body scope dV kV doc pm an cdv ct), sl⟩) (e3 : codeIn K cdv "law" = true) .. : ∃ t, My.Txt K t

set_option maxRecDepth 100000 in
set_option maxHeartbeats 0 in
theorem PySem.Challenge.cw_LID_holds : PySem.Challenge.rw_LID.Holds := by
  w_on; o_law; k_head; (case hw => w_witness2)
  k_fill
  refine L2.walk_of (l := PySem.Challenge.rw_LID) (n := 63) (k := 40) (x := "script") (CX := fun w => ..) (sp := fun _ => My.sp_law) rfl (by decide) rfl ⟨rfl, by decide, by decide⟩ (fun w h Y => PySem.W.kIn_of Y) ?F ?S ?C
  case F =>
    intro w mg fa h KX G hmg
    have T : ∃ t, My.Txt (L2.KOf KX) t := by
      dsimp only [L2.KOf]                          -- K must stand as «<heap const> w.params» for k_is
      refine' My.txt_mk ?e1 ?e2 ?e3 ..
      (case e1 => PySem.W.k_is)                    -- in the order: a name -> its address -> its object -> its parts
      (case e2 => PySem.W.k_is)
      ..
    obtain ⟨t, T⟩ := T
    have e0 := hmg.symm.trans (PySem.W.mg_of KX G T.law)
    cases e0                                       -- fa is the law's own address
    exact ⟨_, fun s u => .of_eq rfl, fun base kb nb => My.law_fn T kb nb⟩     -- if «.of_eq rfl» comes too early: refine' ⟨_, ?b, fun base kb nb => My.law_fn T kb nb⟩; exact fun s u => .of_eq rfl
  case S => exact fun w H a ns hl hO hS => ..
  case C => exact ..
(the tactic k_is has no namespace: write k_is) -/

/-! SHORT WORDS over the layer: a def of the text, its body, what a loop and a test want. -/
namespace L2
open PySem PySem.Spec PyProof.Rows

/-! ### the text by places -/
noncomputable def defArgs (s : Stmt) : Arguments := match s with
  | .FunctionDef _ a _ _ _ _ _ _ _ _ => a
  | _ => { posonlyargs := [], args := [], vararg := none, kwonlyargs := [], kw_defaults := [], kwarg := none, defaults := [] }
noncomputable def defBody (s : Stmt) : List Stmt := match s with
  | .FunctionDef _ _ b _ _ _ _ _ _ _ => b
  | _ => []
noncomputable def defScope (s : Stmt) : Scope := match s with
  | .FunctionDef _ _ _ _ _ _ sc _ _ _ => sc
  | _ => { kind := .function, names := [], isGenerator := false, isCoroutine := false }

/-! ### no exception leaves a def -/
noncomputable abbrev CX0 : CXT := fun _ _ _ _ _ _ => False
noncomputable abbrev E0 : XK := fun _ _ _ => False
theorem pass0 {X : Cx} : Passes CX0 X E0 := fun _ _ _ _ _ _ _ h => h.elim

/-! ### a def (or method) of the text as it stands behind the top -/
structure Fun (K : PySem.W.Frag) (x qual : Str) (st : Stmt) (f : Addr) (fd : FuncData) : Prop where
  ex : ∃ (oc : Value) (od : Option Addr) (kV doc pm : Value) (an : Option Addr) (cdv ct : Value) (osl : Array (Option Value)),
    fd = PySem.W.fnOf x qual (defArgs st) (defBody st) (defScope st) .none kV doc pm an cdv ct ∧ K.lookup f = some ⟨oc, od, .func fd, osl⟩ ∧ PySem.W.codeIn K cdv qual = true
  kp : PySem.W.keepIn K (.ref f) = true
section
variable {P : Program} {w : World} {K : PySem.W.Frag} {mg : Str → Option Value} {base : Heap}
/-- THE RULE for a def: its body as a term of rules, and the reading of that term -/
theorem Fun.ok {x qual : Str} {st : Stmt} {f : Addr} {fd : FuncData} {N ps : List Str} {k : Nat} {sp : Sp} (F : Fun K x qual st f fd) (S : FnScope N ps (defScope st)) (len : ∀ vs H Q E, sp vs H Q E → vs.length = ps.length)
    (hbody : ∀ (cdv : Value) (A : Around) (outer : List Env) (s : Shared) (H : Hp) (vs : List V) (Q : VK) (E : XK), Room k (A.deeper (envOfC qual (defScope st) s.heap.objs.size f cdv)) → sp vs H Q E →
      ∃ t, PSs (cxOf CX0 P w K mg base N qual (defScope st) f cdv A outer s H E).nox (defBody st) t ∧ t { nx := fun _ H' => Q .non H', rt := Q } (start N vs) H) : FnOk P w K mg base CX0 (k + 1) f fd ps sp := by
  obtain ⟨oc, od, kV, doc, pm, an, cdv, ct, osl, rfl, lk, hcd⟩ := F.ex
  refine fn_of lk hcd S len fun A outer s H vs Q E hr hsp => ?_
  obtain ⟨t, h, q⟩ := hbody cdv A outer s H vs Q E hr hsp
  exact ⟨t, h.nox, q⟩
/-- how its arguments bind (no defaults): h is «fun _ _ _ _ _ _ us hl => match us, hl with | [_, _], _ => rfl», one _ a parameter -/
theorem Fun.binds {x qual : Str} {st : Stmt} {f : Addr} {fd : FuncData} {ps : List Str} (F : Fun K x qual st f fd)
    (h : ∀ (kV doc pm : Value) (an : Option Addr) (cdv ct : Value) (us : List Value), us.length = ps.length → bindArgs (PySem.W.fnOf x qual (defArgs st) (defBody st) (defScope st) .none kV doc pm an cdv ct) ⟨us, []⟩ = pure (ps.zip us)) : Binds K fd ps [] := by
  obtain ⟨oc, od, kV, doc, pm, an, cdv, ct, osl, rfl, lk, hcd⟩ := F.ex
  exact .all (h kV doc pm an cdv ct)
theorem fun_mk {x qual : Str} {st : Stmt} {f : Addr} {oc : Value} {od an : Option Addr} {osl : Array (Option Value)} {kV doc pm cdv ct : Value} (l : K.lookup f = some ⟨oc, od, .func (PySem.W.fnOf x qual (defArgs st) (defBody st) (defScope st) .none kV doc pm an cdv ct), osl⟩)
    (c : PySem.W.codeIn K cdv qual = true) (k : PySem.W.keepIn K (.ref f) = true) : Fun K x qual st f (PySem.W.fnOf x qual (defArgs st) (defBody st) (defScope st) .none kV doc pm an cdv ct) := ⟨⟨oc, od, kV, doc, pm, an, cdv, ct, osl, rfl, l, c⟩, k⟩
end
theorem small1000 {n : Nat} (h : n ≤ 1000) : n < sizeLine := Nat.lt_of_le_of_lt h (by decide)

/-! ### expressions in short: the name that stands in the i-th slot -/
section
variable {X : Cx}
theorem pv (i : Nat) {x : Str} {pos : Pos} (hN : X.N[i]? = some x := by rfl) (hv : Vis X.env.scope x := by first | exact Or.inl rfl | exact Or.inr (Or.inl rfl) | exact Or.inr (Or.inr rfl)) (hd : (x == ("__debug__" : Str)) = false := by decide)
    (hcd : (x == ("__classdict__" : Str)) = false := by decide) : PE X (.Name x pos) (tVar i) := pe_var hN hv hd hcd
end

/-! ### tests -/
theorem iteF {A B : Prop} (h : B) : if false = true then A else B := by
  rw [if_neg Bool.false_ne_true]
  exact h
theorem iteT {A B : Prop} (h : A) : if true = true then A else B := by
  rw [if_pos rfl]
  exact h
theorem ite2 {c A B : Prop} [Decidable c] (h1 : c → A) (h2 : ¬ c → B) : if c then A else B := by
  by_cases h : c
  · rw [if_pos h]
    exact h1 h
  · rw [if_neg h]
    exact h2 h
theorem iteNS {c A B : Prop} [Decidable c] (hc : c) (h : B) : if (!decide c) = true then A else B := by
  rw [decide_eq_true hc]
  exact iteF h

/-! ### heaps -/
/-- all that was tracked is as it was -/
noncomputable def Same (H H' : Hp) : Prop := ∀ b o, H b = some o → H' b = some o
theorem Same.refl (H : Hp) : Same H H := fun _ _ h => h
theorem Same.trans {H H1 H2 : Hp} (a : Same H H1) (b : Same H1 H2) : Same H H2 := fun c o h => b c o (a c o h)
theorem Same.seq {K : PySem.W.Frag} {H H' : Hp} {a : Addr} {xs : List V} (e : Same H H') (h : SqL K H a xs) : SqL K H' a xs := by
  rcases h with (h | ⟨o, h⟩) | h
  · exact .inl (.inl (e _ _ h))
  · exact .inl (.inr ⟨o, e _ _ h⟩)
  · exact .inr h

end L2

set_option Elab.async false
set_option linter.all false
set_option maxRecDepth 100000
namespace L2
open PySem PySem.Spec PyProof.Rows

/-! ### a list comprehension of one clause over the layer -/
/-- the cells that the block closes over -/
noncomputable def clOf (env : Env) : List (Str × NameKind) → List (Str × Addr) → List (Str × Addr)
  | [], acc => acc
  | (x, k) :: r, acc => if (k == NameKind.free) = true then (match env.cells.lookup x with | some c => clOf env r ((x, c) :: acc) | none => clOf env r acc) else clOf env r acc
theorem clOf_from (env : Env) : ∀ (ns : List (Str × NameKind)) (acc : List (Str × Addr)) (x : Str) (c : Addr), (x, c) ∈ clOf env ns acc → (x, c) ∈ acc ∨ env.cells.lookup x = some c
  | [], acc, x, c, h => .inl h
  | (y, k) :: r, acc, x, c, h => by
    unfold clOf at h
    split at h
    · split at h
      · next d e =>
        rcases clOf_from env r _ x c h with z | z
        · rcases List.mem_cons.mp z with q | q
          · cases q; exact .inr e
          · exact .inl q
        · exact .inr z
      · exact clOf_from env r acc x c h
    · exact clOf_from env r acc x c h
theorem clOf_acc (env : Env) : ∀ (ns : List (Str × NameKind)) (acc : List (Str × Addr)) (p : Str × Addr), p ∈ acc → p ∈ clOf env ns acc
  | [], acc, p, h => h
  | (y, k) :: r, acc, p, h => by
    unfold clOf
    split
    · split
      · exact clOf_acc env r _ p (List.mem_cons_of_mem _ h)
      · exact clOf_acc env r _ p h
    · exact clOf_acc env r _ p h
theorem clOf_has (env : Env) : ∀ (ns : List (Str × NameKind)) (acc : List (Str × Addr)) (x : Str) (c : Addr), (x, NameKind.free) ∈ ns → env.cells.lookup x = some c → (x, c) ∈ clOf env ns acc
  | [], acc, x, c, h, _ => nomatch h
  | (y, k) :: r, acc, x, c, h, e => by
    unfold clOf
    rcases List.mem_cons.mp h with q | q
    · cases q
      rw [if_pos (show (NameKind.free == NameKind.free) = true from rfl), e]
      exact clOf_acc env r _ _ List.mem_cons_self
    · split
      · split
        · exact clOf_has env r _ x c q e
        · exact clOf_has env r _ x c q e
      · exact clOf_has env r _ x c q e
theorem look_mem {l : List (Str × Addr)} {x : Str} {c : Addr} (h : (x, c) ∈ l) : ∃ d, l.lookup x = some d := by
  induction l with
  | nil => cases h
  | cons p r ih =>
    obtain ⟨y, d⟩ := p
    rw [List.lookup_cons]
    cases hx : x == y with
    | true => exact ⟨d, rfl⟩
    | false =>
      rcases List.mem_cons.mp h with q | q
      · cases q
        rw [beq_self_eq_true] at hx
        cases hx
      · exact ih q
theorem clOf_look {env : Env} {ns : List (Str × NameKind)} {x : Str} {c : Addr} (h : (clOf env ns []).lookup x = some c) : env.cells.lookup x = some c := by
  rcases clOf_from env ns [] x c (PySem.mem_of_lookup h) with z | z
  · cases z
  · exact z
theorem clOf_got {env : Env} {ns : List (Str × NameKind)} {x : Str} {c : Addr} (h : (x, NameKind.free) ∈ ns) (e : env.cells.lookup x = some c) : (clOf env ns []).lookup x = some c := by
  obtain ⟨d, q⟩ := look_mem (clOf_has env ns [] x c h e)
  rw [q, ← clOf_look q, e]
theorem closure_is {env : Env} {scope : Scope} (h : ∀ x ∈ scope.names, x.2 = NameKind.free → ∃ c, env.cells.lookup x.1 = some c) : closureFor scope env = pure (clOf env scope.names []) := by
  have go : ∀ (ns : List (Str × NameKind)) (acc : List (Str × Addr)), (∀ x ∈ ns, x.2 = NameKind.free → ∃ c, env.cells.lookup x.1 = some c) →
      (forIn ns acc (fun x cs => match x with | (name, kind) => if (kind == NameKind.free) = true then (do let c ← cellOf env name; pure (ForInStep.yield ((name, c) :: cs))) else pure (ForInStep.yield cs)) : Sem (List (Str × Addr))) = pure (clOf env ns acc) := by
    intro ns
    induction ns with
    | nil => intro acc _; rfl
    | cons p r ih =>
      intro acc hh
      obtain ⟨y, k⟩ := p
      rw [List.forIn_cons]
      unfold clOf
      by_cases hk : (k == NameKind.free) = true
      · rw [if_pos hk]
        obtain ⟨c, e⟩ := hh (y, k) List.mem_cons_self (by cases k <;> first | rfl | cases hk)
        dsimp only at e ⊢
        rw [if_pos hk]
        unfold cellOf
        rw [e]
        exact ih _ fun x hx => hh x (List.mem_cons_of_mem _ hx)
      · rw [if_neg hk]
        dsimp only
        rw [if_neg hk]
        exact ih _ fun x hx => hh x (List.mem_cons_of_mem _ hx)
  unfold closureFor
  have q := go scope.names [] h
  simp only [bind_pure]
  exact q

/-- the block's context -/
noncomputable def cxLc (X : Cx) (scope : Scope) (N : List Str) (C : Addr) (s0 : Shared) (H0 : Hp) (fp : List Addr) : Cx :=
  { X with N := N, s₀ := s0, H₀ := H0, env := compEnvC scope (clOf X.env scope.names []) C X.env, outer := X.stack, stack := X.stack, ex := fp, fn := fun _ => false, pn := [], xe := fun _ _ => False }
/-- the block's names: which of them are the outer ones -/
noncomputable def emb (ix : List (Option Nat)) (σ : St) : St := ix.map fun o => match o with | none => none | some j => (σ[j]?).join
noncomputable def embOk (No : List Str) (out : Str → Option NameKind) (scope : Scope) (N : List Str) (ix : List (Option Nat)) : Bool :=
  (N.length == ix.length) && (N.zip ix).all fun p => match p.2 with | none => true | some j => (No[j]? == some p.1) && (scope.names.lookup p.1 == some NameKind.free) && ((out p.1 == some .cell) || (out p.1 == some .free))
structure LcOk (X : Cx) (scope : Scope) (N : List Str) (ix : List (Option Nat)) : Prop where
  kind : scope.kind = .function
  names : scope.names.all (fun x => (x.2 != .cell) && ((x.2 != .local) || (scope.names.lookup x.1 == some .local)) && ((x.2 != .free) || (X.env.kindOf x.1 == some .cell) || (X.env.kindOf x.1 == some .free))) = true
  em : embOk X.N X.env.kindOf scope N ix = true
  nd : N.Nodup

theorem relab {scope : Scope} {env : Env} {x : Str} {k : NameKind} : ∀ {ns : List (Str × NameKind)}, (ns.map fun (n, k) => if (k == NameKind.free && env.scope.kind == .function && env.kindOf n == some .cell) = true then (n, NameKind.cell) else (n, k)).lookup x = some k →
    (k = .cell ∨ k = .free) → (∀ y ∈ ns, y.2 ≠ .cell) → (x, NameKind.free) ∈ ns
  | [], h, _, _ => by cases h
  | (n, k') :: r, h, hk, hc => by
    have ih := fun h' => relab (scope := scope) (env := env) (x := x) (k := k) (ns := r) h' hk fun y hy => hc y (List.mem_cons_of_mem _ hy)
    have key : ∀ k'' : NameKind, List.lookup x ((n, k'') :: (r.map fun (n, k) => if (k == NameKind.free && env.scope.kind == .function && env.kindOf n == some .cell) = true then (n, NameKind.cell) else (n, k))) = some k →
        (k'' = k' ∨ (k'' = .cell ∧ k' = .free)) → (x, NameKind.free) ∈ (n, k') :: r := fun k'' h hq => by
      rw [List.lookup_cons] at h
      cases hx : x == n with
      | true =>
        rw [hx] at h
        cases h
        have e : x = n := eq_of_beq hx
        subst e
        rcases hq with q | ⟨_, q⟩
        · rcases hk with z | z
          · exact absurd (q.symm.trans z) (hc (x, k') List.mem_cons_self)
          · rw [← q, z]; exact List.mem_cons_self
        · rw [q]; exact List.mem_cons_self
      | false =>
        rw [hx] at h
        exact List.mem_cons_of_mem _ (ih h)
    rw [List.map_cons] at h
    dsimp only at h
    split at h
    · next hh =>
      refine key _ h (.inr ⟨rfl, ?_⟩)
      cases k' <;> first | rfl | (simp at hh)
    · exact key _ h (.inl rfl)

theorem relab2 {env : Env} {x : Str} : ∀ {ns : List (Str × NameKind)}, ns.lookup x = some NameKind.free → ∃ k, (k = NameKind.cell ∨ k = NameKind.free) ∧
    (ns.map fun (n, k) => if (k == NameKind.free && env.scope.kind == .function && env.kindOf n == some .cell) = true then (n, NameKind.cell) else (n, k)).lookup x = some k
  | [], h => by cases h
  | (n, k') :: r, h => by
    rw [List.lookup_cons] at h
    rw [List.map_cons]
    dsimp only
    cases hx : x == n with
    | true =>
      rw [hx] at h
      cases h
      split
      · exact ⟨_, .inl rfl, by rw [List.lookup_cons, hx]⟩
      · exact ⟨_, .inr rfl, by rw [List.lookup_cons, hx]⟩
    | false =>
      rw [hx] at h
      obtain ⟨k, hk, e⟩ := relab2 (env := env) (ns := r) h
      refine ⟨k, hk, ?_⟩
      split <;> (rw [List.lookup_cons, hx]; exact e)

section
variable {X : Cx} {scope : Scope} {N : List Str} {ix : List (Option Nat)}
theorem LcOk.nocell (L : LcOk X scope N ix) : ∀ x ∈ scope.names, x.2 ≠ .cell := fun x hx z => by
  have q := List.all_eq_true.mp L.names x hx
  rw [z] at q
  simp at q
theorem LcOk.locals (L : LcOk X scope N ix) : ∀ x ∈ scope.names, x.2 = .local → scope.names.lookup x.1 = some .local := fun x hx z => by
  have q := List.all_eq_true.mp L.names x hx
  rw [z] at q
  simpa using q
theorem LcOk.frees (L : LcOk X scope N ix) : ∀ x ∈ scope.names, x.2 = .free → X.env.kindOf x.1 = some .cell ∨ X.env.kindOf x.1 = some .free := fun x hx z => by
  have q := List.all_eq_true.mp L.names x hx
  rw [z] at q
  simpa using q
theorem LcOk.clos (L : LcOk X scope N ix) (ok : X.Ok) : closureFor scope X.env = pure (clOf X.env scope.names []) :=
  closure_is fun x hx z => ok.has _ (L.frees x hx z)
theorem LcOk.len (L : LcOk X scope N ix) : N.length = ix.length := by
  have q := L.em
  unfold embOk at q
  rw [Bool.and_eq_true] at q
  exact eq_of_beq q.1
theorem LcOk.out (L : LcOk X scope N ix) {i j : Nat} {x : Str} (h1 : N[i]? = some x) (h2 : ix[i]? = some (some j)) : X.N[j]? = some x ∧ scope.names.lookup x = some NameKind.free ∧ (X.env.kindOf x = some .cell ∨ X.env.kindOf x = some .free) := by
  have q := L.em
  unfold embOk at q
  rw [Bool.and_eq_true] at q
  have hz : (N.zip ix)[i]? = some (x, some j) := by
    rw [List.getElem?_zip_eq_some]
    exact ⟨h1, h2⟩
  have r := List.all_eq_true.mp q.2 _ (List.mem_of_getElem? hz)
  simp only [Bool.and_eq_true, Bool.or_eq_true, beq_iff_eq] at r
  exact ⟨r.1.1, r.1.2, r.2⟩
/-- the block's context is in order -/
theorem lc_ok (L : LcOk X scope N ix) {pins : List (Addr × Obj)} {σ : St} {H2 : Hp} {s2 : Shared} {C : Addr} {fp : List Addr} (I2 : Inv X pins σ H2 s2) (hC : s2.heap.objs.size ≤ C) (hf : ∀ b ∈ fp, FpOk X pins H2 b) (hb : ∀ b ∈ fp, b < s2.heap.objs.size) :
    (cxLc X scope N C s2 H2 fp).Ok where
  mod := I2.ok.mod
  kind := L.kind
  glob := I2.ok.glob
  blt := I2.ok.blt
  above := hC
  inj := fun x y c h1 h2 => I2.ok.inj x y c (clOf_look h1) (clOf_look h2)
  has := fun x hx => by
    have hm : (x, NameKind.free) ∈ scope.names := by
      rcases hx with hx | hx
      · exact relab (scope := scope) (env := X.env) hx (.inl rfl) L.nocell
      · exact relab (scope := scope) (env := X.env) hx (.inr rfl) L.nocell
    obtain ⟨c, e⟩ := I2.ok.has x (L.frees _ hm rfl)
    exact ⟨c, clOf_got hm e⟩
  cab := fun x c h _ => Bool.noConfusion h
  hd := I2.ok.hd
  frames := I2.ok.frames
  stk := .inl rfl
  exf := fun b h => ⟨Nat.ne_of_lt (Nat.lt_of_lt_of_le (hb b h) hC), fun x c e => (hf b h).2.2.2.2.1 x c (clOf_look e)⟩
  bs := fun b o e => I2.bs b o e
  bsz := Nat.le_trans I2.ok.bsz I2.sz
  noex := fun b o e h => by
    rcases (hf b h).2.2.2.1 with z | z
    · exact I2.ok.noex b o e z
    · exact absurd (Nat.lt_of_lt_of_le (Heap.lt_size e) (Nat.le_trans I2.ok.bsz z)) (Nat.lt_irrefl _)
  exfs := fun b h z => (List.mem_cons.mp (I2.stkSub b z)).elim (hf b h).2.1 (hf b h).2.2.1
  funs := I2.stack
  frf := fun b h => I2.stkFree b h
end
end L2

set_option Elab.async false
set_option linter.all false
set_option maxRecDepth 100000
namespace L2
open PySem PySem.Spec PyProof.Rows

/-- the tests of a clause -/
noncomputable def PTs (X : Cx) (ifs : List Expr) (t : TT) : Prop :=
  ∀ (pins : List (Addr × Obj)) (s : Shared) (σ : St) (H : Hp) (Q : Bool → Hp → Prop), Inv X pins σ H s → t σ H Q →
    wpAny (model X.prog X.w) X.A (forIn ifs true fun c r => if r = true then do let ok ← isTrue c X.env (eval c X.env); pure (ForInStep.yield ok) else pure (ForInStep.yield r)) (TP X pins σ Q) X.xe s
noncomputable def tYes : TT := fun _ H Q => Q true H
theorem pts_nil {X : Cx} : PTs X [] tYes := fun _ _ _ H _ I h => wpAny_tests_nil ⟨H, I, h⟩
theorem pts_one {X : Cx} {c : Expr} {t : TT} (h : PT X c t) : PTs X [c] t := fun pins s σ H Q I q => wpAny_tests_one (h pins s σ H Q I q)

section
variable {prog : Program} {w : World} {A : Around} {R : Result → Shared → Prop} {s : Shared}
theorem lc_loop {elt tg iter : Expr} {ifs : List Expr} {scope : Scope} {pos : Pos} {it acc : Value} {env : Env} (J : Nat → Shared → Prop)
    (turn : ∀ n s, J n s → wpAny (model prog w) A (pyNext it) (fun r s1 => match r with
      | none => R (.ok .next) s1
      | some v => wpAny (model prog w) A (letOwnedTupleGo tg it v) (fun _ s2 => wpAny (model prog w) A (assign tg env v) (fun _ s3 =>
          wpAny (model prog w) A (forIn ifs true fun c r => if r = true then do let ok ← isTrue c env (eval c env); pure (ForInStep.yield ok) else pure (ForInStep.yield r)) (fun ok s4 =>
            if ok = true then wpAny (model prog w) A (eval elt env) (fun x s5 => wpAny (model prog w) A (call (.builtin "list.append") [acc, x]) (fun _ s6 => ∃ m, m < n ∧ J m s6) (fun _ _ => False) s5) (fun _ _ => False) s4
            else ∃ m, m < n ∧ J m s4) (fun _ _ => False) s3) (fun _ _ => False) s2) (fun _ _ => False) s1) (fun _ _ => False) s)
    (n : Nat) (h : J n s) : codeAny (model prog w) A (.compLoop (.ListComp elt [⟨tg, iter, ifs, 0⟩] scope pos) 0 it acc env) R s := by
  refine codeAny_loop rfl J (fun k t hJ => ?_) n h
  show wpAny _ A ((compTurn (.ListComp elt [⟨tg, iter, ifs, 0⟩] scope pos) 0 it acc env).onRaise (fun x => do noteFrame x env; theTreesLotGoes x)) _ _ t
  refine wpAny_noted (wpAny_mono (E := fun _ _ => False) ?_ (fun _ _ q => q) fun _ _ f => f.elim)
  rw [compTurn_list]
  refine wpAny_bind (wpAny_standAt (wpAny_bind (thn (turn k t hJ) fun r s1 h1 => ?_)))
  cases r with
  | none => exact wpAny_pure h1
  | some v =>
    refine wpAny_bind (thn h1 fun _ s2 h2 => wpAny_bind (thn h2 fun _ s3 h3 => wpAny_bind (thn h3 fun ok s4 h4 => ?_)))
    cases ok with
    | false => exact wpAny_pure ⟨rfl, h4⟩
    | true => exact wpAny_bind (wpAny_bind (thn h4 fun x s5 h5 => wpAny_bind (thn h5 fun _ s6 h6 => wpAny_pure (wpAny_pure ⟨rfl, h6⟩))))
end

/-- what the block is to show: W by the turn, a measure, the list so far, the block's names, the heap -/
noncomputable def LcW (J : It) (g : TG) (tt : TT) (te : TE) (σ' : St) (fin : List V → Hp → Prop) (H1 : Hp) : Prop :=
  ∃ W : Nat → Nat → List V → St → Hp → Prop, (∃ m, W 0 m [] σ' H1) ∧ ∀ i m ys σ H, W i m ys σ H →
    (J.stop i H ∧ ys.length ≤ sizeLine ∧ fin ys H) ∨ (J.go i H ∧ ys.length < sizeLine ∧ ∃ Nx : List V → St → Hp → Prop, (∀ ys' σ' H', Nx ys' σ' H' → ∃ m', m' < m ∧ W (i + 1) m' ys' σ' H') ∧
      ∀ x H', J.yld i H x H' → g x σ H' fun σ2 H2 => tt σ2 H2 fun b H3 => if b = true then te σ2 H3 (fun v H4 => Nx (ys ++ [v]) σ2 H4) else Nx ys σ2 H3)
noncomputable def tLc (wi : TI) (g : TG) (tt : TT) (te : TE) (ix : List (Option Nat)) : TE := fun σ H Q => wi σ H fun J H1 => LcW J g tt te (emb ix σ) (fun ys H' => ∀ p, H' p = none → Q (.ref p) (upd H' p (.lst ys))) H1

section
variable {X : Cx} {scope : Scope} {N : List Str} {ix : List (Option Nat)}
/-- the outer context behind the block -/
theorem lc_fin {pins pins' : List (Addr × Obj)} {σ σ' : St} {H2 H' : Hp} {s2 s' : Shared} {C D : Addr} {fp : List Addr} {ys : List V} {its : List Value} {k : Nat} {h' : Heap} (I2 : Inv X pins σ H2 s2) (hf : ∀ b ∈ fp, FpOk X pins H2 b)
    (I' : Inv (cxLc X scope N C s2 H2 fp) pins' σ' H' s') (hC : s2.heap.objs.size ≤ C) (hD : s2.heap.objs.size ≤ D) (hDC : D ≠ C) (hn : H' D = none) (ho : s'.heap.get? D = some { cls := .type "list", data := .seq its.toArray k }) (rv : Vals ys its) (hz : ys.length ≤ sizeLine)
    (hs : ∀ b o, b ≠ C → s'.heap.get? b = some o → h'.get? b = some o) : Inv X pins σ (upd H' D (.lst ys)) { s' with heap := h' } := by
  have B : Un (frs X.stack) fp H2 H' s2.heap s'.heap := I'.base
  have neC : ∀ b o, s2.heap.get? b = some o → b ≠ C := fun b o e => Nat.ne_of_lt (Nat.lt_of_lt_of_le (Heap.lt_size e) hC)
  have neD : ∀ b o, s2.heap.get? b = some o → b ≠ D := fun b o e => Nat.ne_of_lt (Nat.lt_of_lt_of_le (Heap.lt_size e) hD)
  have hCn : H' C = none := I'.free
  have tD : ∀ b u, H' b = some u → b ≠ D := fun b u e => ne_of_none e hn
  have tC : ∀ b u, H' b = some u → b ≠ C := fun b u e => ne_of_none e hCn
  refine I2.call' (s' := { s' with heap := h' }) (ch := fp) I'.os ⟨fun b o e n hb hx => ?_, fun b o e n hb hx => ?_, fun b o e n hx => ?_, fun b o e hx => ?_, fun b xs e => ?_, fun b o u e => ?_, fun b ps e => ?_⟩ (fun b u e => ?_) I'.bare fun b hb => ⟨(hf b hb).2.2.2.1, (hf b hb).2.1, (hf b hb).2.2.2.2.1, (hf b hb).2.2.2.2.2⟩
  · exact hs b o (neC b o e) (B.keep b o e n hb hx)
  · obtain ⟨sl, q⟩ := B.slot b o e n hb hx
    exact ⟨sl, hs b _ (neC b o e) q⟩
  · rw [upd_ne (neD b o e)]; exact B.free b o e n hx
  · obtain ⟨o', q⟩ := B.there b o e hx
    exact ⟨o', hs b o' (neC b o e) q⟩
  · rw [upd_ne (tD b _ (B.tups b xs e))]; exact B.tups b xs e
  · rw [upd_ne (tD b _ (B.frzs b o u e))]; exact B.frzs b o u e
  · obtain ⟨m, q⟩ := B.tbls b ps e
    exact ⟨m, by rw [upd_ne (tD b _ q)]; exact q⟩
  · by_cases hb : b = D
    · subst hb
      rw [upd_same] at e
      cases e
      exact ⟨hz, its, k, rv, hs b _ hDC ho⟩
    · rw [upd_ne hb] at e
      refine (I'.hok b u e).stay (fun c v hc q => hs c v ?_ q) (fun c q => by rw [upd_ne (tD c _ q)]; exact q) fun c xs q => by rw [upd_ne (tD c _ q)]; exact q
      rcases hc with z | z
      · rw [z]; exact tC b u e
      · exact tC c _ z

/-- the block at its start -/
theorem lc_in (L : LcOk X scope N ix) {pins : List (Addr × Obj)} {σ : St} {H2 : Hp} {s2 : Shared} {C : Addr} {fp : List Addr} {h1 : Heap} {tk : Nat} {m : Str → Option Value} (I2 : Inv X pins σ H2 s2) (hC : s2.heap.objs.size ≤ C) (hf : ∀ b ∈ fp, FpOk X pins H2 b) (hb : ∀ b ∈ fp, b < s2.heap.objs.size)
    (kp : ∀ b o, s2.heap.get? b = some o → h1.get? b = some o) (hn : h1.Ns C m) : Inv (cxLc X scope N C s2 H2 fp) [] (emb ix σ) H2 { s2 with heap := h1, toks := tk } := by
  refine ⟨lc_ok L I2 hC hf hb, rfl, I2.bare, Un.kept kp, ⟨m, hn, fun i x v e1 e2 e3 => ?_⟩, fun x c e => ?_, I2.hok.fresh hC, fun x c e => I2.freeC x c (clOf_look e), fun p hp => absurd (show p ∈ ([] : List (Addr × Obj)) from hp) (by simp), I2.hok.kept kp, ?_⟩
  · unfold emb at e2
    rw [List.getElem?_map] at e2
    cases q : ix[i]? with
    | none => rw [q] at e2; cases e2
    | some o =>
      rw [q] at e2
      cases o with
      | none => cases e2
      | some j =>
        have e2' : (σ[j]?).join = some v := Option.some.inj e2
        have e4 : σ[j]? = some (some v) := by
          cases z : σ[j]? with
          | none => rw [z] at e2'; cases e2'
          | some y => rw [z] at e2'; exact congrArg some e2'
        obtain ⟨a1, a2, a3⟩ := L.out e1 q
        obtain ⟨mo, _, hl⟩ := I2.loc
        obtain ⟨u, r, lk⟩ := hl j x v a1 e4 (.inr a3)
        refine ⟨u, r, ?_⟩
        rcases lk with ⟨k, _⟩ | ⟨k, c, e, o, ho, hd⟩
        · rcases a3 with z | z
          · rw [z] at k; cases k
          · rw [z] at k; cases k
        · obtain ⟨k', hk', e'⟩ := relab2 (env := X.env) a2
          refine .inr ⟨?_, c, clOf_got (PySem.mem_of_lookup a2) e, o, kp _ _ ho, hd⟩
          rcases hk' with z | z
          · subst z; exact .inl e'
          · subst z; exact .inr e'
  · obtain ⟨v, o, ho, hd⟩ := I2.cell x c (clOf_look e)
    exact ⟨v, o, kp _ _ ho, hd⟩
  · unfold emb
    rw [List.length_map]
    exact L.len.symm

variable {tg iter elt : Expr} {ifs : List Expr} {pos : Pos} {g : TG} {tt : TT} {te : TE}
theorem lc_run (L : LcOk X scope N ix) (hc : X.calm = true) (hg : ∀ C s0 H0 fp, PG (cxLc X scope N C s0 H0 fp) tg g) (ht : ∀ C s0 H0 fp, PTs (cxLc X scope N C s0 H0 fp) ifs tt) (he : ∀ C s0 H0 fp, PE (cxLc X scope N C s0 H0 fp) elt te)
    {pins : List (Addr × Obj)} {σ : St} {H2 : Hp} {s2 : Shared} {it : Addr} {fp : List Addr} {tn : Nat → Heap → Prop} {J : It} {fin : List V → Hp → Prop} {E : Value → Shared → Prop} {RR : Value → Addr → Result → Shared → Prop}
    (I2 : Inv X pins σ H2 s2) (T : Turn X.prog X.w X.K tg J fp it tn) (st : tn 0 s2.heap) (f2 : ∀ b ∈ fp, FpOk X pins H2 b) (hW : LcW J g tt te (emb ix σ) fin H2)
    (hRR : ∀ D C s' m ys H', s'.heap.Ns C m → s'.os = s2.os → D ≠ C → FpOk X pins (upd H' D (.lst ys)) C → (∀ h', Heap.SameBut C s'.heap h' → Inv X pins σ (upd H' D (.lst ys)) { s' with heap := h' }) → H' D = none → fin ys H' → RR (.ref D) C (.ok .next) s') :
    wpAny (model X.prog X.w) X.A (newList []) (fun acc s3 => wpAny (model X.prog X.w) X.A (newFunctionEnv scope X.env.globals (clOf X.env scope.names []) [] X.env.qual none .none (some X.env)) (fun cenv s4 =>
      codeAny (model X.prog X.w) X.A (.compStart (.ListComp elt [⟨tg, iter, ifs, 0⟩] scope pos) 0 (.ref it) acc { cenv with scope := relabel scope X.env }) (RR acc cenv.locals) s4) E s3) E s2 := by
  obtain ⟨W, ⟨m0, w0⟩, turn⟩ := hW
  have hb2 : ∀ b ∈ fp, b < s2.heap.objs.size := fun b hb => by
    obtain ⟨o, e, _⟩ := T.obj _ _ st b hb
    exact Heap.lt_size e
  refine wpAny_newObj_type (wpAny_newFunctionEnv L.nocell (by intro y hy; simp at hy) (fun h1 hns hsb => ?_) L.kind)
  dsimp only at hns hsb ⊢
  generalize hG : s2.heap.push { cls := .type "list", dict := none, data := .seq ([] : List Value).toArray } = G at hns hsb ⊢
  have hGs : G.objs.size = s2.heap.objs.size + 1 := by rw [← hG, Heap.size_push]
  generalize hDe : s2.heap.objs.size = D at hGs hb2
  generalize hCe : G.objs.size = C at hGs hns hsb ⊢
  have hDC : D ≠ C := by omega
  have nq : ∀ b : Nat, b < s2.heap.objs.size → b ≠ C ∧ b ≠ D := fun b h => ⟨by omega, by omega⟩
  have nq2 : ∀ b ∈ fp, b ≠ C ∧ b ≠ D := fun b hb => nq b (by rw [hDe]; exact hb2 b hb)
  have kG : ∀ b o, s2.heap.get? b = some o → G.get? b = some o := fun b o e => by rw [← hG]; exact Heap.get?_push_of_some _ e
  have kp : ∀ b o, s2.heap.get? b = some o → h1.get? b = some o := fun b o e => hsb.extBut b o (nq b (Heap.lt_size e)).1 (Heap.get?_push_of_some _ (kG b o e))
  have oD : ∃ n, h1.get? D = some { cls := .type "list", data := .seq ([] : List Value).toArray n } := ⟨_, hsb.extBut _ _ hDC (Heap.get?_push_of_some _ (by rw [← hG, ← hDe]; exact Heap.get?_push_size _ rfl))⟩
  have I4 := lc_in L (tk := s2.toks + ([] : List (Str × Value)).length) I2 (C := C) (by omega) f2 (by rw [hDe]; exact hb2) kp hns
  have st4 : tn 0 h1 := T.keep _ _ _ st fun b _ o e => kp b o e
  have hDf : D ∉ (cxLc X scope N C s2 H2 fp).fs := fun z => by
    have z' : D ∈ frs X.stack := z
    rcases List.mem_cons.mp (I2.stkSub D z') with q | q
    · exact (nq _ I2.lt).2 q.symm
    · exact I2.nofs (a := D) (by omega) q
  have cellD : ∀ x c, (cxLc X scope N C s2 H2 fp).env.cells.lookup x = some c → c ≠ D := fun x c e z => by
    obtain ⟨v, o, ho, _⟩ := I2.cell x c (clOf_look e)
    exact (nq c (Heap.lt_size ho)).2 z
  have stat : ∀ {H' : Hp} {pl : List (Addr × Obj)}, (∀ b ∈ fp, H' b = none) → (∀ p ∈ pl, p.1 = D) → ∀ b ∈ fp, FpOk (cxLc X scope N C s2 H2 fp) pl H' b := fun {H' pl} hn hp b hb => by
    have hlt := hb2 b hb
    refine ⟨hn b hb, (nq2 b hb).1, fun z => ?_, .inl hb, fun x c e => (f2 b hb).2.2.2.2.1 x c (clOf_look e), fun p hq z => ?_⟩
    · exact (List.mem_cons.mp (I2.stkSub b z)).elim (f2 b hb).2.1 (f2 b hb).2.2.1
    · have hq' : p ∈ pl := by simpa [cxLc] using hq
      exact (nq2 b hb).2 (z.symm.trans (hp p hq'))
  have pinD : ∀ {pl : List (Addr × Obj)} {σ' : St} {H' : Hp} {s' : Shared} {o : Obj}, Inv (cxLc X scope N C s2 H2 fp) pl σ' H' s' → s'.heap.get? D = some o → H' D = none → (∀ v, o.data ≠ .cell v) → Inv (cxLc X scope N C s2 H2 fp) [(D, o)] σ' H' s' :=
    fun {pl σ' H' s' o} I' ho hn hd => I'.pins_of fun p hp => by
      have e : p = (D, o) := by simpa using hp
      subst e
      exact ⟨ho, hn, hDC, hDf, hd⟩
  have loop : ∀ s4 : Shared, s4 = { s2 with heap := h1, toks := s2.toks + ([] : List (Str × Value)).length } →
      codeAny (model X.prog X.w) X.A (.compLoop (.ListComp elt [⟨tg, iter, ifs, 0⟩] scope pos) 0 (.ref it) (.ref D) (cxLc X scope N C s2 H2 fp).env) (RR (.ref D) C) s4 := by
    rintro s4 rfl
    refine lc_loop (fun n s' => ∃ i σ' H' ys its k, Inv (cxLc X scope N C s2 H2 fp) [(D, { cls := .type "list", data := .seq its.toArray k })] σ' H' s' ∧ tn i s'.heap ∧ (∀ b ∈ fp, H' b = none) ∧ Vals ys its ∧ W i n ys σ' H') ?_ m0 ?_
    · rintro n s' ⟨i, σ', H', ys, its, k, I', st', fr', rv, w'⟩
      have hD' := I'.pin _ (List.mem_append_right _ List.mem_cons_self)
      rcases turn i n ys σ' H' w' with ⟨stop, hz, qf⟩ | ⟨go, hz, Nx, hN, step⟩
      · refine thn (T.done (cxLc X scope N C s2 H2 fp) rfl rfl rfl hc i _ s' σ' H' _ I' (stat fr' (by simp)) st' stop) fun r s5 ⟨hr, I5⟩ => ?_
        subst hr
        have hD5 := I5.pin _ (List.mem_append_right _ List.mem_cons_self)
        obtain ⟨m5, hn5, _⟩ := I5.loc
        refine hRR D C s5 m5 ys H' hn5 I5.os hDC (I2.fpOk (by omega) (by rw [upd_ne (Ne.symm hDC)]; exact I5.free)) (fun h' hs' => ?_) hD5.2.1 qf
        exact lc_fin I2 f2 I5 (by omega) (by omega) hDC hD5.2.1 hD5.1 rv hz fun b o hb e => hs'.extBut b o hb e
      · refine thn (T.item (cxLc X scope N C s2 H2 fp) rfl rfl rfl hc i _ s' σ' H' _ I' (stat fr' (by simp)) st' go) fun r s5 ⟨u, hr, h5⟩ => ?_
        subst hr
        refine thn h5 fun _ s6 ⟨x, H6, I6, r6, y6, st6, fr6⟩ => ?_
        have I6' := I6.pinned (stat fr6 (by simp)) (T.obj _ _ st6)
        refine thn (hg C s2 H2 fp _ s6 σ' H6 x u _ I6' r6 (step x H6 y6)) fun _ s7 ⟨σ7, H7, I7, q7⟩ => ?_
        refine thn (ht C s2 H2 fp _ s7 σ7 H7 _ I7 q7) fun ok s8 ⟨H8, I8, q8⟩ => ?_
        have back : ∀ {H9 : Hp} {s9 : Shared}, Inv (cxLc X scope N C s2 H2 fp) ([(D, { cls := .type "list", data := .seq its.toArray k })] ++ pinsAt fp s6.heap) σ7 H9 s9 → tn (i + 1) s9.heap ∧ ∀ b ∈ fp, H9 b = none := fun {H9 s9} I9 => by
          refine ⟨T.keep _ _ _ st6 fun b hb o e => (I9.pin (b, o) (List.mem_append_right _ (List.mem_append_right _ (mem_pinsAt hb e)))).1, fun b hb => ?_⟩
          obtain ⟨o, e, d⟩ := T.obj _ _ st6 b hb
          exact (I9.pin (b, o) (List.mem_append_right _ (List.mem_append_right _ (mem_pinsAt hb e)))).2.1
        cases ok with
        | false =>
          rw [if_neg Bool.false_ne_true] at q8 ⊢
          obtain ⟨m', hm, w8⟩ := hN _ _ _ q8
          obtain ⟨st8, fr8⟩ := back I8
          exact ⟨m', hm, i + 1, σ7, H8, ys, its, k, I8.unpinned, st8, fr8, rv, w8⟩
        | true =>
          rw [if_pos rfl] at q8 ⊢
          refine thn (he C s2 H2 fp _ s8 σ7 H8 _ I8 q8) fun y s9 ⟨v, H9, I9, r9, q9⟩ => ?_
          have hD9 := I9.pin _ (List.mem_append_right _ (List.mem_append_left _ List.mem_cons_self))
          obtain ⟨st9, fr9⟩ := back I9
          refine wpAny_list_append_plain (hsz := by have := rv.length; rw [List.size_toArray]; omega) ⟨k, hD9.1⟩ fun h' hl' hs' => ?_
          obtain ⟨m', hm, w9⟩ := hN _ _ _ q9
          obtain ⟨k', ho'⟩ := hl'
          have I10 : Inv (cxLc X scope N C s2 H2 fp) [] σ7 H9 { s9 with heap := h' } := (I9.pins_of (pins' := []) fun p hp => absurd hp (by simp)).turned (t' := s9.toks) (it := D) (fun b o hb e => hs'.extBut b o hb e) hD9.2.1 hDC (.inr (by show s2.heap.objs.size ≤ D; omega)) cellD (fun p hp => absurd hp (by simp [cxLc]))
          refine ⟨m', hm, i + 1, σ7, H9, ys ++ [v], its ++ [y], k', pinD I10 (by rw [ho']; simp) hD9.2.1 (fun v z => by cases z), ?_, fr9, rv.append (.cons r9 .nil), w9⟩
          exact T.keep _ _ _ st9 fun b hb o e => hs'.extBut b o (nq2 b hb).2 e
    · obtain ⟨n, e⟩ := oD
      exact ⟨0, emb ix σ, H2, [], [], n, pinD I4 e (I2.hok.fresh (by omega)) (fun v z => by cases z), st4, fun b hb => (f2 b hb).1, .nil, w0⟩
  have q := loop _ rfl
  exact codeAny_compStart_list q (T.self _ 0 _ _ _ st4 q)
end
end L2

set_option Elab.async false
set_option linter.all false
set_option maxRecDepth 100000
namespace L2
open PySem PySem.Spec PyProof.Rows

theorem strsAre_of {ss : List Str} : ∀ {us : List Value}, Vals (ss.map V.str) us → StrsAre us ss := by
  induction ss with
  | nil => intro us r; rw [List.map_nil] at r; cases r; exact .nil
  | cons n ns ih =>
    intro us r
    rw [List.map_cons] at r
    cases r with
    | cons r1 r2 =>
      obtain ⟨t, e⟩ := r1
      subst e
      exact .cons n t (ih r2)
theorem vals_strs : ∀ {vs : List Value} {ss : List Str}, StrsAre vs ss → Vals (ss.map V.str) vs
  | _, _, .nil => .nil
  | _, _, .cons n t h => .cons ⟨t, rfl⟩ (vals_strs h)

section
variable {X : Cx}
/-! ### comprehensions as values and as what a name is given -/
variable {scope : Scope} {N : List Str} {ix : List (Option Nat)} {tg iter elt : Expr} {ifs : List Expr} {pos : Pos} {g : TG} {tt : TT} {te : TE} {wi : TI}
theorem pe_lc (L : LcOk X scope N ix) (hc : X.calm = true) (hi : PI X tg iter wi) (hg : ∀ C s0 H0 fp, PG (cxLc X scope N C s0 H0 fp) tg g) (ht : ∀ C s0 H0 fp, PTs (cxLc X scope N C s0 H0 fp) ifs tt) (he : ∀ C s0 H0 fp, PE (cxLc X scope N C s0 H0 fp) elt te)
    (hs : ∀ x, foldedSetIterable iter X.env x = pure x := by intro _; rfl) : PE X (.ListComp elt [⟨tg, iter, ifs, 0⟩] scope pos) (tLc wi g tt te ix) := by
  intro pins s σ H Q I h
  rw [eval_ListComp]
  refine wpAny_comprehension_free (use := none) rfl hs (L.clos I.ok) L.kind L.locals (thn (hi pins s σ H _ I h) fun v s1 h1 => thn h1 fun itv s2 h2 => ?_)
  obtain ⟨it, fp, tn, J, H2, rfl, I2, T, st2, f2, hW⟩ := h2
  refine lc_run (RR := fun acc C => compPost (model X.prog X.w) X.A X.xe none (EP X pins σ Q) acc C) L hc hg ht he I2 T st2 f2 hW ?_
  intro D C s' m ys H' hn ho hDC hC hI hD fin
  exact ⟨m, hn, fun h' hs' => ⟨.ref D, _, hI h' hs', rfl, fin D hD⟩⟩
/-- name = [..] -/
noncomputable def tSetLc (i : Nat) (wi : TI) (g : TG) (tt : TT) (te : TE) (ix : List (Option Nat)) : TS := fun D σ H => wi σ H fun J H1 => LcW J g tt te (emb ix σ) (fun ys H' => ∀ p, H' p = none → D.nx (σ.set i (some (.ref p))) (upd H' p (.lst ys))) H1
theorem ps_setLc {i : Nat} {y : Str} {py spos : Pos} (hN : X.N.Nodup) (hi' : X.N[i]? = some y) (hx : Loc X.env.scope y) (L : LcOk X scope N ix) (hc : X.calm = true) (hi : PI X tg iter wi) (hg : ∀ C s0 H0 fp, PG (cxLc X scope N C s0 H0 fp) tg g)
    (ht : ∀ C s0 H0 fp, PTs (cxLc X scope N C s0 H0 fp) ifs tt) (he : ∀ C s0 H0 fp, PE (cxLc X scope N C s0 H0 fp) elt te)
    (hsw : swapsWith (.ListComp elt [⟨tg, iter, ifs, 0⟩] scope pos) (some (.Name y py)) spos.line X.env = pure true := by rfl) (hs : ∀ x, foldedSetIterable iter X.env x = pure x := by intro _; rfl)
    (hf : X.fn y = true ∨ X.env.scope.names.lookup y = some .local := by first | exact .inl rfl | exact .inr rfl | assumption) :
    PS X (.Assign [.Name y py] (.ListComp elt [⟨tg, iter, ifs, 0⟩] scope pos) spos) (tSetLc i wi g tt te ix) := by
  intro pins s σ H D I h
  rw [exec_Assign_Name_used _ _ _ _ hsw]
  refine wpAny_bind (wpAny_standAt (wpAny_bind ?_))
  show wpAny _ X.A (do let _ ← comprehension (.ListComp elt [⟨tg, iter, ifs, 0⟩] scope pos) scope X.env _ (newList []) false (eval iter X.env) (some (assign (.Name y py) X.env))) _ _ s
  refine wpAny_bind (thn (wpAny_comprehension_free (use := some (assign (.Name y py) X.env)) (Q := fun _ s' => SP X pins D .next s') rfl hs (L.clos I.ok) L.kind L.locals
    (thn (hi pins s σ H _ I h) fun v s1 h1 => thn h1 fun itv s2 h2 => ?_)) fun _ s' hq => wpAny_pure (wpAny_pure hq))
  obtain ⟨it, fp, tn, J, H2, rfl, I2, T, st2, f2, hW⟩ := h2
  refine lc_run (RR := fun acc C => compPost (model X.prog X.w) X.A X.xe (some (assign (.Name y py) X.env)) (fun _ s' => SP X pins D .next s') acc C) L hc hg ht he I2 T st2 f2 hW ?_
  intro Da C s' m ys H' hn ho hDC hC hI hD fin
  have I' := hI s'.heap (Heap.SameBut.refl _ _)
  show wpAny _ X.A (assign (.Name y py) X.env (.ref Da)) _ _ s'
  refine wpAny_assign_Name (store_ok2 (v := .ref Da) I' hN hi' hx rfl (fun s'' I'' ch => ?_) hf)
  obtain ⟨a, hsa, hwa⟩ := ch
  obtain ⟨c1, c2, c3, c4, c5, c6⟩ := hC
  have hCa : C ≠ a := by
    rcases hwa with z | z
    · rw [z]; exact c2
    · exact fun w => c5 y a z w.symm
  refine ⟨m, hn.sameBut hsa hCa, fun h' hs' => ⟨_, _, I''.turned (t' := s''.toks) (it := C) (fun b o hb e => hs'.extBut b o hb e) c1 c2 c4 c5 c6, fin Da hD⟩⟩
end
end L2

set_option Elab.async false
set_option linter.all false
set_option maxRecDepth 100000
namespace L2
open PySem PySem.Spec PyProof.Rows

/-! ### data that is read: nested tuples and lists over the abstract heap -/
mutual
inductive DV (H : Hp) : V → PyData → Prop
  | non : DV H .non .none
  | bl (b : Bool) : DV H (.bl b) (.bool b)
  | int (i : Int) : DV H (.int i) (.int i)
  | str (x : Str) : DV H (.str x) (.str x)
  | tup {a : Addr} {xs : List V} {ds : List PyData} : H a = some (.tup xs) → DVs H xs ds → DV H (.ref a) (.tuple ds)
  | lst {a : Addr} {xs : List V} {ds : List PyData} : H a = some (.lst xs) → DVs H xs ds → DV H (.ref a) (.list ds)
inductive DVs (H : Hp) : List V → List PyData → Prop
  | nil : DVs H [] []
  | cons {x : V} {d : PyData} {xs : List V} {ds : List PyData} : DV H x d → DVs H xs ds → DVs H (x :: xs) (d :: ds)
end
section
variable {P : Program} {w : World} {H : Hp} {h : Heap}
mutual
theorem DV.reads (ok : HOk P w H h) : ∀ {x : V} {d : PyData} {u : Value}, DV H x d → RelV x u → ∃ as, Reads h u d as
  | _, _, u, .non, r => by cases (show u = Value.none from r); exact ⟨_, Reads.none⟩
  | _, _, u, .bl b, r => by cases (show u = Value.bool b from r); exact ⟨_, Reads.bool b⟩
  | _, _, u, .int i, r => by obtain ⟨t, e⟩ := (show ∃ t, u = Value.int i t from r); cases e; exact ⟨_, Reads.int i t⟩
  | _, _, u, .str x, r => by obtain ⟨t, e⟩ := (show ∃ t, u = Value.str x t from r); cases e; exact ⟨_, Reads.str x t⟩
  | _, _, u, .tup (a := a) (xs := xs) e q, r => by
    cases (show u = Value.ref a from r)
    obtain ⟨_, its, rv, o, ho, hc, n, hd⟩ := (show ObjOk P w H h a (.tup xs) from ok a _ e)
    obtain ⟨as, z⟩ := DVs.reads ok q rv
    exact ⟨as, Reads.tuple ho hc hd (by simpa using z)⟩
  | _, _, u, .lst (a := a) (xs := xs) e q, r => by
    cases (show u = Value.ref a from r)
    obtain ⟨_, its, n, rv, ho⟩ := (show ObjOk P w H h a (.lst xs) from ok a _ e)
    obtain ⟨as, z⟩ := DVs.reads ok q rv
    exact ⟨_, Reads.list ho rfl rfl (by simpa using z)⟩
theorem DVs.reads (ok : HOk P w H h) : ∀ {xs : List V} {ds : List PyData} {us : List Value}, DVs H xs ds → Vals xs us → ∃ as, ReadsAll h us ds as
  | _, _, _, .nil, .nil => ⟨_, ReadsAll.nil⟩
  | _, _, _, .cons a b, .cons r rs => by
    obtain ⟨as, p⟩ := DV.reads ok a r
    obtain ⟨bs, q⟩ := DVs.reads ok b rs
    exact ⟨_, ReadsAll.cons p q⟩
end
end
theorem DVs.strs {H : Hp} : ∀ ss : List Str, DVs H (ss.map V.str) (ss.map PyData.str)
  | [] => .nil
  | x :: r => .cons (.str x) (DVs.strs r)

section
variable {X : Cx}
open SeqAt in
theorem op_eqD {k : Nat} (hr : Room k X.A) : OpR X (compareOp .Eq) (fun x y H Q => ∃ d e, DV H x d ∧ DV H y e ∧ shaped d = true ∧ shaped e = true ∧ Q (.bl (PyData.eqv d e)) H) := by
  intro pins s σ H x y v u Q I rx ry h
  obtain ⟨d, e, dx, dy, sd, se, q⟩ := h
  obtain ⟨as, r1⟩ := dx.reads I.hok rx
  obtain ⟨bs, r2⟩ := dy.reads I.hok ry
  exact eq_dataH r1 r2 sd se hr.units ⟨.bl (PyData.eqv d e), H, I, rfl, q⟩
open SeqAt in
theorem op_neD {k : Nat} (hr : Room k X.A) : OpR X (compareOp .NotEq) (fun x y H Q => ∃ d e, DV H x d ∧ DV H y e ∧ shaped d = true ∧ shaped e = true ∧ Q (.bl (!PyData.eqv d e)) H) := by
  intro pins s σ H x y v u Q I rx ry h
  obtain ⟨d, e, dx, dy, sd, se, q⟩ := h
  obtain ⟨as, r1⟩ := dx.reads I.hok rx
  obtain ⟨bs, r2⟩ := dy.reads I.hok ry
  exact ne_dataH r1 r2 sd se hr.units ⟨.bl (!PyData.eqv d e), H, I, rfl, q⟩
theorem range_all' (bs : List Bool) : ((List.range bs.length).all fun i => (bs[i]?).getD true) = bs.all id := by
  rw [Bool.eq_iff_iff, List.all_eq_true, List.all_eq_true]
  constructor
  · intro h b hb
    obtain ⟨i, hi, e⟩ := List.mem_iff_getElem.mp hb
    have := h i (List.mem_range.mpr hi)
    rw [List.getElem?_eq_getElem hi, e] at this
    simpa using this
  · intro h i hi
    have hi := List.mem_range.mp hi
    rw [List.getElem?_eq_getElem hi]
    simpa using h _ (List.getElem_mem hi)
/-- all of a list of bools -/
theorem call_allB (hc : X.calm = true) : CallR X (.builtin "all") (fun xs H Q => ∃ (p : Addr) (bs : List Bool), xs = [.ref p] ∧ SqL X.K H p (bs.map V.bl) ∧ Q (.bl (bs.all id)) H) := by
  intro pins s σ H xs us Q I r h
  obtain ⟨p, bs, rfl, hq, q⟩ := h
  obtain ⟨u, rfl, rx⟩ := vals1 r
  cases rx
  obtain ⟨its, r', pl, hz⟩ := I.list hq
  have hlt : p < s.heap.objs.size := by obtain ⟨o, n, e, _⟩ := pl; exact Heap.lt_size e
  have hlen := r'.length
  rw [List.length_map] at hlen
  refine call_all_walk (wpAny_pyIter_list pl.isList ?_)
  refine ⟨s.heap.objs.size, [s.heap.objs.size, p], [s.heap.objs.size], its.toArray.size, _, _, fun i => (bs[i]?).getD true, rfl, Walks.list (A := X.A.in1) (I.ok.hd hc) _ p (Nat.ne_of_lt hlt) its.toArray,
    ⟨⟨_, Heap.get?_push_size _ rfl, rfl, rfl⟩, pl.isList.push _⟩, fun i v s' Q' E' hP hQ => ?_, fun h' tk hk => ?_⟩
  · have hP' : its[i]? = some v := by simpa using hP
    have hb : ∃ b, bs[i]? = some b ∧ v = Value.bool b := by
      have hi : i < bs.length := by rw [hlen]; exact (List.getElem?_eq_some_iff.mp hP').1
      have e1 : (bs.map V.bl)[i]? = some (V.bl bs[i]) := by rw [List.getElem?_map, List.getElem?_eq_getElem hi]; rfl
      obtain ⟨w', e2, rw'⟩ := r'.get e1
      rw [hP'] at e2
      cases e2
      exact ⟨bs[i], List.getElem?_eq_getElem hi, rw'⟩
    obtain ⟨b, e, rfl⟩ := hb
    simp only [e, Option.getD_some] at hQ
    exact wpAny_truthy_bool hQ
  · have e : ((List.range its.toArray.size).all fun i => (bs[i]?).getD true) = bs.all id := by
      rw [List.size_toArray, ← hlen]; exact range_all' bs
    rw [e]
    refine ⟨.bl (bs.all id), H, I.kept (t' := tk) fun b x e => hk b x (fun hm => ?_) (Heap.get?_push_of_some _ e), rfl, q⟩
    rw [List.mem_singleton.mp hm] at e
    exact Nat.lt_irrefl _ (Heap.lt_size e)

theorem call_isinst {T : String} : CallR X (.builtin "isinstance") (fun xs H Q => ∃ x t b, xs = [x, .ty T] ∧ TyOf X.K H x t ∧ PySem.W.kitOne X.K t (.type T) = some b ∧ Q (.bl b) H) := by
  intro pins s σ H xs us Q I r h
  obtain ⟨x, t, b, rfl, ty, e, q⟩ := h
  obtain ⟨u, w', rfl, rx, ry⟩ := vals2 r
  cases (show w' = Value.type T from ry)
  exact isinst_ok I rx ty e fun tk => ⟨.bl b, H, I.tok tk, rfl, q⟩

/-! ### texts -/
theorem op_le_str : OpR X (compareOp .LtE) (fun x y H Q => ∃ i j, x = .str i ∧ y = .str j ∧ Q (.bl (!decide (j.cps.toList < i.cps.toList))) H) := by
  intro pins s σ H x y v u Q I rx ry h
  obtain ⟨i, j, rfl, rfl, q⟩ := h
  obtain ⟨t, rfl⟩ := rx
  obtain ⟨t', rfl⟩ := ry
  exact PySem.P.le_str ⟨.bl (!decide (j.cps.toList < i.cps.toList)), H, I, rfl, q⟩
theorem mt_join : MtR X "str.join" (fun x xs H Q => ∃ (z : Str) (p : Addr) (ss : List Str), x = .str z ∧ xs = [.ref p] ∧ SqL X.K H p (ss.map V.str) ∧ (ss.map (·.length)).sum + ss.length * z.length ≤ 16777216 ∧ Q (.str (Txt.join z ss)) H) := by
  intro pins s σ H x xs v us Q I rx rs h
  obtain ⟨z, p, ss, rfl, rfl, hq, hz, q⟩ := h
  obtain ⟨t, rfl⟩ := rx
  obtain ⟨u, rfl, ru⟩ := vals1 rs
  cases ru
  obtain ⟨its, r', pl, _⟩ := I.list hq
  exact join_list pl.isList (strsAre_of r') hz fun t' k => ⟨.str (Txt.join z ss), H, I.tok k, ⟨_, rfl⟩, q⟩

/-- sorted of a list of texts -/
theorem call_sortedS : CallR X (.builtin "sorted") (fun xs H Q => ∃ (p : Addr) (ss : List Str), xs = [.ref p] ∧ SqL X.K H p (ss.map V.str) ∧ ss.length < 64 ∧ ∀ (ss' : List Str) (q : Addr), ss'.Perm ss → sortedS ss' = true → H q = none → Q (.ref q) (upd H q (.lst (ss'.map V.str)))) := by
  intro pins s σ H xs us Q I r h
  obtain ⟨p, ss, rfl, hq, h64, q⟩ := h
  obtain ⟨u, rfl, rx⟩ := vals1 r
  cases rx
  obtain ⟨its, r', pl, hz⟩ := I.list hq
  have hlen := r'.length
  rw [List.length_map] at hlen
  refine sorted_strs pl.isList (strsAre_of r') (by omega) fun out ss' a1 a2 a3 => ?_
  obtain ⟨e, he⟩ := sortedAll_at s.heap its out
  have hv : Vals (ss'.map V.str) out.toList := vals_strs a1
  have hfr : H (s.heap.objs.size + 1) = none := I.hok.fresh (Nat.le_succ _)
  refine ⟨.ref (s.heap.objs.size + 1), _, I.laid (t' := s.toks) (o := .lst (ss'.map V.str)) (fun b o z => sortedAll_old z) (Nat.le_succ _) ⟨?_, out.toList, e, hv, ?_⟩, rfl, q ss' _ a2 a3 hfr⟩
  · rw [List.length_map, a2.length_eq, sizeLine_eq]; omega
  · simpa [seqObj] using he
end
end L2

set_option Elab.async false
set_option linter.all false
set_option maxHeartbeats 4000000
namespace L2
open PySem PySem.W PyProof.Rows

/-! ### the sort's tree of questions, over a strict total order of the places -/
noncomputable abbrev gp (p : Array Nat) (i : Nat) : Nat := p.getD i 0
structure Ord (N : Nat) (lt : Nat → Nat → Bool) : Prop where
  tr : ∀ i j k, lt i j = true → lt j k = true → lt i k = true
  irr : ∀ i, lt i i = false
  tot : ∀ i j, i < N → j < N → i ≠ j → lt i j = true ∨ lt j i = true
noncomputable def Pm (N : Nat) (p : Array Nat) : Prop := p.Perm (List.toArray (List.range N))
theorem Pm.size {N : Nat} {p : Array Nat} (h : Pm N p) : p.size = N := by
  have := Array.Perm.size_eq h
  simpa using this
theorem gp_eq {p : Array Nat} {i : Nat} (h : i < p.size) : gp p i = p[i] := by simp [gp, Array.getD, h]
theorem gp_congr {p q : Array Nat} {i j : Nat} (h : p[i]? = q[j]?) : gp p i = gp q j := by simp [gp, Array.getD_eq_getD_getElem?, h]
theorem Pm.lt {N : Nat} {p : Array Nat} (h : Pm N p) {i : Nat} (hi : i < N) : gp p i < N := by
  have hs : i < p.size := by rw [h.size]; exact hi
  rw [gp_eq hs]
  have hm : p[i] ∈ (List.toArray (List.range N)) := h.mem_iff.mp (Array.getElem_mem hs)
  simpa using hm
theorem Pm.nd {N : Nat} {p : Array Nat} (h : Pm N p) : p.toList.Nodup := by
  have hp : p.toList.Perm (List.range N) := by simpa using Array.perm_iff_toList_perm.mp h
  exact hp.nodup_iff.mpr List.nodup_range
theorem Pm.inj {N : Nat} {p : Array Nat} (h : Pm N p) {i j : Nat} (hi : i < N) (hj : j < N) (hij : i ≠ j) : gp p i ≠ gp p j := by
  have hsi : i < p.size := by rw [h.size]; exact hi
  have hsj : j < p.size := by rw [h.size]; exact hj
  rw [gp_eq hsi, gp_eq hsj]
  intro e
  have nd := h.nd
  rcases Nat.lt_or_gt_of_ne hij with z | z
  · exact List.pairwise_iff_getElem.mp nd i j (by simpa using hsi) (by simpa using hsj) z (by simpa using e)
  · exact List.pairwise_iff_getElem.mp nd j i (by simpa using hsj) (by simpa using hsi) z (by simpa using e.symm)

section
variable {N : Nat} {lt : Nat → Nat → Bool} {cmp : Nat → Nat → (Bool → Shared → Prop) → Shared → Prop} {s : Shared}
noncomputable def Asc (lt : Nat → Nat → Bool) (p : Array Nat) (b : Nat) : Prop := ∀ i j, i < j → j < b → lt (gp p i) (gp p j) = true
noncomputable def Dsc (lt : Nat → Nat → Bool) (p : Array Nat) (b : Nat) : Prop := ∀ i j, i < j → j < b → lt (gp p j) (gp p i) = true
theorem Asc.more (O : Ord N lt) {p : Array Nat} {n : Nat} (h : Asc lt p n) (h1 : 1 ≤ n) (e : lt (gp p (n - 1)) (gp p n) = true) : Asc lt p (n + 1) := fun i j hij hj => by
  by_cases q : j < n
  · exact h i j hij q
  · have : j = n := by omega
    subst this
    by_cases z : i = j - 1
    · rw [z]; exact e
    · exact O.tr _ _ _ (h i (j - 1) (by omega) (by omega)) e
theorem Dsc.more (O : Ord N lt) {p : Array Nat} {n : Nat} (h : Dsc lt p n) (h1 : 1 ≤ n) (e : lt (gp p n) (gp p (n - 1)) = true) : Dsc lt p (n + 1) := fun i j hij hj => by
  by_cases q : j < n
  · exact h i j hij q
  · have : j = n := by omega
    subst this
    by_cases z : i = j - 1
    · rw [z]; exact e
    · exact O.tr _ _ _ e (h i (j - 1) (by omega) (by omega))
theorem Ord.other (O : Ord N lt) {p : Array Nat} (hp : Pm N p) {i j : Nat} (hi : i < N) (hj : j < N) (hij : i ≠ j) (e : lt (gp p i) (gp p j) ≠ true) : lt (gp p j) (gp p i) = true :=
  (O.tot _ _ (hp.lt hi) (hp.lt hj) (hp.inj hi hj hij)).resolve_left e

variable (O : Ord N lt) (hc : ∀ (i j : Nat) (C : Bool → Shared → Prop), i < N → j < N → i ≠ j → C (lt i j) s → cmp i j C s)
include O hc
theorem asc_ok {p : Array Nat} (hp : Pm N p) {Q : Nat → Shared → Prop} : ∀ (f n : Nat), 1 ≤ n → n + f ≤ N → Asc lt p n → (∀ m, n ≤ m → m ≤ n + f → Asc lt p m → (m = n + f ∨ lt (gp p m) (gp p (m - 1)) = true) → Q m s) → (kas_asc p f n).kasWp cmp Q s
  | 0, n, h1, hn, ha, k => k n (Nat.le_refl _) (Nat.le_refl _) ha (.inl rfl)
  | f + 1, n, h1, hn, ha, k => by
    unfold kas_asc
    refine hc _ _ _ (hp.lt (by omega)) (hp.lt (by omega)) (hp.inj (by omega) (by omega) (by omega)) ?_
    by_cases e : lt (gp p n) (gp p (n - 1)) = true
    · show KasT.kasWp cmp (if lt (gp p n) (gp p (n - 1)) = true then _ else _) Q s
      rw [if_pos e]
      exact k n (Nat.le_refl _) (by omega) ha (.inr e)
    · show KasT.kasWp cmp (if lt (gp p n) (gp p (n - 1)) = true then _ else _) Q s
      rw [if_neg e]
      exact asc_ok hp f (n + 1) (by omega) (by omega) (ha.more O h1 (O.other hp (by omega) (by omega) (by omega) e)) fun m a b c d => k m (by omega) (by omega) c (d.imp (fun z => by omega) id)
theorem desc_ok {p : Array Nat} (hp : Pm N p) {Q : Array Nat × Nat × Nat → Shared → Prop} : ∀ (f n : Nat), 1 ≤ n → n + f ≤ N → Dsc lt p n → (∀ m, n ≤ m → m ≤ n + f → Dsc lt p m → Q (p, m, 0) s) → (kas_desc f p n 0).kasWp cmp Q s
  | 0, n, h1, hn, ha, k => k n (Nat.le_refl _) (Nat.le_refl _) ha
  | f + 1, n, h1, hn, ha, k => by
    unfold kas_desc
    refine hc _ _ _ (hp.lt (by omega)) (hp.lt (by omega)) (hp.inj (by omega) (by omega) (by omega)) ?_
    by_cases e : lt (gp p n) (gp p (n - 1)) = true
    · show KasT.kasWp cmp (if lt (gp p n) (gp p (n - 1)) = true then _ else _) Q s
      rw [if_pos e, if_neg (by omega)]
      exact desc_ok hp f (n + 1) (by omega) (by omega) (ha.more O h1 e) fun m a b c => k m (by omega) (by omega) c
    · show KasT.kasWp cmp (if lt (gp p n) (gp p (n - 1)) = true then _ else _) Q s
      rw [if_neg e]
      refine hc _ _ _ (hp.lt (by omega)) (hp.lt (by omega)) (hp.inj (by omega) (by omega) (by omega)) ?_
      have e2 := O.other hp (show n < N by omega) (show n - 1 < N by omega) (by omega) e
      show KasT.kasWp cmp (if lt (gp p (n - 1)) (gp p n) = true then _ else _) Q s
      rw [if_pos e2]
      exact k n (Nat.le_refl _) (by omega) ha
theorem rev_ok {p : Array Nat} (hp : Pm N p) {m : Nat} (hm : m ≤ N) (h : Dsc lt p m) : Pm N (kas_rev p 0 m) ∧ Asc lt (kas_rev p 0 m) m := by
  have hz : m ≤ p.size := by rw [hp.size]; exact hm
  refine ⟨(mirror_perm p 0 m _).trans hp, fun i j hij hj => ?_⟩
  have g : ∀ k, k < m → gp (kas_rev p 0 m) k = gp p (0 + m - 1 - k) := fun k hk => gp_congr (by
    unfold kas_rev
    rw [getElem?_mirror_all hz, if_pos ⟨Nat.zero_le _, hk⟩])
  rw [g i (by omega), g j hj]
  exact h _ _ (by omega) (by omega)
theorem count_ok {p : Array Nat} (hp : Pm N p) (h2 : 2 ≤ N) {Q : Nat × Array Nat → Shared → Prop} (h0 : ∀ m q, 1 ≤ m → m ≤ N → Pm N q → Asc lt q m → Q (m, q) s) : (kas_count N p).kasWp cmp Q s := by
  unfold kas_count
  rw [KasT.kasWp_bind]
  refine asc_ok O hc hp (N - 1) 1 (Nat.le_refl _) (by omega) (fun i j a b => by omega) fun m a b c d => ?_
  by_cases e : (m == N) = true
  · rw [if_pos e]
    exact h0 m p a (by omega) hp c
  · rw [if_neg e]
    have hm : m ≠ N := fun z => e (beq_iff_eq.mpr z)
    by_cases e1 : m > 1
    · rw [if_pos e1]
      refine hc _ _ _ (hp.lt (by omega)) (hp.lt (by omega)) (hp.inj (by omega) (by omega) (by omega)) ?_
      show KasT.kasWp cmp (if lt (gp p 0) (gp p (m - 1)) = true then _ else _) Q s
      rw [if_pos (c 0 (m - 1) (by omega) (by omega))]
      exact h0 m p a (by omega) hp c
    · rw [if_neg e1]
      have : m = 1 := by omega
      subst this
      have e2 : lt (gp p 1) (gp p (1 - 1)) = true := d.resolve_left (by omega)
      unfold kas_descPart
      rw [KasT.kasWp_bind]
      refine desc_ok O hc hp (N - (1 + 1)) (1 + 1) (by omega) (by omega) (fun i j x y => by
        have : i = 0 := by omega
        have : j = 1 := by omega
        subst i j
        exact e2) fun m' a' b' c' => ?_
      show KasT.kasWp cmp (if (0 : Nat) > 0 then _ else _) Q s
      rw [if_neg (by omega)]
      show KasT.kasWp cmp (kas_tail3 m' N p) Q s
      unfold kas_tail3
      rw [KasT.kasWp_bind]
      obtain ⟨r1, r2⟩ := rev_ok O hc hp (show m' ≤ N by omega) c'
      exact asc_ok O hc r1 (N - m') m' (by omega) (by omega) r2 fun m'' x y z w => h0 m'' _ (by omega) (by omega) r1 z
theorem place_ok {p : Array Nat} (hp : Pm N p) {k : Nat} (hk : k < N) (ha : Asc lt p k) {Q : Nat → Shared → Prop} : ∀ (f l r : Nat), l ≤ r → r ≤ k → r - l ≤ f → (∀ i, i < l → lt (gp p i) (gp p k) = true) → (∀ i, r ≤ i → i < k → lt (gp p k) (gp p i) = true) →
    (∀ l, l ≤ k → (∀ i, i < l → lt (gp p i) (gp p k) = true) → (∀ i, l ≤ i → i < k → lt (gp p k) (gp p i) = true) → Q l s) → (kas_place p k f l r).kasWp cmp Q s
  | 0, l, r, h1, h2, h3, hl, hr, q => by
    have : l = r := by omega
    subst this
    exact q l h2 hl hr
  | f + 1, l, r, h1, h2, h3, hl, hr, q => by
    unfold kas_place
    by_cases e : l ≥ r
    · rw [if_pos e]
      have : l = r := by omega
      subst this
      exact q l h2 hl hr
    · rw [if_neg e]
      refine hc _ _ _ (hp.lt hk) (hp.lt (by omega)) (hp.inj hk (by omega) (by omega)) ?_
      by_cases c : lt (gp p k) (gp p ((l + r) / 2)) = true
      · show KasT.kasWp cmp (if lt (gp p k) (gp p ((l + r) / 2)) = true then _ else _) Q s
        rw [if_pos c]
        refine place_ok hp hk ha f l ((l + r) / 2) (by omega) (by omega) (by omega) hl (fun i a b => ?_) q
        by_cases z : i = (l + r) / 2
        · rw [z]; exact c
        · exact O.tr _ _ _ c (ha _ _ (by omega) b)
      · show KasT.kasWp cmp (if lt (gp p k) (gp p ((l + r) / 2)) = true then _ else _) Q s
        rw [if_neg c]
        have c' := O.other hp hk (show (l + r) / 2 < N by omega) (by omega) c
        refine place_ok hp hk ha f ((l + r) / 2 + 1) r (by omega) h2 (by omega) (fun i a => ?_) hr q
        by_cases z : i = (l + r) / 2
        · rw [z]; exact c'
        · exact O.tr _ _ _ (ha i ((l + r) / 2) (by omega) (by omega)) c'
theorem bin_ok {Q : Array Nat → Shared → Prop} (h0 : ∀ q, Pm N q → Asc lt q N → Q q s) : ∀ (f : Nat) (p : Array Nat) (k : Nat), k + f = N → Pm N p → Asc lt p k → (kas_bin f p k).kasWp cmp Q s
  | 0, p, k, hk, hp, ha => h0 p hp (by rw [← hk]; exact ha)
  | f + 1, p, k, hk, hp, ha => by
    unfold kas_bin
    rw [KasT.kasWp_bind]
    refine place_ok O hc hp (show k < N by omega) ha k 0 k (by omega) (Nat.le_refl _) (by omega) (fun i z => by omega) (fun i a b => by omega) fun l hl h1 h2 => ?_
    refine bin_ok h0 f _ (k + 1) (by omega) ((bubble_perm p k _).trans hp) fun i j hij hj => ?_
    have hs : k < p.size := by rw [hp.size]; omega
    have g : ∀ i, gp (bubble p k (k - l)) i = if i = l then gp p k else if l < i ∧ i ≤ k then gp p (i - 1) else gp p i := fun i => by
      have e := getElem?_bubble hs (k - l) (by omega) i
      have e1 : k - (k - l) = l := by omega
      rw [e1] at e
      by_cases z1 : i = l
      · rw [if_pos z1] at e ⊢; exact gp_congr e
      · rw [if_neg z1] at e ⊢
        by_cases z2 : l < i ∧ i ≤ k
        · rw [if_pos z2] at e ⊢; exact gp_congr e
        · rw [if_neg z2] at e ⊢; exact gp_congr e
    rw [g i, g j]
    by_cases a1 : i = l
    · rw [if_pos a1, if_neg (by omega), if_pos (by omega)]
      exact h2 _ (by omega) (by omega)
    · rw [if_neg a1]
      by_cases a2 : l < i ∧ i ≤ k
      · rw [if_pos a2, if_neg (by omega), if_pos (by omega)]
        exact ha _ _ (by omega) (by omega)
      · rw [if_neg a2]
        by_cases b1 : j = l
        · rw [if_pos b1]; exact h1 i (by omega)
        · rw [if_neg b1]
          by_cases b2 : l < j ∧ j ≤ k
          · rw [if_pos b2]
            exact ha _ _ (by omega) (by omega)
          · rw [if_neg b2]
            exact ha _ _ hij (by omega)
theorem sort_ok (h2 : 2 ≤ N) {Q : Array Nat → Shared → Prop} (h0 : ∀ q, Pm N q → Asc lt q N → Q q s) : (kas_sort N).kasWp cmp Q s := by
  unfold kas_sort
  rw [KasT.kasWp_bind]
  refine count_ok O hc (Array.Perm.refl _) h2 fun m q a b hp ha => ?_
  show KasT.kasWp cmp (if m < N then _ else _) Q s
  by_cases e : m < N
  · rw [if_pos e]
    have em : max m 1 = m := by omega
    show KasT.kasWp cmp (kas_bin (N - max m 1) q (max m 1)) Q s
    rw [em]
    exact bin_ok O hc h0 (N - m) q m (by omega) hp ha
  · rw [if_neg e]
    have : m = N := by omega
    subst this
    exact h0 q hp ha
end
end L2

set_option Elab.async false
set_option linter.all false
set_option maxRecDepth 100000
set_option maxHeartbeats 4000000
namespace L2
open PySem PySem.Spec PyProof.Rows PySem.W PySem.Calls

section
variable {prog : Program} {w : World} {A : Around} {E : Value → Shared → Prop} {s : Shared}
/-- what a sort of values asks: the kind of its keys, and each question answered by lt, nothing changed -/
noncomputable def Asked (prog : Program) (w : World) (A : Around) (vs : List Value) (lt : Nat → Nat → Bool) (s : Shared) : Prop :=
  ∃ κ : SortKind, (∀ Q : SortKind → Shared → Prop, Q κ s → wpAny (model prog w) A (keyKind' vs.toArray) Q (fun _ _ => False) s) ∧
    ∀ (i j : Nat) (C : Bool → Shared → Prop), i < vs.length → j < vs.length → i ≠ j → C (lt i j) s → kas_ask prog w A κ vs i j C s
noncomputable def outOf (vs : List Value) (p : Array Nat) : List Value := p.toList.map fun i => vs.getD i Value.none
theorem rsort_tree {lt : Nat → Nat → Bool} {a : Addr} {vs : List Value} {n : Nat} {P : PySem.Fin → Shared → Prop} (ho : s.heap.get? a = some (seqObj "list" vs.toArray n)) (h64 : vs.length < 64) (O : Ord vs.length lt)
    (hk : 2 ≤ vs.length → ∀ s' : Shared, (∀ b o, b ≠ a → s.heap.get? b = some o → s'.heap.get? b = some o) → Asked prog w A vs lt s')
    (h : ∀ p, Pm vs.length p → Asc lt p vs.length → P (.done (.ret .none)) { s with heap := sortedHeap s.heap a vs (outOf vs p).toArray }) :
    wpAny (model prog w) A (Builtin.«list.sort» ⟨[.ref a], []⟩) P E s := by
  rw [list_sort_plain]
  have hlt : a < s.heap.objs.size := Heap.lt_size ho
  have hfit : vs.length ≤ sizeLine := by rw [sizeLine_eq]; omega
  refine wpAny_bind (listItems_at ho rfl (wpAny_bind (listUpdate_at ho rfl ?_ (by rw [List.size_toArray]; exact hfit) (Nat.zero_le _))))
  obtain ⟨e1, ho1⟩ : ∃ e1, (s.heap.update a (Obj.mapSeq fun _ => (#[] : Array Value))).get? a = some (seqObj "list" #[] e1) := ⟨_, get?_update_seq ho fun _ => #[]⟩
  refine wpAny_bind (seqEpoch_at ho1 rfl (wpAny_bind (wpAny_newTuple (wpAny_bind (wpAny_newList (wpAny_holding ?_) (Nat.zero_le _))) (by show vs.length ≤ _; exact hfit))))
  have ho2 : (((s.heap.update a (Obj.mapSeq fun _ => (#[] : Array Value))).push (seqObj "tuple" vs.toArray 0)).push (seqObj "list" #[] 0)).get? a = some (seqObj "list" #[] e1) := Heap.get?_push_of_some _ (Heap.get?_push_of_some _ ho1)
  show wpAny (model prog w) A _ P E { s with heap := ((s.heap.update a (Obj.mapSeq fun _ => (#[] : Array Value))).push (seqObj "tuple" vs.toArray 0)).push (seqObj "list" #[] 0) }
  dsimp only
  by_cases h2 : vs.toArray.size < 2
  · rw [if_pos h2, if_pos h2]
    refine wpAny_bind (wpAny_pure ?_)
    rw [StateT.run_pure]
    refine wpAny_bind (wpAny_pure ?_)
    dsimp only
    have hz : ((vs.toArray.zip vs.toArray).map (·.2)) = (outOf vs (List.toArray (List.range vs.length))).toArray := by
      unfold outOf
      apply Array.ext
      · simp
      · intro i h1 h2
        simp only [Array.size_map, Array.size_zip, List.size_toArray, Nat.min_self] at h1
        simp [h1]
    have es : vs.toArray.size = vs.length := by simp
    refine wpAny_bind (seqEpoch_at ho2 rfl (wpAny_bind (listUpdate_at ho2 rfl ?_ (Nat.zero_le _) ?_)))
    · simp only [bne_self_eq_false, Bool.false_eq_true, if_false]
      have q := h (List.toArray (List.range vs.length)) (Array.Perm.refl _) (fun i j hij hj => by omega)
      unfold sortedHeap at q
      rw [← hz] at q
      exact wpAny_pure q
    · show ((vs.toArray.zip vs.toArray).map (·.2)).size ≤ sizeLine + 1
      simp only [Array.size_map, Array.size_zip, List.size_toArray, Nat.min_self]
      omega
  · have h2' : 2 ≤ vs.length := by rw [List.size_toArray] at h2; omega
    rw [if_neg h2, if_neg h2]
    obtain ⟨κ, kd, ask⟩ := hk h2' { s with heap := ((s.heap.update a (Obj.mapSeq fun _ => (#[] : Array Value))).push (seqObj "tuple" vs.toArray 0)).push (seqObj "list" #[] 0) } fun b o hb e =>
      Heap.get?_push_of_some _ (Heap.get?_push_of_some _ (by rw [Heap.get?_update_ne _ _ _ _ hb]; exact e))
    refine wpAny_bind (wpAny_mono (E := fun _ _ => False) (Q := fun k s' => k = κ ∧ s' = { s with heap := ((s.heap.update a (Obj.mapSeq fun _ => (#[] : Array Value))).push (seqObj "tuple" vs.toArray 0)).push (seqObj "list" #[] 0) }) (kd _ ⟨rfl, rfl⟩) ?_ fun _ _ f => f.elim)
    rintro k s' ⟨rfl, rfl⟩
    refine wpAny_bind (wpAny_mono (kat_run (ks := vs) (G := fun p s' => (Pm vs.length p ∧ Asc lt p vs.length) ∧ s' = { s with heap := ((s.heap.update a (Obj.mapSeq fun _ => (#[] : Array Value))).push (seqObj "tuple" vs.toArray 0)).push (seqObj "list" #[] 0) })
      (Q := fun st' s' => ∃ p : Array Nat, arrOf st' = p.map (kas_item (vs.toArray.zip vs.toArray)) ∧ failedOf st' = none ∧ (Pm vs.length p ∧ Asc lt p vs.length) ∧ s' = { s with heap := ((s.heap.update a (Obj.mapSeq fun _ => (#[] : Array Value))).push (seqObj "tuple" vs.toArray 0)).push (seqObj "list" #[] 0) })
      rfl h2' h64 (fun p st' s' _ a2 a3 a4 => ⟨p, a2, a3, a4⟩) (sort_ok O ask h2' fun q hq ha => ⟨⟨hq, ha⟩, rfl⟩)) ?_ fun _ _ e => e)
    rintro ⟨⟨⟩, st'⟩ s' ⟨p, har, hf, ⟨hp, ha⟩, rfl⟩
    dsimp only
    rw [kat_snds rfl har]
    have hsz : (List.toArray (p.toList.map fun i => vs.getD i Value.none)).size ≤ sizeLine + 1 := by
      rw [List.size_toArray, List.length_map, Array.length_toList, hp.size]; omega
    refine wpAny_bind (seqEpoch_at ho2 rfl (wpAny_bind (listUpdate_at ho2 rfl ?_ (Nat.zero_le _) hsz)))
    rw [hf]
    simp only [bne_self_eq_false, Bool.false_eq_true, if_false]
    exact wpAny_pure (h p hp ha)

/-- a list or a tuple, gathered -/
theorem collect_any {l : Addr} {o : Obj} {vs : List Value} {n : Nat} {T : String} {Q : List Value → Shared → Prop} (hT : T = "list" ∨ T = "tuple") (ho : s.heap.get? l = some o) (hc : o.cls = .type T) (hd : o.data = .seq vs.toArray n)
    (h : Q vs { s with heap := (s.heap.push (seqObj "list" #[] 0)).update s.heap.objs.size (Obj.mapSeq (· ++ vs.toArray)) }) (hsz : vs.length ≤ sizeLine) : wpAny (model prog w) A (collect (.ref l)) Q E s := by
  rcases hT with rfl | rfl
  · exact collect_list ⟨o, ho, hc, n, hd⟩ h hsz
  · unfold collect
    refine wpAny_bind (wpAny_runValue (codeAny_builtin entry_proto_collect' ?_))
    show wpAny _ _ (do again (.builtin "list.__iadd__" ⟨[← newList [], .ref l], []⟩)) _ _ s
    refine wpAny_bind (wpAny_newList (wpAny_pure ⟨Code.quiet_builtin _ (by decide +kernel), codeAny_builtin entry_list_iadd' ?_⟩))
    show wpAny _ _ (Builtin.List.listExtendWith (.ref s.heap.objs.size) (.ref l) (.ref s.heap.objs.size)) _ _ { s with heap := s.heap.push (seqObj "list" #[] 0) }
    unfold Builtin.List.listExtendWith
    have ho' : (s.heap.push (seqObj "list" #[] 0)).get? l = some o := Heap.get?_push_of_some _ ho
    refine wpAny_bind (wpAny_typeOf (T := "tuple") ⟨o, ho', hc⟩ ?_)
    rw [if_pos (by rw [show (Value.type "tuple" == Value.type "tuple") = true from rfl]; simp)]
    refine wpAny_bind (listItems_at ho' hd (wpAny_bind (listItems_at (xs := #[]) (n := 0) (Heap.get?_push_size _ rfl) rfl ?_)))
    rw [if_neg (by simp)]
    refine wpAny_bind (listUpdate_at (xs := #[]) (n := 0) (Heap.get?_push_size _ rfl) rfl (wpAny_pure ?_) (Nat.zero_le _) (by show (#[] ++ vs.toArray).size ≤ sizeLine + 1; simp only [Array.size_append, List.size_toArray, List.length_nil]; omega))
    show wpAny (model prog w) A (do
        let o ← load s.heap.objs.size
        match o.data with
        | .seq xs _ => pure xs.toList
        | _ => unsupported "internal:collect") Q E { s with heap := (s.heap.push (seqObj "list" #[] 0)).update s.heap.objs.size (Obj.mapSeq (· ++ vs.toArray)) }
    refine wpAny_bind (wpAny_load (get?_update_seq (Heap.get?_push_size _ rfl) _) ?_)
    show wpAny _ _ (pure ((#[] : Array Value) ++ vs.toArray).toList) Q E _
    rw [show ((#[] : Array Value) ++ vs.toArray).toList = vs by simp]
    exact wpAny_pure h

theorem rsorted {lt : Nat → Nat → Bool} {l : Addr} {o : Obj} {vs : List Value} {n : Nat} {T : String} {Q : Value → Shared → Prop} (hT : T = "list" ∨ T = "tuple") (ho : s.heap.get? l = some o) (hc : o.cls = .type T) (hd : o.data = .seq vs.toArray n) (h64 : vs.length < 64) (O : Ord vs.length lt)
    (hk : 2 ≤ vs.length → ∀ s' : Shared, (∀ b o, s.heap.get? b = some o → s'.heap.get? b = some o) → Asked prog w A.in1.in1 vs lt s')
    (h : ∀ p, Pm vs.length p → Asc lt p vs.length → Q (.ref (s.heap.objs.size + 1)) { s with heap := sortedAll s.heap vs (outOf vs p).toArray }) : wpAny (model prog w) A (call (.builtin "sorted") [.ref l]) Q E s := by
  refine Calls.call_function_entry kind_sorted plain_sorted entry_sorted (args_sorted1 _) ?_
  unfold Builtin.«sorted»
  refine wpAny_bind (m := checkCount "sorted" 1 1 _) (wpAny_pure (wpAny_bind (collect_any hT ho hc hd (wpAny_bind (wpAny_newList ?_ (by rw [sizeLine_eq]; omega))) (by rw [sizeLine_eq]; omega))))
  have hsz : ((s.heap.push (seqObj "list" #[] 0)).update s.heap.objs.size (Obj.mapSeq (· ++ vs.toArray))).objs.size = s.heap.objs.size + 1 := by rw [Heap.size_update, size_push']
  have hoL : (((s.heap.push (seqObj "list" #[] 0)).update s.heap.objs.size (Obj.mapSeq (· ++ vs.toArray))).push (seqObj "list" vs.toArray 0)).get? (s.heap.objs.size + 1) = some (seqObj "list" vs.toArray 0) := by
    rw [← hsz]
    exact Heap.get?_push_size _ rfl
  show wpAny _ _ _ _ _ { s with heap := ((s.heap.push (seqObj "list" #[] 0)).update s.heap.objs.size (Obj.mapSeq (· ++ vs.toArray))).push (seqObj "list" vs.toArray 0) }
  rw [hsz]
  have kp : ∀ b o, s.heap.get? b = some o → (((s.heap.push (seqObj "list" #[] 0)).update s.heap.objs.size (Obj.mapSeq (· ++ vs.toArray))).push (seqObj "list" vs.toArray 0)).get? b = some o := fun b ob e => by
    have hb := Heap.lt_size e
    refine Heap.get?_push_of_some _ ?_
    rw [Heap.get?_update_ne _ _ _ _ (Nat.ne_of_lt hb)]
    exact Heap.get?_push_of_some _ e
  refine wpAny_bind (wpAny_holding (wpAny_call_entry slot_list_sort ⟨_, hoL, rfl⟩ entry_list_sort (rsort_tree hoL h64 O (fun z s' hs' => hk z s' fun b ob e => hs' b ob (by have := Heap.lt_size e; exact Nat.ne_of_lt (Nat.lt_succ_of_lt this)) (kp b ob e)) fun p hp ha => ⟨_, rfl, ?_⟩) (args_list_sort _)))
  exact wpAny_pure ⟨_, rfl, h p hp ha⟩
end

/-! ### rows: tuples whose first thing is a text -/
theorem katGet {h : Heap} : ∀ {vs fs : List Value}, KatTups h vs fs → ∀ (i : Nat), i < vs.length → ∃ a o xs n f, vs.getD i Value.none = .ref a ∧ h.get? a = some o ∧ o.data = .seq xs n ∧ xs[0]? = some f ∧ fs[i]? = some f
  | [], [], _, i, hi => absurd hi (Nat.not_lt_zero _)
  | [], _ :: _, t, _, _ => t.elim
  | _ :: _, [], t, _, _ => t.elim
  | v :: vs, f :: fs, t, 0, _ => by
    obtain ⟨⟨a, o, xs, n, rfl, ho, hc, hd, hf⟩, _⟩ := t
    exact ⟨a, o, xs, n, f, rfl, ho, hd, hf, rfl⟩
  | v :: vs, f :: fs, t, i + 1, hi => by
    obtain ⟨_, t⟩ := t
    obtain ⟨a, o, xs, n, g, e1, e2, e3, e4, e5⟩ := katGet t i (by simpa using hi)
    exact ⟨a, o, xs, n, g, by simpa using e1, e2, e3, e4, by simpa using e5⟩
theorem strGet : ∀ {fs : List Value} {ss : List Str}, StrsAre fs ss → ∀ (i : Nat) (f : Value), fs[i]? = some f → ∃ t, f = .str (ss.getD i Str.empty) t ∧ i < ss.length
  | _, _, .nil, i, f, h => by simp at h
  | _, _, .cons y t r, 0, f, h => by simp at h; exact ⟨t, h.symm, by simp⟩
  | _, _, .cons y t r, i + 1, f, h => by
    obtain ⟨t', e1, e2⟩ := strGet r i f (by simpa using h)
    exact ⟨t', by simpa using e1, by simpa using e2⟩
theorem rowAsk {prog : Program} {w : World} {A : Around} {s : Shared} {vs fs : List Value} {ss : List Str} (t : KatTups s.heap vs fs) (hS : StrsAre fs ss) (hne : 0 < fs.length) (hnd : ss.Nodup) :
    Asked prog w A vs (fun i j => decide ((ss.getD i Str.empty).cps.toList < (ss.getD j Str.empty).cps.toList)) s := by
  refine ⟨tuples' (Value.type "str" != Value.type "tuple"), fun Q q => kat_kind (T := Value.type "str") t hne (fun v hv => ?_) (by decide) q, fun i j C hi hj hij q => ?_⟩
  · obtain ⟨x, u, rfl⟩ := hS.all v hv
    exact Looks.now
  · obtain ⟨a, o, xs, n, f, e1, e2, e3, e4, e5⟩ := katGet t i hi
    obtain ⟨b, o', ys, n', g, g1, g2, g3, g4, g5⟩ := katGet t j hj
    obtain ⟨tf, rfl, hil⟩ := strGet hS i f e5
    obtain ⟨tg, rfl, hjl⟩ := strGet hS j g g5
    unfold kas_ask
    rw [e1, g1]
    refine kat_lt e2 e3 g2 g3 ?_
    obtain ⟨xr, hx⟩ : ∃ xr, xs.toList = .str (ss.getD i Str.empty) tf :: xr := by
      cases hq : xs.toList with
      | nil => rw [← Array.getElem?_toList, hq] at e4; simp at e4
      | cons z zr => rw [← Array.getElem?_toList, hq] at e4; simp at e4; rw [e4]; exact ⟨zr, rfl⟩
    obtain ⟨yr, hy⟩ : ∃ yr, ys.toList = .str (ss.getD j Str.empty) tg :: yr := by
      cases hq : ys.toList with
      | nil => rw [← Array.getElem?_toList, hq] at g4; simp at g4
      | cons z zr => rw [← Array.getElem?_toList, hq] at g4; simp at g4; rw [g4]; exact ⟨zr, rfl⟩
    rw [hx, hy]
    have hnE : ss.getD i Str.empty ≠ ss.getD j Str.empty := by
      rw [List.getD_eq_getElem?_getD, List.getD_eq_getElem?_getD, List.getElem?_eq_getElem hil, List.getElem?_eq_getElem hjl]
      intro z
      have z' : ss[i] = ss[j] := z
      rcases Nat.lt_or_gt_of_ne hij with y | y
      · exact List.pairwise_iff_getElem.mp hnd i j hil hjl y z'
      · exact List.pairwise_iff_getElem.mp hnd j i hjl hil y z'.symm
    show KatLex prog w A _ _ C ((Value.str (ss.getD i Str.empty) tf, Value.str (ss.getD j Str.empty) tg) :: xr.zip yr) 0 s
    refine kat_cons (wpAny_eqBool_str ?_)
    rw [decide_eq_false hnE]
    refine kat_no ?_
    show wpAny _ A (oneLt' true _ _) C _ s
    exact strKind_oneLt prog w A _ s _ _ _ _ rfl rfl q

theorem str_tri {x y : Str} (h : x ≠ y) : x.cps.toList < y.cps.toList ∨ y.cps.toList < x.cps.toList := by
  by_cases c : x.cps.toList < y.cps.toList
  · exact .inl c
  · rcases List.le_iff_lt_or_eq.mp (List.not_lt.mp c) with z | z
    · exact .inr z
    · refine absurd ?_ h
      obtain ⟨a⟩ := x
      obtain ⟨b⟩ := y
      have e : b = a := Array.toList_inj.mp z
      rw [e]
/-- a list of rows: places and the texts that stand first in them -/
noncomputable def RowsIn (H : Hp) (rs : List (Addr × Str)) : Prop := ∀ r ∈ rs, ∃ rest, H r.1 = some (.tup (.str r.2 :: rest))
noncomputable abbrev refs (rs : List (Addr × Str)) : List V := rs.map fun r => V.ref r.1
noncomputable def nlt (x y : Str) : Prop := x.cps.toList < y.cps.toList
theorem katTups_of {P : Program} {w : World} {H : Hp} {h : Heap} (ok : HOk P w H h) : ∀ {rs : List (Addr × Str)} {us : List Value}, RowsIn H rs → Vals (refs rs) us → ∃ fs, KatTups h us fs ∧ StrsAre fs (rs.map (·.2))
  | [], us, _, r => by cases r; exact ⟨[], trivial, .nil⟩
  | x :: rs, us, hr, r => by
    cases r with
    | @cons _ u _ us' r1 r2 =>
      obtain ⟨fs, t, q⟩ := katTups_of ok (rs := rs) (fun y hy => hr y (List.mem_cons_of_mem _ hy)) r2
      obtain ⟨rest, e⟩ := hr x List.mem_cons_self
      cases (show u = Value.ref x.1 from r1)
      obtain ⟨_, its, rv, o, ho, hc, n, hd⟩ := (show ObjOk P w H h x.1 (.tup (.str x.2 :: rest)) from ok x.1 _ e)
      cases rv with
      | @cons _ f _ its' rf _ =>
        obtain ⟨tk, rfl⟩ := rf
        exact ⟨.str x.2 tk :: fs, KatTups.cons ho hc hd (by simp) t, .cons _ _ q⟩
theorem vals_pick {xs : List V} {us : List Value} (r : Vals xs us) : ∀ {ps : List Nat}, (∀ i ∈ ps, i < xs.length) → Vals (ps.map fun i => xs.getD i .non) (ps.map fun i => us.getD i Value.none)
  | [], _ => .nil
  | i :: ps, h => by
    have hi := h i List.mem_cons_self
    obtain ⟨u, e, ru⟩ := r.get (List.getElem?_eq_getElem hi)
    refine .cons ?_ (vals_pick r fun j hj => h j (List.mem_cons_of_mem _ hj))
    show RelV (xs.getD i .non) (us.getD i Value.none)
    rw [List.getD_eq_getElem?_getD, List.getD_eq_getElem?_getD, List.getElem?_eq_getElem hi, e]
    exact ru
theorem pick_perm {α : Type} (d : α) (xs : List α) {p : Array Nat} (h : Pm xs.length p) : (p.toList.map fun i => xs.getD i d).Perm xs := by
  have hp : p.toList.Perm (List.range xs.length) := by simpa using Array.perm_iff_toList_perm.mp h
  have e : (List.range xs.length).map (fun i => xs.getD i d) = xs := by
    apply List.ext_getElem
    · simp
    · intro i h1 h2
      simp [h2]
  exact (hp.map _).trans (by rw [e])
section
variable {X : Cx}
/-- sorted of a list or a tuple of rows with unlike names -/
theorem call_sortedR : CallR X (.builtin "sorted") (fun xs H Q => ∃ (p : Addr) (rs : List (Addr × Str)), xs = [.ref p] ∧ (SqL X.K H p (refs rs) ∨ SqT X.K H p (refs rs)) ∧ RowsIn H rs ∧ rs.length < 64 ∧ (rs.map (·.2)).Nodup ∧
    ∀ (rs' : List (Addr × Str)) (q : Addr), rs'.Perm rs → (rs'.map (·.2)).Pairwise nlt → H q = none → Q (.ref q) (upd H q (.lst (refs rs')))) := by
  intro pins s σ H xs us Q I r h
  obtain ⟨p, rs, rfl, hq, hR, h64, hnd, q⟩ := h
  obtain ⟨u, rfl, rx⟩ := vals1 r
  cases rx
  have core : ∀ (T : String) (o : Obj) (its : List Value) (n : Nat), (T = "list" ∨ T = "tuple") → s.heap.get? p = some o → o.cls = .type T → o.data = .seq its.toArray n → Vals (refs rs) its →
      wpAny (model X.prog X.w) X.A (call (.builtin "sorted") [.ref p]) (EP X pins σ Q) X.xe s := fun T o its n hT ho hc hd r' => by
    have hl := r'.length
    have hl' : its.length = rs.length := by rw [← hl]; simp
    have O : Ord its.length (fun i j => decide (((rs.map (·.2)).getD i Str.empty).cps.toList < ((rs.map (·.2)).getD j Str.empty).cps.toList)) := by
      refine ⟨fun i j k h1 h2 => ?_, fun i => ?_, fun i j hi hj hij => ?_⟩
      · exact decide_eq_true (List.lt_trans (of_decide_eq_true h1) (of_decide_eq_true h2))
      · exact decide_eq_false (List.lt_irrefl _)
      · have hil : i < (rs.map (·.2)).length := by simpa [← hl'] using hi
        have hjl : j < (rs.map (·.2)).length := by simpa [← hl'] using hj
        rw [List.getD_eq_getElem?_getD, List.getD_eq_getElem?_getD, List.getElem?_eq_getElem hil, List.getElem?_eq_getElem hjl]
        have ne : (rs.map (·.2))[i] ≠ (rs.map (·.2))[j] := by
          rcases Nat.lt_or_gt_of_ne hij with y | y
          · exact List.pairwise_iff_getElem.mp hnd i j hil hjl y
          · exact fun z => List.pairwise_iff_getElem.mp hnd j i hjl hil y z.symm
        exact (str_tri ne).imp decide_eq_true decide_eq_true
    refine rsorted hT ho hc hd (by omega) O (fun h2 s' hs' => ?_) fun pm hp ha => ?_
    · obtain ⟨fs, t, hS⟩ := katTups_of (I.hok.kept hs') hR r'
      have hfl : 0 < fs.length := by
        have := hS.length
        simp at this
        omega
      exact rowAsk t hS hfl hnd
    · obtain ⟨e, he⟩ := sortedAll_at s.heap its (outOf its pm).toArray
      have hpm : Pm rs.length pm := by rw [← hl']; exact hp
      have hlt : ∀ i ∈ pm.toList, i < rs.length := fun i hi => by
        have : i ∈ (List.toArray (List.range rs.length)) := hpm.mem_iff.mp (by simpa using hi)
        simpa using this
      have hv : Vals ((pm.toList.map fun i => (refs rs).getD i .non)) (outOf its pm) := vals_pick r' fun i hi => by simpa using hlt i hi
      have he2 : (pm.toList.map fun i => (refs rs).getD i .non) = refs (pm.toList.map fun i => rs.getD i (0, Str.empty)) := by
        unfold refs
        rw [List.map_map]
        exact List.map_congr_left fun i hi => by simp [hlt i hi]
      rw [he2] at hv
      have hfr : H (s.heap.objs.size + 1) = none := I.hok.fresh (Nat.le_succ _)
      have hpe := pick_perm (0, Str.empty) rs hpm
      refine ⟨.ref (s.heap.objs.size + 1), _, I.laid (t' := s.toks) (o := .lst (refs (pm.toList.map fun i => rs.getD i (0, Str.empty)))) (fun b o z => sortedAll_old z) (Nat.le_succ _) ⟨?_, outOf its pm, e, hv, ?_⟩, rfl, q _ _ hpe ?_ hfr⟩
      · unfold refs
        rw [List.length_map, hpe.length_eq, sizeLine_eq]; omega
      · simpa [seqObj] using he
      · rw [List.map_map, List.pairwise_map]
        refine List.pairwise_iff_getElem.mpr fun i j hi hj hij => ?_
        have hps := hp.size
        have hi' : i < pm.size := by simpa using hi
        have hj' : j < pm.size := by simpa using hj
        have z := of_decide_eq_true (ha i j hij (by omega))
        rw [gp_eq hi', gp_eq hj'] at z
        show ((rs.getD pm.toList[i] (0, Str.empty)).2).cps.toList < ((rs.getD pm.toList[j] (0, Str.empty)).2).cps.toList
        have b1 := hlt pm.toList[i] (List.getElem_mem _)
        have b2 := hlt pm.toList[j] (List.getElem_mem _)
        simp only [Array.getElem_toList] at b1 b2 ⊢
        simpa [b1, b2] using z
  rcases hq with hq | hq
  · obtain ⟨its, r', pl, hz⟩ := I.list hq
    obtain ⟨o, ho, hc, n, hd⟩ := pl.isList
    exact core "list" o its n (.inl rfl) ho hc hd r'
  · obtain ⟨its, r', pl, hz⟩ := I.tuple hq
    obtain ⟨o, ho, hc, n, hd⟩ := pl
    exact core "tuple" o its n (.inr rfl) ho hc hd r'
end
end L2

set_option Elab.async false
set_option linter.all false
set_option maxRecDepth 100000
set_option maxHeartbeats 4000000
namespace L2
open PySem PySem.Spec PyProof.Rows

/-! ### the signs of a plain text -/
noncomputable def Its (x : Str) : It := ⟨fun i _ => i < x.length, fun i H v H' => H' = H ∧ ∃ c, x.cps[i]? = some c ∧ v = .str ⟨#[c]⟩, fun i _ => x.length ≤ i⟩
theorem turn_str {P : Program} {w : World} {K : PySem.W.Frag} {tg : Expr} (x : Str) (t : Tok) (it : Addr) : Turn P w K tg (Its x) [it] it (fun i h => h.IsStrIter it "str_ascii_iterator" x t i) where
  mem := by simp
  obj := fun i h st b hb => by
    have e : b = it := by simpa using hb
    subst e
    obtain ⟨o, e, c, d⟩ := st
    exact ⟨o, e, fun v z => by rw [d] at z; cases z⟩
  keep := fun i h h' st k => by
    obtain ⟨o, e, r⟩ := st
    exact ⟨o, k it (by simp) o e, r⟩
  item := by
    intro X hP hw hK hc i pins s σ H E I hf st hg
    subst hP hw hK
    have hg' : i < x.cps.size := hg
    obtain ⟨f0, f1, f2, f3, f4, f5⟩ := hf it (by simp)
    refine wpAny_pyNext_ascii_item st (Array.getElem?_eq_getElem hg') fun h' st' sb => ?_
    have I1 : Inv X pins σ H { s with heap := h', toks := s.toks + 1 } := I.turned (fun b o hb e => (sb.2 b hb).trans e) f0 f1 f3 f4 f5
    obtain ⟨o, e, c, d⟩ := id st'
    exact ⟨_, rfl, go_of (s := { s with heap := h', toks := s.toks + 1 }) e c d (by decide) ⟨.str ⟨#[x.cps[i]]⟩, H, I1, ⟨_, rfl⟩, ⟨rfl, _, Array.getElem?_eq_getElem hg', rfl⟩, st', fun b hb => (hf b hb).1⟩⟩
  done := by
    intro X hP hw hK hc i pins s σ H E I hf st hg
    subst hP hw hK
    have hg' : x.cps.size ≤ i := hg
    obtain ⟨f0, f1, f2, f3, f4, f5⟩ := hf it (by simp)
    exact wpAny_pyNext_ascii_end (I.ok.hd hc) st (Array.getElem?_eq_none hg') fun h' eb => ⟨rfl, I.turned (t' := s.toks) (fun b o hb e => eb b o hb e) f0 f1 f3 f4 f5⟩
  self := fun A i s Q E st h => wpAny_pyIter_striter_ascii st h
section
variable {X : Cx} {tg : Expr}
noncomputable def iStr (tl : TE) : TI := fun σ H R => tl σ H fun v H1 => ∃ x : Str, v = .str x ∧ x.cps.all (· < 128) = true ∧ R (Its x) H1
theorem pi_str {l : Expr} {tl : TE} (hl : PE X l tl) : PI X tg l (iStr tl) := by
  intro pins s σ H R I h
  refine thn (hl pins s σ H _ I h) fun v s1 ⟨x, H1, I1, r1, q1⟩ => ?_
  obtain ⟨y, rfl, ha, q⟩ := q1
  obtain ⟨t, rfl⟩ := r1
  refine wpAny_pyIter_ascii ha ?_
  refine ⟨s1.heap.objs.size, [s1.heap.objs.size], _, _, H1, rfl, I1.kept (t' := s1.toks) fun b o e => Heap.get?_push_of_some _ e, turn_str y t _, ⟨_, Heap.get?_push_size _ rfl, rfl, rfl⟩, fun b hb => ?_, q⟩
  have e : b = s1.heap.objs.size := by simpa using hb
  subst e
  exact I1.fpOk (Nat.le_refl _) (I1.hok.fresh (Nat.le_refl _))

/-! ### slices -/
theorem sl_str : SlR X (fun x lo hi H Q => ∃ z, x = .str z ∧ z.length ≤ sizeLine ∧ Q (.str (Txt.slice z lo hi)) H) := by
  intro pins s σ H x v vl vu lo hi sl Q I rx hs pl pu h
  obtain ⟨z, rfl, hz, q⟩ := h
  obtain ⟨t, rfl⟩ := rx
  have fin : ∀ (t' : Tok) (k : Nat), EP X pins σ Q (.str (Txt.slice z lo hi) t') { s with toks := k } := fun t' k => ⟨.str (Txt.slice z lo hi), H, I.tok k, ⟨_, rfl⟩, q⟩
  refine ⟨"str", _, F.slot_str_getitem.lookup, typeIs_str _ _ _, ?_⟩
  obtain ⟨o, ho, hc, hd⟩ := hs
  cases pl with
  | none =>
    cases pu with
    | none => exact wpAny_getItem_str_slice (l := none) (u := none) (st := none) ⟨o, ho, hc, hd⟩ rfl (post_val_or_str ⟨Nat.le_trans (Txt.slice_le z _ _) hz, fun t' k => fin t' k⟩)
    | int j uj => exact wpAny_getItem_str_slice (l := none) (u := some (j, uj)) (st := none) ⟨o, ho, hc, hd⟩ rfl (post_val_or_str ⟨Nat.le_trans (Txt.slice_le z _ _) hz, fun t' k => fin t' k⟩)
  | int i ui =>
    cases pu with
    | none => exact wpAny_getItem_str_slice (l := some (i, ui)) (u := none) (st := none) ⟨o, ho, hc, hd⟩ rfl (post_val_or_str ⟨Nat.le_trans (Txt.slice_le z _ _) hz, fun t' k => fin t' k⟩)
    | int j uj => exact wpAny_getItem_str_slice (l := some (i, ui)) (u := some (j, uj)) (st := none) ⟨o, ho, hc, hd⟩ rfl (post_val_or_str ⟨Nat.le_trans (Txt.slice_le z _ _) hz, fun t' k => fin t' k⟩)

/-- the whole of a tuple is the tuple -/
theorem tup_whole {prog : Program} {w : World} {A : Around} {E : Value → Shared → Prop} {s : Shared} {t sl : Addr} {items : Array Value} {vl vu : Value} {lo hi : Option Int} {Q : Value → Shared → Prop} (ht : IsTup s.heap t items) (hs : s.heap.IsSliceOf sl vl vu .none) (pl : IsPart vl lo) (pu : IsPart vu hi)
    (h0 : HT.sIx items.size 0 lo = 0) (h1 : HT.sIx items.size items.size hi = items.size) (h : Q (.ref t) s) : wpAny (model prog w) A (getItem (.ref t) (.ref sl)) Q E s := by
  obtain ⟨os, hos, hcs, hds⟩ := id hs
  have hTs : s.TypeIs (.ref sl) "slice" := ⟨os, hos, hcs⟩
  unfold getItem
  try with_reducible refine wpAny_holding ?_
  first | refine wpAny_bind (wpAny_pure ?_) | skip
  refine wpAny_bind (wpAny_sequenceKey ht.typeIs (by decide) (wpAny_bind (wpAny_callSpecial?_slot (name := Str.ofString "__getitem__") ht.typeIs PyProof.Rows.slot_tuple_getitem
    (wpAny_call_entry PyProof.Rows.slot_tuple_getitem ht.typeIs entry_tuple_getitem ?_ (args_tuple_getitem _ _)))))
  show wpAny _ _ (Builtin.Tuple.tupleItemsOf (.ref t) >>= _) _ _ s
  refine wpAny_bind (tupleItemsOf_ ht (wpAny_bind (wpAny_typeOf hTs ?_)))
  rw [if_pos (by decide)]
  refine wpAny_bind (HT.sliceApplied_gen hs pl pu ?_)
  show wpAny _ _ (if (((HT.sIx items.size 0 lo : Nat) : Int) == 0 && (1 : Int) == 1 && (HT.sIx items.size items.size hi - HT.sIx items.size 0 lo) == items.size) = true then _ else _) _ _ s
  rw [h0, h1, if_pos (by simp)]
  refine wpAny_bind (wpAny_bind (wpAny_typeOf ht.typeIs (wpAny_pure ?_)))
  rw [if_pos (by rfl)]
  exact wpAny_bind (wpAny_rule (wpAny_pure ⟨_, rfl, wpAny_pure h⟩))
/-- t[lo:hi] of any tuple -/
noncomputable def rSlA (K : PySem.W.Frag) : V → Option Int → Option Int → Hp → VK → Prop := fun x lo hi H Q => ∃ a xs, x = .ref a ∧ SqT K H a xs ∧
  (cutV xs lo hi = xs → Q (.ref a) H) ∧ ∀ p, H p = none → Q (.ref p) (upd H p (.tup (cutV xs lo hi)))
theorem sl_tupA : SlR X (rSlA X.K) := by
  intro pins s σ H x v vl vu lo hi sl Q I rx hs pl pu h
  obtain ⟨a, xs, rfl, hx, q1, q2⟩ := h
  by_cases hw : HT.sIx xs.length 0 lo = 0 ∧ HT.sIx xs.length xs.length hi = xs.length
  · cases rx
    obtain ⟨its, r, ht, hz⟩ := I.tuple hx
    have hlen : its.toArray.size = xs.length := by rw [List.size_toArray]; exact r.length.symm
    refine ⟨"tuple", _, PyProof.Rows.slot_tuple_getitem.lookup, ht.typeIs, tup_whole ht hs pl pu (by rw [hlen]; exact hw.1) (by rw [hlen]; exact hw.2) ⟨.ref a, H, I, rfl, q1 ?_⟩⟩
    unfold cutV
    rw [hw.1, hw.2]
    simp
  · exact sl_tup pins s σ H (.ref a) v vl vu lo hi sl Q I rx hs pl pu ⟨a, xs, rfl, hx, hw, q2⟩

/-- t + u of any tuples -/
noncomputable def rCatA (K : PySem.W.Frag) : R2 := fun x y H Q => ∃ a b xs ys, x = .ref a ∧ y = .ref b ∧ SqT K H a xs ∧ SqT K H b ys ∧ xs.length + ys.length ≤ sizeLine ∧
  (xs = [] → Q (.ref b) H) ∧ (ys = [] → Q (.ref a) H) ∧ ∀ p, H p = none → Q (.ref p) (upd H p (.tup (xs ++ ys)))
theorem op_catA : OpR X (binaryOp .Add) (rCatA X.K) := by
  intro pins s σ H x y v u Q I rx ry h
  obtain ⟨a, b, xs, ys, rfl, rfl, ha, hb, hz, q0, q1, q2⟩ := h
  by_cases hx : xs = []
  · subst hx
    cases rx
    cases ry
    obtain ⟨its, r1, p1, _⟩ := I.tuple ha
    obtain ⟨its2, r2, p2, _⟩ := I.tuple hb
    cases r1
    obtain ⟨⟨cls, dd, data, sl⟩, ho, hc, n, hd⟩ := id p1
    obtain ⟨⟨cls2, dd2, data2, sl2⟩, ho2, hc2, n2, hd2⟩ := id p2
    simp only at hc hd hc2 hd2
    subst hc hd hc2 hd2
    exact concat_meets ⟨_, ho, rfl⟩ ⟨_, ho2, rfl⟩ noFill_tuple_add seq_tuple_add PySem.F.slot_tuple_add PySem.F.entry_tuple_add (PySem.F.args_tuple_add_2 _ _)
      (tuple_addW0 a b _ its2.toArray n n2 dd dd2 sl sl2 (by simp)) ⟨ho, ho2, ⟨.ref b, H, I, rfl, q0 rfl⟩⟩
  · exact op_catT pins s σ H (.ref a) (.ref b) v u Q I rx ry ⟨a, b, xs, ys, rfl, rfl, ha, hb, hx, hz, q1, fun _ => q2⟩

end
/-! ### what a comprehension's block shows, by an invariant over the turns -/
section
variable {K : PySem.W.Frag} {g : TG} {tt : TT} {te : TE} {σ' : St} {fin : List V → Hp → Prop} {H1 : Hp}
theorem lcw_gen {J : It} {n : Nat} (hn : n < sizeLine) (Pv : Nat → List V → St → Hp → Prop) (Yd : Nat → V → Prop) (h0 : Pv 0 [] σ' H1) (hl : ∀ i ys σ H, i ≤ n → Pv i ys σ H → ys.length ≤ i)
    (hgo : ∀ i ys σ H, i < n → Pv i ys σ H → J.go i H) (hst : ∀ ys σ H, Pv n ys σ H → J.stop n H) (hy : ∀ i ys σ H x H', i < n → Pv i ys σ H → J.yld i H x H' → H' = H ∧ Yd i x)
    (hs : ∀ i x ys σ H, i < n → Yd i x → Pv i ys σ H → g x σ H fun σ2 H2 => tt σ2 H2 fun b H3 => if b = true then te σ2 H3 (fun v H4 => Pv (i + 1) (ys ++ [v]) σ2 H4) else Pv (i + 1) ys σ2 H3) (hd : ∀ ys σ H, Pv n ys σ H → fin ys H) :
    LcW J g tt te σ' fin H1 := by
  refine ⟨fun i m ys σ H => m = n - i ∧ i ≤ n ∧ Pv i ys σ H, ⟨n, by simp, Nat.zero_le _, h0⟩, ?_⟩
  rintro i m ys σ H ⟨rfl, hi, p⟩
  have hly := hl i ys σ H hi p
  by_cases hlt : i < n
  · refine .inr ⟨hgo i ys σ H hlt p, by omega, fun ys' σ2 H2 => Pv (i + 1) ys' σ2 H2, fun ys' σ2 H2 q => ⟨n - (i + 1), by omega, rfl, hlt, q⟩, fun x H' y => ?_⟩
    obtain ⟨e, yd⟩ := hy i ys σ H x H' hlt p y
    subst e
    exact hs i x ys σ H' hlt yd p
  · have e : i = n := by omega
    subst e
    exact .inl ⟨hst ys σ H p, by omega, hd ys σ H p⟩
theorem lcw_tup {a : Addr} {xs : List V} (hn : xs.length < sizeLine) (Pv : Nat → List V → St → Hp → Prop) (h0 : Pv 0 [] σ' H1) (hl : ∀ i ys σ H, i ≤ xs.length → Pv i ys σ H → ys.length ≤ i ∧ SqT K H a xs)
    (hs : ∀ i x ys σ H, xs[i]? = some x → Pv i ys σ H → g x σ H fun σ2 H2 => tt σ2 H2 fun b H3 => if b = true then te σ2 H3 (fun v H4 => Pv (i + 1) (ys ++ [v]) σ2 H4) else Pv (i + 1) ys σ2 H3) (hd : ∀ ys σ H, Pv xs.length ys σ H → fin ys H) :
    LcW (Itt K a) g tt te σ' fin H1 :=
  lcw_gen hn Pv (fun i x => xs[i]? = some x) h0 (fun i ys σ H hi p => (hl i ys σ H hi p).1) (fun i ys σ H hi p => ⟨xs, xs[i], (hl i ys σ H (Nat.le_of_lt hi) p).2, by simp [hi]⟩) (fun ys σ H p => ⟨xs, (hl _ ys σ H (Nat.le_refl _) p).2, Nat.le_refl _⟩)
    (fun i ys σ H x H' hi p y => ⟨y.1, y.2 xs (hl i ys σ H (Nat.le_of_lt hi) p).2⟩) (fun i x ys σ H _ yd p => hs i x ys σ H yd p) hd
theorem lcw_list {a : Addr} {xs : List V} (hn : xs.length < sizeLine) (Pv : Nat → List V → St → Hp → Prop) (h0 : Pv 0 [] σ' H1) (hl : ∀ i ys σ H, i ≤ xs.length → Pv i ys σ H → ys.length ≤ i ∧ SqL K H a xs)
    (hs : ∀ i x ys σ H, xs[i]? = some x → Pv i ys σ H → g x σ H fun σ2 H2 => tt σ2 H2 fun b H3 => if b = true then te σ2 H3 (fun v H4 => Pv (i + 1) (ys ++ [v]) σ2 H4) else Pv (i + 1) ys σ2 H3) (hd : ∀ ys σ H, Pv xs.length ys σ H → fin ys H) :
    LcW (Itl K a) g tt te σ' fin H1 :=
  lcw_gen hn Pv (fun i x => xs[i]? = some x) h0 (fun i ys σ H hi p => (hl i ys σ H hi p).1) (fun i ys σ H hi p => ⟨xs, xs[i], (hl i ys σ H (Nat.le_of_lt hi) p).2, by simp [hi]⟩) (fun ys σ H p => ⟨xs, (hl _ ys σ H (Nat.le_refl _) p).2, Nat.le_refl _⟩)
    (fun i ys σ H x H' hi p y => ⟨y.1, y.2 xs (hl i ys σ H (Nat.le_of_lt hi) p).2⟩) (fun i x ys σ H _ yd p => hs i x ys σ H yd p) hd
theorem lcw_range {lo : Int} {n : Nat} (hn : n < sizeLine) (Pv : Nat → List V → St → Hp → Prop) (h0 : Pv 0 [] σ' H1) (hl : ∀ i ys σ H, i ≤ n → Pv i ys σ H → ys.length ≤ i)
    (hs : ∀ i ys σ H, i < n → Pv i ys σ H → g (.int (lo + i)) σ H fun σ2 H2 => tt σ2 H2 fun b H3 => if b = true then te σ2 H3 (fun v H4 => Pv (i + 1) (ys ++ [v]) σ2 H4) else Pv (i + 1) ys σ2 H3) (hd : ∀ ys σ H, Pv n ys σ H → fin ys H) :
    LcW (Itr lo n) g tt te σ' fin H1 :=
  lcw_gen hn Pv (fun i x => x = .int (lo + i)) h0 hl (fun i ys σ H hi p => hi) (fun ys σ H p => Nat.le_refl _) (fun i ys σ H x H' hi p y => y) (fun i x ys σ H hi yd p => by subst yd; exact hs i ys σ H hi p) hd
theorem lcw_str {x : Str} (hn : x.length < sizeLine) (Pv : Nat → List V → St → Hp → Prop) (h0 : Pv 0 [] σ' H1) (hl : ∀ i ys σ H, i ≤ x.length → Pv i ys σ H → ys.length ≤ i)
    (hs : ∀ i c ys σ H, x.cps[i]? = some c → Pv i ys σ H → g (.str ⟨#[c]⟩) σ H fun σ2 H2 => tt σ2 H2 fun b H3 => if b = true then te σ2 H3 (fun v H4 => Pv (i + 1) (ys ++ [v]) σ2 H4) else Pv (i + 1) ys σ2 H3) (hd : ∀ ys σ H, Pv x.length ys σ H → fin ys H) :
    LcW (Its x) g tt te σ' fin H1 :=
  lcw_gen hn Pv (fun i v => ∃ c, x.cps[i]? = some c ∧ v = .str ⟨#[c]⟩) h0 hl (fun i ys σ H hi p => hi) (fun ys σ H p => Nat.le_refl _) (fun i ys σ H v H' hi p y => y) (fun i v ys σ H hi yd p => by obtain ⟨c, e, rfl⟩ := yd; exact hs i c ys σ H e p) hd
end
end L2

set_option Elab.async false
set_option linter.all false
set_option maxRecDepth 100000
set_option maxHeartbeats 4000000
namespace L2
open PySem PySem.Spec PyProof.Rows
section
variable {K : PySem.W.Frag} {tt : TT} {te : TE} {σ' : St} {fin : List V → Hp → Prop} {H1 : Hp} {j : Nat}
theorem lcw_tup0 {a : Addr} {xs : List V} (hn : xs.length < sizeLine) (Pv : Nat → List V → St → Hp → Prop) (h0 : Pv 0 [] σ' H1) (hl : ∀ i ys σ H, i ≤ xs.length → Pv i ys σ H → ys.length ≤ i ∧ SqT K H a xs)
    (hs : ∀ i x ys σ H, xs[i]? = some x → Pv i ys σ H → te (σ.set j (some x)) H fun v H4 => Pv (i + 1) (ys ++ [v]) (σ.set j (some x)) H4) (hd : ∀ ys σ H, Pv xs.length ys σ H → fin ys H) : LcW (Itt K a) (gName j) tYes te σ' fin H1 :=
  lcw_tup hn Pv h0 hl (fun i x ys σ H hx p => by unfold gName tYes; exact iteT (hs i x ys σ H hx p)) hd
theorem lcw_range0 {lo : Int} {n : Nat} (hn : n < sizeLine) (Pv : Nat → List V → St → Hp → Prop) (h0 : Pv 0 [] σ' H1) (hl : ∀ i ys σ H, i ≤ n → Pv i ys σ H → ys.length ≤ i)
    (hs : ∀ i ys σ H, i < n → Pv i ys σ H → te (σ.set j (some (.int (lo + i)))) H fun v H4 => Pv (i + 1) (ys ++ [v]) (σ.set j (some (.int (lo + i)))) H4) (hd : ∀ ys σ H, Pv n ys σ H → fin ys H) : LcW (Itr lo n) (gName j) tYes te σ' fin H1 :=
  lcw_range hn Pv h0 hl (fun i ys σ H hx p => by unfold gName tYes; exact iteT (hs i ys σ H hx p)) hd
theorem lcw_str0 {x : Str} (hn : x.length < sizeLine) (Pv : Nat → List V → St → Hp → Prop) (h0 : Pv 0 [] σ' H1) (hl : ∀ i ys σ H, i ≤ x.length → Pv i ys σ H → ys.length ≤ i)
    (hs : ∀ i c ys σ H, x.cps[i]? = some c → Pv i ys σ H → te (σ.set j (some (.str ⟨#[c]⟩))) H fun v H4 => Pv (i + 1) (ys ++ [v]) (σ.set j (some (.str ⟨#[c]⟩))) H4) (hd : ∀ ys σ H, Pv x.length ys σ H → fin ys H) : LcW (Its x) (gName j) tYes te σ' fin H1 :=
  lcw_str hn Pv h0 hl (fun i c ys σ H hx p => by unfold gName tYes; exact iteT (hs i c ys σ H hx p)) hd
theorem lcw_list1 {a : Addr} {xs : List V} (hn : xs.length < sizeLine) (Pv : Nat → List V → St → Hp → Prop) (h0 : Pv 0 [] σ' H1) (hl : ∀ i ys σ H, i ≤ xs.length → Pv i ys σ H → ys.length ≤ i ∧ SqL K H a xs)
    (hs : ∀ i x ys σ H, xs[i]? = some x → Pv i ys σ H → tt (σ.set j (some x)) H fun b H3 => if b = true then te (σ.set j (some x)) H3 (fun v H4 => Pv (i + 1) (ys ++ [v]) (σ.set j (some x)) H4) else Pv (i + 1) ys (σ.set j (some x)) H3)
    (hd : ∀ ys σ H, Pv xs.length ys σ H → fin ys H) : LcW (Itl K a) (gName j) tt te σ' fin H1 := lcw_list hn Pv h0 hl hs hd
end
end L2

set_option Elab.async false
set_option linter.all false
set_option maxRecDepth 100000
set_option maxHeartbeats 4000000
namespace L2
open PySem PySem.Spec PyProof.Rows

/-! ### zip of two lists -/
section
variable {X : Cx} {pins : List (Addr × Obj)} {σ : St} {H : Hp} {s : Shared} {h' : Heap}
end
section
variable {X : Cx}
end
end L2

set_option Elab.async false
set_option linter.all false
set_option maxRecDepth 100000
set_option maxHeartbeats 4000000
namespace L2
open PySem PySem.Spec PyProof.Rows
theorem rev_pick (l : List Value) : ((List.range l.length).filterMap fun (k : Nat) => l.toArray[(((l.length : Int) - 1) + (k : Int) * -1).toNat]?) = l.reverse := by
  have e : (fun (k : Nat) => l.toArray[(((l.length : Int) - 1) + (k : Int) * -1).toNat]?) = (fun i => l.toArray[i]?) ∘ (fun k => l.length - 1 - k) := by
    funext k
    have : (((l.length : Int) - 1) + (k : Int) * -1).toNat = l.length - 1 - k := by omega
    rw [this]
    rfl
  have q := PySem.W.krv_all l.toArray
  rw [List.size_toArray] at q
  rw [e, ← List.filterMap_map, PySem.W.krv_range, List.filterMap_reverse, q]
section
variable {prog : Program} {w : World} {A : Around} {E : Value → Shared → Prop} {s : Shared}
theorem applied_rev {sl : Addr} {vk : Value} {n : Nat} {Q : Int × Int × Nat → Shared → Prop} (hs : s.heap.IsSliceOf sl .none .none vk) (pk : IsPart vk (some (-1))) (h : Q ((n : Int) - 1, -1, n) s) :
    wpAny (model prog w) A (Builtin.Slice.sliceApplied (.ref sl) (pure (n : Int))) Q E s := by
  obtain ⟨os, hos, hcs, hds⟩ := id hs
  unfold Builtin.Slice.sliceApplied Builtin.Slice.sliceFields
  refine wpAny_bind (wpAny_bind (wpAny_field hos hds (x := .none) rfl (wpAny_bind (wpAny_field hos hds (x := .none) rfl (wpAny_bind (wpAny_field hos hds (x := vk) rfl (wpAny_pure ?_)))))))
  refine wpAny_bind (HT.slicePart_ pk ?_)
  show wpAny _ _ (if ((-1 : Int) == 0) = true then _ else _) _ _ s
  rw [if_neg (by decide)]
  refine wpAny_bind (slicePart_none (wpAny_bind (slicePart_none (wpAny_bind (wpAny_pure ?_)))))
  have e1 : Builtin.Slice.sliceAdjust none none (-1) (n : Int) = ((n : Int) - 1, -1) := by
    unfold Builtin.Slice.sliceAdjust
    simp
  have e2 : Builtin.Slice.slicePlaces ((n : Int) - 1) (-1) (-1) = n := by
    unfold Builtin.Slice.slicePlaces
    rw [if_neg (by decide)]
    split
    · simp only [Int.neg_neg, Int.ediv_one]; omega
    · omega
  show wpAny _ _ (match Builtin.Slice.sliceAdjust none none (-1) (n : Int) with | (lo, hi) => pure (lo, (-1 : Int), Builtin.Slice.slicePlaces lo hi (-1))) _ _ s
  rw [e1]
  show wpAny _ _ (pure ((n : Int) - 1, (-1 : Int), Builtin.Slice.slicePlaces ((n : Int) - 1) (-1) (-1))) _ _ s
  rw [e2]
  exact wpAny_pure h
theorem tup_rev {t sl : Addr} {its : List Value} {vk : Value} {Q : Value → Shared → Prop} (ht : IsTup s.heap t its.toArray) (hs : s.heap.IsSliceOf sl .none .none vk) (pk : IsPart vk (some (-1))) (hz : its.length ≤ sizeLine)
    (h : Q (.ref s.heap.objs.size) { s with heap := s.heap.push { cls := .type "tuple", data := .seq its.reverse.toArray } }) : wpAny (model prog w) A (getItem (.ref t) (.ref sl)) Q E s := by
  obtain ⟨os, hos, hcs, hds⟩ := id hs
  have hTs : s.TypeIs (.ref sl) "slice" := ⟨os, hos, hcs⟩
  have hzz : sizeOk (.seq its.reverse.toArray) := by
    show its.reverse.toArray.size ≤ sizeLine
    rw [List.size_toArray, List.length_reverse]; exact hz
  unfold getItem
  try with_reducible refine wpAny_holding ?_
  first | refine wpAny_bind (wpAny_pure ?_) | skip
  refine wpAny_bind (wpAny_sequenceKey ht.typeIs (by decide) (wpAny_bind (wpAny_callSpecial?_slot (name := Str.ofString "__getitem__") ht.typeIs PyProof.Rows.slot_tuple_getitem
    (wpAny_call_entry PyProof.Rows.slot_tuple_getitem ht.typeIs entry_tuple_getitem ?_ (args_tuple_getitem _ _)))))
  show wpAny _ _ (Builtin.Tuple.tupleItemsOf (.ref t) >>= _) _ _ s
  refine wpAny_bind (tupleItemsOf_ ht (wpAny_bind (wpAny_typeOf hTs ?_)))
  rw [if_pos (by decide)]
  have hsz : its.toArray.size = its.length := by simp
  rw [hsz]
  refine wpAny_bind (applied_rev hs pk ?_)
  show wpAny _ _ (if ((((its.length : Nat) : Int) - 1 == 0) && ((-1 : Int) == 1) && (its.length == its.length)) = true then _ else _) _ _ s
  rw [if_neg (by simp), rev_pick]
  first
    | exact wpAny_bind (m := Builtin.Tuple.tupleExact _) (wpAny_newObj_type (wpAny_pure ⟨_, rfl, wpAny_pure h⟩) hzz)
    | exact wpAny_bind (m := Builtin.Tuple.tupleExact _) (wpAny_newObj_type (wpAny_bind (wpAny_pure (wpAny_pure ⟨_, rfl, wpAny_pure h⟩))) hzz)
    | exact wpAny_bind (wpAny_bind (m := Builtin.Tuple.tupleExact _) (wpAny_newObj_type (wpAny_pure (wpAny_pure ⟨_, rfl, wpAny_pure h⟩)) hzz))
    | exact wpAny_bind (wpAny_bind (m := Builtin.Tuple.tupleExact _) (wpAny_newObj_type (wpAny_pure ⟨_, rfl, wpAny_pure h⟩) hzz))
end
section
variable {X : Cx}
/-- t[::-1] of a tuple -/
noncomputable def tRevT (K : PySem.W.Frag) (te : TE) (tk : TO) : TE := fun σ H Q => te σ H fun x H1 => tk σ H1 fun o H2 => o = some (-1) ∧ ∃ a xs, x = .ref a ∧ SqT K H2 a xs ∧ ∀ p, H2 p = none → Q (.ref p) (upd H2 p (.tup xs.reverse))
theorem pe_revT {e st : Expr} {te : TE} {tk : TO} {p2 pos : Pos} (ops : Value → Value → List Value) (he : PE X e te) (hk : PO X (some st) tk) (hs : ∀ o i, subscripted (.Slice none none (some st) p2) false o i = operate (ops o i) (getItem o i)) : PE X (.Subscript e (.Slice none none (some st) p2) pos) (tRevT X.K te tk) := by
  intro pins s σ H Q I h
  refine Subscript_ (thn (he pins s σ H _ I h) fun v s1 ⟨x, H1, I1, r1, q1⟩ => ?_)
  refine wpAny_Slice ?_
  rw [evalPart_none]
  refine wpAny_pure (wpAny_pure (thn (hk pins s1 σ H1 _ I1 q1) fun vk s2 ⟨o, H2, I2, pk, q2⟩ => ?_))
  obtain ⟨rfl, a, xs, rfl, hx, q⟩ := q2
  cases r1
  have I4 : Inv X pins σ H2 { s2 with heap := s2.heap.push { cls := .type "slice", data := .fields #[.none, .none, vk] } } := I2.kept (t' := s2.toks) fun b ob q => Heap.get?_push_of_some _ q
  obtain ⟨its, r, ht, hz⟩ := I4.tuple hx
  have hlen := r.length
  show wpAny (model X.prog X.w) X.A (subscriptTail e (.Slice none none (some st) p2) (.ref a) (.ref s2.heap.objs.size)) (EP X pins σ Q) X.xe { s2 with heap := s2.heap.push { cls := .type "slice", data := .fields #[.none, .none, vk] } }
  refine tail_any (ops := ops _ _) ht.typeIs slot_tuple_getitem.lookup ?_ (hs _ _)
  refine tup_rev ht (Heap.IsSliceOf.new ..) pk (by omega) ?_
  refine ⟨.ref _, _, I4.laid (t' := s2.toks) (o := .tup xs.reverse) (fun b ob q => Heap.get?_push_of_some _ q) (Nat.le_refl _) ⟨by rw [List.length_reverse]; exact hz, its.reverse, r.reverse, _, Heap.get?_push_size _ rfl, rfl, 0, rfl⟩, rfl, q _ (I4.hok.fresh (Nat.le_refl _))⟩
end
end L2

set_option Elab.async false
set_option linter.all false
set_option maxRecDepth 100000
set_option maxHeartbeats 4000000
namespace L2
open PySem PySem.Spec PyProof.Rows

/-! ### lists of pairs as tables -/
section
variable {κ : Type} [DecidableEq κ]
noncomputable def valV (kvs : List (κ × V)) (k : κ) : Option V := (kvs.find? fun kv => decide (kv.1 = k)).map (·.2)
/-- in its place, or at the end -/
noncomputable def putK (kvs : List (κ × V)) (k : κ) (v : V) : List (κ × V) :=
  if (kvs.any fun kv => decide (kv.1 = k)) = true then kvs.map (fun kv => if kv.1 = k then (kv.1, v) else kv) else kvs ++ [(k, v)]
noncomputable def dropK (kvs : List (κ × V)) (k : κ) : List (κ × V) := kvs.filter fun kv => decide (kv.1 ≠ k)

end


/-! ### a tracked dict, its keys ints and texts or tuples of these -/
/-- raw entries of a dict with tuple keys -/
noncomputable abbrev KT (H : Hp) : List (List Key × V) → List (List Key × Addr × Value) → Prop := Paired fun p q => p.1 = q.1 ∧ H q.2.1 = some (.tup (p.1.map kV)) ∧ RelV p.2 q.2.2
section
variable {P : Program} {w : World} {H : Hp} {h : Heap} {a : Addr}
end

/-- what the dict at a holds at the key y -/
noncomputable def DGet (H : Hp) (a : Addr) (y : V) (r : Option V) : Prop :=
  (∃ kvs k, Rd H a (.dK kvs) ∧ y = kV k ∧ r = valV kvs k) ∨ ∃ kvs k b, Rd H a (.dT kvs) ∧ y = .ref b ∧ H b = some (.tup (k.map kV)) ∧ r = valV kvs k
/-- the heap behind a[y] = v -/
noncomputable def DPut (H : Hp) (a : Addr) (y v : V) (H' : Hp) : Prop :=
  (∃ kvs k, H a = some (.dK kvs) ∧ y = kV k ∧ kvs.length < sizeLine ∧ H' = upd H a (.dK (putK kvs k v))) ∨
  ∃ kvs k b, H a = some (.dT kvs) ∧ y = .ref b ∧ H b = some (.tup (k.map kV)) ∧ kvs.length < sizeLine ∧ H' = upd H a (.dT (putK kvs k v))
section
variable {X : Cx} {pins : List (Addr × Obj)} {σ : St} {H : Hp} {s : Shared} {a : Addr} {y v : V} {u r : Value} {o : Option V} {A : Around} {E : Value → Shared → Prop}

theorem Inv.big (I : Inv X pins σ H s) : sysModules < s.heap.objs.size := by
  have h : mainGlobals < s.heap.objs.size := (I.mod.glob.keeps I.bk).lt
  exact Nat.lt_trans (by decide) h

end

section
variable {X : Cx} {pins : List (Addr × Obj)} {σ : St} {H : Hp} {s : Shared} {a : Addr} {kvs : List (Key × V)} {k : Key} {u : Value} {A : Around} {E : Value → Shared → Prop}
end


/-! ### readings and rules -/
section
variable {X : Cx} {o i e value : Expr} {pos pos' tpos : Pos} {td ty tv : TE}
end


/-! ### displays -/
theorem dk_empty {P : Program} {w : World} {H : Hp} (h : Heap) (hb : sysModules < h.objs.size) : ObjOk P w H (h.push { cls := .type "dict", data := .dict #[] }) h.objs.size (.dK []) :=
  ⟨Nat.zero_le _, beq_eq_false_iff_ne.mpr (Ne.symm (Nat.ne_of_lt hb)), [], .nil, Heap.DictOf.new h⟩
/-- {}, to be a dict of the kind that is wanted -/
noncomputable def tDNewK : TE := fun _ H Q => ∀ p, H p = none → Q (.ref p) (upd H p (.dK []))
section
variable {X : Cx} {pos : Pos}
theorem pe_dnewK : PE X (.Dict [] [] pos) tDNewK := fun pins s σ H Q I h =>
  wpAny_Dict_empty ⟨.ref s.heap.objs.size, _, I.laid (a := s.heap.objs.size) (o := .dK []) (t' := s.toks) (fun _ _ q => Heap.get?_push_of_some _ q) (Nat.le_refl _) (dk_empty s.heap I.big), rfl, h _ (I.hok.fresh (Nat.le_refl _))⟩
end

end L2

set_option Elab.async false
set_option linter.all false
set_option maxRecDepth 100000
set_option maxHeartbeats 4000000
namespace L2
open PySem PySem.Spec PyProof.Rows

/-! ### a dict comprehension of one clause, keys tuples -/
section
variable {prog : Program} {w : World} {A : Around} {R : Result → Shared → Prop} {s : Shared}
end
section
variable {X : Cx} {scope : Scope} {N : List Str} {ix : List (Option Nat)}
variable {tg iter kx vx : Expr} {ifs : List Expr} {pos : Pos} {g : TG} {tt : TT} {tk tv : TE}
end
end L2

set_option Elab.async false
set_option linter.all false
set_option maxRecDepth 100000
set_option maxHeartbeats 4000000
namespace L2
open PySem PySem.Spec PyProof.Rows

/-! ### sum, abs, list.index -/
section
variable {X : Cx}
end
end L2

set_option Elab.async false
set_option linter.all false
set_option maxRecDepth 100000
set_option maxHeartbeats 4000000
namespace L2
open PySem PySem.Spec PyProof.Rows

/-! ### zip of two tuples -/
section
variable {prog : Program} {w : World} {A : Around} {E : Value → Shared → Prop} {s : Shared}
end
end L2

set_option Elab.async false
set_option linter.all false
set_option maxRecDepth 100000
set_option maxHeartbeats 4000000
namespace L2
open PySem PySem.Spec PyProof.Rows
section
variable {prog : Program} {w : World} {A : Around} {E : Value → Shared → Prop} {s : Shared}
end
section
variable {X : Cx}
end
end L2

set_option Elab.async false
set_option linter.all false
set_option maxRecDepth 100000
set_option maxHeartbeats 4000000
namespace L2
open PySem PySem.Spec PyProof.Rows

/-! ### the keys of a dict whose keys are tuples, walked -/
section
variable {prog : Program} {w : World} {A : Around} {E : Value → Shared → Prop} {s : Shared}
end
section
variable {X : Cx} {tg : Expr}
end
end L2

set_option Elab.async false
set_option linter.all false
set_option maxRecDepth 100000
set_option maxHeartbeats 4000000
namespace L2
open PySem PySem.Spec PyProof.Rows
section
variable {X : Cx} {scope : Scope} {N : List Str} {ix : List (Option Nat)}
variable {tg iter kx vx : Expr} {ifs : List Expr} {pos : Pos} {g : TG} {tt : TT} {tk tv : TE}
end
end L2

set_option Elab.async false
set_option linter.all false
set_option maxRecDepth 100000
set_option maxHeartbeats 4000000
namespace L2
open PySem PySem.Spec PyProof.Rows

/-! ### methods -/
/-- a method call o.m(e) of a built-in, with one argument: what must be seen of the text -/
structure M1 (X : Cx) (o : Expr) (m : Str) (apos : Pos) (e : Expr) (cpos : Pos) : Prop where
  base : attributeBase o m X.env (eval o X.env) = eval o X.env
  few : ((backTo cpos (starEach [e] X.env)).all (fun x => !x.1) && (backToKw cpos (keywordEach [] X.env)).all (fun x => x.1.isSome)
    && decide (([e] : List Expr).length + ([] : List Keyword).length + (if ([] : List Keyword).isEmpty then 0 else 1) < 30)) = true
  line : (apos.endLine == cpos.line) = true
  trees : backTo cpos (starEach [e] X.env) = [(false, eval e X.env)]
structure M2 (X : Cx) (o : Expr) (m : Str) (apos : Pos) (e f : Expr) (cpos : Pos) : Prop where
  base : attributeBase o m X.env (eval o X.env) = eval o X.env
  few : ((backTo cpos (starEach [e, f] X.env)).all (fun x => !x.1) && (backToKw cpos (keywordEach [] X.env)).all (fun x => x.1.isSome)
    && decide (([e, f] : List Expr).length + ([] : List Keyword).length + (if ([] : List Keyword).isEmpty then 0 else 1) < 30)) = true
  line : (apos.endLine == cpos.line) = true
  trees : backTo cpos (starEach [e, f] X.env) = [(false, eval e X.env), (false, eval f X.env)]

section
variable {X : Cx} {pins : List (Addr × Obj)} {σ : St} {H : Hp} {s : Shared} {a : Addr} {y d : V} {u r : Value} {o : Option V} {A : Around} {E : Value → Shared → Prop}
end

section
variable {X : Cx} {o e f : Expr} {apos cpos : Pos} {td ty tx : TE}
end

/-! ### dict(d): a copy -/
section
variable {X : Cx} {pins : List (Addr × Obj)} {σ : St} {H : Hp} {s : Shared} {a : Addr} {kvs : List (Key × V)} {A : Around} {E : Value → Shared → Prop}
end


section
variable {X : Cx} {pins : List (Addr × Obj)} {σ : St} {H : Hp} {s : Shared} {a : Addr} {y : V} {u : Value} {A : Around} {E : Value → Shared → Prop}
end
section
variable {X : Cx}
end
/-! ### a dict's pairs: keys that differ -/
section
variable {κ : Type} [DecidableEq κ]
end
end L2

set_option Elab.async false
set_option linter.all false
set_option maxRecDepth 100000
set_option maxHeartbeats 4000000
namespace L2
open PySem PySem.Spec PyProof.Rows PySem.W PySem.Calls

theorem ObjOk.get {P : Program} {w : World} {H : Hp} {h : Heap} {a : Addr} {o : HO} (x : ObjOk P w H h a o) : ∃ ob, h.get? a = some ob := by
  cases o with
  | lst xs => obtain ⟨_, _, _, _, e⟩ := x; exact ⟨_, e⟩
  | tup xs => obtain ⟨_, _, _, ob, e, _⟩ := x; exact ⟨_, e⟩
  | dK kvs => obtain ⟨_, _, _, _, o, _, _, e, _⟩ := x; exact ⟨_, e⟩
  | dT kvs => obtain ⟨_, _, _, _, o, _, _, e, _⟩ := x; exact ⟨_, e⟩
  | set S n => obtain ⟨o, _, _, _, e, _⟩ := x; exact ⟨_, e⟩
  | ins C dx fs => obtain ⟨_, _, _, e, _⟩ := x; exact ⟨_, e⟩
  | own y => obtain ⟨_, e⟩ := x; exact ⟨_, e⟩
  | xd fs => obtain ⟨_, ⟨_, _, _, e, _⟩, _⟩ := x; exact ⟨_, e⟩
  | rng lo hi => obtain ⟨_, _, _, e⟩ := x; exact ⟨_, e⟩
  | frz ob u => obtain ⟨e, _⟩ := x; exact ⟨_, e⟩
  | tbl ps => exact ⟨_, (show h.get? a = some _ from x)⟩
  | met f y => exact ⟨_, (show h.get? a = some _ from x)⟩
  | ext φ => obtain ⟨_, ⟨_, e⟩, _⟩ := x; exact ⟨_, e⟩
theorem HOk.freeN {P : Program} {w : World} {H : Hp} {h : Heap} {a : Addr} (x : HOk P w H h) (e : h.get? a = none) : H a = none := by
  cases q : H a with
  | none => rfl
  | some u => obtain ⟨ob, e'⟩ := (x a u q).get; rw [e] at e'; cases e'
/-- a new object, wherever it lies -/
theorem Inv.laidN {X : Cx} {pins : List (Addr × Obj)} {σ : St} {H : Hp} {s : Shared} {h' : Heap} {a : Addr} {o : HO} {t' : Nat} (I : Inv X pins σ H s) (k : ∀ b u, s.heap.get? b = some u → h'.get? b = some u) (hp : s.heap.get? a = none) (new : ObjOk X.prog X.w (upd H a o) h' a o) :
    Inv X pins σ (upd H a o) { s with heap := h', toks := t' } := by
  have hn := I.hok.freeN hp
  refine I.un ⟨fun b ob e _ _ _ => k b ob e, fun b ob e _ _ _ => ⟨ob.slots, k b ob e⟩, fun b ob e n _ => ?_, fun b ob e _ => ⟨ob, k b ob e⟩, fun b xs e => ?_, fun b ob u e => ?_, fun b ps e => ⟨#[], ?_⟩⟩ fun b u e => ?_
  · rw [upd_ne (fun z => by rw [z, hp] at e; cases e)]; exact n
  · rw [upd_ne (ne_of_none e hn)]; exact e
  · rw [upd_ne (ne_of_none e hn)]; exact e
  · rw [upd_ne (ne_of_none e hn)]; simpa using e
  · by_cases hb : b = a
    · subst hb; rw [upd_same] at e; cases e; exact new
    · rw [upd_ne hb] at e
      exact (I.hok b u e).stay (fun c v _ q => k c v q) (fun c q => by rw [upd_ne (ne_of_none q hn)]; exact q) fun c xs q => by rw [upd_ne (ne_of_none q hn)]; exact q
/-! ### sorted(d): the keys of a dict by texts, sorted -/
section
variable {X : Cx}
end
end L2

set_option Elab.async false
set_option linter.all false
set_option maxRecDepth 100000
set_option maxHeartbeats 4000000
namespace L2
open PySem PySem.Spec PyProof.Rows PySem.W PySem.Calls

/-! ### dict([(k, v), ..]) -/
section
variable {prog : Program} {w : World} {A : Around} {E : Value → Shared → Prop} {s : Shared}
end
section
variable {prog : Program} {w : World} {A : Around} {R : Result → Shared → Prop} {K : Type} [DecidableEq K] {knd : PySem.KeyKind prog w K}
end
end L2

set_option Elab.async false
set_option linter.all false
set_option maxRecDepth 100000
set_option maxHeartbeats 4000000
namespace L2
open PySem PySem.Spec PyProof.Rows PySem.W PySem.Calls
section
variable {X : Cx}
end
end L2

set_option Elab.async false
set_option linter.all false
set_option maxRecDepth 100000
set_option maxHeartbeats 4000000
namespace L2
open PySem PySem.Spec PyProof.Rows

/-! ### enumerate of a list -/
section
variable {X : Cx}
end
end L2

set_option Elab.async false
set_option linter.all false
set_option maxRecDepth 100000
set_option maxHeartbeats 4000000
namespace L2
open PySem PySem.Spec PyProof.Rows PySem.W PySem.Calls
section
variable {X : Cx}
end
end L2

set_option Elab.async false
set_option linter.all false
set_option maxRecDepth 100000
set_option maxHeartbeats 4000000
namespace L2
open PySem PySem.Spec PyProof.Rows PySem.W PySem.Calls
/-! ### a set of texts: how it is kept -/
noncomputable def txtOf : Value → Str
  | .str x _ => x
  | _ => default
/-- a set of the texts ss, none twice, in some order; of a set of texts the order is never led by numbers -/
structure TextSet (w : World) (o : Obj) (ss : List Str) (es : Array (Int × Value)) (ep : Nat) (t : SetTable) : Prop where
  cls : o.cls = .type "set"
  dic : o.dict = none
  slo : o.slots = #[]
  dat : o.data = .set es ep t
  els : ∀ e ∈ es.toList, ∃ tk, e.2 = .str (txtOf e.2) tk ∧ e.1 = hashStr w (txtOf e.2)
  all : (es.toList.map fun e => txtOf e.2).Perm ss
  one : ss.Nodup
  few : ss.length < 4000
  fit : t.fits es.size = true
  led : t.led = !w.params.followText "set-order"
  pla : es.size = 0 ∨ t.plain = false
theorem TextSet.size {w : World} {o : Obj} {ss : List Str} {es : Array (Int × Value)} {ep : Nat} {t : SetTable} (x : TextSet w o ss es ep t) : es.size = ss.length := by
  have := x.all.length_eq
  rw [List.length_map, Array.length_toList] at this; exact this
theorem TextSet.elems {P : Program} {w : World} {o : Obj} {ss : List Str} {es : Array (Int × Value)} {ep : Nat} {t : SetTable} (x : TextSet w o ss es ep t) : ElemsOf (PySem.strKind P w) es.toList := by
  intro e he
  obtain ⟨tk, h1, h2⟩ := x.els e he
  refine ⟨⟨txtOf e.2, ?_, h2⟩, ?_⟩
  · have z := PySem.strKind_is P w (txtOf e.2) tk
    rw [← h1] at z; exact z
  · rw [h1]; rfl
theorem orStandIn_led (t : SetTable) (n : Nat) : (t.orStandIn n).led = t.led := by
  unfold SetTable.orStandIn; split <;> rfl
theorem layNew_led (t : SetTable) (es : Array (Int × Value)) (h : Int) (x : Value) : (layNew t es h x).2.1.led = t.led := by
  unfold layNew
  split
  · exact orStandIn_led _ _
  · rfl
theorem relayAll_led (t : SetTable) (es : Array (Int × Value)) (n : Nat) : (relayAll t es n).2.1.led = t.led ∧ (t.plain = false → (relayAll t es n).2.1.plain = false) := by
  unfold relayAll
  split
  · rename_i t' order he
    have hz : t'.led = t.led ∧ t'.plain = t.plain := by
      unfold SetTable.relaid SetTable.laid at he
      revert he
      cases SetTable.layClean (SetTable.sizeAbove n - 1) (es.map (·.1)) with
      | none => intro he; cases he
      | some ow => intro he; cases he; exact ⟨rfl, rfl⟩
    dsimp only
    split
    · exact ⟨hz.1, fun e => hz.2.trans e⟩
    · exact ⟨rfl, fun _ => rfl⟩
  · exact ⟨rfl, fun _ => rfl⟩
theorem putSet_at {h : Heap} {a : Addr} {o : Obj} {es es' : Array (Int × Value)} {ep : Nat} {t t' : SetTable} (ho : h.get? a = some o) (hd : o.data = .set es ep t) :
    (h.update a (Obj.putSet es' t')).get? a = some { o with data := .set es' (ep + 1) t' } := by
  have q := Heap.get?_update_self (Obj.putSet es' t') ho (by rw [putSet_of es' t' hd]; rfl)
  rw [putSet_of es' t' hd] at q
  exact q
section
variable {prog : Program} {w : World} {A : Around} {E : Value → Shared → Prop} {s : Shared}
/-- the part of an adding that comes behind the search -/
theorem add_tail {a : Addr} {o : Obj} {ss : List Str} {k : Str} {tk : Tok} {es : Array (Int × Value)} {ep : Nat} {t : SetTable} {R : Option Bool → Shared → Prop}
    (ho : s.heap.get? a = some o) (x : TextSet w o ss es ep t) (hk : k ∉ ss) (few : ss.length + 1 < 4000)
    {L : Array (Int × Value) × SetTable × Bool × Bool} (hL : layNew t es (hashStr w k) (.str k tk) = L)
    (h : ∀ (h' : Heap) (o' : Obj) es' ep' t', Heap.SameBut a s.heap h' → h'.get? a = some o' → TextSet w o' (k :: ss) es' ep' t' → R (some true) { s with heap := h' }) (g : Bool → Sem Unit) (hg : ∀ (b : Bool) (s₁ : Shared) (Q' : Unit → Shared → Prop), Q' () s₁ → wpAny (model prog w) A (g b) Q' E s₁) :
    wpAny (model prog w) A (do
      storeSet a L.1 { L.2.1 with plain := false }
      if (!L.2.2.1 && ({ L.2.1 with plain := false } : SetTable).tooFull) = true then do
        g (relayAll { L.2.1 with plain := false } L.1 (SetTable.grown L.1.size)).2.2
        storeSet a (relayAll { L.2.1 with plain := false } L.1 (SetTable.grown L.1.size)).1 (relayAll { L.2.1 with plain := false } L.1 (SetTable.grown L.1.size)).2.1
        pure (some true)
      else pure (some true)) R E s := by
  have pm := layNew_perm t es (hashStr w k) (.str k tk)
  have pf := layNew_fits t es (hashStr w k) (.str k tk)
  have pl := layNew_led t es (hashStr w k) (.str k tk)
  rw [hL] at pm pf pl
  obtain ⟨e1, t1, b1, b2⟩ := L
  dsimp only at pm pf pl ⊢
  rw [Array.toList_push] at pm
  have hsz := x.size
  have z1 : e1.size = ss.length + 1 := by
    have := pm.length_eq
    rw [List.length_append, Array.length_toList, Array.length_toList] at this
    rw [this, hsz]; rfl
  have mk : ∀ {e2 : Array (Int × Value)} {t2 : SetTable} {o2 : Obj} {ep2 : Nat}, e2.toList.Perm e1.toList → o2.cls = .type "set" → o2.dict = none → o2.slots = #[] → o2.data = .set e2 ep2 t2 → t2.fits e2.size = true → t2.led = t.led → t2.plain = false → TextSet w o2 (k :: ss) e2 ep2 t2 := by
    intro e2 t2 o2 ep2 p1 c1 c2 c3 c4 c5 c6 c7
    have p2 := p1.trans pm
    refine ⟨c1, c2, c3, c4, fun e he => ?_, ?_, ?_, ?_, c5, c6.trans x.led, .inr c7⟩
    · rcases List.mem_append.mp (p2.mem_iff.mp he) with q | q
      · exact x.els e q
      · rw [List.mem_singleton.mp q]; exact ⟨tk, rfl, rfl⟩
    · refine (p2.map _).trans ?_
      rw [List.map_append]
      exact (List.perm_append_comm).trans (List.Perm.cons k x.all)
    · exact List.nodup_cons.mpr ⟨hk, x.one⟩
    · rw [List.length_cons]; exact few
  have fz : ({ t1 with plain := false } : SetTable).fits e1.size = true := SetTable.fits_plain_off pf
  refine wpAny_bind (wpAny_storeSet_of ho x.dat ?_ (by rw [z1, sizeLine_eq]; omega))
  have g1 := putSet_at (es' := e1) (t' := { t1 with plain := false }) ho x.dat
  have sb := Heap.SameBut.update s.heap a (Obj.putSet e1 { t1 with plain := false })
  split
  · have rp := relayAll_perm { t1 with plain := false } e1 (SetTable.grown e1.size)
    have rf := relayAll_fits { t1 with plain := false } e1 (SetTable.grown e1.size)
    have rl := relayAll_led { t1 with plain := false } e1 (SetTable.grown e1.size)
    generalize relayAll { t1 with plain := false } e1 (SetTable.grown e1.size) = R2 at rp rf rl ⊢
    have z2 : R2.1.size = ss.length + 1 := by
      have := rp.length_eq
      rw [Array.length_toList, Array.length_toList] at this
      rw [this, z1]
    refine wpAny_bind (hg _ _ _ ?_)
    refine wpAny_bind (wpAny_storeSet_of g1 rfl ?_ (by rw [z2, sizeLine_eq]; omega))
    have g2 := putSet_at (es' := R2.1) (t' := R2.2.1) g1 rfl
    exact wpAny_pure (h _ _ R2.1 _ R2.2.1 (sb.trans (Heap.SameBut.update _ a _)) g2 (mk rp x.cls x.dic x.slo rfl rf (rl.1.trans pl) (rl.2 rfl)))
  · exact wpAny_pure (h _ _ e1 _ _ sb g1 (mk (List.Perm.refl _) x.cls x.dic x.slo rfl fz pl rfl))
end
end L2

set_option Elab.async false
set_option linter.all false
set_option maxRecDepth 100000
set_option maxHeartbeats 4000000
namespace L2
open PySem PySem.Spec PyProof.Rows PySem.W PySem.Calls
/-- the texts met so far, none twice -/
noncomputable def metS : List Str → List Str
  | [] => []
  | k :: r => if k ∈ metS r then metS r else k :: metS r
theorem metS_mem (l : List Str) (k : Str) : k ∈ metS l ↔ k ∈ l := by
  induction l with
  | nil => exact Iff.rfl
  | cons a r ih =>
    unfold metS
    split
    · rename_i q
      rw [ih, List.mem_cons]
      exact ⟨Or.inr, fun z => z.elim (fun e => by rw [e]; exact ih' ih q e) id⟩
    · rw [List.mem_cons, List.mem_cons, ih]
where ih' {r : List Str} {a k : Str} (ih : k ∈ metS r ↔ k ∈ r) (q : a ∈ metS r) (e : k = a) : a ∈ r := by subst e; exact ih.mp q
theorem metS_len (l : List Str) : (metS l).length ≤ l.length := by
  induction l with
  | nil => exact Nat.le_refl _
  | cons a r ih =>
    unfold metS
    split
    · rw [List.length_cons]; omega
    · rw [List.length_cons, List.length_cons]; omega
theorem metS_nodup (l : List Str) : (metS l).Nodup := by
  induction l with
  | nil => exact List.nodup_nil
  | cons a r ih =>
    unfold metS
    split
    · exact ih
    · rename_i q; exact List.nodup_cons.mpr ⟨q, ih⟩
section
variable {prog : Program} {w : World} {A : Around} {E : Value → Shared → Prop} {s : Shared}
theorem add_text {a : Addr} {o : Obj} {l : List Str} {k : Str} {tk : Tok} {es : Array (Int × Value)} {ep : Nat} {t : SetTable} {Q : Bool → Shared → Prop}
    (ho : s.heap.get? a = some o) (x : TextSet w o (metS l) es ep t) (few : l.length + 1 < 4000)
    (h : ∀ (b : Bool) (h' : Heap) (o' : Obj) es' ep' t', Heap.SameBut a s.heap h' → h'.get? a = some o' → TextSet w o' (metS (k :: l)) es' ep' t' → Q b { s with heap := h' }) :
    wpAny (model prog w) A (setAddHashed a (.str k tk) (hashStr w k)) Q E s := by
  have hl := metS_len l
  have hsz := x.size
  have hel := x.elems (P := prog)
  have hkey := PySem.strKind_is prog w k tk
  unfold setAddHashed setAddHashedIn
  refine wpAny_holding (wpAny_bind (wpAny_setState_of ho x.dat x.fit ?_))
  dsimp only
  rw [byScan_of (knd := PySem.strKind prog w) rfl (by rw [hsz]; have : scanBound = 4096 := rfl; omega) hel]
  rw [if_pos rfl]
  unfold setAddByScan
  refine wpAny_bind (wpAny_bind (wpAny_rule ?_))
  refine wpAny_bind (wpAny_setScan_of (knd := PySem.strKind prog w) (k := k) hkey ho x.dat x.fit hel ?_)
  have mem : ∀ e ∈ es.toList, (PySem.strKind prog w).is k e.2 = true ↔ txtOf e.2 = k := by
    intro e he
    obtain ⟨t', h1, _⟩ := x.els e he
    rw [h1]
    show Value.isStrOf k (.str (txtOf e.2) t') = true ↔ txtOf (.str (txtOf e.2) t') = k
    simp [Value.isStrOf, txtOf]
  cases hf : List.findIdx? (fun e => (PySem.strKind prog w).is k e.2) es.toList with
  | some j =>
    dsimp only
    obtain ⟨hj, hp, _⟩ := List.findIdx?_eq_some_iff_getElem.mp hf
    have hin : k ∈ metS l := x.all.mem_iff.mp (List.mem_map.mpr ⟨_, List.getElem_mem hj, (mem _ (List.getElem_mem hj)).mp hp⟩)
    refine wpAny_pure (wpAny_pure ?_)
    have e2 : metS (k :: l) = metS l := by show (if k ∈ metS l then _ else _) = _; rw [if_pos hin]
    exact h false s.heap o es ep t (Heap.SameBut.refl a s.heap) ho (by rw [e2]; exact x)
  | none =>
    dsimp only
    have hin : k ∉ metS l := by
      intro hk
      obtain ⟨e, he, ee⟩ := List.mem_map.mp (x.all.mem_iff.mpr hk)
      have := List.findIdx?_eq_none_iff.mp hf e he
      rw [(mem e he).mpr ee] at this; cases this
    have e2 : metS (k :: l) = k :: metS l := by show (if k ∈ metS l then _ else _) = _; rw [if_neg hin]
    have fin : ∀ (h' : Heap) (o' : Obj) es' ep' t', Heap.SameBut a s.heap h' → h'.get? a = some o' → TextSet w o' (k :: metS l) es' ep' t' → Q true { s with heap := h' } := fun h' o' es' ep' t' c1 c2 c3 => h true h' o' es' ep' t' c1 c2 (by rw [e2]; exact c3)
    have hgw : ∀ (b : Bool) (s₁ : Shared) (Q' : Unit → Shared → Prop), Q' () s₁ → wpAny (model prog w) A (match b with | true => rule "set.scan.the-table-gave-way" | false => pure ()) Q' E s₁ := fun b s₁ Q' q => by
      cases b
      · exact wpAny_pure q
      · exact wpAny_rule q
    generalize hL : layNew t es (hashStr w k) (.str k tk) = L
    obtain ⟨e1, t1, b1, b2⟩ := L
    dsimp only
    refine wpAny_bind (hgw _ _ _ ?_)
    have tail := fun (g : Bool → Sem Unit) hg => add_tail (A := A) (E := E) (prog := prog) (R := fun r s' => wpAny (model prog w) A (match r with | some added => pure added | none => setAddHashedIn a (.str k tk) (hashStr w k) 99999) Q E s') ho x hin (by omega) hL (fun h' o' es' ep' t' c1 c2 c3 => wpAny_pure (fin h' o' es' ep' t' c1 c2 c3)) g hg
    dsimp only at tail
    split
    · refine wpAny_bind ?_
      rw [hashByValue_scannable 8 rfl]
      refine wpAny_pure ?_
      exact tail _ hgw
    · rename_i hpl
      refine wpAny_bind (wpAny_pure ?_)
      have hp : t1.plain = false := by cases q : t1.plain with | false => rfl | true => exact absurd q hpl
      have et : t1 = { t1 with plain := false } := by cases t1; cases hp; rfl
      rw [if_pos rfl]
      rw [et]
      exact tail _ hgw
end
end L2

set_option Elab.async false
set_option linter.all false
set_option maxRecDepth 100000
set_option maxHeartbeats 4000000
namespace L2
open PySem PySem.Spec PyProof.Rows PySem.W PySem.Calls
section
variable {prog : Program} {w : World} {A : Around} {E : Value → Shared → Prop} {s : Shared}
theorem loop_texts {I S : Addr} {fp : List Addr} {its : List Value} {ss : List Str} {St : Nat → Heap → Prop} {R : Result → Shared → Prop} {m : Nat} (hm : m = its.length)
    (W : Walks prog w A.in1 I fp [I] m (fun i v => its[i]? = some v) St) (hS : S ∉ fp) (hv : Vals (ss.map V.str) its) (few : ss.length + 1 < 4000) :
    ∀ (k i : Nat) (s : Shared) (o : Obj) (es : Array (Int × Value)) (ep : Nat) (t : SetTable), its.length - i = k → i ≤ its.length → St i s.heap → s.heap.get? S = some o → TextSet w o (metS (ss.take i).reverse) es ep t →
      (∀ (h' : Heap) (tk : Nat) (o' : Obj) es' ep' t', (∀ b ob, b ≠ S → b ≠ I → s.heap.get? b = some ob → h'.get? b = some ob) → h'.get? S = some o' → TextSet w o' (metS ss.reverse) es' ep' t' → R (.ok (.ret .none)) { s with heap := h', toks := tk }) →
      codeAny (model prog w) A (.builtin "set.update.loop" ⟨[.ref S, .ref I], []⟩) R s := by
  have hlen : ss.length = its.length := by have := hv.length; rwa [List.length_map] at this
  subst hm
  have hIS : S ≠ I := fun e => hS (by rw [e]; exact W.sub I (List.mem_singleton.mpr rfl))
  intro k
  induction k with
  | zero =>
    intro i s o es ep t hk hi st ho x q
    have e : i = its.length := by omega
    subst e
    refine codeAny_builtin F.entry_set_update_loop ?_
    rw [Around.under_plainId F.plain_set_update_loop _]
    show wpAny _ A.in1 (pyNext (.ref I) >>= _) _ _ s
    refine wpAny_bind (W.done s _ _ st fun h' tk kp => ?_)
    show wpAny _ A.in1 (ret Value.none) _ _ _
    rw [← hlen, List.take_length] at x
    exact wpAny_pure (q h' tk o es ep t (fun b ob _ hb e => kp b ob (by simpa using hb) e) (kp S o (by simpa using hIS) ho) x)
  | succ k ih =>
    intro i s o es ep t hk hi st ho x q
    have hlt : i < its.length := by omega
    have hls : i < ss.length := by omega
    refine codeAny_builtin F.entry_set_update_loop ?_
    rw [Around.under_plainId F.plain_set_update_loop _]
    show wpAny _ A.in1 (pyNext (.ref I) >>= _) _ _ s
    refine wpAny_bind (W.item i s _ _ hlt st fun v h1 tk1 hP st1 kp => ?_)
    obtain ⟨u, hu, ru⟩ := hv.get (i := i) (x := .str ss[i]) (by rw [List.getElem?_map, List.getElem?_eq_getElem hls]; rfl)
    have ev : v = u := by rw [hP] at hu; cases hu; rfl
    subst ev
    obtain ⟨tv, rfl⟩ := ru
    have ho1 : h1.get? S = some o := kp S o (by simpa using hIS) ho
    show wpAny _ A.in1 (holding [Value.str ss[i] tv] (setAdd S (.str ss[i] tv)) >>= _) _ _ _
    refine wpAny_bind (wpAny_holding ?_)
    unfold setAdd
    refine wpAny_holding ?_
    refine wpAny_bind ((PySem.strKind prog w).pyHash (k := ss[i]) (PySem.strKind_is prog w _ _) ?_)
    have htl : (ss.take i).reverse.length + 1 < 4000 := by rw [List.length_reverse, List.length_take]; omega
    refine add_text (s := { s with heap := h1, toks := tk1 + 1 }) ho1 x htl fun b h2 o2 es2 ep2 t2 sb ho2 x2 => ?_
    have e3 : ss[i] :: (ss.take i).reverse = (ss.take (i + 1)).reverse := by
      rw [List.take_add_one, List.getElem?_eq_getElem hls, List.reverse_append]; rfl
    rw [e3] at x2
    refine wpAny_pure ⟨plainId_quiet F.plain_set_update_loop _, ih (i + 1) _ o2 es2 ep2 t2 (by omega) hlt (W.frame _ h1 _ st1 fun b hb ob e => ?_) ho2 x2 fun h' tk o' es' ep' t' kp' c1 c2 => ?_⟩
    · rw [sb.2 b (fun z => hS (by rw [← z]; exact hb))]; exact e
    · refine q h' tk o' es' ep' t' (fun b ob b1 b2 e => kp' b ob b1 b2 ?_) c1 c2
      show h2.get? b = some ob
      rw [sb.2 b b1]
      exact kp b ob (by simpa using b2) e
/-- set.__new__: the table is led unless the order is told by the text -/
theorem new_set1 (a : Value) {Q₁ : Value → Shared → Prop}
    (h : Q₁ (.ref s.heap.objs.size) { s with heap := s.heap.push { cls := .type "set", dict := none, data := .set #[] 0 (.fresh 0 0 (!w.params.followText "set-order")) } }) :
    codeAny (model prog w) A (.call (.builtin "set.__new__") ⟨[.type "set", a], []⟩) (wants Q₁ E) s := by
  refine codeAny_of_tree ?_
  show wpAny _ A.in1 (checkBuiltinCall "set.__new__" ⟨[.type "set", a], []⟩ >>= fun _ => again (.builtin "set.__new__" ⟨[.type "set", a], []⟩)) _ _ s
  refine wpAny_bind (wpAny_of_eq (PySem.F.newCall_set_1 a) (wpAny_pure ⟨plainId_quiet PySem.F.plain_set_new _, codeAny_builtin PySem.F.entry_set_new ?_⟩))
  rw [Around.under_plainId PySem.F.plain_set_new _]
  unfold Builtin.«set.__new__» Builtin.Frozenset.newClass
  have known := sub_set_self
  obtain ⟨h0, g0, d0, tk0, os0⟩ := s
  dsimp only
  wp_walk
  refine wpAny_askSetting (wpAny_pure ?_)
  dsimp only
  simp only [newObj]
  exact wpAny_bind (wpAny_alloc (wpAny_pure (wpAny_pure h)))
theorem textSet_new (w : World) : TextSet w { cls := .type "set", dict := none, data := .set #[] 0 (.fresh 0 0 (!w.params.followText "set-order")) } [] #[] 0 (.fresh 0 0 (!w.params.followText "set-order")) :=
  ⟨rfl, rfl, rfl, rfl, fun e he => (by cases he), List.Perm.nil, List.nodup_nil, (by decide), rfl, rfl, .inl rfl⟩
end
end L2

set_option Elab.async false
set_option linter.all false
set_option maxRecDepth 100000
set_option maxHeartbeats 8000000
namespace L2
open PySem PySem.Spec PyProof.Rows PySem.W PySem.Calls
section
variable {prog : Program} {w : World} {A : Around} {E : Value → Shared → Prop} {s : Shared}

theorem sub_tuple_set : isSubtype (.type "tuple") (.type "set") = pure false := by rw [isSubtype_type]; kernel_rfl
theorem sub_tuple_fro : isSubtype (.type "tuple") (.type "frozenset") = pure false := by rw [isSubtype_type]; kernel_rfl
theorem made_set_tuple {l : Addr} {its : List Value} {ss : List Str} {Q : Value → Shared → Prop}
    (hh : A.handled = none) (hl : s.heap.IsTuple l its.toArray) (hv : Vals (ss.map V.str) its) (few : ss.length + 1 < 4000)
    (h : ∀ (h' : Heap) (tk : Nat) (o' : Obj) es' ep' t', (∀ b ob, s.heap.get? b = some ob → h'.get? b = some ob) → h'.get? s.heap.objs.size = some o' → TextSet w o' (metS ss.reverse) es' ep' t' → Q (.ref s.heap.objs.size) { s with heap := h', toks := tk }) :
    wpAny (model prog w) A (call (.type "set") [.ref l]) Q E s := by
  obtain ⟨mro0, mrot, hmro⟩ := PySem.F.called_set.mro
  have made := PySem.F.called_set.made
  have subs := PySem.F.called_set.sub
  have nt := PySem.F.called_set.notType
  have cc := PySem.F.called_set.canCreate
  have ct := PySem.F.typeCall_set_1 (.ref l)
  refine wpAny_call (codeAny_of_tree ?_)
  show wpAny _ _ (callAny (.type "set") _) _ _ _
  refine wpAny_pure ⟨Code.quiet_builtin _ (by decide +kernel), codeAny_builtin PySem.F.entry_type_call ?_⟩
  rw [Around.under_plain (weight_type_call_type "set" [.ref l] []) rfl]
  repeat (any_goals (first | assumption | wp_step))
  refine codeAny_mono (new_set1 (.ref l) (E := E) (Q₁ := fun obj s₁ => obj = .ref s.heap.objs.size ∧ s₁ = { s with heap := s.heap.push { cls := .type "set", dict := none, data := .set #[] 0 (.fresh 0 0 (!w.params.followText "set-order")) } }) ⟨rfl, rfl⟩) fun r s₁ hr => ?_
  generalize hbt : (!w.params.followText "set-order") = bt at hr
  cases r with
  | error e => exact hr
  | ok fl =>
    cases fl with
    | ret obj =>
      obtain ⟨rfl, rfl⟩ := hr
      have g0 : (s.heap.push { cls := .type "set", dict := none, data := .set #[] 0 (.fresh 0 0 bt) }).get? s.heap.objs.size = some { cls := .type "set", dict := none, data := .set #[] 0 (.fresh 0 0 bt) } := Heap.get?_push_size _ rfl
      have ty : Shared.TypeIs { s with heap := s.heap.push { cls := .type "set", dict := none, data := .set #[] 0 (.fresh 0 0 bt) } } (.ref s.heap.objs.size) "set" := ⟨_, g0, rfl⟩
      have ini := PySem.F.called_set.init.lookup
      have inb := PySem.F.called_set.init.bind (.ref s.heap.objs.size)
      repeat (any_goals (first | assumption | wp_step))
      refine codeAny_mono (codeAny_call_builtin (R := wants (fun r s₂ => r = .none ∧ ∃ h' tk o' es' ep' t', s₂ = { s with heap := h', toks := tk } ∧ (∀ b ob, s.heap.get? b = some ob → h'.get? b = some ob) ∧ h'.get? s.heap.objs.size = some o' ∧ TextSet w o' (metS ss.reverse) es' ep' t') E)
        PySem.F.called_set.init.plain PySem.F.entry_set_init (check_set_init_1 ty ?_)) fun r₂ s₂ hr₂ => ?_
      · obtain ⟨ol, hol, cl, nl, dl⟩ := hl
        obtain ⟨c1, c2, c3, c4⟩ := ol
        simp only at cl dl
        subst cl; subst dl
        have hol1 : (s.heap.push { cls := .type "set", dict := none, data := .set #[] 0 (.fresh 0 0 bt) }).get? l = some { cls := .type "tuple", dict := c2, data := .seq its.toArray nl, slots := c4 } := Heap.get?_push_of_some _ hol
        have n1 := sub_tuple_set
        have n2 := sub_tuple_fro
        have n3 : (Value.type "tuple" == Value.type "dict") = false := by decide
        have hl1 : (s.heap.push { cls := .type "set", dict := none, data := .set #[] 0 (.fresh 0 0 bt) }).IsTuple l its.toArray := ⟨_, hol1, rfl, nl, rfl⟩
        unfold Builtin.«set.__init__» noKeywords Builtin.Frozenset.updateFrom
        generalize hpi : pyIter = pit
        wp_walk
        subst hpi
        refine wpAny_pyIter_tuple hl1 ?_
        refine wpAny_bind (wpAny_runValue ?_)
        have lt0 : l < s.heap.objs.size := Heap.lt_size hol
        have h3 : A.in1.in1.in1.handled = none := by simp [hh]
        have ne1 : l ≠ (s.heap.push { cls := .type "set", dict := none, data := .set #[] 0 (.fresh 0 0 bt) }).objs.size := by
          rw [Heap.size_push]; exact Nat.ne_of_lt (Nat.lt_succ_of_lt lt0)
        have out : s.heap.objs.size ∉ [(s.heap.push { cls := .type "set", dict := none, data := .set #[] 0 (.fresh 0 0 bt) }).objs.size, l] := by
          rw [Heap.size_push]
          intro z
          rcases List.mem_cons.mp z with z | z
          · exact absurd z (Nat.ne_of_lt (Nat.lt_succ_self _))
          · exact absurd (List.mem_singleton.mp z) (Nat.ne_of_gt lt0)
        have W := Walks.tuple (prog := prog) (w := w) h3 (s.heap.push { cls := .type "set", dict := none, data := .set #[] 0 (.fresh 0 0 bt) }).objs.size l ne1 its.toArray
        have hW : (fun (i : Nat) (v : Value) => its.toArray[i]? = some v) = fun i v => its[i]? = some v := by funext i v; rw [List.getElem?_toArray]
        rw [hW] at W
        have g1 : ((s.heap.push { cls := .type "set", dict := none, data := .set #[] 0 (.fresh 0 0 bt) }).push { cls := .type "tuple_iterator", data := .fields #[.ref l, .int 0 0] }).get? s.heap.objs.size = some { cls := .type "set", dict := none, data := .set #[] 0 (.fresh 0 0 bt) } := Heap.get?_push_of_some _ g0
        refine loop_texts (List.size_toArray) W out hv few (its.length - 0) 0 _ _ #[] 0 (.fresh 0 0 bt) rfl (Nat.zero_le _)
          ⟨⟨_, Heap.get?_push_size _ rfl, rfl, rfl⟩, hl1.push _⟩ g1 (by subst hbt; exact textSet_new w) fun h' tk o' es' ep' t' kp c1 c2 => ?_
        show wpAny _ _ _ _ _ _
        refine wpAny_pure ?_
        show wpAny _ _ (ret Value.none) _ _ _
        refine wpAny_pure ⟨rfl, h', tk, o', es', ep', t', rfl, fun b ob e => kp b ob (Nat.ne_of_lt (Heap.lt_size e)) ?_ (Heap.get?_push_of_some _ (Heap.get?_push_of_some _ e)), c1, c2⟩
        rw [Heap.size_push]; exact Nat.ne_of_lt (Nat.lt_succ_of_lt (Heap.lt_size e))
      · cases r₂ with
        | error e => exact hr₂
        | ok fl₂ =>
          cases fl₂ with
          | ret r =>
            obtain ⟨rfl, h', tk, o', es', ep', t', rfl, kp, c1, c2⟩ := hr₂
            repeat (any_goals (first | assumption | wp_step))
            exact h h' tk o' es' ep' t' kp c1 c2
          | _ => exact hr₂.elim
    | _ => exact hr.elim

theorem sub_list_set : isSubtype (.type "list") (.type "set") = pure false := by rw [isSubtype_type]; kernel_rfl
theorem sub_list_fro : isSubtype (.type "list") (.type "frozenset") = pure false := by rw [isSubtype_type]; kernel_rfl
theorem made_set_list {l : Addr} {its : List Value} {ss : List Str} {Q : Value → Shared → Prop}
    (hh : A.handled = none) (hl : s.heap.IsList l its.toArray) (hv : Vals (ss.map V.str) its) (few : ss.length + 1 < 4000)
    (h : ∀ (h' : Heap) (tk : Nat) (o' : Obj) es' ep' t', (∀ b ob, s.heap.get? b = some ob → h'.get? b = some ob) → h'.get? s.heap.objs.size = some o' → TextSet w o' (metS ss.reverse) es' ep' t' → Q (.ref s.heap.objs.size) { s with heap := h', toks := tk }) :
    wpAny (model prog w) A (call (.type "set") [.ref l]) Q E s := by
  obtain ⟨mro0, mrot, hmro⟩ := PySem.F.called_set.mro
  have made := PySem.F.called_set.made
  have subs := PySem.F.called_set.sub
  have nt := PySem.F.called_set.notType
  have cc := PySem.F.called_set.canCreate
  have ct := PySem.F.typeCall_set_1 (.ref l)
  refine wpAny_call (codeAny_of_tree ?_)
  show wpAny _ _ (callAny (.type "set") _) _ _ _
  refine wpAny_pure ⟨Code.quiet_builtin _ (by decide +kernel), codeAny_builtin PySem.F.entry_type_call ?_⟩
  rw [Around.under_plain (weight_type_call_type "set" [.ref l] []) rfl]
  repeat (any_goals (first | assumption | wp_step))
  refine codeAny_mono (new_set1 (.ref l) (E := E) (Q₁ := fun obj s₁ => obj = .ref s.heap.objs.size ∧ s₁ = { s with heap := s.heap.push { cls := .type "set", dict := none, data := .set #[] 0 (.fresh 0 0 (!w.params.followText "set-order")) } }) ⟨rfl, rfl⟩) fun r s₁ hr => ?_
  generalize hbt : (!w.params.followText "set-order") = bt at hr
  cases r with
  | error e => exact hr
  | ok fl =>
    cases fl with
    | ret obj =>
      obtain ⟨rfl, rfl⟩ := hr
      have g0 : (s.heap.push { cls := .type "set", dict := none, data := .set #[] 0 (.fresh 0 0 bt) }).get? s.heap.objs.size = some { cls := .type "set", dict := none, data := .set #[] 0 (.fresh 0 0 bt) } := Heap.get?_push_size _ rfl
      have ty : Shared.TypeIs { s with heap := s.heap.push { cls := .type "set", dict := none, data := .set #[] 0 (.fresh 0 0 bt) } } (.ref s.heap.objs.size) "set" := ⟨_, g0, rfl⟩
      have ini := PySem.F.called_set.init.lookup
      have inb := PySem.F.called_set.init.bind (.ref s.heap.objs.size)
      repeat (any_goals (first | assumption | wp_step))
      refine codeAny_mono (codeAny_call_builtin (R := wants (fun r s₂ => r = .none ∧ ∃ h' tk o' es' ep' t', s₂ = { s with heap := h', toks := tk } ∧ (∀ b ob, s.heap.get? b = some ob → h'.get? b = some ob) ∧ h'.get? s.heap.objs.size = some o' ∧ TextSet w o' (metS ss.reverse) es' ep' t') E)
        PySem.F.called_set.init.plain PySem.F.entry_set_init (check_set_init_1 ty ?_)) fun r₂ s₂ hr₂ => ?_
      · obtain ⟨ol, hol, cl, nl, dl⟩ := hl
        obtain ⟨c1, c2, c3, c4⟩ := ol
        simp only at cl dl
        subst cl; subst dl
        have hol1 : (s.heap.push { cls := .type "set", dict := none, data := .set #[] 0 (.fresh 0 0 bt) }).get? l = some { cls := .type "list", dict := c2, data := .seq its.toArray nl, slots := c4 } := Heap.get?_push_of_some _ hol
        have n1 := sub_list_set
        have n2 := sub_list_fro
        have n3 : (Value.type "list" == Value.type "dict") = false := by decide
        have hl1 : (s.heap.push { cls := .type "set", dict := none, data := .set #[] 0 (.fresh 0 0 bt) }).IsList l its.toArray := ⟨_, hol1, rfl, nl, rfl⟩
        unfold Builtin.«set.__init__» noKeywords Builtin.Frozenset.updateFrom
        generalize hpi : pyIter = pit
        wp_walk
        subst hpi
        refine wpAny_pyIter_list hl1 ?_
        refine wpAny_bind (wpAny_runValue ?_)
        have lt0 : l < s.heap.objs.size := Heap.lt_size hol
        have h3 : A.in1.in1.in1.handled = none := by simp [hh]
        have ne1 : l ≠ (s.heap.push { cls := .type "set", dict := none, data := .set #[] 0 (.fresh 0 0 bt) }).objs.size := by
          rw [Heap.size_push]; exact Nat.ne_of_lt (Nat.lt_succ_of_lt lt0)
        have out : s.heap.objs.size ∉ [(s.heap.push { cls := .type "set", dict := none, data := .set #[] 0 (.fresh 0 0 bt) }).objs.size, l] := by
          rw [Heap.size_push]
          intro z
          rcases List.mem_cons.mp z with z | z
          · exact absurd z (Nat.ne_of_lt (Nat.lt_succ_self _))
          · exact absurd (List.mem_singleton.mp z) (Nat.ne_of_gt lt0)
        have W := Walks.list (prog := prog) (w := w) h3 (s.heap.push { cls := .type "set", dict := none, data := .set #[] 0 (.fresh 0 0 bt) }).objs.size l ne1 its.toArray
        have hW : (fun (i : Nat) (v : Value) => its.toArray[i]? = some v) = fun i v => its[i]? = some v := by funext i v; rw [List.getElem?_toArray]
        rw [hW] at W
        have g1 : ((s.heap.push { cls := .type "set", dict := none, data := .set #[] 0 (.fresh 0 0 bt) }).push { cls := .type "list_iterator", data := .fields #[.ref l, .int 0 0] }).get? s.heap.objs.size = some { cls := .type "set", dict := none, data := .set #[] 0 (.fresh 0 0 bt) } := Heap.get?_push_of_some _ g0
        refine loop_texts (List.size_toArray) W out hv few (its.length - 0) 0 _ _ #[] 0 (.fresh 0 0 bt) rfl (Nat.zero_le _)
          ⟨⟨_, Heap.get?_push_size _ rfl, rfl, rfl⟩, hl1.push _⟩ g1 (by subst hbt; exact textSet_new w) fun h' tk o' es' ep' t' kp c1 c2 => ?_
        show wpAny _ _ _ _ _ _
        refine wpAny_pure ?_
        show wpAny _ _ (ret Value.none) _ _ _
        refine wpAny_pure ⟨rfl, h', tk, o', es', ep', t', rfl, fun b ob e => kp b ob (Nat.ne_of_lt (Heap.lt_size e)) ?_ (Heap.get?_push_of_some _ (Heap.get?_push_of_some _ e)), c1, c2⟩
        rw [Heap.size_push]; exact Nat.ne_of_lt (Nat.lt_succ_of_lt (Heap.lt_size e))
      · cases r₂ with
        | error e => exact hr₂
        | ok fl₂ =>
          cases fl₂ with
          | ret r =>
            obtain ⟨rfl, h', tk, o', es', ep', t', rfl, kp, c1, c2⟩ := hr₂
            repeat (any_goals (first | assumption | wp_step))
            exact h h' tk o' es' ep' t' kp c1 c2
          | _ => exact hr₂.elim
    | _ => exact hr.elim
end
end L2

set_option Elab.async false
set_option linter.all false
set_option maxRecDepth 100000
set_option maxHeartbeats 8000000
namespace L2
open PySem PySem.Spec PyProof.Rows PySem.W PySem.Calls
theorem sit_slot_next : Slot "set_iterator" "__next__" "set_iterator.__next__" :=
  .of (owner := "set_iterator") (n := "__next__") (by rw [typeLookup_type, builtinLookup_eq_fast]; kernel_rfl) (by decide +kernel) (by decide +kernel) (by decide +kernel) (by first | exact .inl (by decide +kernel) | exact .inr (by decide +kernel)) (by rw [isSubtype_type]; kernel_rfl)
theorem sit_entry_next : entryFor table "set_iterator.__next__" = some Builtin.«set_iterator.__next__» := entryFor_of_tree (by kernel_rfl)
theorem sit_owner : Manifest.owners.lookup (String.ofList ['r', 'o', 't', 'a', 'r', 'e', 't', 'i', '_', 't', 'e', 's'].reverse) = some Manifest.sig_set_iterator := by kernel_rfl
theorem sit_args_next (a : Value) : argsOk "set_iterator.__next__" ⟨[a], []⟩ := by
  unfold argsOk
  rw [signature?_of (id := "set_iterator.__next__") (n := ['_', '_', 't', 'x', 'e', 'n', '_', '_']) (o := ['r', 'o', 't', 'a', 'r', 'e', 't', 'i', '_', 't', 'e', 's']) (by kernel_rfl) sit_owner]
  kernel_rfl
theorem sit_slot_iter : Slot "set_iterator" "__iter__" "set_iterator.__iter__" :=
  .of (owner := "set_iterator") (n := "__iter__") (by rw [typeLookup_type, builtinLookup_eq_fast]; kernel_rfl) (by decide +kernel) (by decide +kernel) (by decide +kernel) (by first | exact .inl (by decide +kernel) | exact .inr (by decide +kernel)) (by rw [isSubtype_type]; kernel_rfl)
theorem sit_args_iter (a : Value) : argsOk "set_iterator.__iter__" ⟨[a], []⟩ := by
  unfold argsOk
  rw [signature?_of (id := "set_iterator.__iter__") (n := ['_', '_', 'r', 'e', 't', 'i', '_', '_']) (o := ['r', 'o', 't', 'a', 'r', 'e', 't', 'i', '_', 't', 'e', 's']) (by kernel_rfl) sit_owner]
  kernel_rfl
theorem sit_entry_iter : entryFor table "set_iterator.__iter__" = some Builtin.«dict_keyiterator.__iter__» :=
  entryFor_alias (id' := "dict_keyiterator.__iter__") (by kernel_rfl) (by first | rfl | decide +kernel | (unfold String.splitOn; simp +decide [String.splitOnAux])) (by decide +kernel) (by kernel_rfl)
theorem set_entry_iter : entryFor table "set.__iter__" = some Builtin.«frozenset.__iter__» :=
  entryFor_alias (id' := "frozenset.__iter__") (by kernel_rfl) (by first | rfl | decide +kernel | (unfold String.splitOn; simp +decide [String.splitOnAux])) (by decide +kernel) (by kernel_rfl)
noncomputable def sitF (first : Value) (i : Nat) (a : Addr) (n ep : Nat) : Array Value := #[first, rawInt (i : Int), .ref a, rawInt (n : Int), rawInt (ep : Int)]
/-- an iterator of the set at a, before its i-th -/
noncomputable def IsSit (h : Heap) (I : Addr) (first : Value) (i : Nat) (a : Addr) (n ep : Nat) : Prop := ∃ o, h.get? I = some o ∧ o.cls = .type "set_iterator" ∧ o.data = .fields (sitF first i a n ep)
theorem IsSit.typ {s : Shared} {I : Addr} {first : Value} {i : Nat} {a : Addr} {n ep : Nat} (x : IsSit s.heap I first i a n ep) : s.TypeIs (.ref I) "set_iterator" := let ⟨o, h1, h2, _⟩ := x; ⟨o, h1, h2⟩
theorem IsSit.stay {h h' : Heap} {I : Addr} {first : Value} {i : Nat} {a : Addr} {n ep : Nat} (x : IsSit h I first i a n ep) (e : ∀ o, h.get? I = some o → h'.get? I = some o) : IsSit h' I first i a n ep := let ⟨o, h1, h2⟩ := x; ⟨o, e o h1, h2⟩
theorem eraseIdx_perm {α : Type} : ∀ (l : List α) (i : Nat) (h : i < l.length), (l[i] :: l.eraseIdx i).Perm l
  | [], _, h => absurd h (Nat.not_lt_zero _)
  | a :: r, 0, _ => List.Perm.refl _
  | a :: r, i + 1, h => by
    show (r[i]'(Nat.lt_of_succ_lt_succ h) :: a :: r.eraseIdx i).Perm (a :: r)
    exact (List.Perm.swap _ _ _).trans (List.Perm.cons a (eraseIdx_perm r i (Nat.lt_of_succ_lt_succ h)))
section
variable {prog : Program} {w : World} {A : Around} {E : Value → Shared → Prop} {s : Shared}
theorem choose_any {src : Source} {n : Nat} {Q : Nat → Shared → Prop} (hn : n ≠ 0) (h : ∀ i d, i < n → Q i { s with drawn := d }) : wpAny (model prog w) A (choose src n) Q E s := by
  intro Γ p hΓ
  show Sem.wp _ _ (.choose src n .pure) _ _ _ _
  rw [Sem.wp_choose]
  refine ⟨hn, ?_⟩
  rw [Sem.wp_pure]
  exact h _ _ (Nat.mod_lt _ (Nat.pos_of_ne_zero hn))
theorem draw_order {α : Type} : ∀ (n : Nat) (xs : List α) (s : Shared) (Q : List α → Shared → Prop), n = xs.length → (∀ ys d, ys.Perm xs → Q ys { s with drawn := d }) → wpAny (model prog w) A (drawOrder n xs) Q E s := by
  intro n
  induction n with
  | zero =>
    intro xs s Q hn h
    have : xs = [] := List.length_eq_zero_iff.mp hn.symm
    subst this
    unfold drawOrder
    exact wpAny_pure (h [] s.drawn (List.Perm.refl _))
  | succ n ih =>
    intro xs s Q hn h
    cases xs with
    | nil => cases hn
    | cons x r =>
      unfold drawOrder
      refine wpAny_bind (choose_any (by rw [List.length_cons]; exact Nat.succ_ne_zero _) fun i d hi => ?_)
      rw [List.getElem?_eq_getElem hi]
      dsimp only
      have hlen : n = ((x :: r).eraseIdx i).length := by
        have := List.length_eraseIdx (l := x :: r) (i := i)
        rw [if_pos hi] at this
        rw [this]; omega
      refine wpAny_bind (ih _ _ _ hlen fun ys d' pm => wpAny_pure ?_)
      refine h _ d' ?_
      exact (List.Perm.cons _ pm).trans (eraseIdx_perm (x :: r) i hi)
theorem sit_self {I : Addr} {first : Value} {i : Nat} {a : Addr} {n ep : Nat} {Q : Value → Shared → Prop} (x : IsSit s.heap I first i a n ep) (h : Q (.ref I) s) : wpAny (model prog w) A (pyIter (.ref I)) Q E s := by
  refine wpAny_pyIter_slot x.typ sit_slot_iter (wpAny_call_entry sit_slot_iter x.typ sit_entry_iter ?_ (sit_args_iter _))
  show wpAny _ _ (ret (.ref I)) _ _ s
  exact wpAny_pure ⟨_, rfl, "set_iterator", _, x.typ, sit_slot_next.lookup, h⟩
theorem stop_here {Q : Option Value → Shared → Prop} {R : Fin → Shared → Prop} (hh : A.handled = none)
    (hQ : ∀ h', (∀ b o, s.heap.get? b = some o → h'.get? b = some o) → Q none { s with heap := h' }) :
    wpAny (model prog w) A.in1 (newExc (.type "StopIteration") [] >>= raiseNew) R (fun e s' => wpAny (model prog w) A (do if ← isInstance e (.type "StopIteration") then pure none else throw e) Q E s') s := by
  refine wpAny_bind ?_
  simp only [newExc, newTuple]
  refine wpAny_bind (wpAny_newObj_type ?_ (by size_fits))
  refine wpAny_bind (m := firstArgMember _ _) (wpAny_of_eq (a := Value.none) (by first | rfl | (simp only [firstArgMember]; rfl)) ?_)
  refine wpAny_newObj_type ?_ (by size_fits)
  simp only [raiseNew]
  refine wpAny_bind (wpAny_handled ?_)
  rw [show A.in1.handled = none from hh]
  refine wpAny_bind (wpAny_pure (wpAny_throw ?_))
  refine wpAny_bind (wpAny_isInstance (T := "StopIteration") (b := true) ⟨_, Heap.get?_push_size _ rfl, rfl⟩ isSubtype_stop ?_)
  exact wpAny_pure (hQ _ fun b o e => Heap.get?_push_of_some _ (Heap.get?_push_of_some _ e))
end
end L2

set_option Elab.async false
set_option linter.all false
set_option maxRecDepth 100000
set_option maxHeartbeats 8000000
namespace L2
open PySem PySem.Spec PyProof.Rows PySem.W PySem.Calls
theorem set0_sit (first : Value) (i : Nat) (a : Addr) (n ep : Nat) (x : Value) : (sitF first i a n ep).setIfInBounds 0 x = sitF x i a n ep := by simp [sitF]
theorem set1_sit (first : Value) (i : Nat) (a : Addr) (n ep : Nat) : (sitF first i a n ep).setIfInBounds 1 (rawInt ((i : Int) + 1)) = sitF first (i + 1) a n ep := by simp [sitF]
section
variable {prog : Program} {w : World} {A : Around} {E : Value → Shared → Prop} {s : Shared}
theorem sit_put {h : Heap} {I : Addr} {first : Value} {i : Nat} {a : Addr} {n ep : Nat} {o : Obj} (ho : h.get? I = some o) (hc : o.cls = .type "set_iterator") (hd : o.data = .fields (sitF first i a n ep)) (j : Nat) (y : Value) :
    ∃ o', (h.update I (Obj.mapFields (·.setIfInBounds j y))).get? I = some o' ∧ o'.cls = .type "set_iterator" ∧ o'.data = .fields ((sitF first i a n ep).setIfInBounds j y) :=
  ⟨_, Heap.get?_update_self _ ho (Obj.isFreed_of_fields (Obj.data_mapFields hd _)), (Obj.cls_mapFields ..).trans hc, Obj.data_mapFields hd _⟩
/-- by a number: the next -/
theorem sit_item {I a : Addr} {o : Obj} {ss : List Str} {es : Array (Int × Value)} {ep : Nat} {t : SetTable} {slot next i : Nat} {v : Value} {Q : Option Value → Shared → Prop}
    (hit : IsSit s.heap I (rawInt (slot : Int)) i a es.size ep) (hne : a ≠ I) (ho : s.heap.get? a = some o) (x : TextSet w o ss es ep t)
    (nx : ∀ (A : Around) (E : Value → Shared → Prop) (Q : Option (Value × Nat) → Shared → Prop), Q (some (v, next)) s → wpAny (model prog w) A (setNext a slot i ep) Q E s)
    (hQ : ∀ h', IsSit h' I (rawInt (next : Int)) (i + 1) a es.size ep → Heap.SameBut I s.heap h' → Q (some v) { s with heap := h' }) : wpAny (model prog w) A (pyNext (.ref I)) Q E s := by
  obtain ⟨oi, hoi, hci, hdi⟩ := id hit
  unfold pyNext
  refine wpAny_bind (wpAny_attempt (wpAny_callSpecial?_slot (name := Str.ofString "__next__") hit.typ sit_slot_next (wpAny_call_entry sit_slot_next hit.typ sit_entry_next ?_ (sit_args_next _))))
  unfold Builtin.«set_iterator.__next__»
  refine wpAny_bind (wpAny_of_eq (a := (Value.ref I, [])) rfl ?_)
  dsimp only
  refine wpAny_bind (wpAny_fieldsOf hoi hdi ?_)
  show wpAny _ _ (setEntries a >>= _) _ _ s
  refine wpAny_bind (wpAny_setEntries_of ho x.dat x.fit ?_)
  show wpAny _ _ (if ((es.size : Int) != (es.size : Int)) = true then _ else _) _ _ s
  rw [if_neg (by simp)]
  show wpAny _ _ (setNext a slot i ep >>= _) _ _ s
  refine wpAny_bind (nx _ _ _ ?_)
  show wpAny _ _ (setField (.ref I) 0 (rawInt (next : Int)) >>= _) _ _ s
  refine wpAny_bind (wpAny_setField hoi hdi (by simp [sitF]) ?_)
  obtain ⟨o1, g1, c1, d1⟩ := sit_put hoi hci hdi 0 (rawInt (next : Int))
  rw [set0_sit] at d1
  show wpAny _ _ (setField (.ref I) 1 (rawInt ((i : Int) + 1)) >>= _) _ _ _
  refine wpAny_bind (wpAny_setField g1 d1 (by simp [sitF]) ?_)
  obtain ⟨o2, g2, c2, d2⟩ := sit_put g1 c1 d1 1 (rawInt ((i : Int) + 1))
  rw [set1_sit] at d2
  exact wpAny_pure ⟨v, rfl, wpAny_pure (hQ _ ⟨o2, g2, c2, d2⟩ ((Heap.SameBut.update ..).trans (Heap.SameBut.update ..)))⟩
theorem sit_end {I a : Addr} {o : Obj} {ss : List Str} {es : Array (Int × Value)} {ep : Nat} {t : SetTable} {slot i : Nat} {Q : Option Value → Shared → Prop} (hh : A.handled = none)
    (hit : IsSit s.heap I (rawInt (slot : Int)) i a es.size ep) (hne : a ≠ I) (ho : s.heap.get? a = some o) (x : TextSet w o ss es ep t)
    (nx : ∀ (A : Around) (E : Value → Shared → Prop) (Q : Option (Value × Nat) → Shared → Prop), Q none s → wpAny (model prog w) A (setNext a slot i ep) Q E s)
    (hQ : ∀ h', (∀ b o, b ≠ I → s.heap.get? b = some o → h'.get? b = some o) → Q none { s with heap := h' }) : wpAny (model prog w) A (pyNext (.ref I)) Q E s := by
  obtain ⟨oi, hoi, hci, hdi⟩ := id hit
  unfold pyNext
  refine wpAny_bind (wpAny_attempt (wpAny_callSpecial?_slot (name := Str.ofString "__next__") hit.typ sit_slot_next (wpAny_call_entry sit_slot_next hit.typ sit_entry_next ?_ (sit_args_next _))))
  unfold Builtin.«set_iterator.__next__»
  refine wpAny_bind (wpAny_of_eq (a := (Value.ref I, [])) rfl ?_)
  dsimp only
  refine wpAny_bind (wpAny_fieldsOf hoi hdi ?_)
  show wpAny _ _ (setEntries a >>= _) _ _ s
  refine wpAny_bind (wpAny_setEntries_of ho x.dat x.fit ?_)
  show wpAny _ _ (if ((es.size : Int) != (es.size : Int)) = true then _ else _) _ _ s
  rw [if_neg (by simp)]
  show wpAny _ _ (setNext a slot i ep >>= _) _ _ s
  refine wpAny_bind (nx _ _ _ ?_)
  show wpAny _ _ (setField (.ref I) 2 .none >>= _) _ _ s
  refine wpAny_bind (wpAny_setField hoi hdi (by simp [sitF]) ?_)
  refine stop_here hh fun h' kp => hQ h' fun b ob hb e => kp b ob ?_
  exact (Heap.get?_update_other _ _ (Ne.symm hb)).trans e
/-- by a tuple of places: the next -/
theorem sitT_item {I a tp : Addr} {o : Obj} {ss : List Str} {es : Array (Int × Value)} {ep : Nat} {t : SetTable} {i p : Nat} {v : Value} {ps : Array Value} {Q : Option Value → Shared → Prop}
    (hit : IsSit s.heap I (.ref tp) i a es.size ep) (ho : s.heap.get? a = some o) (x : TextSet w o ss es ep t) (htp : s.heap.IsTuple tp ps) (hp : ps[i]? = some (rawInt (p : Int))) (hv : (es[p]?).map (·.2) = some v)
    (hQ : ∀ h', IsSit h' I (.ref tp) (i + 1) a es.size ep → Heap.SameBut I s.heap h' → Q (some v) { s with heap := h' }) : wpAny (model prog w) A (pyNext (.ref I)) Q E s := by
  obtain ⟨oi, hoi, hci, hdi⟩ := id hit
  obtain ⟨ot, hot, _, nt, hdt⟩ := htp
  unfold pyNext
  refine wpAny_bind (wpAny_attempt (wpAny_callSpecial?_slot (name := Str.ofString "__next__") hit.typ sit_slot_next (wpAny_call_entry sit_slot_next hit.typ sit_entry_next ?_ (sit_args_next _))))
  unfold Builtin.«set_iterator.__next__»
  refine wpAny_bind (wpAny_of_eq (a := (Value.ref I, [])) rfl ?_)
  dsimp only
  refine wpAny_bind (wpAny_fieldsOf hoi hdi ?_)
  show wpAny _ _ (setEntries a >>= _) _ _ s
  refine wpAny_bind (wpAny_setEntries_of ho x.dat x.fit ?_)
  show wpAny _ _ (if ((es.size : Int) != (es.size : Int)) = true then _ else _) _ _ s
  rw [if_neg (by simp)]
  show wpAny _ _ (seqItems? (.ref tp) >>= _) _ _ s
  refine wpAny_bind (wpAny_seqItems hot hdt ?_)
  dsimp only [Int.toNat_natCast]
  rw [hp]
  dsimp only [rawInt]
  refine wpAny_bind ?_
  unfold setNextDrawn
  refine wpAny_bind (wpAny_setState_of ho x.dat x.fit ?_)
  dsimp only
  rw [if_neg (by simp)]
  try rw [Int.toNat_natCast]
  cases he : es[p]? with
  | none => rw [he] at hv; cases hv
  | some ev =>
    rw [he] at hv
    cases hv
    refine wpAny_pure ?_
    show wpAny _ _ (setField (.ref I) 1 (rawInt ((i : Int) + 1)) >>= _) _ _ _
    refine wpAny_bind (wpAny_setField hoi hdi (by simp [sitF]) ?_)
    obtain ⟨o2, g2, c2, d2⟩ := sit_put hoi hci hdi 1 (rawInt ((i : Int) + 1))
    rw [set1_sit] at d2
    exact wpAny_pure ⟨_, rfl, wpAny_pure (hQ _ ⟨o2, g2, c2, d2⟩ (Heap.SameBut.update ..))⟩
theorem sitT_end {I a tp : Addr} {o : Obj} {ss : List Str} {es : Array (Int × Value)} {ep : Nat} {t : SetTable} {i : Nat} {ps : Array Value} {Q : Option Value → Shared → Prop} (hh : A.handled = none)
    (hit : IsSit s.heap I (.ref tp) i a es.size ep) (ho : s.heap.get? a = some o) (x : TextSet w o ss es ep t) (htp : s.heap.IsTuple tp ps) (hp : ps[i]? = none)
    (hQ : ∀ h', (∀ b o, b ≠ I → s.heap.get? b = some o → h'.get? b = some o) → Q none { s with heap := h' }) : wpAny (model prog w) A (pyNext (.ref I)) Q E s := by
  obtain ⟨oi, hoi, hci, hdi⟩ := id hit
  obtain ⟨ot, hot, _, nt, hdt⟩ := htp
  unfold pyNext
  refine wpAny_bind (wpAny_attempt (wpAny_callSpecial?_slot (name := Str.ofString "__next__") hit.typ sit_slot_next (wpAny_call_entry sit_slot_next hit.typ sit_entry_next ?_ (sit_args_next _))))
  unfold Builtin.«set_iterator.__next__»
  refine wpAny_bind (wpAny_of_eq (a := (Value.ref I, [])) rfl ?_)
  dsimp only
  refine wpAny_bind (wpAny_fieldsOf hoi hdi ?_)
  show wpAny _ _ (setEntries a >>= _) _ _ s
  refine wpAny_bind (wpAny_setEntries_of ho x.dat x.fit ?_)
  show wpAny _ _ (if ((es.size : Int) != (es.size : Int)) = true then _ else _) _ _ s
  rw [if_neg (by simp)]
  show wpAny _ _ (seqItems? (.ref tp) >>= _) _ _ s
  refine wpAny_bind (wpAny_seqItems hot hdt ?_)
  dsimp only [Int.toNat_natCast]
  rw [hp]
  dsimp only
  refine wpAny_bind (wpAny_setField hoi hdi (by simp [sitF]) ?_)
  obtain ⟨o1, g1, c1, d1⟩ := sit_put hoi hci hdi 0 (rawInt 0)
  rw [set0_sit] at d1
  refine wpAny_bind (wpAny_setField g1 d1 (by simp [sitF]) ?_)
  refine stop_here hh fun h' kp => hQ h' fun b ob hb e => kp b ob ?_
  exact (Heap.get?_update_other _ _ (Ne.symm hb)).trans ((Heap.get?_update_other _ _ (Ne.symm hb)).trans e)
end
end L2

set_option Elab.async false
set_option linter.all false
set_option maxRecDepth 100000
set_option maxHeartbeats 8000000
namespace L2
open PySem PySem.Spec PyProof.Rows PySem.W PySem.Calls
theorem pick_go {α : Type} (next : Nat → Nat) : ∀ (n k : Nat) (left : List α) (out : Array α), n = left.length → (pickOrder.go next n k left out).toList.Perm (out.toList ++ left) := by
  intro n
  induction n with
  | zero =>
    intro k left out hn
    have : left = [] := List.length_eq_zero_iff.mp hn.symm
    subst this
    unfold pickOrder.go
    rw [List.append_nil]
  | succ n ih =>
    intro k left out hn
    unfold pickOrder.go
    have hi : next k % left.length < left.length := Nat.mod_lt _ (by omega)
    rw [List.getElem?_eq_getElem hi]
    dsimp only
    have hl : n = (left.eraseIdx (next k % left.length)).length := by
      have := List.length_eraseIdx (l := left) (i := next k % left.length)
      rw [if_pos hi] at this
      rw [this]; omega
    refine (ih _ _ _ hl).trans ?_
    rw [Array.toList_push, List.append_assoc]
    exact List.Perm.append_left _ (eraseIdx_perm left _ hi)
theorem pickOrder_perm {α : Type} (next : Nat → Nat) (xs : Array α) : (pickOrder next xs).toList.Perm xs.toList := by
  unfold pickOrder
  have := pick_go next xs.size 0 xs.toList #[] (Array.length_toList).symm
  simpa using this
section
variable {prog : Program} {w : World} {A : Around} {E : Value → Shared → Prop} {s : Shared}
theorem nx_text {a : Addr} {o : Obj} {ss : List Str} {es : Array (Int × Value)} {ep slot i : Nat} {t : SetTable} (hb : w.params.followText "set-order" = true) (ho : s.heap.get? a = some o) (x : TextSet w o ss es ep t) {Q : Option (Value × Nat) → Shared → Prop}
    (h : Q (((pickOrder (w.params.setOrder a ep) es)[i]?).map fun e => (e.2, slot)) s) : wpAny (model prog w) A (setNext a slot i ep) Q E s := by
  unfold setNext
  refine wpAny_bind (wpAny_setState_of ho x.dat x.fit ?_)
  dsimp only
  unfold setsByText
  refine wpAny_bind (wpAny_bind (wpAny_askSetting (wpAny_pure ?_)))
  show wpAny _ _ (if w.params.followText "set-order" = true then _ else _) _ _ s
  rw [if_pos hb, if_neg (by simp)]
  unfold setWalk
  refine wpAny_bind ?_
  refine wpAny_bind (wpAny_setState_of ho x.dat x.fit ?_)
  dsimp only
  unfold setsByText
  refine wpAny_bind (wpAny_bind (wpAny_askSetting (wpAny_pure ?_)))
  show wpAny _ _ (if w.params.followText "set-order" = true then _ else _) _ _ s
  rw [if_pos hb]
  exact wpAny_bind (wpAny_askSetting (wpAny_pure (wpAny_pure h)))
theorem nx_few {a : Addr} {o : Obj} {ss : List Str} {es : Array (Int × Value)} {ep slot i : Nat} {t : SetTable} (hb : w.params.followText "set-order" = false) (ho : s.heap.get? a = some o) (x : TextSet w o ss es ep t) (h1 : es.size ≤ 1) {Q : Option (Value × Nat) → Shared → Prop}
    (h : Q (match es[SetTable.below t.place slot]?, t.place[SetTable.below t.place slot]? with | some (_, x), some j => some (x, j + 1) | _, _ => none) s) : wpAny (model prog w) A (setNext a slot i ep) Q E s := by
  have hl : t.led = true := by rw [x.led, hb]; rfl
  unfold setNext
  refine wpAny_bind (wpAny_setState_of ho x.dat x.fit ?_)
  dsimp only
  unfold setsByText
  refine wpAny_bind (wpAny_bind (wpAny_askSetting (wpAny_pure ?_)))
  show wpAny _ _ (if w.params.followText "set-order" = true then _ else if (!t.plain && decide (es.size > 1)) = true then _ else _) _ _ s
  rw [if_neg (by rw [hb]; exact Bool.false_ne_true), if_neg (by rw [decide_eq_false (Nat.not_lt.mpr h1), Bool.and_false]; exact Bool.false_ne_true)]
  refine wpAny_bind (show wpAny _ _ (if (!t.led && !es.isEmpty) = true then unsupported "set:maker-not-led" else pure ()) _ _ s from ?_)
  rw [if_neg (by rw [hl]; exact Bool.false_ne_true)]
  exact wpAny_pure (wpAny_pure h)
/-- a walk over a set of texts: in some order, each once -/
structure SetWalk (prog : Program) (w : World) (A : Around) (s s₁ : Shared) (a I : Addr) (ss : List Str) (fp : List Addr) (ws : List Value) (St : Nat → Heap → Prop) : Prop where
  os : s₁.os = s.os
  gens : s₁.gens = s.gens
  toks : s₁.toks = s.toks
  keep : ∀ b o, s.heap.get? b = some o → s₁.heap.get? b = some o
  new : ∀ b ∈ fp, b = a ∨ s.heap.objs.size ≤ b
  newI : s.heap.objs.size ≤ I
  wk : Walks prog w A I fp [I] ss.length (fun i v => ws[i]? = some v) St
  st : St 0 s₁.heap
  txt : ∃ ss', StrsAre ws ss' ∧ ss'.Perm ss
theorem strs_of_es {o : Obj} {ss : List Str} {es : Array (Int × Value)} {ep : Nat} {t : SetTable} (x : TextSet w o ss es ep t) {L : List (Int × Value)} (p : L.Perm es.toList) : ∃ ss', StrsAre (L.map (·.2)) ss' ∧ ss'.Perm ss := by
  refine ⟨L.map fun e => txtOf e.2, ?_, (p.map _).trans x.all⟩
  have : ∀ e ∈ L, ∃ tk, e.2 = .str (txtOf e.2) tk := fun e he => let ⟨tk, h, _⟩ := x.els e (p.mem_iff.mp he); ⟨tk, h⟩
  clear p
  induction L with
  | nil => exact .nil
  | cons e r ih =>
    obtain ⟨tk, h⟩ := this e (.head _)
    have q := ih fun e he => this e (.tail _ he)
    show StrsAre (e.2 :: r.map (·.2)) (txtOf e.2 :: r.map fun e => txtOf e.2)
    rw [h]
    exact .cons _ tk q
end
end L2

set_option Elab.async false
set_option linter.all false
set_option maxRecDepth 100000
set_option maxHeartbeats 8000000
namespace L2
open PySem PySem.Spec PyProof.Rows PySem.W PySem.Calls
section
variable {prog : Program} {w : World} {A : Around} {E : Value → Shared → Prop} {s : Shared}
/-- in the order that the text tells -/
theorem walk_text {a I : Addr} {o : Obj} {ss : List Str} {es : Array (Int × Value)} {ep : Nat} {t : SetTable} (hh : A.handled = none) (hb : w.params.followText "set-order" = true) (x : TextSet w o ss es ep t) (hne : a ≠ I) :
    Walks prog w A I [I, a] [I] ss.length (fun i v => ((pickOrder (w.params.setOrder a ep) es).toList.map (·.2))[i]? = some v) (fun i h => IsSit h I (rawInt 0) i a es.size ep ∧ h.get? a = some o) where
  sub := fun b hb => by rw [List.mem_singleton.mp hb]; exact .head _
  frame := fun i h h' st kp => ⟨st.1.stay fun o e => kp I (.head _) o e, kp a (.tail _ (.head _)) o st.2⟩
  item := fun i s Q E hi st hQ => by
    have hl : (pickOrder (w.params.setOrder a ep) es).size = ss.length := by
      have := (pickOrder_perm (w.params.setOrder a ep) es).length_eq
      rw [Array.length_toList, Array.length_toList, x.size] at this; exact this
    have hi' : i < (pickOrder (w.params.setOrder a ep) es).size := by omega
    have e1 : (pickOrder (w.params.setOrder a ep) es)[i]? = some (pickOrder (w.params.setOrder a ep) es)[i] := Array.getElem?_eq_getElem hi'
    refine sit_item (slot := 0) (next := 0) (v := ((pickOrder (w.params.setOrder a ep) es)[i]).2) st.1 hne st.2 x (fun A E Q q => nx_text hb st.2 x (by rw [e1]; exact q)) fun h' hit' sb => ?_
    refine hQ _ h' s.toks (by rw [List.getElem?_map, Array.getElem?_toList, e1]; rfl) ⟨hit', (sb.2 a hne).trans st.2⟩ fun b ob hb e => (sb.2 b (by simpa using hb)).trans e
  done := fun s Q E st hQ => by
    have hl : (pickOrder (w.params.setOrder a ep) es).size = ss.length := by
      have := (pickOrder_perm (w.params.setOrder a ep) es).length_eq
      rw [Array.length_toList, Array.length_toList, x.size] at this; exact this
    have e1 : (pickOrder (w.params.setOrder a ep) es)[ss.length]? = none := by rw [← hl]; simp
    exact sit_end (slot := 0) hh st.1 hne st.2 x (fun A E Q q => nx_text hb st.2 x (by rw [e1]; exact q)) fun h' kp => hQ h' s.toks fun b ob hb e => kp b ob (by simpa using hb) e
  self := fun i s Q E st hQ => sit_self st.1 hQ
/-- in the order that is drawn -/
theorem walk_drawn {a I tp : Addr} {o : Obj} {ss : List Str} {es : Array (Int × Value)} {ep : Nat} {t : SetTable} {ps : List Nat} (hh : A.handled = none) (x : TextSet w o ss es ep t) (hne : a ≠ I) (hnt : tp ≠ I) (hps : ps.Perm (List.range es.size)) :
    Walks prog w A I [I, a, tp] [I] ss.length (fun i v => (ps.map fun p => (es.getD p (0, .none)).2)[i]? = some v) (fun i h => IsSit h I (.ref tp) i a es.size ep ∧ h.get? a = some o ∧ h.IsTuple tp (ps.map fun (p : Nat) => rawInt (p : Int)).toArray) where
  sub := fun b hb => by rw [List.mem_singleton.mp hb]; exact .head _
  frame := fun i h h' st kp => ⟨st.1.stay fun o e => kp I (.head _) o e, kp a (.tail _ (.head _)) o st.2.1, st.2.2.at fun o e => kp tp (.tail _ (.tail _ (.head _))) o e⟩
  item := fun i s Q E hi st hQ => by
    have hl : ps.length = ss.length := by have := hps.length_eq; rw [List.length_range, x.size] at this; exact this
    have hi' : i < ps.length := by omega
    have hp : ps[i] < es.size := List.mem_range.mp (hps.mem_iff.mp (List.getElem_mem hi'))
    have e1 : (ps.map fun (p : Nat) => rawInt (p : Int)).toArray[i]? = some (rawInt (ps[i] : Int)) := by rw [List.getElem?_toArray, List.getElem?_map, List.getElem?_eq_getElem hi']; rfl
    have e2 : es[ps[i]]? = some es[ps[i]] := Array.getElem?_eq_getElem hp
    refine sitT_item (p := ps[i]) (v := (es[ps[i]]).2) st.1 st.2.1 x st.2.2 e1 (by rw [e2]; rfl) fun h' hit' sb => ?_
    refine hQ _ h' s.toks ?_ ⟨hit', (sb.2 a hne).trans st.2.1, st.2.2.at fun o e => (sb.2 tp hnt).trans e⟩ fun b ob hb e => (sb.2 b (by simpa using hb)).trans e
    rw [List.getElem?_map, List.getElem?_eq_getElem hi']
    show some (es.getD ps[i] (0, .none)).2 = _
    rw [Array.getD_eq_getD_getElem?, e2]; rfl
  done := fun s Q E st hQ => by
    have hl : ps.length = ss.length := by have := hps.length_eq; rw [List.length_range, x.size] at this; exact this
    have e1 : (ps.map fun (p : Nat) => rawInt (p : Int)).toArray[ss.length]? = none := by rw [← hl]; simp
    exact sitT_end hh st.1 st.2.1 x st.2.2 e1 fun h' kp => hQ h' s.toks fun b ob hb e => kp b ob (by simpa using hb) e
  self := fun i s Q E st hQ => sit_self st.1 hQ
theorem below_one0 {p : Array Nat} (h : p.size = 1) : SetTable.below p 0 = 0 := by
  unfold SetTable.below
  rw [h]
  show (if 0 < 1 then if p.getD 0 0 < 0 then _ else _ else _) = 0
  rw [if_pos (by decide), if_neg (Nat.not_lt_zero _)]
  rfl
theorem below_one1 {p : Array Nat} {j : Nat} (h : p.size = 1) (hj : p[0]? = some j) : SetTable.below p (j + 1) = 1 := by
  unfold SetTable.below
  rw [h]
  show (if 0 < 1 then if p.getD 0 (j + 1) < j + 1 then _ else _ else _) = 1
  rw [if_pos (by decide), if_pos (by rw [Array.getD_eq_getD_getElem?, hj]; exact Nat.lt_succ_self j)]
  rfl
theorem below_nil {p : Array Nat} (j : Nat) (h : p.size = 0) : SetTable.below p j = 0 := by
  unfold SetTable.below
  rw [h]; rfl
/-- none or one -/
theorem walk_few {a I : Addr} {o : Obj} {ss : List Str} {es : Array (Int × Value)} {ep : Nat} {t : SetTable} (hh : A.handled = none) (hb : w.params.followText "set-order" = false) (x : TextSet w o ss es ep t) (h1 : es.size ≤ 1) (hne : a ≠ I) :
    Walks prog w A I [I, a] [I] ss.length (fun i v => (es.toList.map (·.2))[i]? = some v) (fun i h => IsSit h I (rawInt ((if i = 0 then 0 else t.place.getD 0 0 + 1 : Nat) : Int)) i a es.size ep ∧ h.get? a = some o) where
  sub := fun b hb => by rw [List.mem_singleton.mp hb]; exact .head _
  frame := fun i h h' st kp => ⟨st.1.stay fun o e => kp I (.head _) o e, kp a (.tail _ (.head _)) o st.2⟩
  item := fun i s Q E hi st hQ => by
    have hs := x.size
    have hi0 : i = 0 := by omega
    subst hi0
    have hz : es.size = 1 := by omega
    have hpz : t.place.size = 1 := by
      have := x.fit
      unfold SetTable.fits at this
      rw [hz] at this
      simp at this; exact this.1
    have hp0 : t.place[0]? = some t.place[0] := Array.getElem?_eq_getElem (by omega)
    have he0 : es[0]? = some es[0] := Array.getElem?_eq_getElem (by omega)
    have hd0 : t.place.getD 0 0 = t.place[0] := by rw [Array.getD_eq_getD_getElem?, hp0]; rfl
    refine sit_item (slot := 0) (next := t.place[0] + 1) (v := (es[0]).2) st.1 hne st.2 x (fun A E Q q => nx_few hb st.2 x h1 (by rw [below_one0 hpz, hp0, he0]; exact q)) fun h' hit' sb => ?_
    refine hQ _ h' s.toks (by rw [List.getElem?_map, Array.getElem?_toList, he0]; rfl) ⟨?_, (sb.2 a hne).trans st.2⟩ fun b ob hb e => (sb.2 b (by simpa using hb)).trans e
    rw [if_neg (Nat.succ_ne_zero _), hd0]
    exact hit'
  done := fun s Q E st hQ => by
    have hs := x.size
    have hpz : t.place.size = es.size := by
      have := x.fit
      unfold SetTable.fits at this
      simp at this; exact this.1
    by_cases hz : es.size = 0
    · have e0 : ss.length = 0 := by omega
      rw [e0, if_pos rfl] at st
      have : es[0]? = none := Array.getElem?_eq_none (by omega)
      exact sit_end (slot := 0) hh st.1 hne st.2 x (fun A E Q q => nx_few hb st.2 x h1 (by rw [below_nil 0 (by omega), this]; exact q)) fun h' kp => hQ h' s.toks fun b ob hb e => kp b ob (by simpa using hb) e
    · have hz1 : es.size = 1 := by omega
      have e0 : ss.length = 1 := by omega
      rw [e0, if_neg (by decide)] at st
      have hp0 : t.place[0]? = some t.place[0] := Array.getElem?_eq_getElem (by omega)
      have hd0 : t.place.getD 0 0 = t.place[0] := by rw [Array.getD_eq_getD_getElem?, hp0]; rfl
      rw [hd0] at st
      have : es[1]? = none := Array.getElem?_eq_none (by omega)
      exact sit_end (slot := t.place[0] + 1) hh st.1 hne st.2 x (fun A E Q q => nx_few hb st.2 x h1 (by rw [below_one1 (by omega) hp0, this]; exact q)) fun h' kp => hQ h' s.toks fun b ob hb e => kp b ob (by simpa using hb) e
  self := fun i s Q E st hQ => sit_self st.1 hQ
end
end L2

set_option Elab.async false
set_option linter.all false
set_option maxRecDepth 100000
set_option maxHeartbeats 8000000
namespace L2
open PySem PySem.Spec PyProof.Rows PySem.W PySem.Calls
theorem getD_range (es : Array (Int × Value)) : (List.range es.size).map (fun p => es.getD p (0, .none)) = es.toList := by
  apply List.ext_getElem
  · simp
  · intro i h1 h2
    simp at h1
    simp [h1]
section
variable {prog : Program} {w : World} {A : Around} {E : Value → Shared → Prop} {s : Shared}
/-- iter of a set of texts -/
theorem iter_texts {a : Addr} {o : Obj} {ss : List Str} {es : Array (Int × Value)} {ep : Nat} {t : SetTable} {Q : Value → Shared → Prop} (hh : A.handled = none) (ho : s.heap.get? a = some o) (x : TextSet w o ss es ep t)
    (h : ∀ (s₁ : Shared) (I : Addr) (fp : List Addr) (ws : List Value) (St : Nat → Heap → Prop), SetWalk prog w A s s₁ a I ss fp ws St → Q (.ref I) s₁) : wpAny (model prog w) A (pyIter (.ref a)) Q E s := by
  have hT : s.TypeIs (.ref a) "set" := ⟨o, ho, x.cls⟩
  have hla : a < s.heap.objs.size := Heap.lt_size ho
  refine wpAny_pyIter_slot hT PySem.F.slot_set_iter (wpAny_call_entry PySem.F.slot_set_iter hT set_entry_iter ?_ (PySem.F.args_set_iter_1 _))
  unfold Builtin.«frozenset.__iter__» Builtin.Frozenset.slot0
  refine wpAny_bind (wpAny_bind (wpAny_of_eq (a := (Value.ref a, [])) rfl (wpAny_pure ?_)))
  unfold Builtin.Frozenset.sizeOf
  refine wpAny_bind (wpAny_bind (wpAny_setEntries_of ho x.dat x.fit (wpAny_pure ?_)))
  unfold setDrawn
  refine wpAny_bind ?_
  refine wpAny_bind (wpAny_setState_of ho x.dat x.fit ?_)
  dsimp only
  unfold setsByText
  refine wpAny_bind (wpAny_bind (wpAny_askSetting (wpAny_pure (wpAny_pure ?_))))
  show wpAny _ _ (if (!w.params.followText "set-order" && (!t.plain && decide (es.size > 1))) = true then _ else _) _ _ s
  by_cases hc : (!w.params.followText "set-order" && (!t.plain && decide (es.size > 1))) = true
  · rw [if_pos hc]
    refine wpAny_bind (draw_order es.size (List.range es.size) s _ (List.length_range).symm fun ps d hps => ?_)
    have hpl : ps.length = ss.length := by have := hps.length_eq; rw [List.length_range, x.size] at this; exact this
    have hfew := x.few
    refine wpAny_bind (wpAny_newTuple (items := ps.map fun (i : Nat) => rawInt (i : Int)) ?_ (by rw [List.length_map, sizeLine_eq]; omega))
    have ho1 : (s.heap.push { cls := .type "tuple", data := .seq (ps.map fun (i : Nat) => rawInt (i : Int)).toArray }).get? a = some o := Heap.get?_push_of_some _ ho
    refine wpAny_bind (wpAny_setEpoch_of (s := { s with heap := s.heap.push { cls := .type "tuple", data := .seq (ps.map fun (i : Nat) => rawInt (i : Int)).toArray }, drawn := d }) ho1 x.dat x.fit ?_)
    refine wpAny_bind (wpAny_newObj_type (wpAny_pure ⟨_, rfl, "set_iterator", _, ⟨_, Heap.get?_push_size _ rfl, rfl⟩, sit_slot_next.lookup, ?_⟩))
    have hsz : (s.heap.push { cls := .type "tuple", data := .seq (ps.map fun (i : Nat) => rawInt (i : Int)).toArray }).objs.size = s.heap.objs.size + 1 := size_push' ..
    have hI : a ≠ (s.heap.push { cls := .type "tuple", data := .seq (ps.map fun (i : Nat) => rawInt (i : Int)).toArray }).objs.size := by rw [hsz]; exact Nat.ne_of_lt (Nat.lt_succ_of_lt hla)
    have hI2 : s.heap.objs.size ≠ (s.heap.push { cls := .type "tuple", data := .seq (ps.map fun (i : Nat) => rawInt (i : Int)).toArray }).objs.size := by rw [hsz]; exact Nat.ne_of_lt (Nat.lt_succ_self _)
    have W := walk_drawn (prog := prog) (A := A) hh x hI hI2 hps
    refine h _ _ _ _ _ ⟨rfl, rfl, rfl, fun b ob e => Heap.get?_push_of_some _ (Heap.get?_push_of_some _ e), fun b hb => ?_, ?_, W, ?_, ?_⟩
    · rcases List.mem_cons.mp hb with e | hb
      · rw [e, hsz]; exact .inr (Nat.le_succ _)
      · rcases List.mem_cons.mp hb with e | hb
        · exact .inl e
        · rw [List.mem_singleton.mp hb]; exact .inr (Nat.le_refl _)
    · rw [hsz]; exact Nat.le_succ _
    · exact ⟨⟨_, Heap.get?_push_size _ rfl, rfl, rfl⟩, Heap.get?_push_of_some _ ho1, ⟨_, Heap.get?_push_of_some _ (Heap.get?_push_size _ rfl), rfl, _, rfl⟩⟩
    · have e1 : (ps.map fun p => (es.getD p (0, .none)).2) = (ps.map fun p => es.getD p (0, .none)).map (·.2) := by rw [List.map_map]; rfl
      rw [e1]
      refine strs_of_es x ?_
      have := hps.map fun p => es.getD p ((0 : Int), Value.none)
      rw [getD_range] at this; exact this
  · rw [if_neg hc]
    refine wpAny_bind (wpAny_pure ?_)
    refine wpAny_bind (wpAny_setEpoch_of ho x.dat x.fit ?_)
    refine wpAny_bind (wpAny_newObj_type (wpAny_pure ⟨_, rfl, "set_iterator", _, ⟨_, Heap.get?_push_size _ rfl, rfl⟩, sit_slot_next.lookup, ?_⟩))
    have hI : a ≠ s.heap.objs.size := Nat.ne_of_lt hla
    have nw : ∀ b ∈ [s.heap.objs.size, a], b = a ∨ s.heap.objs.size ≤ b := fun b hb => by
      rcases List.mem_cons.mp hb with e | hb
      · rw [e]; exact .inr (Nat.le_refl _)
      · exact .inl (List.mem_singleton.mp hb)
    cases hb : w.params.followText "set-order" with
    | true => exact h _ _ _ _ _ ⟨rfl, rfl, rfl, fun b ob e => Heap.get?_push_of_some _ e, nw, Nat.le_refl _, walk_text hh hb x hI, ⟨⟨_, Heap.get?_push_size _ rfl, rfl, rfl⟩, Heap.get?_push_of_some _ ho⟩, strs_of_es x (pickOrder_perm _ es)⟩
    | false =>
      have h1 : es.size ≤ 1 := by
        rcases x.pla with z | z
        · omega
        · rw [hb, z] at hc
          simp at hc; omega
      exact h _ _ _ _ _ ⟨rfl, rfl, rfl, fun b ob e => Heap.get?_push_of_some _ e, nw, Nat.le_refl _, walk_few hh hb x h1 hI, ⟨⟨_, Heap.get?_push_size _ rfl, rfl, rfl⟩, Heap.get?_push_of_some _ ho⟩, strs_of_es x (List.Perm.refl _)⟩
theorem set_len_look : typeLookup (.type "set") "__len__" = pure (some (.builtin "set.__len__")) := by rw [typeLookup_type, builtinLookup_eq_fast]; kernel_rfl
theorem hint_set {r : Addr} {Q : Bool → Shared → Prop} (hT : s.TypeIs (.ref r) "set") (h : ∀ b, Q b s) : wpAny (model prog w) A (Builtin.List.listLengthHint (.ref r)) Q E s := by
  unfold Builtin.List.listLengthHint
  refine wpAny_bind (wpAny_specialOf hT set_len_look ?_)
  generalize hid : ("set.__len__" : String) = id0
  wp_delta
  rw [show splitId id0 = some ("set", "__len__") from by subst hid; decide +kernel]
  subst hid
  refine wpAny_bind (wpAny_isInstance (T := "set") (b := true) hT (by rw [isSubtype_type]; kernel_rfl) ?_)
  refine wpAny_ite_split (fun z => absurd z (by decide)) (fun _ => ?_)
  refine wpAny_ite_split (fun _ => ?_) (fun z => absurd (by decide +kernel) z)
  refine wpAny_bind (wpAny_typeOf hT ?_)
  exact wpAny_pure (h _)
end
end L2

set_option Elab.async false
set_option linter.all false
set_option maxRecDepth 100000
set_option maxHeartbeats 8000000
namespace L2
open PySem PySem.Spec PyProof.Rows PySem.W PySem.Calls
section
variable {prog : Program} {w : World} {A : Around} {E : Value → Shared → Prop} {s : Shared}
theorem items_eq {ws : List Value} {n : Nat} {acc : Array Value} (hw : ws.length = n) (h : ItemsOf (fun i v => ws[i]? = some v) acc n) : acc.toList = ws := by
  apply List.ext_getElem?
  intro i
  by_cases hi : i < acc.size
  · have e : acc.toList[i]? = some acc[i] := by rw [Array.getElem?_toList]; exact Array.getElem?_eq_getElem hi
    rw [e]
    exact (h.2 i acc[i] (Array.getElem?_eq_getElem hi)).symm
  · have h1 := h.1
    rw [List.getElem?_eq_none (by rw [Array.length_toList]; omega), List.getElem?_eq_none (by omega)]
theorem extend_texts {R : Result → Shared → Prop} {a S : Addr} {o : Obj} {ss : List Str} {es : Array (Int × Value)} {ep : Nat} {t : SetTable} (hh : A.handled = none) (ho : s.heap.get? a = some o) (x : TextSet w o ss es ep t) (res : Value) (c₀ : Nat)
    (hSa : S ≠ a) (hS : s.heap.get? S = some { cls := .type "list", data := .seq #[] c₀ })
    (hR : ∀ (s' : Shared) acc c' ss', s'.os = s.os → s'.gens = s.gens → (∀ b o, b ≠ S → s.heap.get? b = some o → s'.heap.get? b = some o) → s'.heap.get? S = some { cls := .type "list", dict := none, data := .seq acc c', slots := #[] } → StrsAre acc.toList ss' → ss'.Perm ss → R (.ok (.ret res)) s') :
    wpAny (model prog w) A.in1 (Builtin.List.listExtendWith (.ref S) (.ref a) res)
      (fun fin s' => match fin with | .done f => R (.ok f) s' | .again c' => c'.quiet = true ∧ codeAny (model prog w) A c' R s') (fun e s' => R (.error e) s') s := by
  have hT : s.TypeIs (.ref a) "set" := ⟨o, ho, x.cls⟩
  have hSlt : S < s.heap.objs.size := Heap.lt_size hS
  have hfew := x.few
  unfold Builtin.List.listExtendWith
  refine wpAny_bind (wpAny_typeOf (T := "set") hT ?_)
  have n1 : Builtin.List.listSameRef (.ref S) (.ref a) = false := by simp [Builtin.List.listSameRef, hSa]
  have n2 : (Value.type "set" == Value.type "list") = false := by decide
  have n3 : (Value.type "set" == Value.type "tuple") = false := by decide
  simp only [n1, n2, n3, Bool.or_false, Bool.false_eq_true, if_false]
  refine wpAny_bind (iter_texts (A := A.in1) hh ho x fun s₁ I fp ws St K => ?_)
  obtain ⟨ss', hw1, hw2⟩ := K.txt
  have hws : ws.length = ss.length := by rw [StrsAre.length hw1]; exact hw2.length_eq
  have hSf : S ∉ fp := fun z => (K.new S z).elim hSa fun q => Nat.lt_irrefl _ (Nat.lt_of_lt_of_le hSlt q)
  have hSI : S ≠ I := fun e => Nat.lt_irrefl _ (Nat.lt_of_lt_of_le hSlt (e ▸ K.newI))
  have hn : ss.length ≤ sizeLine := by rw [sizeLine_eq]; omega
  have key : ∀ (h : Heap) (c₁ : Nat), St 0 h → (∀ b o, b ≠ S → s₁.heap.get? b = some o → h.get? b = some o) → h.get? S = some { cls := .type "list", data := .seq #[] c₁ } →
      codeAny (model prog w) A (.builtin "list.extend.loop" ⟨[.ref S, .ref I, res], []⟩) R { s₁ with heap := h } := by
    intro h c₁ st hk hS1
    refine codeAny_extend_loopS K.wk.toS hn S hSf res ss.length 0 _ #[] c₁ rfl (Nat.zero_le _) st hS1 (ItemsOf.nil _) fun s' acc c' hm hS' hacc => ?_
    rw [← items_eq hws hacc] at hw1
    refine hR s' acc c' ss' (hm.os.trans K.os) ((show s'.gens = s₁.gens from hm.gens).trans K.gens) (fun b ob hb e => hm.heap b ob (fun z => ?_) (hk b ob hb (K.keep b ob e))) hS' hw1 hw2
    rcases List.mem_cons.mp z with z | z
    · exact hb z
    · exact absurd (Heap.lt_size e) (by rw [List.mem_singleton.mp z]; exact Nat.not_lt.mpr K.newI)
  have hS1 := K.keep _ _ hS
  have hT1 : s₁.TypeIs (.ref a) "set" := ⟨o, K.keep _ _ ho, x.cls⟩
  refine wpAny_bind (wpAny_holding (hint_set hT1 fun hb => ?_))
  refine wpAny_ite_split (fun _ => ?_) (fun _ => wpAny_pure ⟨plainId_quiet PySem.F.plain_extend_loop _, key _ c₀ K.st (fun b ob _ e => e) hS1⟩)
  refine wpAny_bind (wpAny_rule ?_)
  refine wpAny_bind ?_
  show wpAny _ _ (updateSeq S (·.push .none) >>= fun _ => updateSeq S (·.pop)) _ _ _
  refine wpAny_bind (wpAny_updateSeq hS1 rfl ?_)
  have hS2 := Heap.get?_update_self (Obj.mapSeq (·.push Value.none)) hS1 rfl
  refine wpAny_updateSeq (hz := by seq_fits) hS2 rfl ?_
  have hS3 := Heap.get?_update_self (Obj.mapSeq (·.pop)) hS2 rfl
  refine wpAny_pure ⟨plainId_quiet PySem.F.plain_extend_loop _, key _ _ (K.wk.frame 0 _ _ K.st fun b hb ob e => ?_) (fun b ob hb e => ?_) hS3⟩
  · have hbS : b ≠ S := fun z => hSf (z ▸ hb)
    exact (Heap.get?_update_other _ _ (Ne.symm hbS)).trans ((Heap.get?_update_other _ _ (Ne.symm hbS)).trans e)
  · exact (Heap.get?_update_other _ _ (Ne.symm hb)).trans ((Heap.get?_update_other _ _ (Ne.symm hb)).trans e)
theorem collect_texts {R : List Value → Shared → Prop} {a : Addr} {o : Obj} {ss : List Str} {es : Array (Int × Value)} {ep : Nat} {t : SetTable} (hh : A.handled = none) (ho : s.heap.get? a = some o) (x : TextSet w o ss es ep t)
    (h : ∀ (s' : Shared) (acc : List Value) ss', s'.os = s.os → s'.gens = s.gens → (∀ b o, s.heap.get? b = some o → s'.heap.get? b = some o) → StrsAre acc ss' → ss'.Perm ss → R acc s') :
    wpAny (model prog w) A (collect (.ref a)) R E s := by
  unfold collect
  refine wpAny_bind (wpAny_runValue (codeAny_builtin entry_proto_collect' ?_))
  rw [Around.under_plainId PySem.F.plain_proto_collect _]
  show wpAny _ A.in1 (newList [] >>= fun l => again (.builtin "list.__iadd__" ⟨[l, .ref a], []⟩)) _ _ s
  refine wpAny_bind (wpAny_newObj_type ?_)
  refine wpAny_pure ⟨plainId_quiet PySem.F.plain_list_iadd _, codeAny_builtin entry_list_iadd' ?_⟩
  rw [Around.under_plainId PySem.F.plain_list_iadd _]
  have hS1 : (s.heap.push { cls := .type "list", data := .seq ([] : List Value).toArray }).get? s.heap.objs.size = some { cls := .type "list", data := .seq #[] } := Heap.get?_push_size _ rfl
  have hla : s.heap.objs.size ≠ a := Nat.ne_of_gt (Heap.lt_size ho)
  show wpAny _ A.in1 (Builtin.List.listExtendWith (.ref s.heap.objs.size) (.ref a) (.ref s.heap.objs.size)) _ _ _
  have key := extend_texts (prog := prog) (A := A) (s := { s with heap := s.heap.push { cls := .type "list", data := .seq ([] : List Value).toArray } })
    (R := fun (q : Result) (s' : Shared) => ∃ (acc : Array Value) (c' : Nat) (ss' : List Str), q = .ok (.ret (.ref s.heap.objs.size)) ∧ s'.os = s.os ∧ s'.gens = s.gens ∧
      (∀ b o, s.heap.get? b = some o → s'.heap.get? b = some o) ∧ s'.heap.get? s.heap.objs.size = some { cls := .type "list", dict := none, data := .seq acc c', slots := #[] } ∧ StrsAre acc.toList ss' ∧ ss'.Perm ss)
    hh (Heap.get?_push_of_some _ ho) x (.ref s.heap.objs.size) 0 hla hS1
    (fun s' acc c' ss' z1 z2 z3 z4 z5 z6 => ⟨acc, c', ss', rfl, z1, z2, fun b ob e => z3 b ob (Nat.ne_of_lt (Heap.lt_size e)) (Heap.get?_push_of_some _ e), z4, z5, z6⟩)
  refine wpAny_mono key (fun fin s' y => ?_) fun e s' y => ?_
  · cases fin with
    | done f =>
      obtain ⟨acc, c', ss', e, z1, z2, z3, z4, z5, z6⟩ := y
      cases e
      show wpAny _ A (load s.heap.objs.size >>= _) _ _ _
      exact wpAny_bind (wpAny_load z4 (wpAny_pure (h s' acc.toList ss' z1 z2 z3 z5 z6)))
    | again c₁ =>
      refine ⟨y.1, codeAny_mono y.2 fun q s₂ y => ?_⟩
      obtain ⟨acc, c', ss', rfl, z1, z2, z3, z4, z5, z6⟩ := y
      show wpAny _ A (load s.heap.objs.size >>= _) _ _ _
      exact wpAny_bind (wpAny_load z4 (wpAny_pure (h s₂ acc.toList ss' z1 z2 z3 z5 z6)))
  · obtain ⟨_, _, _, e', _⟩ := y
    cases e'
end
end L2

set_option Elab.async false
set_option linter.all false
set_option maxRecDepth 100000
set_option maxHeartbeats 8000000
namespace L2
open PySem PySem.Spec PyProof.Rows PySem.W PySem.Calls
/-- a set of texts in the layer's heap -/
noncomputable def SetT (w : World) (a : Addr) (ss : List Str) : HO := .ext fun h => ∃ o es ep t, h.get? a = some o ∧ TextSet w o ss es ep t
section
variable {X : Cx}
theorem setT_ok {P : Program} {w : World} {H : Hp} {h : Heap} {a : Addr} {ss : List Str} {o : Obj} {es : Array (Int × Value)} {ep : Nat} {t : SetTable} (ho : h.get? a = some o) (x : TextSet w o ss es ep t) : ObjOk P w H h a (SetT w a ss) :=
  ⟨⟨o, es, ep, t, ho, x⟩, ⟨o, ho⟩, fun h1 h2 ⟨o, es, ep, t, q, y⟩ k => ⟨o, es, ep, t, k o q, y⟩⟩
theorem Inv.draw {pins : List (Addr × Obj)} {σ : List (Option V)} {H : Hp} {s s' : Shared} (I : Inv X pins σ H s) (h1 : s'.os = s.os) (h2 : s'.gens = s.gens) (h3 : s'.heap = s.heap) : Inv X pins σ H s' := by
  obtain ⟨a1, a2, a3, a4, a5, a6, a7, a8, a9, a10, a11⟩ := I
  exact ⟨a1, h1.trans a2, by rw [h2]; exact a3, by rw [h3]; exact a4, by rw [h3]; exact a5, by rw [h3]; exact a6, a7, a8, by rw [h3]; exact a9, by rw [h3]; exact a10, a11⟩
/-- set(tuple of texts) -/
theorem call_setTu (hc : X.calm = true) : CallR X (.type "set") (fun xs H Q => ∃ (p : Addr) (ss : List Str), xs = [.ref p] ∧ SqT X.K H p (ss.map V.str) ∧ ss.length < 3000 ∧
    ∀ (a : Addr), H a = none → Q (.ref a) (upd H a (SetT X.w a (metS ss.reverse)))) := by
  intro pins s σ H xs us Q I r h
  obtain ⟨p, ss, rfl, hq, h3, q⟩ := h
  obtain ⟨u, rfl, rx⟩ := vals1 r
  cases rx
  obtain ⟨its, r', hp, hz⟩ := I.tuple hq
  refine made_set_tuple (I.ok.hd hc) hp r' (by omega) fun h' tk o' es' ep' t' kp ho x => ?_
  exact ⟨.ref s.heap.objs.size, _, I.laid (h' := h') (t' := tk) (o := SetT X.w s.heap.objs.size (metS ss.reverse)) kp (Nat.le_refl _) (setT_ok ho x), rfl, q _ (I.hok.fresh (Nat.le_refl _))⟩
/-- set(list of texts) -/
theorem call_setLi (hc : X.calm = true) : CallR X (.type "set") (fun xs H Q => ∃ (p : Addr) (ss : List Str), xs = [.ref p] ∧ SqL X.K H p (ss.map V.str) ∧ ss.length < 3000 ∧
    ∀ (a : Addr), H a = none → Q (.ref a) (upd H a (SetT X.w a (metS ss.reverse)))) := by
  intro pins s σ H xs us Q I r h
  obtain ⟨p, ss, rfl, hq, h3, q⟩ := h
  obtain ⟨u, rfl, rx⟩ := vals1 r
  cases rx
  obtain ⟨its, r', hp, hz⟩ := I.list hq
  refine made_set_list (I.ok.hd hc) hp.isList r' (by omega) fun h' tk o' es' ep' t' kp ho x => ?_
  exact ⟨.ref s.heap.objs.size, _, I.laid (h' := h') (t' := tk) (o := SetT X.w s.heap.objs.size (metS ss.reverse)) kp (Nat.le_refl _) (setT_ok ho x), rfl, q _ (I.hok.fresh (Nat.le_refl _))⟩
/-- sorted(set of texts) -/
theorem call_sortedSet (hc : X.calm = true) : CallR X (.builtin "sorted") (fun xs H Q => ∃ (a : Addr) (ss : List Str), xs = [.ref a] ∧ H a = some (SetT X.w a ss) ∧ ss.length < 64 ∧
    ∀ (ss' : List Str) (q : Addr), ss'.Perm ss → sortedS ss' = true → H q = none → Q (.ref q) (upd H q (.lst (ss'.map V.str)))) := by
  intro pins s σ H xs us Q I r h
  obtain ⟨a, ss, rfl, ha, h64, q⟩ := h
  obtain ⟨u, rfl, rx⟩ := vals1 r
  cases rx
  obtain ⟨⟨o, es, ep, t, ho, x⟩, _, _⟩ := I.hok a _ ha
  refine call_function_entry kind_sorted plain_sorted entry_sorted (args_sorted1 _) ?_
  unfold Builtin.«sorted»
  refine wpAny_bind (m := checkCount "sorted" 1 1 _) (wpAny_pure ?_)
  refine wpAny_bind (collect_texts (A := X.A.in1) (I.ok.hd hc) ho x fun s1 acc ss1 z1 z2 kp hS hpm => ?_)
  have hl1 : acc.length = ss.length := by rw [StrsAre.length hS]; exact hpm.length_eq
  refine wpAny_bind (wpAny_newList ?_ (by rw [hl1, sizeLine_eq]; omega))
  have hoL : (s1.heap.push (seqObj "list" acc.toArray 0)).get? s1.heap.objs.size = some (seqObj "list" acc.toArray 0) := Heap.get?_push_size _ rfl
  show wpAny _ _ _ _ _ { s1 with heap := s1.heap.push (seqObj "list" acc.toArray 0) }
  refine wpAny_bind (wpAny_holding (wpAny_call_entry slot_list_sort ⟨_, hoL, rfl⟩ entry_list_sort (list_sort_treeK (s := { s1 with heap := s1.heap.push (seqObj "list" acc.toArray 0) }) strKind_oneLt hoL hS.keysOf (fun v₁ v₂ rest e => keyKind_strs (by rw [← e]; exact hS)) (by rw [hl1]; omega) fun st' a1 a2 => ⟨_, rfl, ?_⟩) (args_list_sort _)))
  obtain ⟨ss', h1, h2, h3⟩ := sorted_out_str hS a1 a2
  refine wpAny_pure ⟨_, rfl, ?_⟩
  obtain ⟨e, he⟩ := sortedHeap_at (h := s1.heap.push (seqObj "list" acc.toArray 0)) (out := (arrOf st').map (·.2)) hoL
  have hnone : s.heap.get? s1.heap.objs.size = none := by
    cases e0 : s.heap.get? s1.heap.objs.size with
    | none => rfl
    | some o => exact absurd (Heap.lt_size (kp _ _ e0)) (Nat.lt_irrefl _)
  have hold : ∀ b o, s.heap.get? b = some o → (sortedHeap (s1.heap.push (seqObj "list" acc.toArray 0)) s1.heap.objs.size acc ((arrOf st').map (·.2))).get? b = some o := fun b o eb => by
    have l1 := Heap.lt_size (kp b o eb)
    rw [sortedHeap_old (Nat.ne_of_lt l1) (by rw [size_push']; exact Nat.lt_succ_of_lt l1)]
    exact Heap.get?_push_of_some _ (kp b o eb)
  have hfr : H s1.heap.objs.size = none := I.hok.freeN hnone
  have hv' : Vals (ss'.map V.str) ((arrOf st').map (·.2)).toList := vals_strs h1
  have I2 := I.laidN (h' := sortedHeap (s1.heap.push (seqObj "list" acc.toArray 0)) s1.heap.objs.size acc ((arrOf st').map (·.2))) (t' := s1.toks) (o := .lst (ss'.map V.str)) hold hnone ⟨(by rw [List.length_map, (h2.trans hpm).length_eq, sizeLine_eq]; omega), ((arrOf st').map (·.2)).toList, e, hv', (by rw [Array.toArray_toList]; exact he)⟩
  exact ⟨.ref s1.heap.objs.size, _, I2.draw z1 z2 rfl, rfl, q ss' _ (h2.trans hpm) h3 hfr⟩
end
end L2

set_option Elab.async false
set_option linter.all false
set_option maxRecDepth 100000
set_option maxHeartbeats 4000000
namespace K11
open PySem L2

noncomputable def top (i : Nat) : Stmt := PySem.Challenge.pw_rootshares_k11_webs_told_apart.main.body.getD i (.Pass ⟨0, 0, 0, 0⟩)

/-! ### what the text finds at its top -/
theorem b_isinstance : bootBuiltins "isinstance" = some (.builtin "isinstance") := by decide +kernel
theorem b_all : bootBuiltins "all" = some (.builtin "all") := by decide +kernel
theorem b_sorted : bootBuiltins "sorted" = some (.builtin "sorted") := by decide +kernel
theorem b_repr : bootBuiltins "repr" = some (.builtin "repr") := by decide +kernel
theorem b_max : bootBuiltins "max" = some (.builtin "max") := by decide +kernel
theorem b_min : bootBuiltins "min" = some (.builtin "min") := by decide +kernel
theorem b_str : bootBuiltins "str" = some (.type "str") := by decide +kernel
theorem b_tuple : bootBuiltins "tuple" = some (.type "tuple") := by decide +kernel
theorem b_list : bootBuiltins "list" = some (.type "list") := by decide +kernel
theorem b_bool : bootBuiltins "bool" = some (.type "bool") := by decide +kernel
theorem b_int : bootBuiltins "int" = some (.type "int") := by decide +kernel
structure Bl (mg : Str → Option Value) : Prop where
  len : mg "len" = none
  isinstance : mg "isinstance" = none
  all : mg "all" = none
  range : mg "range" = none
  sorted : mg "sorted" = none
  repr : mg "repr" = none
  max : mg "max" = none
  min : mg "min" = none
  str : mg "str" = none
  tuple : mg "tuple" = none
  list : mg "list" = none
  int : mg "int" = none
  set : mg "set" = none
  bool : mg "bool" = none
  lng : ∃ t, mg "LONGEST_NAME" = some (.int 8 t)

/-- a def of the text that keeps its promise -/
noncomputable def Fn (P : Program) (w : World) (K : PySem.W.Frag) (mg : Str → Option Value) (base : Heap) (k : Nat) (x : Str) (ps : List Str) (sp : Sp) : Prop :=
  ∃ f fd, mg x = some (.ref f) ∧ PySem.W.keepIn K (.ref f) = true ∧ Binds K fd ps [] ∧ FnOk P w K mg base CX0 k f fd ps sp
theorem pe_fn {X : Cx} {k : Nat} {x : Str} {ps : List Str} {sp : Sp} {e : Expr} {es : List Expr} {t : TA} {p pos : Pos} (F : Fn X.prog X.w X.K X.mg X.base k x ps sp) (hr : Room k X.A) (ha : PA X (e :: es) t) (hg : Gl X x := by rfl)
    (hdb : (x == ("__debug__" : Str)) = false := by decide) (he : starEach (e :: es) X.env = (false, eval e X.env) :: starEach es X.env := by rfl) (hpl : (backTo pos (starEach es X.env)).any (·.1) = false := by rfl) :
    PE X (.Call (.Name x p) (e :: es) [] pos) (tCall sp [] E0 t) := by
  obtain ⟨f, fd, h1, h2, h3, h4⟩ := F
  exact pe_call h4 hr hg h1 h2 h3 .nil pass0 ha hdb he hpl
theorem pg_lc {X : Cx} {scope : Scope} {N : List Str} {C : Addr} {s0 : Shared} {H0 : Hp} {fp : List Addr} {x : Str} {pos : Pos} (i : Nat) (hN : N.Nodup) (hi : N[i]? = some x) (hx : scope.names.lookup x = some .local) :
    PG (cxLc X scope N C s0 H0 fp) (.Name x pos) (gName i) :=
  pg_name (X := cxLc X scope N C s0 H0 fp) hN hi (.inl (lookup_relabel_local hx)) (.inr (lookup_relabel_local hx))
theorem iteD {c A B : Prop} [Decidable c] (hc : c) (h : A) : if decide c = true then A else B := by
  rw [decide_eq_true hc]; exact iteT h
theorem iteDN {c A B : Prop} [Decidable c] (hc : ¬ c) (h : B) : if decide c = true then A else B := by
  rw [decide_eq_false hc]; exact iteF h
theorem lt1 (a b : Nat) : ([a] < [b]) ↔ a < b := by rw [List.cons_lt_cons_iff]; simp
/-! ### names -/
structure NameP (x : Str) : Prop where
  lo : 1 ≤ x.length
  hi : x.length ≤ 8
  az : ∀ c ∈ x.cps.toList, 97 ≤ c ∧ c ≤ 122
theorem NameP.fits {x : Str} (h : NameP x) : x.length < sizeLine := by have := h.hi; rw [sizeLine_eq]; omega
theorem NameP.ascii {x : Str} (h : NameP x) : x.cps.all (· < 128) = true := by
  rw [Array.all_eq_true']
  intro c hc
  have := h.az c (by simpa using hc)
  simp; omega

section
variable {P : Program} {w : World} {K : PySem.W.Frag} {mg : Str → Option Value} {base : Heap}

theorem same_upd {H H' : Hp} {p : Addr} {o : HO} (h : Same H H') (hp : H' p = none) : Same H (upd H' p o) := fun b ob e => by
  rw [upd_ne (ne_of_none (h b ob e) hp)]; exact h b ob e
end
end K11

set_option Elab.async false
set_option linter.all false
set_option maxRecDepth 100000
set_option maxHeartbeats 4000000
namespace K11
open PySem L2

/-! ### rules with the written part named -/
theorem ix_seqK (K : PySem.W.Frag) {X : Cx} (h : X.K = K := by rfl) : IxR X (rIx K) := by subst h; exact ix_seq
theorem notIn_seqK (K : PySem.W.Frag) {X : Cx} (h : X.K = K := by rfl) : OpR X (compareOp .NotIn) (rIn K true) := by subst h; exact op_notIn_seq
/-! ### small readings -/
theorem atI_at {α : Type} {xs : List α} {z : Int} {j : Nat} {v : α} (hz : z = (j : Int)) (h : xs[j]? = some v) : atI xs z = some v := by subst hz; exact atI_nat h
noncomputable def Sq (K : PySem.W.Frag) (H : Hp) (p : Addr) (xs : List V) : Prop := SqL K H p xs ∨ SqT K H p xs
theorem same_tup {K : PySem.W.Frag} {H H' : Hp} {a : Addr} {xs : List V} (e : Same H H') (h : SqT K H a xs) : SqT K H' a xs := by
  rcases h with (h | ⟨o, h⟩) | h
  · exact .inl (.inl (e _ _ h))
  · exact .inl (.inr ⟨o, e _ _ h⟩)
  · exact .inr h
theorem Sq.same {K : PySem.W.Frag} {H H' : Hp} {a : Addr} {xs : List V} (h : Sq K H a xs) (e : Same H H') : Sq K H' a xs := h.imp (fun z => e.seq z) fun z => same_tup e z
theorem rix_of {K : PySem.W.Frag} {H : Hp} {p : Addr} {xs : List V} {z : Int} {j : Nat} {v : V} {Q : VK} (h : Sq K H p xs) (hz : z = (j : Int)) (hx : xs[j]? = some v) (q : Q v H) : rIx K (.ref p) (.int z) H Q :=
  h.elim (fun h => .inl ⟨p, xs, z, v, rfl, rfl, h, atI_at hz hx, q⟩) fun h => .inr (.inl ⟨p, xs, z, v, rfl, rfl, h, atI_at hz hx, q⟩)
theorem fits {n : Nat} (h : n ≤ 1000) : n < sizeLine := small1000 h
theorem strAt {ss : List Str} {i : Nat} (h : i < ss.length) : (ss.map V.str)[i]? = some (.str ss[i]) := by rw [List.getElem?_map, List.getElem?_eq_getElem h]; rfl
theorem in_strs (x : Str) (ss : List Str) : inV (.str x) (ss.map V.str) = decide (x ∈ ss) := by
  unfold inV
  rw [List.any_map]
  rw [Bool.eq_iff_iff, List.any_eq_true, decide_eq_true_iff]
  constructor
  · rintro ⟨y, hy, e⟩
    have e' : y = x := by simpa [eqV] using e
    exact e' ▸ hy
  · intro h
    exact ⟨x, h, by simp [eqV]⟩
theorem flat_strs (ss : List Str) : (ss.map V.str).all flatV = true := by
  rw [List.all_map, List.all_eq_true]
  intro y _
  rfl

/-! ### webs -/
noncomputable abbrev Row := Str × Str × Str
noncomputable def RowAt (H : Hp) (p : Addr) (r : Row) : Prop := H p = some (.tup [.str r.1, .str r.2.1, .str r.2.2])
noncomputable abbrev rrefs (rs : List (Addr × Row)) : List V := rs.map fun r => V.ref r.1
structure WebAt (H : Hp) (v pa ra : Addr) (ps : List Str) (rs : List (Addr × Row)) : Prop where
  tp : H v = some (.tup [.ref pa, .ref ra])
  pl : H pa = some (.tup (ps.map V.str))
  rl : H ra = some (.tup (rrefs rs))
  rows : ∀ r ∈ rs, RowAt H r.1 r.2
structure Good (ps : List Str) (rs : List Row) : Prop where
  ne : ps ≠ []
  nm : ∀ x ∈ ps, NameP x
  so : ps.Pairwise nlt
  rn : ∀ r ∈ rs, NameP r.1 ∧ r.2.1 ∈ ps ∧ r.2.2 ∈ ps ∧ r.2.1 ≠ r.2.2
  rso : (rs.map (·.1)).Pairwise nlt
  pz : ps.length ≤ 100
  rz : rs.length ≤ 60
theorem WebAt.same {H H' : Hp} {v pa ra : Addr} {ps : List Str} {rs : List (Addr × Row)} (h : WebAt H v pa ra ps rs) (e : Same H H') : WebAt H' v pa ra ps rs :=
  ⟨e _ _ h.tp, e _ _ h.pl, e _ _ h.rl, fun r hr => e _ _ (h.rows r hr)⟩

section
variable {P : Program} {w : World} {K : PySem.W.Frag} {mg : Str → Option Value} {base : Heap}

noncomputable def spRising (K : PySem.W.Frag) : Sp := fun vs H Q _ => ∃ (p : Addr) (ss : List Str), vs = [.ref p] ∧ Sq K H p (ss.map V.str) ∧ ss.Pairwise nlt ∧ ss.length ≤ 1000 ∧ ∀ H', Same H H' → Q (.bl true) H'
theorem sc3 : FnScope ["names"] ["names"] (defScope (top 3)) := ⟨rfl, rfl, rfl, by decide +kernel, rfl, by decide +kernel, by decide +kernel⟩
theorem ok_is_rising {f : Addr} {fd : FuncData} (F : Fun K "is_rising" "is_rising" (top 3) f fd) (B : Bl mg) : FnOk P w K mg base CX0 1 f fd ["names"] (spRising K) := by
  refine F.ok sc3 (fun vs H Q E h => ?_) (fun cdv A outer s H vs Q E hr h => ?_)
  · obtain ⟨p, ss, rfl, _⟩ := h
    rfl
  · obtain ⟨p, ss, rfl, hq, hp, hz, k⟩ := h
    refine ⟨_, pss_one (ps_ret (pe_callB (call_allB rfl) rfl B.all b_all (pa_cons (pe_lc (N := ["at", "names"]) (ix := [none, some 0]) ⟨rfl, rfl, rfl, by decide⟩ rfl
      (pi_range2 rfl B.range (pa_cons pe_int (pa_cons (pe_callB call_len_seq rfl B.len PySem.boot_len (pa_cons (pv 0) pa_nil)) pa_nil))) (fun _ _ _ _ => pg_lc 0 (by decide) rfl rfl) (fun _ _ _ _ => pts_nil)
      (fun _ _ _ _ => pe_cmpR op_lt_str (pe_ix (ix_seqK K) (pv 1) (pe_op op_sub (pv 0) pe_int) (fun _ _ => rfl)) (pe_ix (ix_seqK K) (pv 1) (pv 0) (fun _ _ => rfl)) (nomark _))) pa_nil))), ?_⟩
    have hz' : (ss.map V.str).length ≤ 1000 := by simpa using hz
    refine ⟨_, rfl, p, ss.map V.str, rfl, hq, 1, _, rfl, ⟨by decide, by decide, by omega, by omega⟩, lcw_range0 (fits (by omega)) (fun i ys σ H1 => ys = List.replicate i (.bl true) ∧ Same H H1 ∧ ∃ v, σ = [v, some (.ref p)])
      ⟨rfl, Same.refl _, _, rfl⟩ (fun i ys σ H1 _ q => by rw [q.1]; simp) ?_ ?_⟩
    · rintro i ys σ H1 hi ⟨rfl, hs, v, rfl⟩
      have hl : i + 1 < ss.length := by rw [List.length_map] at hi; omega
      refine ⟨_, rfl, _, rfl, _, _, rfl, rfl, rix_of (j := i) (hq.same hs) (by omega) (strAt (by omega)) ⟨_, rfl, _, rfl, rix_of (j := i + 1) (hq.same hs) (by push_cast; omega) (strAt hl) ⟨_, _, rfl, rfl, ?_, hs, _, rfl⟩⟩⟩
      have e : ss[i].cps.toList < ss[i + 1].cps.toList := List.pairwise_iff_getElem.mp hp i (i + 1) (by omega) hl (by omega)
      show _ ++ [V.bl (decide (ss[i].cps.toList < ss[i + 1].cps.toList))] = _
      rw [decide_eq_true e, List.replicate_succ']
    · rintro ys σ H1 ⟨rfl, hs, v, rfl⟩ q hqn
      refine ⟨q, List.replicate _ true, rfl, SqL.of (by rw [upd_same, List.map_replicate]), ?_⟩
      have e : ∀ n : Nat, (List.replicate n true).all id = true := by simp
      rw [e]
      exact k _ (same_upd hs hqn)

end
end K11

set_option Elab.async false
set_option linter.all false
set_option maxRecDepth 100000
set_option maxHeartbeats 4000000
namespace K11
open PySem L2

theorem take_map_succ {α β : Type} (f : α → β) (l : List α) (i : Nat) (x : α) (h : l[i]? = some x) : (l.take (i + 1)).map f = (l.take i).map f ++ [f x] := by
  rw [List.take_add_one, h]; simp
section
variable {P : Program} {w : World} {K : PySem.W.Frag} {mg : Str → Option Value} {base : Heap}

end
end K11

set_option Elab.async false
set_option linter.all false
set_option maxRecDepth 100000
set_option maxHeartbeats 4000000
namespace K11
open PySem L2

theorem take_filter_succ {α : Type} (p : α → Bool) (l : List α) (i : Nat) (x : α) (h : l[i]? = some x) : (l.take (i + 1)).filter p = (l.take i).filter p ++ (if p x then [x] else []) := by
  rw [List.take_add_one, h, List.filter_append]
  simp only [Option.toList_some, List.filter_cons, List.filter_nil]
theorem take_all {α : Type} (l : List α) {n : Nat} (h : n = l.length) : l.take n = l := by subst h; exact List.take_length
noncomputable abbrev nms (rs : List (Addr × Row)) : List Str := rs.map (·.2.1)
section
variable {P : Program} {w : World} {K : PySem.W.Frag} {mg : Str → Option Value} {base : Heap}

end
end K11

set_option Elab.async false
set_option linter.all false
set_option maxRecDepth 100000
set_option maxHeartbeats 4000000
namespace K11
open PySem L2

theorem perm_lift {α β : Type} (f : α → β) : ∀ (l' : List β) (l : List α), l'.Perm (l.map f) → ∃ l'' : List α, l''.Perm l ∧ l''.map f = l'
  | [], l, h => by
    have : l = [] := by simpa using h.length_eq.symm
    subst this
    exact ⟨[], .refl _, rfl⟩
  | b :: t, l, h => by
    obtain ⟨a, ha, rfl⟩ := List.mem_map.mp (h.mem_iff.mp List.mem_cons_self)
    obtain ⟨u, v, rfl⟩ := List.append_of_mem ha
    have h2 : (f a :: t).Perm (f a :: (u ++ v).map f) := by
      refine h.trans ?_
      rw [List.map_append, List.map_cons, List.map_append]
      exact List.perm_middle
    obtain ⟨w, hw, e⟩ := perm_lift f t (u ++ v) h2.cons_inv
    exact ⟨a :: w, (hw.cons a).trans List.perm_middle.symm, by rw [List.map_cons, e]⟩
theorem pw_nodup {ss : List Str} (h : ss.Pairwise nlt) : ss.Nodup := h.imp fun {a b} hab e => by
  subst e; exact absurd hab (List.lt_irrefl _)
section
variable {P : Program} {w : World} {K : PySem.W.Frag} {mg : Str → Option Value} {base : Heap}

end
end K11

set_option Elab.async false
set_option linter.all false
set_option maxRecDepth 100000
set_option maxHeartbeats 4000000
namespace K11
open PySem L2

noncomputable def Pot (H : Hp) (p : Addr) : Prop := ∃ a b, H p = some (.lst [.int a, .int b]) ∧ 0 ≤ b ∧ b < 2147483629
/-- all that was tracked but these is as it was -/
noncomputable def Kp (P : List Addr) (H H' : Hp) : Prop := ∀ b o, H b = some o → b ∉ P → H' b = some o
theorem Kp.refl (P : List Addr) (H : Hp) : Kp P H H := fun _ _ h _ => h
theorem Kp.trans {P : List Addr} {H H1 H2 : Hp} (a : Kp P H H1) (b : Kp P H1 H2) : Kp P H H2 := fun c o h n => b c o (a c o h n) n
theorem Kp.mono {P P' : List Addr} {H H' : Hp} (a : Kp P H H') (h : ∀ b ∈ P, b ∈ P') : Kp P' H H' := fun c o e n => a c o e fun z => n (h c z)
theorem Kp.same {P : List Addr} {H H' : Hp} (a : Same H H') : Kp P H H' := fun c o h _ => a c o h
theorem Kp.of_same {P : List Addr} {H H1 H2 : Hp} (a : Kp P H H1) (b : Same H1 H2) : Kp P H H2 := fun c o h n => b c o (a c o h n)
theorem Kp.inn {P : List Addr} {H H1 : Hp} {p : Addr} {o : HO} (a : Kp P H H1) (hp : p ∈ P) : Kp P H (upd H1 p o) := fun c ob h n => by rw [upd_ne (show c ≠ p from fun z => n (by rw [z]; exact hp))]; exact a c ob h n
theorem Kp.new {P : List Addr} {H H1 : Hp} {p : Addr} {o : HO} (a : Kp P H H1) (hp : H1 p = none) : Kp P H (upd H1 p o) := fun c ob h n => by rw [upd_ne (ne_of_none (a c ob h n) hp)]; exact a c ob h n
section
variable {P : Program} {w : World} {K : PySem.W.Frag} {mg : Str → Option Value} {base : Heap}

noncomputable def spAt (K : PySem.W.Frag) : Sp := fun vs H Q _ => ∃ (a : Addr) (ns : List Int) (k : Int), vs = [.ref a, .int k] ∧ SqL K H a (ns.map V.int) ∧ 0 ≤ k ∧ ∀ c, Q (.int c) H
theorem sc9 : FnScope ["_law_script", "_law_k"] ["_law_script", "_law_k"] (defScope (top 9)) := ⟨rfl, rfl, rfl, by decide +kernel, rfl, by decide +kernel, by decide +kernel⟩
theorem ok_at {f : Addr} {fd : FuncData} (F : Fun K "_law_at" "_law_at" (top 9) f fd) (B : Bl mg) : FnOk P w K mg base CX0 1 f fd ["_law_script", "_law_k"] (spAt K) := by
  refine F.ok sc9 (fun vs H Q E h => ?_) (fun cdv A outer s H vs Q E hr h => ?_)
  · obtain ⟨a, ns, k, rfl, _⟩ := h
    rfl
  · obtain ⟨a, ns, k, rfl, ha, hk, q⟩ := h
    refine ⟨_, pss_cons (ps_if (pt_cmpR op_lt (pv 1) (pe_callB call_len_seq rfl B.len PySem.boot_len (pa_cons (pv 0) pa_nil)) (nomark _)) (pss_one (ps_ret (pe_ix ix_seq (pv 0) (pv 1) (fun _ _ => rfl)))) pss_nil) (pss_one (ps_ret pe_int)), ?_⟩
    refine ⟨_, rfl, _, rfl, a, _, rfl, .inl ha, _, _, rfl, rfl, _, rfl, ?_⟩
    refine ite2 (fun c => ?_) (fun c => q 0)
    have c' : k < ((ns.map V.int).length : Int) := of_decide_eq_true c
    rw [List.length_map] at c'
    have hl : k.toNat < ns.length := by omega
    exact ⟨_, rfl, _, rfl, rix_of (j := k.toNat) (v := .int ns[k.toNat]) (.inl ha) (by omega) (by rw [List.getElem?_map, List.getElem?_eq_getElem hl]; rfl) (q _)⟩

noncomputable def spPot (K : PySem.W.Frag) : Sp := fun vs H Q _ => ∃ (a : Addr) (ns : List Int) (k : Int), vs = [.ref a, .int k] ∧ SqL K H a (ns.map V.int) ∧ 0 ≤ k ∧ k ≤ 100 ∧ ∀ q H', Same H H' → H q = none → Pot H' q → Q (.ref q) H'
theorem sc10 : FnScope ["_law_script", "_law_k", "_law_cell"] ["_law_script", "_law_k"] (defScope (top 10)) := ⟨rfl, rfl, rfl, by decide +kernel, rfl, by decide +kernel, by decide +kernel⟩
theorem ok_pot {f : Addr} {fd : FuncData} (F : Fun K "_law_pot" "_law_pot" (top 10) f fd) (B : Bl mg) (F1 : Fn P w K mg base 1 "_law_at" ["_law_script", "_law_k"] (spAt K)) : FnOk P w K mg base CX0 2 f fd ["_law_script", "_law_k"] (spPot K) := by
  refine F.ok sc10 (fun vs H Q E h => ?_) (fun cdv A outer s H vs Q E hr h => ?_)
  · obtain ⟨a, ns, k, rfl, _⟩ := h
    rfl
  · obtain ⟨a, ns, k, rfl, ha, hk, hk2, q⟩ := h
    refine ⟨_, pss_cons (ps_set (i := 2) sc10.nd rfl (Or.inl rfl) (pe_fn F1 hr (pa_cons (pv 0) (pa_cons (pv 1) pa_nil))))
      (pss_one (ps_ret (pe_lst (pa_cons (pe_callB (call_max2 rfl) rfl B.max b_max (pa_cons pe_int (pa_cons (pe_op op_sub (pv 2) (pe_op op_pow pe_int pe_int)) pa_nil)))
        (pa_cons (pe_op op_mod (pe_op op_add (pe_op op_mod (pv 2) pe_int) (pe_op op_mul pe_int (pe_op op_add (pv 1) pe_int))) pe_int) pa_nil))))), ?_⟩
    refine ⟨_, rfl, _, rfl, a, ns, k, rfl, ha, hk, fun c => ?_⟩
    refine ⟨_, rfl, _, _, rfl, rfl, ⟨by decide, by decide, by decide⟩, _, _, rfl, rfl, _, _, rfl, ?_⟩
    refine ⟨_, rfl, _, _, rfl, rfl, by show (0 : Int) < 2147483629; decide, _, rfl, _, _, rfl, rfl, _, _, rfl, rfl, .inl ⟨by decide, by decide⟩, _, _, rfl, rfl, _, _, rfl, rfl, by show (0 : Int) < 2147483629; decide, by show 2 ≤ sizeLine; decide, fun l hl => ?_⟩
    exact q l _ (same_upd (Same.refl _) hl) hl ⟨_, _, upd_same, Int.emod_nonneg _ (by decide), Int.emod_lt_of_pos _ (by decide)⟩

noncomputable def spTake : Sp := fun vs H Q _ => ∃ (p : Addr) (n : Int), vs = [.ref p, .int n] ∧ Pot H p ∧ 0 < n ∧ n < 1000 ∧ ∀ r H', 0 ≤ r → r < n → Pot H' p → (∀ b, b ≠ p → H' b = H b) → Q (.int r) H'
theorem sc11 : FnScope ["_law_pot_here", "_law_many", "_law_digit"] ["_law_pot_here", "_law_many"] (defScope (top 11)) := ⟨rfl, rfl, rfl, by decide +kernel, rfl, by decide +kernel, by decide +kernel⟩
theorem ok_take {f : Addr} {fd : FuncData} (F : Fun K "_law_take" "_law_take" (top 11) f fd) : FnOk P w K mg base CX0 1 f fd ["_law_pot_here", "_law_many"] spTake := by
  refine F.ok sc11 (fun vs H Q E h => ?_) (fun cdv A outer s H vs Q E hr h => ?_)
  · obtain ⟨p, n, rfl, _⟩ := h
    rfl
  · obtain ⟨p, n, rfl, ⟨a, b, hp, hb0, hb1⟩, hn, hn2, k⟩ := h
    refine ⟨_, pss_cons (ps_if (pt_cmpR op_gt (pe_ix ix_seq (pv 0) pe_int (fun _ _ => rfl)) pe_int (nomark _))
        (pss_cons (ps_set (i := 2) sc11.nd rfl (Or.inl rfl) (pe_op op_mod (pe_ix ix_seq (pv 0) pe_int (fun _ _ => rfl)) (pv 1)))
          (pss_cons (ps_asg (pe_op op_fdiv (pe_ix ix_seq (pv 0) pe_int (fun _ _ => rfl)) (pv 1)) (pg_sub (pv 0) pe_int set_list)) (pss_one (ps_ret (pv 2))))) pss_nil)
      (pss_cons (ps_asg (pe_op op_mod (pe_op op_add (pe_op op_mul (pe_ix ix_seq (pv 0) pe_int (fun _ _ => rfl)) pe_int) pe_int) pe_int) (pg_sub (pv 0) pe_int set_list))
      (pss_one (ps_ret (pe_op op_mod (pe_op op_fdiv (pe_op op_mod (pe_op op_mul (pe_ix ix_seq (pv 0) pe_int (fun _ _ => rfl)) (pe_ix ix_seq (pv 0) pe_int (fun _ _ => rfl))) pe_int) pe_int) (pv 1))))), ?_⟩
    have hS : Sq K H p [.int a, .int b] := .inl (SqL.of hp)
    refine ⟨_, rfl, rix_of (j := 0) hS rfl rfl ⟨_, _, rfl, rfl, _, rfl, ?_⟩⟩
    refine ite2 (fun c => ?_) (fun c => ?_)
    · refine ⟨_, rfl, rix_of (j := 0) hS rfl rfl ⟨_, rfl, _, _, rfl, rfl, hn, ?_⟩⟩
      refine ⟨_, rfl, rix_of (j := 0) hS rfl rfl ⟨_, rfl, _, _, rfl, rfl, ⟨hn, by omega⟩, _, rfl, p, [.int a, .int b], _, 0, rfl, rfl, hp, rfl, ?_⟩⟩
      refine ⟨_, rfl, k _ _ (Int.emod_nonneg _ (by omega)) (Int.emod_lt_of_pos _ hn) ⟨_, _, upd_same, hb0, hb1⟩ fun c hc => upd_ne hc⟩
    · refine ⟨_, rfl, rix_of (j := 1) hS rfl rfl ⟨_, _, rfl, rfl, .inl ⟨by omega, by omega⟩, _, _, rfl, rfl, _, _, rfl, rfl, by show (0 : Int) < 2147483629; decide, _, rfl, p, [.int a, .int b], _, 1, rfl, rfl, hp, rfl, ?_⟩⟩
      have m0 : 0 ≤ (b * 39373 + 7919) % 2147483629 := Int.emod_nonneg _ (by decide)
      have m1 : (b * 39373 + 7919) % 2147483629 < 2147483629 := Int.emod_lt_of_pos _ (by decide)
      have hS2 : Sq K (upd H p (.lst ([V.int a, V.int b].set 1 (.int ((b * 39373 + 7919) % 2147483629))))) p [.int a, .int ((b * 39373 + 7919) % 2147483629)] := .inl (SqL.of upd_same)
      refine ⟨_, rfl, rix_of (j := 1) hS2 rfl rfl ⟨_, rfl, rix_of (j := 1) hS2 rfl rfl ⟨_, _, rfl, rfl, .inl ⟨by omega, by omega⟩, _, _, rfl, rfl, by show (0 : Int) < 2147483563; decide, _, _, rfl, rfl, ⟨by decide, by decide⟩, _, rfl, _, _, rfl, rfl, hn, ?_⟩⟩⟩
      exact k _ _ (Int.emod_nonneg _ (by omega)) (Int.emod_lt_of_pos _ hn) ⟨_, _, upd_same, m0, m1⟩ fun c hc => upd_ne hc
end
end K11

set_option Elab.async false
set_option linter.all false
set_option maxRecDepth 100000
set_option maxHeartbeats 4000000
namespace K11
open PySem L2

/-! ### names drawn: the mathematics -/
noncomputable def letters : Str := Str.ofString "abcdefghijklmnopqrstuvwxyz"
theorem letters_fin : ∀ r : _root_.Fin 26, letters.cps.toList[r.val]? = some (97 + r.val) := by decide +kernel
theorem letters_at {r : Nat} (h : r < 26) : letters.cps.toList[r]? = some (97 + r) := letters_fin ⟨r, h⟩
theorem letters_fits : letters.length ≤ sizeLine := by decide
theorem join_one (cs : List Nat) : (Txt.join (Str.ofString "") (cs.map fun c => (⟨#[c]⟩ : Str))).cps.toList = cs := by
  have e0 : (Str.ofString "").cps = #[] := by decide
  show (Builtin.Str.glued (Str.ofString "") _).cps.toList = cs
  rw [StrLaws.glued_eq_join]
  induction cs with
  | nil => rfl
  | cons c t ih =>
    cases t with
    | nil => rfl
    | cons d r =>
      show (((⟨#[c]⟩ : Str) ++ Str.ofString "" ++ Str.join (Str.ofString "") ((d :: r).map fun c => (⟨#[c]⟩ : Str))).cps).toList = _
      rw [Str.cps_append, Str.cps_append, e0, Array.toList_append, Array.toList_append, ih]
      rfl
theorem slice_mem (x : Str) : ∀ c ∈ (Txt.slice x none (some 6)).cps.toList, c ∈ x.cps.toList := by
  intro c hc
  unfold Txt.slice at hc
  split at hc
  · exact hc
  · simp only [List.mem_filterMap] at hc
    obtain ⟨i, _, e⟩ := hc
    simpa using Array.mem_of_getElem? e
theorem slice_len (x : Str) : (Txt.slice x none (some 6)).length ≤ 6 := by
  by_cases h : 6 ≤ x.length
  · have e := eq_of_beq (PyProof.Rows.slice_closes_toL (x := x) (j := 6) (by decide) (by omega))
    rw [e]
    simp [Str.length]
    omega
  · exact Nat.le_trans (Txt.slice_le x _ _) (by omega)
noncomputable def cand (x : Str) (m : Nat) : Str := Txt.slice x none (some 6) ++ (⟨#[97 + m / 26]⟩ : Str) ++ (⟨#[97 + m % 26]⟩ : Str)
theorem cand_codes (x : Str) (m : Nat) : (cand x m).cps.toList = (Txt.slice x none (some 6)).cps.toList ++ [97 + m / 26, 97 + m % 26] := by
  unfold cand
  rw [Str.cps_append, Str.cps_append, Array.toList_append, Array.toList_append]
  simp
theorem cand_inj (x : Str) {m n : Nat} (h : cand x m = cand x n) : m = n := by
  have e := congrArg (fun s : Str => s.cps.toList) h
  simp only [cand_codes] at e
  have e2 := List.append_cancel_left e
  simp at e2
  omega
theorem NameP.of_codes {x : Str} {l : List Nat} (e : x.cps.toList = l) (h1 : 1 ≤ l.length) (h8 : l.length ≤ 8) (h : ∀ c ∈ l, 97 ≤ c ∧ c ≤ 122) : NameP x := by
  have hl : x.length = l.length := by rw [← e]; simp [Str.length]
  exact ⟨by omega, by omega, by rw [e]; exact h⟩
theorem cand_name {x : Str} (hx : NameP x) {m : Nat} (hm : m < 676) : NameP (cand x m) := by
  refine NameP.of_codes (cand_codes x m) (by simp) ?_ ?_
  · have := slice_len x
    simp [Str.length] at this ⊢
    omega
  · intro c hc
    rcases List.mem_append.mp hc with z | z
    · exact hx.az c (slice_mem x c z)
    · simp at z
      omega
theorem pigeon {α : Type} : ∀ (l m : List α), l.Nodup → (∀ x ∈ l, x ∈ m) → l.length ≤ m.length
  | [], _, _, _ => Nat.zero_le _
  | x :: t, m, hn, h => by
    obtain ⟨u, v, rfl⟩ := List.append_of_mem (h x List.mem_cons_self)
    have hn' := List.nodup_cons.mp hn
    have := pigeon t (u ++ v) hn'.2 fun y hy => by
      have hy' := h y (List.mem_cons_of_mem _ hy)
      rcases List.mem_append.mp hy' with z | z
      · exact List.mem_append_left _ z
      · rcases List.mem_cons.mp z with e | z
        · exact absurd (e ▸ hy) hn'.1
        · exact List.mem_append_right _ z
    simp at this ⊢
    omega
noncomputable abbrev cands (x : Str) (n : Nat) : List Str := (List.range n).map (cand x)
theorem cands_some (x : Str) (ss : List Str) : ∃ y r, (cands x (ss.length + 1)).filter (fun z => !decide (z ∈ ss)) = y :: r := by
  cases e : (cands x (ss.length + 1)).filter (fun z => !decide (z ∈ ss)) with
  | cons y r => exact ⟨y, r, rfl⟩
  | nil =>
    have h := List.filter_eq_nil_iff.mp e
    have nd : (cands x (ss.length + 1)).Nodup := by
      refine List.pairwise_map.mpr ?_
      exact List.nodup_range.imp fun {a b} hab z => hab (cand_inj x z)
    have := pigeon (cands x (ss.length + 1)) ss nd fun z hz => by simpa using h z hz
    simp at this
    omega

theorem pot_ne {H : Hp} {p t : Addr} {ss : List Str} (h1 : Pot H p) (h2 : H t = some (.lst (ss.map V.str))) : t ≠ p := by
  rintro rfl
  obtain ⟨a, b, e, _⟩ := h1
  rw [e] at h2
  have h3 := HO.lst.inj (Option.some.inj h2)
  cases ss with
  | nil => cases h3
  | cons x r => rw [List.map_cons] at h3; cases List.cons.inj h3 |>.1
theorem range_succ_map {α : Type} (f : Nat → α) (i : Nat) : (List.range (i + 1)).map f = (List.range i).map f ++ [f i] := by rw [List.range_succ, List.map_append]; rfl

section
variable {P : Program} {w : World} {K : PySem.W.Frag} {mg : Str → Option Value} {base : Heap}

noncomputable def spNm : Sp := fun vs H Q _ => ∃ (p t : Addr) (ss : List Str), vs = [.ref p, .ref t] ∧ Pot H p ∧ H t = some (.lst (ss.map V.str)) ∧ ss.length ≤ 600 ∧
  ∀ x H', NameP x → x ∉ ss → Pot H' p → H' t = some (.lst ((ss ++ [x]).map V.str)) → Kp [p, t] H H' → Q (.str x) H'
noncomputable abbrev N12 : List Str := ["_law_pot_here", "_law_taken", "_law_letters", "_law_name_here", "_law_some"]
theorem sc12 : FnScope N12 ["_law_pot_here", "_law_taken"] (defScope (top 12)) := ⟨rfl, rfl, rfl, by decide +kernel, rfl, by decide +kernel, by decide +kernel⟩
theorem ok_name {f : Addr} {fd : FuncData} (F : Fun K "_law_name" "_law_name" (top 12) f fd) (B : Bl mg) (Ft : Fn P w K mg base 1 "_law_take" ["_law_pot_here", "_law_many"] spTake) : FnOk P w K mg base CX0 2 f fd ["_law_pot_here", "_law_taken"] spNm := by
  refine F.ok sc12 (fun vs H Q E h => ?_) (fun cdv A outer s H vs Q E hr h => ?_)
  · obtain ⟨p, t, ss, rfl, _⟩ := h
    rfl
  · obtain ⟨p, t, ss, rfl, hp, ht, hz, k⟩ := h
    have ntp := pot_ne hp ht
    refine ⟨_, pss_cons (ps_set (i := 2) sc12.nd rfl (Or.inr rfl) pe_str)
      (pss_cons (ps_set (i := 3) sc12.nd rfl (Or.inr rfl) (pe_bm PySem.F.plainAttrs_str PySem.F.slot_str_join PySem.F.type_str_join mt_join pe_str (pa_cons (pe_lc (N := ["_law_k", "_law_letters", "_law_pot_here"]) (ix := [none, some 2, some 0]) ⟨rfl, rfl, rfl, by decide⟩ rfl
        (pi_range1 rfl B.range (pa_cons (pe_op op_add pe_int (pe_op op_mul (pe_fn Ft hr (pa_cons (pv 0) (pa_cons pe_int pa_nil))) (pe_fn Ft hr (pa_cons (pv 0) (pa_cons pe_int pa_nil))))) pa_nil)) (fun _ _ _ _ => pg_lc 0 (by decide) rfl rfl) (fun _ _ _ _ => pts_nil)
        (fun _ _ _ _ => pe_ix (ix_seqK K) (pv 1) (pe_fn Ft hr (pa_cons (pv 2) (pa_cons pe_int pa_nil))) (fun _ _ => rfl))) pa_nil)))
      (pss_cons (ps_if (pt_cmpR op_in_seq (pv 3) (pv 1) (by with_unfolding_all rfl))
        (pss_cons (ps_setLc (i := 4) (N := ["_law_k", "_law_letters", "_law_name_here"]) (ix := [none, some 2, some 3]) sc12.nd rfl (Or.inl rfl) ⟨rfl, rfl, rfl, by decide⟩ rfl (pi_range1 rfl B.range (pa_cons (pe_op op_add (pe_callB call_len_seq rfl B.len PySem.boot_len (pa_cons (pv 1) pa_nil)) pe_int) pa_nil))
            (fun _ _ _ _ => pg_lc 0 (by decide) rfl rfl) (fun _ _ _ _ => pts_nil)
            (fun _ _ _ _ => pe_op op_add_str (pe_op op_add_str (pe_slice sl_str (pv 2) po_none (po_some pe_int)) (pe_ix (ix_seqK K) (pv 1) (pe_op op_fdiv (pv 0) pe_int) (fun _ _ => rfl))) (pe_ix (ix_seqK K) (pv 1) (pe_op op_mod (pv 0) pe_int) (fun _ _ => rfl))))
          (pss_one (ps_set (i := 3) sc12.nd rfl (Or.inr rfl) (pe_ix ix_seq (pe_lc (N := ["_law_one", "_law_taken"]) (ix := [none, some 1]) ⟨rfl, rfl, rfl, by decide⟩ rfl (pi_list (pv 4)) (fun _ _ _ _ => pg_lc 0 (by decide) rfl rfl)
            (fun _ _ _ _ => pts_one (pt_cmpR (notIn_seqK K) (pv 0) (pv 1) (by with_unfolding_all rfl))) (fun _ _ _ _ => pv 0)) pe_int (fun _ _ => rfl))))) pss_nil)
      (pss_cons (ps_expr (pe_bm PySem.F.plainAttrs_list PySem.F.slot_list_append PySem.F.type_list_append mt_append (pv 1) (pa_cons (pv 3) pa_nil)))
      (pss_one (ps_ret (pv 3)))))), ?_⟩
    -- the letters
    refine ⟨rfl, _, rfl, p, 2, rfl, hp, by decide, by decide, fun r1 H1 a0 a1 P1 e1 => ⟨_, rfl, p, 8, rfl, P1, by decide, by decide, fun r2 H2 b0 b1 P2 e2 => ?_⟩⟩
    have hj : 0 ≤ r1 * r2 ∧ r1 * r2 ≤ 7 := by
      have : r1 = 0 ∨ r1 = 1 := by omega
      rcases this with rfl | rfl <;> omega
    have e12 : ∀ b, b ≠ p → H2 b = H b := fun b hb => (e2 b hb).trans (e1 b hb)
    refine ⟨_, _, rfl, rfl, .inl ⟨by omega, by omega⟩, _, _, rfl, rfl, _, rfl, by omega, by omega, ?_⟩
    refine lcw_range0 (fits (by omega)) (fun i ys σ H3 => (∃ cs : List Nat, cs.length = i ∧ (∀ c ∈ cs, 97 ≤ c ∧ c ≤ 122) ∧ ys = cs.map fun c => V.str ⟨#[c]⟩) ∧ Pot H3 p ∧ (∀ b, b ≠ p → H3 b = H b) ∧ ∃ x, σ = [x, some (.str letters), some (.ref p)])
      ⟨⟨[], rfl, by simp, rfl⟩, P2, e12, _, rfl⟩ (fun i ys σ H3 _ q => by obtain ⟨⟨cs, rfl, _, rfl⟩, _⟩ := q; simp) ?_ ?_
    · rintro i ys σ H3 hi ⟨⟨cs, rfl, hcs, rfl⟩, P3, e3, v, rfl⟩
      refine ⟨_, rfl, _, rfl, p, 26, rfl, P3, by decide, by decide, fun r H4 r0 r1 P4 e4 => .inr (.inr ⟨letters, r, 97 + r.toNat, rfl, rfl, letters_fits, atI_at (j := r.toNat) (by omega) (letters_at (by omega)), ⟨cs ++ [97 + r.toNat], by simp, fun c hc => ?_, by simp⟩, P4, fun b hb => (e4 b hb).trans (e3 b hb), _, rfl⟩)⟩
      rcases List.mem_append.mp hc with z | z
      · exact hcs c z
      · simp at z
        omega
    · rintro ys σ H3 ⟨⟨cs, hlen, hcs, rfl⟩, P3, e3, v, rfl⟩ q hq
      have hn : q ≠ p := by rintro rfl; obtain ⟨_, _, e, _⟩ := P3; rw [hq] at e; cases e
      have hx : NameP (Txt.join (Str.ofString "") (cs.map fun c => (⟨#[c]⟩ : Str))) := NameP.of_codes (join_one cs) (by rw [hlen]; omega) (by rw [hlen]; omega) hcs
      have hmap : (cs.map fun c => V.str ⟨#[c]⟩) = (cs.map fun c => (⟨#[c]⟩ : Str)).map V.str := by rw [List.map_map]; rfl
      refine ⟨Str.ofString "", q, cs.map fun c => (⟨#[c]⟩ : Str), rfl, rfl, SqL.of (by rw [upd_same, hmap]), ?_, ?_⟩
      · have hs : ∀ l : List Nat, ((l.map fun c => (⟨#[c]⟩ : Str)).map (·.length)).sum = l.length := fun l => by
          induction l with
          | nil => rfl
          | cons c r ih => simp only [List.map_cons, List.sum_cons, ih, List.length_cons]; show 1 + r.length = _; omega
        have e0 : (Str.ofString "").length = 0 := by decide
        rw [hs, e0]
        omega
      generalize Txt.join (Str.ofString "") (cs.map fun c => (⟨#[c]⟩ : Str)) = x at hx ⊢
      have P4 : Pot (upd H3 q (.lst (cs.map fun c => V.str ⟨#[c]⟩))) p := by obtain ⟨a, b, e, h⟩ := P3; exact ⟨a, b, by rw [upd_ne hn.symm]; exact e, h⟩
      have K4 : Kp [p, t] H (upd H3 q (.lst (cs.map fun c => V.str ⟨#[c]⟩))) := Kp.new (fun b o e n => by rw [e3 b (fun z => n (by rw [z]; simp))]; exact e) hq
      have t4 : upd H3 q (.lst (cs.map fun c => V.str ⟨#[c]⟩)) t = some (.lst (ss.map V.str)) := by
        rw [upd_ne (by rintro rfl; rw [e3 _ ntp, ht] at hq; cases hq), e3 t ntp]; exact ht
      generalize upd H3 q (.lst (cs.map fun c => V.str ⟨#[c]⟩)) = H4 at P4 K4 t4 ⊢
      have tn4 := pot_ne P4 t4
      -- is it taken
      refine ⟨_, rfl, _, rfl, t, ss.map V.str, rfl, .inl (SqL.of t4), rfl, flat_strs ss, _, rfl, ?_⟩
      show if inV (.str x) (ss.map V.str) = true then _ else _
      rw [in_strs]
      refine ite2 (fun c => ?_) (fun c => ?_)
      · refine ⟨_, rfl, t, _, rfl, .inl (SqL.of t4), _, _, rfl, rfl, _, rfl, by omega, by rw [List.length_map]; omega, ?_⟩
        have hnat : ((((ss.map V.str).length : Nat) : Int) + 1).toNat = ss.length + 1 := by rw [List.length_map]; omega
        rw [hnat]
        refine lcw_range0 (fits (by omega)) (fun i ys σ H5 => ys = (cands x i).map V.str ∧ H5 = H4 ∧ ∃ v, σ = [v, some (.str letters), some (.str x)]) ⟨rfl, rfl, _, rfl⟩ (fun i ys σ H5 _ q => by rw [q.1]; simp) ?_ ?_
        · rintro i ys σ H5 hi ⟨rfl, rfl, v, rfl⟩
          have l1 := slice_len x
          refine ⟨_, rfl, _, rfl, x, rfl, Nat.le_of_lt hx.fits, _, rfl, _, rfl, _, _, rfl, rfl, ⟨by decide, by decide⟩, .inr (.inr ⟨letters, _, 97 + i / 26, rfl, rfl, letters_fits, atI_at (j := i / 26) (by omega) (letters_at (by omega)), _, _, rfl, rfl, ?_, ?_⟩)⟩
          · show (Txt.slice x none (some 6)).length + 1 ≤ sizeLine
            rw [sizeLine_eq]; omega
          refine ⟨_, rfl, _, rfl, _, _, rfl, rfl, by show (0 : Int) < 26; decide, .inr (.inr ⟨letters, _, 97 + i % 26, rfl, rfl, letters_fits, atI_at (j := i % 26) (by omega) (letters_at (by omega)), _, _, rfl, rfl, ?_, ?_, rfl, _, rfl⟩)⟩
          · rw [Str.length_append]
            show (Txt.slice x none (some 6)).length + 1 + 1 ≤ sizeLine
            rw [sizeLine_eq]; omega
          · rw [cands, cands, range_succ_map, List.map_append]; rfl
        · rintro ys σ H5 ⟨rfl, rfl, v, rfl⟩ q2 hq2
          have t5 : upd H5 q2 (.lst ((cands x (ss.length + 1)).map V.str)) t = some (.lst (ss.map V.str)) := by rw [upd_ne (ne_of_none t4 hq2)]; exact t4
          have P5 : Pot (upd H5 q2 (.lst ((cands x (ss.length + 1)).map V.str))) p := by
            obtain ⟨a, b, e, h⟩ := P4
            exact ⟨a, b, by rw [upd_ne (ne_of_none e hq2)]; exact e, h⟩
          have K5 := K4.new (o := .lst ((cands x (ss.length + 1)).map V.str)) hq2
          have c5 : upd H5 q2 (.lst ((cands x (ss.length + 1)).map V.str)) q2 = some (.lst ((cands x (ss.length + 1)).map V.str)) := upd_same
          generalize upd H5 q2 (.lst ((cands x (ss.length + 1)).map V.str)) = H6 at t5 P5 K5 c5 ⊢
          refine ⟨_, rfl, q2, rfl, ⟨_, SqL.of c5⟩, lcw_list1 (xs := (cands x (ss.length + 1)).map V.str) (fits (by simp; omega)) (fun i ys σ H7 => ys = (((cands x (ss.length + 1)).take i).filter fun z => !decide (z ∈ ss)).map V.str ∧ H7 = H6 ∧ ∃ v, σ = [v, some (.ref t)])
            ⟨rfl, rfl, _, rfl⟩ (fun i ys σ H7 _ q => ⟨by rw [q.1, List.length_map]; exact Nat.le_trans (List.length_filter_le _ _) (by simp; omega), by rw [q.2.1]; exact SqL.of c5⟩) ?_ ?_⟩
          · rintro i y ys σ H7 hy ⟨rfl, rfl, v, rfl⟩
            rw [List.getElem?_map] at hy
            cases hc : (cands x (ss.length + 1))[i]? with
            | none => rw [hc] at hy; cases hy
            | some z =>
              rw [hc] at hy
              cases hy
              have tf := take_filter_succ (fun z : Str => !decide (z ∈ ss)) (cands x (ss.length + 1)) i z hc
              refine ⟨_, rfl, _, rfl, t, ss.map V.str, rfl, .inl (SqL.of t5), rfl, flat_strs ss, _, rfl, ?_⟩
              show if (!inV (.str z) (ss.map V.str)) = true then _ else _
              rw [in_strs]
              refine ite2 (fun c => ⟨_, rfl, ?_, rfl, _, rfl⟩) (fun c => ⟨?_, rfl, _, rfl⟩)
              · rw [tf, c]; simp
              · rw [tf]; simp only [Bool.not_eq_true] at c; rw [c]; simp
          · rintro ys σ H7 ⟨rfl, rfl, v, rfl⟩ q3 hq3
            rw [take_all (cands x (ss.length + 1)) (by simp)]
            obtain ⟨y, r, ey⟩ := cands_some x ss
            rw [ey]
            have hy : y ∈ (cands x (ss.length + 1)).filter (fun z => !decide (z ∈ ss)) := by rw [ey]; exact List.mem_cons_self
            obtain ⟨hy1, hy2⟩ := List.mem_filter.mp hy
            obtain ⟨m, hm, rfl⟩ := List.mem_map.mp hy1
            have hm' := List.mem_range.mp hm
            refine rix_of (j := 0) (.inl (SqL.of upd_same)) rfl rfl ?_
            have t7 : upd H7 q3 (.lst ((cand x m :: r).map V.str)) t = some (.lst (ss.map V.str)) := by rw [upd_ne (ne_of_none t5 hq3)]; exact t5
            have P7 : Pot (upd H7 q3 (.lst ((cand x m :: r).map V.str))) p := by
              obtain ⟨a, b, e, h⟩ := P5
              exact ⟨a, b, by rw [upd_ne (ne_of_none e hq3)]; exact e, h⟩
            have K7 := K5.new (o := .lst ((cand x m :: r).map V.str)) hq3
            refine ⟨_, rfl, .inl ⟨rfl, _, SqL.of t7⟩, _, rfl, t, ss.map V.str, _, rfl, rfl, t7, by rw [List.length_map]; exact fits (by omega), ?_⟩
            refine ⟨_, rfl, k _ _ (cand_name hx (by omega)) (by simpa using hy2) ?_ (by rw [upd_same, List.map_append]; rfl) (K7.inn (by simp))⟩
            obtain ⟨a, b, e, h⟩ := P7
            exact ⟨a, b, by rw [upd_ne tn4.symm]; exact e, h⟩
      · simp only [decide_eq_true_eq] at c
        refine ⟨_, rfl, .inl ⟨rfl, _, SqL.of t4⟩, _, rfl, t, ss.map V.str, _, rfl, rfl, t4, by rw [List.length_map]; exact fits (by omega), ?_⟩
        refine ⟨_, rfl, k _ _ hx c ?_ (by rw [upd_same, List.map_append]; rfl) (K4.inn (by simp))⟩
        obtain ⟨a, b, e, h⟩ := P4
        exact ⟨a, b, by rw [upd_ne tn4.symm]; exact e, h⟩
end
end K11

set_option Elab.async false
set_option linter.all false
set_option maxRecDepth 100000
set_option maxHeartbeats 4000000
namespace K11
open PySem L2

theorem rising_pw : ∀ (r : List Str) (x : Str), PyProof.Rows.risingS x r = true → (x :: r).Nodup → (x :: r).Pairwise nlt
  | [], x, _, _ => by simp
  | y :: r, x, h, hn => by
    have h' : (!PySem.Spec.ltCps y.cps.toList x.cps.toList && PyProof.Rows.risingS y r) = true := h
    rw [Bool.and_eq_true, PyProof.Rows.ltCps_eq] at h'
    have hn' := List.nodup_cons.mp hn
    have ih := rising_pw r y h'.2 hn'.2
    have hxy : nlt x y := by
      rcases str_tri (fun e => hn'.1 (e ▸ List.mem_cons_self) : x ≠ y) with z | z
      · exact z
      · rw [decide_eq_true z] at h'
        exact absurd h'.1 (by simp)
    refine List.pairwise_cons.mpr ⟨fun z hz => ?_, ih⟩
    rcases List.mem_cons.mp hz with rfl | hz
    · exact hxy
    · exact List.lt_trans hxy ((List.pairwise_cons.mp ih).1 z hz)
theorem sorted_pw {ss : List Str} (h : PyProof.Rows.sortedS ss = true) (hn : ss.Nodup) : ss.Pairwise nlt := by
  cases ss with
  | nil => exact .nil
  | cons x r => exact rising_pw r x h hn
theorem Kp.free {P : List Addr} {H H' : Hp} (k : Kp P H H') (hP : ∀ b ∈ P, ∃ o, H' b = some o) {q : Addr} (hq : H' q = none) : H q = none := by
  cases e : H q with
  | none => rfl
  | some o =>
    by_cases hm : q ∈ P
    · obtain ⟨o', e'⟩ := hP q hm
      rw [hq] at e'; cases e'
    · rw [k q o e hm] at hq; cases hq
theorem Pot.some {H : Hp} {p : Addr} (h : Pot H p) : ∃ o, H p = some o := let ⟨a, b, e, _⟩ := h; ⟨_, e⟩
theorem Pot.keep {H H' : Hp} {p : Addr} (h : Pot H p) (e : ∀ o, H p = Option.some o → H' p = Option.some o) : Pot H' p := let ⟨a, b, q, r⟩ := h; ⟨a, b, e _ q, r⟩
section
variable {P : Program} {w : World} {K : PySem.W.Frag} {mg : Str → Option Value} {base : Heap}

noncomputable def spPlaces : Sp := fun vs H Q _ => ∃ (p : Addr) (n : Int), vs = [.ref p, .int n] ∧ Pot H p ∧ 0 < n ∧ n ≤ 8 ∧
  ∀ (q : Addr) (ps : List Str) (H' : Hp), Pot H' p → H' q = some (.lst (ps.map V.str)) → H q = none → (∀ x ∈ ps, NameP x) → ps.Pairwise nlt → 1 ≤ ps.length → ps.length ≤ 8 → Kp [p] H H' → Q (.ref q) H'
theorem sc15 : FnScope ["_law_pot_here", "_law_most", "_law_taken", "_law_k"] ["_law_pot_here", "_law_most"] (defScope (top 15)) := ⟨rfl, rfl, rfl, by decide +kernel, rfl, by decide +kernel, by decide +kernel⟩
theorem ok_places {f : Addr} {fd : FuncData} (F : Fun K "_law_places" "_law_places" (top 15) f fd) (B : Bl mg) (Ft : Fn P w K mg base 1 "_law_take" ["_law_pot_here", "_law_many"] spTake) (Fm : Fn P w K mg base 2 "_law_name" ["_law_pot_here", "_law_taken"] spNm) :
    FnOk P w K mg base CX0 3 f fd ["_law_pot_here", "_law_most"] spPlaces := by
  refine F.ok sc15 (fun vs H Q E h => ?_) (fun cdv A outer s H vs Q E hr h => ?_)
  · obtain ⟨p, n, rfl, _⟩ := h
    rfl
  · obtain ⟨p, n, rfl, hp, hn, hn8, k⟩ := h
    have hr1 : Room 1 _ := hr.mono (by decide)
    refine ⟨_, pss_cons (ps_set (i := 2) sc15.nd rfl (Or.inl rfl) (pe_lst pa_nil))
      (pss_cons (ps_for PassesOwn.never rfl (pi_range1 rfl B.range (pa_cons (pe_op op_add pe_int (pe_fn Ft hr1 (pa_cons (pv 0) (pa_cons (pv 1) pa_nil)))) pa_nil)) (pg_name (i := 3) sc15.nd rfl (Or.inl rfl)) (pss_one (ps_expr (pe_fn Fm hr (pa_cons (pv 0) (pa_cons (pv 2) pa_nil))))))
      (pss_one (ps_ret (pe_callB call_sortedS rfl B.sorted b_sorted (pa_cons (pv 2) pa_nil))))), ?_⟩
    refine ⟨by show 0 ≤ sizeLine; exact Nat.zero_le _, fun t ht => ?_⟩
    have ntp : t ≠ p := fun z => by obtain ⟨o, e⟩ := hp.some; rw [← z, ht] at e; cases e
    have hp1 : Pot (upd H t (.lst [])) p := hp.keep fun o e => by rw [upd_ne ntp.symm]; exact e
    refine ⟨_, rfl, _, rfl, p, n, rfl, hp1, hn, by omega, fun r H1 r0 r1 P1 e1 => ?_⟩
    have t1 : H1 t = some (.lst []) := by rw [e1 t ntp, upd_same]
    have K1 : Kp [p, t] H H1 := fun b o e nb => by
      rw [e1 b (fun z => nb (by rw [z]; simp)), upd_ne (ne_of_none e ht)]; exact e
    refine ⟨_, _, rfl, rfl, _, rfl, by omega, by omega, for_range (fun i σ H2 => ∃ (ss : List Str) (v : Option V), σ = [some (.ref p), some (.int n), some (.ref t), v] ∧ Pot H2 p ∧ H2 t = some (.lst (ss.map V.str)) ∧ ss.length = i ∧ ss.Nodup ∧ (∀ x ∈ ss, NameP x) ∧ Kp [p, t] H H2)
      ⟨[], none, rfl, P1, t1, rfl, List.nodup_nil, by simp, K1⟩ ?_ ?_⟩
    · rintro i σ H2 hi ⟨ss, v, rfl, P2, t2, hl, nd, hnm, K2⟩
      refine ⟨_, rfl, _, rfl, p, t, ss, rfl, P2, t2, by omega, fun x H3 hx hxn P3 t3 K3 => ⟨ss ++ [x], _, rfl, P3, t3, by simp [hl], List.nodup_append.mpr ⟨nd, by simp, fun a ha b hb => ?_⟩, fun y hy => ?_, K2.trans K3⟩⟩
      · have e : b = x := by simpa using hb
        subst e
        exact fun z => hxn (z ▸ ha)
      · rcases List.mem_append.mp hy with z | z
        · exact hnm y z
        · have e : y = x := by simpa using z
          subst e
          exact hx
    · rintro σ H2 ⟨ss, v, rfl, P2, t2, hl, nd, hnm, K2⟩
      refine ⟨_, rfl, t, ss, rfl, SqL.of t2, by omega, fun ss' q hpm hso hq => ?_⟩
      have nd' : ss'.Nodup := hpm.nodup_iff.mpr nd
      have hll : ss'.length = ss.length := hpm.length_eq
      refine k q ss' _ (P2.keep fun o e => by rw [upd_ne (ne_of_none e hq)]; exact e) upd_same (K2.free (fun b hb => ?_) hq) (fun x hx => hnm x (hpm.mem_iff.mp hx)) (sorted_pw hso nd') (by omega) (by omega) (fun b o e nb => ?_)
      · rcases List.mem_cons.mp hb with rfl | hb
        · exact P2.some
        · have e : b = t := by simpa using hb
          subst e
          exact ⟨_, t2⟩
      · have hbt : b ≠ t := ne_of_none e ht
        have := K2 b o e (by simp at nb ⊢; exact ⟨nb, hbt⟩)
        rw [upd_ne (ne_of_none this hq)]
        exact this
end
end K11

set_option Elab.async false
set_option linter.all false
set_option maxRecDepth 100000
set_option maxHeartbeats 4000000
namespace K11
open PySem L2

structure RowsAt (H : Hp) (rw tk : Addr) (rs : List (Addr × Row)) : Prop where
  rl : H rw = some (.lst (rrefs rs))
  tl : H tk = some (.lst ((nms rs).map V.str))
  rows : ∀ r ∈ rs, RowAt H r.1 r.2
structure GR (ps : List Str) (rs : List (Addr × Row)) : Prop where
  nd : (nms rs).Nodup
  ok : ∀ r ∈ rs, NameP r.2.1 ∧ r.2.2.1 ∈ ps ∧ r.2.2.2 ∈ ps ∧ r.2.2.1 ≠ r.2.2.2
theorem tup_ne {H : Hp} {a b : Addr} {xs ys : List V} (h1 : H a = some (.tup xs)) (h2 : H b = some (.lst ys)) : a ≠ b := ne_of h1 h2 (by intro z; cases z)
theorem tup_kp {H H' : Hp} {P : List Addr} {b : Addr} {xs : List V} (k : Kp P H H') (hP : ∀ c ∈ P, ∃ ys, H c = some (.lst ys)) (e : H b = some (.tup xs)) : H' b = some (.tup xs) :=
  k b _ e fun hb => by
    obtain ⟨ys, e'⟩ := hP b hb
    exact tup_ne e e' rfl
theorem Pot.lst {H : Hp} {p : Addr} (h : Pot H p) : ∃ ys, H p = Option.some (HO.lst ys) := let ⟨a, b, e, _⟩ := h; ⟨_, e⟩
theorem RowsAt.kp {H H' : Hp} {rw tk : Addr} {rs : List (Addr × Row)} {P : List Addr} (R : RowsAt H rw tk rs) (k : Kp P H H') (hP : ∀ c ∈ P, ∃ ys, H c = some (.lst ys)) (h1 : rw ∉ P) (h2 : tk ∉ P) : RowsAt H' rw tk rs :=
  ⟨k _ _ R.rl h1, k _ _ R.tl h2, fun r hr => tup_kp k hP (R.rows r hr)⟩
theorem RowsAt.new {H : Hp} {rw tk q : Addr} {o : HO} {rs : List (Addr × Row)} (R : RowsAt H rw tk rs) (hq : H q = none) : RowsAt (upd H q o) rw tk rs :=
  R.kp (P := []) (Kp.new (Kp.refl _ _) hq) (by simp) (by simp) (by simp)
theorem RowsAt.off {H : Hp} {rw tk q : Addr} {o : HO} {ys : List V} {rs : List (Addr × Row)} (R : RowsAt H rw tk rs) (h1 : rw ≠ q) (h2 : tk ≠ q) (hq : H q = some (.lst ys)) : RowsAt (upd H q o) rw tk rs :=
  R.kp (P := [q]) (Kp.inn (Kp.refl _ _) (by simp)) (fun c hc => by have e : c = q := by simpa using hc
                                                                   subst e; exact ⟨ys, hq⟩) (by simpa using h1) (by simpa using h2)
/-- a row more -/
theorem RowsAt.add {H H2 : Hp} {p rw tk n : Addr} {rs : List (Addr × Row)} {x a b : Str} (R : RowsAt H rw tk rs) (hp : Pot H p) (n1 : rw ≠ p) (n2 : rw ≠ tk) (K2 : Kp [p, tk] H H2) (t2 : H2 tk = some (.lst ((nms rs ++ [x]).map V.str))) (hn : H2 n = none) :
    RowsAt (upd (upd H2 n (.tup [.str x, .str a, .str b])) rw (.lst (rrefs rs ++ [.ref n]))) rw tk (rs ++ [(n, (x, a, b))]) := by
  have hP : ∀ c ∈ [p, tk], ∃ ys, H c = some (.lst ys) := fun c hc => by
    rcases List.mem_cons.mp hc with rfl | hc
    · exact hp.lst
    · have e : c = tk := by simpa using hc
      subst e; exact ⟨_, R.tl⟩
  have r2 : H2 rw = some (.lst (rrefs rs)) := K2 _ _ R.rl (by simp [n1, n2])
  have nrw : n ≠ rw := fun z => by rw [z, r2] at hn; cases hn
  have ntk : tk ≠ n := ne_of_none t2 hn
  refine ⟨by rw [upd_same]; simp [rrefs], by rw [upd_ne n2.symm, upd_ne ntk, t2]; simp [nms], fun r hr => ?_⟩
  rcases List.mem_append.mp hr with z | z
  · have e2 := tup_kp K2 hP (R.rows r z)
    show upd _ _ _ r.1 = _
    rw [upd_ne (tup_ne e2 r2), upd_ne (ne_of_none e2 hn)]
    exact e2
  · have e : r = (n, (x, a, b)) := by simpa using z
    subst e
    show upd _ _ _ n = _
    rw [upd_ne nrw, upd_same]
theorem GR.add {ps : List Str} {rs : List (Addr × Row)} {n : Addr} {x a b : Str} (G : GR ps rs) (hx : NameP x) (hn : x ∉ nms rs) (ha : a ∈ ps) (hb : b ∈ ps) (hab : a ≠ b) : GR ps (rs ++ [(n, (x, a, b))]) := by
  refine ⟨?_, fun r hr => ?_⟩
  · rw [nms, List.map_append]
    refine List.nodup_append.mpr ⟨G.nd, by simp, fun y hy z hz => ?_⟩
    have e : z = x := by simpa using hz
    subst e
    exact fun q => hn (q ▸ hy)
  · rcases List.mem_append.mp hr with z | z
    · exact G.ok r z
    · have e : r = (n, (x, a, b)) := by simpa using z
      subst e
      exact ⟨hx, ha, hb, hab⟩
theorem filter_one {ps : List Str} {x : Str} : ps.Nodup → x ∈ ps → (ps.filter fun y => !decide (y = x)).length + 1 = ps.length := by
  induction ps with
  | nil => intro _ h; cases h
  | cons y t ih =>
    intro hn hm
    have hn' := List.nodup_cons.mp hn
    by_cases e : y = x
    · subst e
      rw [List.filter_cons, if_neg (by simp), List.filter_eq_self.mpr fun z hz => by simpa using fun q : z = y => hn'.1 (q ▸ hz)]
      rfl
    · rw [List.filter_cons, if_pos (by simpa using e), List.length_cons, List.length_cons, ih hn'.2 ((List.mem_cons.mp hm).resolve_left fun q => e q.symm)]
theorem strOk_of {x : Str} (h : NameP x) : PyData.strOk x = true := by
  unfold PyData.strOk
  rw [Array.all_eq_true']
  intro c hc
  have := h.az c (by simpa using hc)
  simp; omega
theorem lay_strs {ss : List Str} (h : ∀ x ∈ ss, NameP x) : PyData.canLayAll0 (ss.map PyData.str) = true ∧ PyData.depthAll (ss.map PyData.str) = 0 := by
  induction ss with
  | nil => exact ⟨rfl, rfl⟩
  | cons x t ih =>
    have := ih fun y hy => h y (List.mem_cons_of_mem _ hy)
    rw [List.map_cons]
    simp only [PyData.canLayAll0, PyData.canLay0, PyData.depthAll, PyData.depth, strOk_of (h x List.mem_cons_self), this.1, this.2]
    exact ⟨rfl, rfl⟩
theorem shaped_strs {ss : List Str} (h : ∀ x ∈ ss, NameP x) : SeqAt.shaped (.list (ss.map PyData.str)) = true ∧ SeqAt.shaped (.tuple (ss.map PyData.str)) = true := by
  have q := lay_strs h
  unfold SeqAt.shaped
  simp only [PyData.canLay0, PyData.depth, q.1, q.2]
  exact ⟨by decide, by decide⟩
theorem eqvAll_strs : ∀ (a b : List Str), PyData.eqvAll (a.map PyData.str) (b.map PyData.str) = decide (a = b)
  | [], [] => by simp [PyData.eqvAll]
  | [], y :: t => by simp [PyData.eqvAll]
  | x :: s, [] => by simp [PyData.eqvAll]
  | x :: s, y :: t => by
    simp only [List.map_cons, PyData.eqvAll, PyData.eqv, eqvAll_strs s t]
    rw [Bool.eq_iff_iff]
    simp
end K11

set_option Elab.async false
set_option linter.all false
set_option maxRecDepth 100000
set_option maxHeartbeats 4000000
namespace K11
open PySem L2
theorem nodup_erase {α : Type} : ∀ {l : List α} {i : Nat} (hi : i < l.length), l.Nodup → l[i] ∉ l.eraseIdx i
  | x :: t, 0, _, hn => (List.nodup_cons.mp hn).1
  | x :: t, i + 1, hi, hn => by
    have hn' := List.nodup_cons.mp hn
    have hi' : i < t.length := by simpa using hi
    show t[i] ∉ x :: t.eraseIdx i
    intro h
    rcases List.mem_cons.mp h with e | h
    · exact hn'.1 (e ▸ List.getElem_mem hi')
    · exact nodup_erase hi' hn'.2 h
theorem erase_map {α β : Type} (f : α → β) : ∀ (l : List α) (i : Nat), (l.map f).eraseIdx i = (l.eraseIdx i).map f
  | [], i => by simp
  | x :: t, 0 => rfl
  | x :: t, i + 1 => by
    show f x :: (t.map f).eraseIdx i = f x :: (t.eraseIdx i).map f
    rw [erase_map f t i]
/-- a tree from the root: each other place is led to by one row, and is one step further than that row's start -/
structure Tree (root : Str) (ps : List Str) (R : List Row) : Prop where
  nd : (root :: R.map (·.2.2)).Nodup
  all : ∀ x ∈ ps, x ∈ root :: R.map (·.2.2)
  rk : ∃ d : Str → Nat, d root = 0 ∧ ∀ r ∈ R, d r.2.2 = d r.2.1 + 1
structure Grow (root : Str) (ps ds ls ts : List Str) (R : List (Addr × Row)) : Prop where
  dse : ds = root :: R.map (·.2.2.2)
  st : ∀ r ∈ R, r.2.2.1 ∈ ds
  rk : ∃ d : Str → Nat, d root = 0 ∧ ∀ r ∈ R, d r.2.2.2 = d r.2.2.1 + 1
  tse : ts = R.map (·.2.1)
  nd : ds.Nodup
  all : ∀ x ∈ ps, x ∈ ds ∨ x ∈ ls
theorem nodup_end {α : Type} {l : List α} {x : α} (h : l.Nodup) (hx : x ∉ l) : (l ++ [x]).Nodup := by
  rw [List.nodup_append]
  refine ⟨h, by simp, fun a ha b hb => ?_⟩
  have e : b = x := by simpa using hb
  subst e
  exact fun q => hx (q ▸ ha)
theorem Grow.add {root : Str} {ps ds ls ts ls' : List Str} {R : List (Addr × Row)} (G : Grow root ps ds ls ts R) {n : Addr} {x a z : Str} (ha : a ∈ ds) (hz : z ∉ ds) (hl : ∀ y ∈ ls, y = z ∨ y ∈ ls') : Grow root ps (ds ++ [z]) ls' (ts ++ [x]) (R ++ [(n, (x, a, z))]) := by
  obtain ⟨d, d0, d1⟩ := G.rk
  have hr : root ∈ ds := by rw [G.dse]; exact List.mem_cons_self
  have hg : ∀ r ∈ R, r.2.2.2 ∈ ds := fun r h => by rw [G.dse]; exact List.mem_cons_of_mem _ (List.mem_map_of_mem h)
  refine ⟨by rw [G.dse]; simp, fun r h => ?_, ⟨fun y => if y = z then d a + 1 else d y, ?_, fun r h => ?_⟩, by rw [G.tse]; simp, nodup_end G.nd hz, fun y hy => ?_⟩
  · rcases List.mem_append.mp h with q | q
    · exact List.mem_append_left _ (G.st r q)
    · have e : r = (n, (x, a, z)) := by simpa using q
      subst e; exact List.mem_append_left _ ha
  · show (if root = z then _ else _) = 0
    have e0 : ¬ root = z := fun e => hz (e ▸ hr)
    rw [if_neg e0]; exact d0
  · rcases List.mem_append.mp h with q | q
    · show (if r.2.2.2 = z then _ else _) = (if r.2.2.1 = z then _ else _) + 1
      have e0 : ¬ r.2.2.2 = z := fun e => hz (e ▸ hg r q)
      have e1 : ¬ r.2.2.1 = z := fun e => hz (e ▸ G.st r q)
      rw [if_neg e0, if_neg e1]
      exact d1 r q
    · have e : r = (n, (x, a, z)) := by simpa using q
      subst e
      show (if z = z then _ else _) = (if a = z then _ else _) + 1
      have e0 : ¬ a = z := fun e => hz (e ▸ ha)
      rw [if_pos rfl, if_neg e0]
  · rcases G.all y hy with q | q
    · exact .inl (List.mem_append_left _ q)
    · rcases hl y q with e | e
      · exact .inl (List.mem_append_right _ (by simp [e]))
      · exact .inr e
theorem Grow.tree {root : Str} {ps ds ts : List Str} {R : List (Addr × Row)} (G : Grow root ps ds [] ts R) : Tree root ps (R.map (·.2)) := by
  have e : root :: (R.map (·.2)).map (·.2.2) = ds := by rw [G.dse, List.map_map]; rfl
  refine ⟨by rw [e]; exact G.nd, fun x hx => by rw [e]; exact (G.all x hx).resolve_right (by simp), ?_⟩
  obtain ⟨d, d0, d1⟩ := G.rk
  exact ⟨d, d0, fun r h => by obtain ⟨t, ht, rfl⟩ := List.mem_map.mp h; exact d1 t ht⟩
section
variable {P : Program} {w : World} {K : PySem.W.Frag} {mg : Str → Option Value} {base : Heap}

noncomputable def spGrown : Sp := fun vs H Q _ => ∃ (p pl rw tk : Addr) (root : Str) (ps : List Str) (rs : List (Addr × Row)), vs = [.ref p, .ref pl, .str root, .ref rw, .ref tk] ∧ Pot H p ∧ H pl = some (.lst (ps.map V.str)) ∧ root ∈ ps ∧ ps.Nodup ∧ (∀ x ∈ ps, NameP x) ∧ ps.length ≤ 8 ∧
  RowsAt H rw tk rs ∧ GR ps rs ∧ rs.length ≤ 300 ∧ rw ≠ p ∧ tk ≠ p ∧ rw ≠ tk ∧
  ∀ (q : Addr) (more : List (Addr × Row)) (ss : List Str) (H' : Hp), Pot H' p → RowsAt H' rw tk (rs ++ more) → GR ps (rs ++ more) → more.length ≤ 7 → Kp [p, rw, tk] H H' → H' q = some (.tup (ss.map V.str)) → ss.Pairwise nlt → ss.Perm (more.map (·.2.1)) → Tree root ps (more.map (·.2)) → Q (.ref q) H'
noncomputable abbrev N13 : List Str := ["_law_pot_here", "_law_places_here", "_law_root", "_law_rows", "_law_taken", "_law_done", "_law_left", "_law_tree", "_law_goal"]
theorem sc13 : FnScope N13 ["_law_pot_here", "_law_places_here", "_law_root", "_law_rows", "_law_taken"] (defScope (top 13)) := ⟨rfl, rfl, rfl, by decide +kernel, rfl, by decide +kernel, by decide +kernel⟩
structure GS (H H1 : Hp) (p rw tk d l tr : Addr) (ps : List Str) (ds ls ts : List Str) (rs more : List (Addr × Row)) : Prop where
  pot : Pot H1 p
  dd : H1 d = some (.lst (ds.map V.str))
  ll : H1 l = some (.lst (ls.map V.str))
  tt : H1 tr = some (.lst (ts.map V.str))
  ra : RowsAt H1 rw tk (rs ++ more)
  gr : GR ps (rs ++ more)
  kp : Kp [p, rw, tk] H H1
structure GP (root : Str) (ps : List Str) (ds ls ts : List Str) (more : List (Addr × Row)) : Prop where
  d1 : ∀ x ∈ ds, x ∈ ps
  l1 : ∀ x ∈ ls, x ∈ ps ∧ x ∉ ds
  ln : ls.Nodup
  n1 : more.length + ls.length + 1 = ps.length
  n2 : ds.length = more.length + 1
  n3 : ts.length = more.length
  gw : Grow root ps ds ls ts more
theorem GS.new {H H1 : Hp} {p rw tk d l tr q : Addr} {o : HO} {ps ds ls ts : List Str} {rs more : List (Addr × Row)} (S : GS H H1 p rw tk d l tr ps ds ls ts rs more) (hq : H1 q = none) : GS H (upd H1 q o) p rw tk d l tr ps ds ls ts rs more :=
  ⟨S.pot.keep fun ob e => by rw [upd_ne (ne_of_none e hq)]; exact e, by rw [upd_ne (ne_of_none S.dd hq)]; exact S.dd, by rw [upd_ne (ne_of_none S.ll hq)]; exact S.ll, by rw [upd_ne (ne_of_none S.tt hq)]; exact S.tt, S.ra.new hq, S.gr, S.kp.new hq⟩
/-- the pot alone has turned -/
theorem GS.pots {H H1 H2 : Hp} {p rw tk d l tr : Addr} {ps ds ls ts : List Str} {rs more : List (Addr × Row)} (S : GS H H1 p rw tk d l tr ps ds ls ts rs more) (n1 : rw ≠ p) (n2 : tk ≠ p) (n3 : d ≠ p) (n4 : l ≠ p) (n5 : tr ≠ p) (P2 : Pot H2 p) (e2 : ∀ b, b ≠ p → H2 b = H1 b) :
    GS H H2 p rw tk d l tr ps ds ls ts rs more :=
  ⟨P2, by rw [e2 d n3]; exact S.dd, by rw [e2 l n4]; exact S.ll, by rw [e2 tr n5]; exact S.tt, S.ra.kp (P := [p]) (fun b o e nb => by rw [e2 b (by simpa using nb)]; exact e) (fun c hc => by
    have e : c = p := by simpa using hc
    subst e; exact S.pot.lst) (by simpa using n1) (by simpa using n2), S.gr, S.kp.trans fun b o e nb => by rw [e2 b (by simp at nb; exact nb.1)]; exact e⟩

theorem ok_grown {f : Addr} {fd : FuncData} (F : Fun K "_law_grown" "_law_grown" (top 13) f fd) (B : Bl mg) (Ft : Fn P w K mg base 1 "_law_take" ["_law_pot_here", "_law_many"] spTake) (Fm : Fn P w K mg base 2 "_law_name" ["_law_pot_here", "_law_taken"] spNm) :
    FnOk P w K mg base CX0 3 f fd ["_law_pot_here", "_law_places_here", "_law_root", "_law_rows", "_law_taken"] spGrown := by
  refine F.ok sc13 (fun vs H Q E h => ?_) (fun cdv A outer s H vs Q E hr h => ?_)
  · obtain ⟨p, pl, rw, tk, root, ps, rs, rfl, _⟩ := h
    rfl
  · obtain ⟨p, pl, rw, tk, root, ps, rs, rfl, hp, hpl, hroot, pnd, pnm, p8, R, G, hz, nrp, ntp, nrt, k⟩ := h
    have hr1 : Room 1 _ := hr.mono (by decide)
    refine ⟨_, pss_cons (ps_set (i := 5) sc13.nd rfl (Or.inl rfl) (pe_lst (pa_cons (pv 2) pa_nil)))
      (pss_cons (ps_setLc (i := 6) (N := ["_law_place", "_law_root"]) (ix := [none, some 2]) sc13.nd rfl (Or.inl rfl) ⟨rfl, rfl, rfl, by decide⟩ rfl (pi_list (pv 1)) (fun _ _ _ _ => pg_lc 0 (by decide) rfl rfl) (fun _ _ _ _ => pts_one (pt_cmpR op_ne (pv 0) (pv 1) (nomark _))) (fun _ _ _ _ => pv 0))
      (pss_cons (ps_set (i := 7) sc13.nd rfl (Or.inl rfl) (pe_lst pa_nil))
      (pss_cons (ps_while PassesOwn.never (pt_cmpR (op_neD hr) (pv 6) (pe_lst pa_nil) (nomark _))
        (pss_cons (ps_set (i := 8) sc13.nd rfl (Or.inl rfl) (pe_bm PySem.F.plainAttrs_list PySem.F.slot_list_pop PySem.F.type_list_pop mt_popAt (pv 6) (pa_cons (pe_fn Ft hr1 (pa_cons (pv 0) (pa_cons (pe_callB call_len_seq rfl B.len PySem.boot_len (pa_cons (pv 6) pa_nil)) pa_nil))) pa_nil)))
        (pss_cons (ps_expr (pe_bm PySem.F.plainAttrs_list PySem.F.slot_list_append PySem.F.type_list_append mt_append (pv 3) (pa_cons (pe_tup (pa_cons (pe_fn Fm hr (pa_cons (pv 0) (pa_cons (pv 4) pa_nil)))
            (pa_cons (pe_ix ix_seq (pv 5) (pe_fn Ft hr1 (pa_cons (pv 0) (pa_cons (pe_callB call_len_seq rfl B.len PySem.boot_len (pa_cons (pv 5) pa_nil)) pa_nil))) (fun _ _ => rfl)) (pa_cons (pv 8) pa_nil)))) pa_nil)))
        (pss_cons (ps_expr (pe_bm PySem.F.plainAttrs_list PySem.F.slot_list_append PySem.F.type_list_append mt_append (pv 7) (pa_cons (pe_ix ix_seq (pe_ix ix_seq (pv 3) (pe_un un_neg pe_int) (fun _ _ => rfl)) pe_int (fun _ _ => rfl)) pa_nil)))
        (pss_one (ps_expr (pe_bm PySem.F.plainAttrs_list PySem.F.slot_list_append PySem.F.type_list_append mt_append (pv 5) (pa_cons (pv 8) pa_nil))))))))
      (pss_one (ps_ret (pe_callTy call_tuple_of rfl B.tuple b_tuple (pa_cons (pe_callB call_sortedS rfl B.sorted b_sorted (pa_cons (pv 7) pa_nil)) pa_nil))))))), ?_⟩
    refine ⟨_, rfl, by show 1 ≤ sizeLine; decide, fun d hd => ?_⟩
    have ndp : d ≠ p := fun z => by obtain ⟨o, e⟩ := hp.some; rw [← z, hd] at e; cases e
    have ndr : d ≠ rw := (ne_of_none R.rl hd).symm
    have ndt : d ≠ tk := (ne_of_none R.tl hd).symm
    have p1 : Pot (upd H d (.lst [.str root])) p := hp.keep fun o e => by rw [upd_ne ndp.symm]; exact e
    have R1 : RowsAt (upd H d (.lst [.str root])) rw tk rs := R.new hd
    have K1 : Kp [p, rw, tk] H (upd H d (.lst [.str root])) := (Kp.refl _ _).new hd
    have d1 : upd H d (.lst [.str root]) d = some (.lst ([root].map V.str)) := upd_same
    have pl1 : upd H d (.lst [.str root]) pl = some (.lst (ps.map V.str)) := by rw [upd_ne (ne_of_none hpl hd)]; exact hpl
    generalize upd H d (.lst [.str root]) = H1 at p1 R1 K1 d1 pl1 ⊢
    refine ⟨_, rfl, pl, rfl, ⟨_, SqL.of pl1⟩, lcw_list1 (xs := ps.map V.str) (fits (by simp; omega)) (fun i ys σ H2 => ys = ((ps.take i).filter fun y => !decide (y = root)).map V.str ∧ H2 = H1 ∧ ∃ v, σ = [v, some (.str root)]) ⟨rfl, rfl, _, rfl⟩
      (fun i ys σ H2 _ q => ⟨by rw [q.1, List.length_map]; exact Nat.le_trans (List.length_filter_le _ _) (by simp; omega), by rw [q.2.1]; exact SqL.of pl1⟩) ?_ ?_⟩
    · rintro i y ys σ H2 hy ⟨rfl, rfl, v, rfl⟩
      rw [List.getElem?_map] at hy
      cases hc : ps[i]? with
      | none => rw [hc] at hy; cases hy
      | some z =>
        rw [hc] at hy
        cases hy
        have tf := take_filter_succ (fun z : Str => !decide (z = root)) ps i z hc
        refine ⟨_, rfl, _, rfl, rfl, _, rfl, ?_⟩
        have e : (!decide (V.str z = V.str root)) = !decide (z = root) := by simp
        rw [e]
        refine ite2 (fun c => ⟨_, rfl, ?_, rfl, _, rfl⟩) (fun c => ⟨?_, rfl, _, rfl⟩)
        · rw [tf, c]; simp
        · rw [tf]; simp only [Bool.not_eq_true] at c; rw [c]; simp
    rintro ys σ H2 ⟨rfl, rfl, v, rfl⟩ l hl
    rw [take_all ps (by simp)]
    have nlp : l ≠ p := fun z => by obtain ⟨o, e⟩ := p1.some; rw [← z, hl] at e; cases e
    have nlr : l ≠ rw := (ne_of_none R1.rl hl).symm
    have nlt' : l ≠ tk := (ne_of_none R1.tl hl).symm
    have nld : l ≠ d := (ne_of_none d1 hl).symm
    have hl0 : H l = none := K1.free (fun b hb => by
      rcases List.mem_cons.mp hb with rfl | hb
      · exact p1.some
      rcases List.mem_cons.mp hb with rfl | hb
      · exact ⟨_, R1.rl⟩
      · have e : b = tk := by simpa using hb
        subst e; exact ⟨_, R1.tl⟩) hl
    have hf1 := filter_one pnd hroot
    have hfm : ∀ x ∈ ps.filter (fun y => !decide (y = root)), x ∈ ps ∧ x ∉ [root] := fun x hx => by
      obtain ⟨a, b⟩ := List.mem_filter.mp hx
      exact ⟨a, by simpa using b⟩
    have hfn : (ps.filter fun y => !decide (y = root)).Nodup := pnd.filter _
    have hfa : ∀ x ∈ ps, x ∈ [root] ∨ x ∈ ps.filter (fun y => !decide (y = root)) := fun x hx => by
      by_cases e : x = root
      · exact .inl (by simp [e])
      · exact .inr (List.mem_filter.mpr ⟨hx, by simpa using e⟩)
    generalize ps.filter (fun y => !decide (y = root)) = ls0 at hf1 hfm hfn hfa ⊢
    have p2 : Pot (upd H2 l (.lst (ls0.map V.str))) p := p1.keep fun o e => by rw [upd_ne nlp.symm]; exact e
    have R2 := R1.new (o := .lst (ls0.map V.str)) hl
    have K2 := K1.new (o := .lst (ls0.map V.str)) hl
    have d2 : upd H2 l (.lst (ls0.map V.str)) d = some (.lst ([root].map V.str)) := by rw [upd_ne nld.symm]; exact d1
    have l2 : upd H2 l (.lst (ls0.map V.str)) l = some (.lst (ls0.map V.str)) := upd_same
    generalize upd H2 l (.lst (ls0.map V.str)) = H3 at p2 R2 K2 d2 l2 ⊢
    refine ⟨Nat.zero_le _, fun tr htr => ?_⟩
    have nrp' : tr ≠ p := fun z => by obtain ⟨o, e⟩ := p2.some; rw [← z, htr] at e; cases e
    have nrr : tr ≠ rw := (ne_of_none R2.rl htr).symm
    have nrt' : tr ≠ tk := (ne_of_none R2.tl htr).symm
    have nrd : tr ≠ d := (ne_of_none d2 htr).symm
    have nrl : tr ≠ l := (ne_of_none l2 htr).symm
    have htr0 : H tr = none := K2.free (fun b hb => by
      rcases List.mem_cons.mp hb with rfl | hb
      · exact p2.some
      rcases List.mem_cons.mp hb with rfl | hb
      · exact ⟨_, R2.rl⟩
      · have e : b = tk := by simpa using hb
        subst e; exact ⟨_, R2.tl⟩) htr
    have S0 : GS H (upd H3 tr (.lst [])) p rw tk d l tr ps [root] ls0 [] rs [] :=
      ⟨p2.keep fun o e => by rw [upd_ne nrp'.symm]; exact e, by rw [upd_ne nrd.symm]; exact d2, by rw [upd_ne nrl.symm]; exact l2, upd_same, by rw [List.append_nil]; exact R2.new htr, by rw [List.append_nil]; exact G, K2.new htr⟩
    have G0 : GP root ps [root] ls0 [] [] := ⟨fun x hx => by
      have e : x = root := by simpa using hx
      subst e; exact hroot, hfm, hfn, by simp; omega, rfl, rfl, ⟨rfl, by simp, ⟨fun _ => 0, rfl, by simp⟩, rfl, by simp, hfa⟩⟩
    refine ⟨fun m σ H4 => ∃ ds ls ts more g, σ = [some (.ref p), some (.ref pl), some (.str root), some (.ref rw), some (.ref tk), some (.ref d), some (.ref l), some (.ref tr), g] ∧ ls.length = m ∧ GS H H4 p rw tk d l tr ps ds ls ts rs more ∧ GP root ps ds ls ts more, ⟨_, [root], ls0, [], [], none, rfl, rfl, S0, G0⟩, ?_⟩
    rintro m σ H4 ⟨ds, ls, ts, more, g, rfl, rfl, S, C⟩
    refine ⟨_, rfl, Nat.zero_le _, fun e he => ?_⟩
    have S1 := S.new (o := .lst []) he
    have e1 : upd H4 e (.lst []) e = some (.lst []) := upd_same
    generalize upd H4 e (.lst []) = H5 at S1 e1 ⊢
    have lnm : ∀ x ∈ ls, NameP x := fun x hx => pnm x (C.l1 x hx).1
    refine ⟨.list (ls.map PyData.str), .list [], .lst S1.ll (DVs.strs ls), .lst e1 .nil, (shaped_strs lnm).1, (shaped_strs (ss := []) (by simp)).1, _, rfl, ?_⟩
    have ev : PyData.eqv (.list (ls.map PyData.str)) (.list []) = decide (ls = []) := eqvAll_strs ls []
    rw [ev]
    refine ite2 (fun c => ?_) (fun c => ?_)
    · -- a turn
      have hne : ls ≠ [] := by simpa using c
      have hlp : 0 < ls.length := by cases ls with | nil => exact absurd rfl hne | cons _ _ => simp
      have hl8 : ls.length ≤ 8 := by have := C.n1; omega
      refine ⟨fun σ' H' => ∃ m', m' < ls.length ∧ ∃ ds ls ts more g, σ' = [some (.ref p), some (.ref pl), some (.str root), some (.ref rw), some (.ref tk), some (.ref d), some (.ref l), some (.ref tr), g] ∧ ls.length = m' ∧ GS H H' p rw tk d l tr ps ds ls ts rs more ∧ GP root ps ds ls ts more, fun σ' H' q => q, ?_⟩
      refine ⟨_, rfl, .inl ⟨rfl, _, SqL.of S1.ll⟩, _, rfl, _, rfl, l, _, rfl, .inl (SqL.of S1.ll), p, _, rfl, S1.pot, by rw [List.length_map]; omega, by rw [List.length_map]; omega, fun i H6 i0 i1 P6 e6 => ?_⟩
      rw [List.length_map] at i1
      have S2 := S1.pots nrp ntp ndp nlp nrp' P6 e6
      have hil : i.toNat < ls.length := by omega
      refine ⟨l, ls.map V.str, i, i.toNat, .str ls[i.toNat], rfl, rfl, S2.ll, by omega, by omega, seqIndex_of i0 (by rw [List.length_map]; omega), strAt hil, ?_⟩
      have hzm : ls[i.toNat] ∈ ls := List.getElem_mem hil
      have hze := C.l1 _ hzm
      have herl : (ls.eraseIdx i.toNat).length + 1 = ls.length := by rw [List.length_eraseIdx, if_pos hil]; omega
      have hsub : ∀ x ∈ ls.eraseIdx i.toNat, x ∈ ls := fun x hx => List.mem_of_mem_eraseIdx hx
      have hnz : ls[i.toNat] ∉ ls.eraseIdx i.toNat := nodup_erase hil C.ln
      have hnd' : (ls.eraseIdx i.toNat).Nodup := C.ln.sublist (List.eraseIdx_sublist _ _)
      have hal : ∀ y ∈ ls, y = ls[i.toNat] ∨ y ∈ ls.eraseIdx i.toNat := fun y hy => by
        rcases List.mem_cons.mp ((eraseIdx_perm ls i.toNat hil).mem_iff.mpr hy) with q | q
        · exact .inl q
        · exact .inr q
      have em : (ls.map V.str).eraseIdx i.toNat = (ls.eraseIdx i.toNat).map V.str := erase_map _ _ _
      rw [em]
      generalize ls[i.toNat] = z at hzm hze hnz hal ⊢
      generalize ls.eraseIdx i.toNat = ls' at herl hsub hnz hnd' hal ⊢
      have S3 : GS H (upd H6 l (.lst (ls'.map V.str))) p rw tk d l tr ps ds ls' ts rs more :=
        ⟨S2.pot.keep fun o q => by rw [upd_ne nlp.symm]; exact q, by rw [upd_ne nld.symm]; exact S2.dd, upd_same, by rw [upd_ne nrl]; exact S2.tt, S2.ra.off nlr.symm nlt'.symm S2.ll, S2.gr, fun b o q nb => by rw [upd_ne (ne_of_none q hl0)]; exact S2.kp b o q nb⟩
      generalize upd H6 l (.lst (ls'.map V.str)) = H7 at S3 ⊢
      have hrl : (rs ++ more).length ≤ 400 := by rw [List.length_append]; have := C.n1; omega
      refine ⟨_, rfl, .inl ⟨rfl, _, SqL.of S3.ra.rl⟩, _, rfl, _, rfl, p, tk, nms (rs ++ more), rfl, S3.pot, S3.ra.tl, by rw [nms, List.length_map]; omega, fun x H8 hx hxn P8 t8 K8 => ?_⟩
      have d8 : H8 d = some (.lst (ds.map V.str)) := K8 _ _ S3.dd (by simp [ndp, ndt])
      have l8 : H8 l = some (.lst (ls'.map V.str)) := K8 _ _ S3.ll (by simp [nlp, nlt'])
      have r8 : H8 tr = some (.lst (ts.map V.str)) := K8 _ _ S3.tt (by simp [nrp', nrt'])
      have hdl := C.n2
      refine ⟨_, rfl, _, rfl, _, rfl, d, _, rfl, .inl (SqL.of d8), p, _, rfl, P8, by rw [List.length_map]; omega, by rw [List.length_map]; have := C.n1; omega, fun j H9 j0 j1 P9 e9 => ?_⟩
      rw [List.length_map] at j1
      have hjl : j.toNat < ds.length := by omega
      have d9 : H9 d = some (.lst (ds.map V.str)) := by rw [e9 d ndp]; exact d8
      have l9 : H9 l = some (.lst (ls'.map V.str)) := by rw [e9 l nlp]; exact l8
      have r9 : H9 tr = some (.lst (ts.map V.str)) := by rw [e9 tr nrp']; exact r8
      have t9 : H9 tk = some (.lst ((nms (rs ++ more) ++ [x]).map V.str)) := by rw [e9 tk ntp]; exact t8
      have K9 : Kp [p, tk] H7 H9 := K8.trans fun b o q nb => by rw [e9 b (by simp at nb; exact nb.1)]; exact q
      refine rix_of (j := j.toNat) (.inl (SqL.of d9)) (by omega) (strAt hjl) ⟨_, rfl, by show 3 ≤ sizeLine; decide, fun n hn => ?_⟩
      have ham : ds[j.toNat] ∈ ds := List.getElem_mem hjl
      generalize ds[j.toNat] = a at ham ⊢
      have R10 := S3.ra.add (a := a) (b := z) S3.pot nrp nrt K9 t9 hn
      have G10 := S3.gr.add (n := n) (a := a) (b := z) hx hxn (C.d1 a ham) hze.1 (fun q => hze.2 (q ▸ ham))
      have w9 : H9 rw = some (.lst (rrefs (rs ++ more))) := K9 _ _ S3.ra.rl (by simp [nrp, nrt])
      have nnr : rw ≠ n := ne_of_none w9 hn
      have p9n : p ≠ n := fun q => by obtain ⟨o, e⟩ := P9.some; rw [q, hn] at e; cases e
      refine ⟨rw, rrefs (rs ++ more), .ref n, rfl, rfl, by rw [upd_ne nnr]; exact w9, fits (by rw [List.length_map]; omega), ?_⟩
      have P10 : Pot (upd (upd H9 n (.tup [.str x, .str a, .str z])) rw (.lst (rrefs (rs ++ more) ++ [.ref n]))) p := P9.keep fun o q => by rw [upd_ne nrp.symm, upd_ne p9n]; exact q
      have d10 : upd (upd H9 n (.tup [.str x, .str a, .str z])) rw (.lst (rrefs (rs ++ more) ++ [.ref n])) d = some (.lst (ds.map V.str)) := by rw [upd_ne ndr, upd_ne (ne_of_none d9 hn)]; exact d9
      have l10 : upd (upd H9 n (.tup [.str x, .str a, .str z])) rw (.lst (rrefs (rs ++ more) ++ [.ref n])) l = some (.lst (ls'.map V.str)) := by rw [upd_ne nlr, upd_ne (ne_of_none l9 hn)]; exact l9
      have r10 : upd (upd H9 n (.tup [.str x, .str a, .str z])) rw (.lst (rrefs (rs ++ more) ++ [.ref n])) tr = some (.lst (ts.map V.str)) := by rw [upd_ne nrr, upd_ne (ne_of_none r9 hn)]; exact r9
      have K10 : Kp [p, rw, tk] H (upd (upd H9 n (.tup [.str x, .str a, .str z])) rw (.lst (rrefs (rs ++ more) ++ [.ref n]))) := ((S3.kp.trans (K9.mono fun b hb => by simp at hb ⊢; rcases hb with q | q <;> simp [q])).new hn).inn (by simp)
      generalize upd (upd H9 n (.tup [.str x, .str a, .str z])) rw (.lst (rrefs (rs ++ more) ++ [.ref n])) = H10 at R10 P10 d10 l10 r10 K10 ⊢
      have row10 : H10 n = some (.tup [.str x, .str a, .str z]) := R10.rows (n, (x, a, z)) (by simp)
      have rl10 : H10 rw = some (.lst (rrefs (rs ++ more) ++ [.ref n])) := by rw [R10.rl]; simp [rrefs]
      refine ⟨_, rfl, .inl ⟨rfl, _, SqL.of r10⟩, _, rfl, 1, rfl, .inl ⟨rw, _, _, .ref n, rfl, rfl, SqL.of rl10, atI_last _ _, rix_of (j := 0) (.inr (SqT.of row10)) rfl rfl ⟨tr, ts.map V.str, .str x, rfl, rfl, r10, fits (by have := C.n3; have := C.n1; simp; omega), ?_⟩⟩⟩
      have R11 := R10.off (o := .lst (ts.map V.str ++ [.str x])) nrr.symm nrt'.symm r10
      have P11 : Pot (upd H10 tr (.lst (ts.map V.str ++ [.str x]))) p := P10.keep fun o q => by rw [upd_ne nrp'.symm]; exact q
      have d11 : upd H10 tr (.lst (ts.map V.str ++ [.str x])) d = some (.lst (ds.map V.str)) := by rw [upd_ne nrd.symm]; exact d10
      have l11 : upd H10 tr (.lst (ts.map V.str ++ [.str x])) l = some (.lst (ls'.map V.str)) := by rw [upd_ne nrl.symm]; exact l10
      have r11 : upd H10 tr (.lst (ts.map V.str ++ [.str x])) tr = some (.lst ((ts ++ [x]).map V.str)) := by rw [upd_same, List.map_append]; rfl
      have K11 : Kp [p, rw, tk] H (upd H10 tr (.lst (ts.map V.str ++ [.str x]))) := fun b o q nb => by rw [upd_ne (ne_of_none q htr0)]; exact K10 b o q nb
      generalize upd H10 tr (.lst (ts.map V.str ++ [.str x])) = H11 at R11 P11 d11 l11 r11 K11 ⊢
      refine ⟨_, rfl, .inl ⟨rfl, _, SqL.of d11⟩, _, rfl, d, ds.map V.str, .str z, rfl, rfl, d11, fits (by have := C.n2; have := C.n1; simp; omega), ?_⟩
      refine ⟨ls'.length, by omega, ds ++ [z], ls', ts ++ [x], more ++ [(n, (x, a, z))], _, rfl, rfl, ⟨?_, ?_, ?_, ?_, ?_, ?_, ?_⟩, ⟨?_, ?_, ?_, ?_, ?_, ?_, C.gw.add ham hze.2 hal⟩⟩
      · exact P11.keep fun o q => by rw [upd_ne ndp.symm]; exact q
      · rw [upd_same, List.map_append]; rfl
      · rw [upd_ne nld]; exact l11
      · rw [upd_ne nrd]; exact r11
      · have := R11.off (o := .lst (ds.map V.str ++ [.str z])) ndr.symm ndt.symm d11
        rw [List.append_assoc] at this
        exact this
      · rw [List.append_assoc] at G10; exact G10
      · exact fun b o q nb => by rw [upd_ne (ne_of_none q hd)]; exact K11 b o q nb
      · intro y hy
        rcases List.mem_append.mp hy with q | q
        · exact C.d1 y q
        · have e : y = z := by simpa using q
          subst e; exact hze.1
      · intro y hy
        have q := C.l1 y (hsub y hy)
        refine ⟨q.1, fun hm => ?_⟩
        rcases List.mem_append.mp hm with w' | w'
        · exact q.2 w'
        · have e : y = z := by simpa using w'
          subst e; exact hnz hy
      · exact hnd'
      · have := C.n1; simp; omega
      · have := C.n2; simp; omega
      · have := C.n3; simp; omega
    · -- the end
      refine ⟨_, rfl, tr, ts, rfl, SqL.of S1.tt, by have := C.n1; have := C.n3; omega, fun ss' q hpm hso hq => ?_⟩
      have e0 : ls = [] := by simpa using c
      subst e0
      have tnd : ts.Nodup := by
        rw [C.gw.tse]
        have := S1.gr.nd
        rw [nms, List.map_append] at this
        exact (List.nodup_append.mp this).2.1
      have snd : ss'.Nodup := hpm.nodup_iff.mpr tnd
      have S2 := S1.new (o := .lst (ss'.map V.str)) hq
      refine ⟨q, _, rfl, .inl ⟨SqL.of upd_same, fun u hu => ?_⟩⟩
      have S3 := S2.new (o := .tup (ss'.map V.str)) hu
      exact k u more ss' _ S3.pot S3.ra S3.gr (by have := C.n1; omega) S3.kp upd_same (sorted_pw hso snd) (by rw [← C.gw.tse]; exact hpm) C.gw.tree
end
end K11

set_option Elab.async false
set_option linter.all false
set_option maxRecDepth 100000
set_option maxHeartbeats 4000000
namespace K11
open PySem L2
theorem mod_ne {a r n : Int} (h1 : 0 ≤ a) (h2 : a < n) (h3 : 0 ≤ r) (h4 : r < n - 1) : (a + 1 + r) % n ≠ a ∧ 0 ≤ (a + 1 + r) % n ∧ (a + 1 + r) % n < n := by
  refine ⟨fun e => ?_, Int.emod_nonneg _ (by omega), Int.emod_lt_of_pos _ (by omega)⟩
  have q := Int.mul_ediv_add_emod (a + 1 + r) n
  rw [e] at q
  generalize (a + 1 + r) / n = k at q
  have hk : k ≤ 0 ∨ 1 ≤ k := by omega
  rcases hk with hk | hk
  · have := Int.mul_nonpos_of_nonneg_of_nonpos (show 0 ≤ n by omega) hk
    omega
  · have := Int.mul_le_mul_of_nonneg_left hk (show 0 ≤ n by omega)
    omega
section
variable {P : Program} {w : World} {K : PySem.W.Frag} {mg : Str → Option Value} {base : Heap}

noncomputable def spMore : Sp := fun vs H Q _ => ∃ (p pl rw tk : Addr) (many : Int) (ps : List Str) (rs : List (Addr × Row)), vs = [.ref p, .ref pl, .ref rw, .ref tk, .int many] ∧ Pot H p ∧ H pl = some (.lst (ps.map V.str)) ∧ ps.Nodup ∧ ps.length ≤ 8 ∧
  RowsAt H rw tk rs ∧ GR ps rs ∧ rs.length ≤ 300 ∧ 0 ≤ many ∧ many ≤ 100 ∧ rw ≠ p ∧ tk ≠ p ∧ rw ≠ tk ∧ pl ≠ rw ∧ pl ≠ tk ∧
  ∀ (more : List (Addr × Row)) (H' : Hp), Pot H' p → RowsAt H' rw tk (rs ++ more) → GR ps (rs ++ more) → (more.length : Int) ≤ many → Kp [p, rw, tk] H H' → Q .non H'
noncomputable abbrev N14 : List Str := ["_law_pot_here", "_law_places_here", "_law_rows", "_law_taken", "_law_many", "_law_k", "_law_a", "_law_b"]
theorem sc14 : FnScope N14 ["_law_pot_here", "_law_places_here", "_law_rows", "_law_taken", "_law_many"] (defScope (top 14)) := ⟨rfl, rfl, rfl, by decide +kernel, rfl, by decide +kernel, by decide +kernel⟩
theorem ok_more {f : Addr} {fd : FuncData} (F : Fun K "_law_more" "_law_more" (top 14) f fd) (B : Bl mg) (Ft : Fn P w K mg base 1 "_law_take" ["_law_pot_here", "_law_many"] spTake) (Fm : Fn P w K mg base 2 "_law_name" ["_law_pot_here", "_law_taken"] spNm) :
    FnOk P w K mg base CX0 3 f fd ["_law_pot_here", "_law_places_here", "_law_rows", "_law_taken", "_law_many"] spMore := by
  refine F.ok sc14 (fun vs H Q E h => ?_) (fun cdv A outer s H vs Q E hr h => ?_)
  · obtain ⟨p, pl, rw, tk, many, ps, rs, rfl, _⟩ := h
    rfl
  · obtain ⟨p, pl, rw, tk, many, ps, rs, rfl, hp, hpl, pnd, p8, R, G, hz, m0, m1, nrp, ntp, nrt, nlr, nlt', k⟩ := h
    have hr1 : Room 1 _ := hr.mono (by decide)
    have nlp : pl ≠ p := pot_ne hp hpl
    refine ⟨_, pss_one (ps_for PassesOwn.never rfl (pi_range1 rfl B.range (pa_cons (pe_op op_mul (pv 4) (pe_callTy call_int1 rfl B.int b_int (pa_cons (pe_cmpR op_gt (pe_callB call_len_seq rfl B.len PySem.boot_len (pa_cons (pv 1) pa_nil)) pe_int (nomark _)) pa_nil))) pa_nil)) (pg_name (i := 5) sc14.nd rfl (Or.inl rfl))
      (pss_cons (ps_set (i := 6) sc14.nd rfl (Or.inl rfl) (pe_fn Ft hr1 (pa_cons (pv 0) (pa_cons (pe_callB call_len_seq rfl B.len PySem.boot_len (pa_cons (pv 1) pa_nil)) pa_nil))))
      (pss_cons (ps_set (i := 7) sc14.nd rfl (Or.inl rfl) (pe_op op_mod (pe_op op_add (pe_op op_add (pv 6) pe_int) (pe_fn Ft hr1 (pa_cons (pv 0) (pa_cons (pe_op op_sub (pe_callB call_len_seq rfl B.len PySem.boot_len (pa_cons (pv 1) pa_nil)) pe_int) pa_nil)))) (pe_callB call_len_seq rfl B.len PySem.boot_len (pa_cons (pv 1) pa_nil))))
      (pss_one (ps_expr (pe_bm PySem.F.plainAttrs_list PySem.F.slot_list_append PySem.F.type_list_append mt_append (pv 2) (pa_cons (pe_tup (pa_cons (pe_fn Fm hr (pa_cons (pv 0) (pa_cons (pv 3) pa_nil)))
        (pa_cons (pe_ix ix_seq (pv 1) (pv 6) (fun _ _ => rfl)) (pa_cons (pe_ix ix_seq (pv 1) (pv 7) (fun _ _ => rfl)) pa_nil)))) pa_nil))))))), ?_⟩
    have hlen : (ps.map V.str).length = ps.length := by simp
    refine ⟨_, rfl, _, rfl, pl, _, rfl, .inl (SqL.of hpl), _, _, rfl, rfl, .inr ⟨_, rfl, _, _, rfl, rfl, .inl ⟨by omega, by omega⟩, _, rfl, ?_, ?_, ?_⟩⟩
    · split <;> omega
    · split <;> omega
    have hj : ∀ i : Nat, i < (many * (if decide ((1 : Int) < ((ps.map V.str).length : Int)) = true then 1 else 0)).toNat → 1 < ps.length ∧ (i : Int) < many := fun i hi => by
      rw [hlen] at hi
      split at hi
      · next c => have c' := of_decide_eq_true c; omega
      · simp at hi
    have hjm : (((many * (if decide ((1 : Int) < ((ps.map V.str).length : Int)) = true then 1 else 0)).toNat : Nat) : Int) ≤ many := by split <;> omega
    refine for_range (fun i σ H1 => ∃ (more : List (Addr × Row)) (g1 g2 g3 : Option V), σ = [some (.ref p), some (.ref pl), some (.ref rw), some (.ref tk), some (.int many), g1, g2, g3] ∧ Pot H1 p ∧ RowsAt H1 rw tk (rs ++ more) ∧ GR ps (rs ++ more) ∧ more.length = i ∧ Kp [p, rw, tk] H H1)
      ⟨[], none, none, none, rfl, hp, by rw [List.append_nil]; exact R, by rw [List.append_nil]; exact G, rfl, Kp.refl _ _⟩ ?_ ?_
    · rintro i σ H1 hi ⟨more, g1, g2, g3, rfl, P1, R1, G1, hml, K1⟩
      obtain ⟨hp1, him⟩ := hj i hi
      have l1 : H1 pl = some (.lst (ps.map V.str)) := K1 _ _ hpl (by simp [nlp, nlr, nlt'])
      refine ⟨_, rfl, _, rfl, pl, _, rfl, .inl (SqL.of l1), p, _, rfl, P1, by omega, by omega, fun a H2 a0 a1 P2 e2 => ?_⟩
      have l2 : H2 pl = some (.lst (ps.map V.str)) := by rw [e2 pl nlp]; exact l1
      refine ⟨_, rfl, _, _, rfl, rfl, _, rfl, _, rfl, pl, _, rfl, .inl (SqL.of l2), _, _, rfl, rfl, p, _, rfl, P2, by omega, by omega, fun r H3 r0 r1 P3 e3 => ?_⟩
      have l3 : H3 pl = some (.lst (ps.map V.str)) := by rw [e3 pl nlp]; exact l2
      refine ⟨_, _, rfl, rfl, _, rfl, pl, _, rfl, .inl (SqL.of l3), _, _, rfl, rfl, by show (0 : Int) < _; omega, ?_⟩
      rw [hlen] at a1 r1 ⊢
      obtain ⟨b1, b2, b3⟩ := mod_ne a0 a1 r0 r1
      obtain ⟨b, hbe⟩ : ∃ b, b = (a + 1 + r) % (ps.length : Int) := ⟨_, rfl⟩
      rw [← hbe] at b1 b2 b3
      have e13 : ∀ c, c ≠ p → H3 c = H1 c := fun c hc => (e3 c hc).trans (e2 c hc)
      have R3 : RowsAt H3 rw tk (rs ++ more) := R1.kp (P := [p]) (fun c o e nc => by rw [e13 c (by simpa using nc)]; exact e) (fun c hc => by
        have e : c = p := by simpa using hc
        subst e; exact P1.lst) (by simpa using nrp) (by simpa using ntp)
      have hrl : (rs ++ more).length ≤ 400 := by rw [List.length_append]; omega
      refine ⟨_, rfl, .inl ⟨rfl, _, SqL.of R3.rl⟩, _, rfl, _, rfl, p, tk, nms (rs ++ more), rfl, P3, R3.tl, by rw [nms, List.length_map]; omega, fun x H4 hx hxn P4 t4 K4 => ?_⟩
      have l4 : H4 pl = some (.lst (ps.map V.str)) := K4 _ _ l3 (by simp [nlp, nlt'])
      have ha : a.toNat < ps.length := by omega
      have hb : b.toNat < ps.length := by omega
      refine ⟨_, rfl, _, rfl, rix_of (j := a.toNat) (.inl (SqL.of l4)) (by omega) (strAt ha) ⟨_, rfl, _, rfl, rix_of (j := b.toNat) (.inl (SqL.of l4)) (by omega) (strAt hb) ⟨by show 3 ≤ sizeLine; decide, fun n hn => ?_⟩⟩⟩
      have hab : ps[a.toNat] ≠ ps[b.toNat] := by
        have hne : a.toNat ≠ b.toNat := by omega
        rcases Nat.lt_or_gt_of_ne hne with y | y
        · exact List.pairwise_iff_getElem.mp pnd _ _ ha hb y
        · exact fun z => List.pairwise_iff_getElem.mp pnd _ _ hb ha y z.symm
      have w4 : H4 rw = some (.lst (rrefs (rs ++ more))) := K4 _ _ R3.rl (by simp [nrp, nrt])
      have nnr : rw ≠ n := ne_of_none w4 hn
      have p4n : p ≠ n := fun q => by obtain ⟨o, e⟩ := P4.some; rw [q, hn] at e; cases e
      have R5 := R3.add (a := ps[a.toNat]) (b := ps[b.toNat]) P3 nrp nrt K4 t4 hn
      have G5 := G1.add (n := n) hx hxn (List.getElem_mem ha) (List.getElem_mem hb) hab
      refine ⟨rw, rrefs (rs ++ more), .ref n, rfl, rfl, by rw [upd_ne nnr]; exact w4, fits (by rw [List.length_map]; omega), more ++ [(n, (x, ps[a.toNat], ps[b.toNat]))], _, _, _, rfl, P4.keep fun o q => by rw [upd_ne nrp.symm, upd_ne p4n]; exact q, ?_, ?_, by simp [hml], ?_⟩
      · rw [List.append_assoc] at R5; exact R5
      · rw [List.append_assoc] at G5; exact G5
      · have K3 : Kp [p, rw, tk] H H3 := K1.trans fun c o e nc => by rw [e13 c (by simp at nc; exact nc.1)]; exact e
        exact ((K3.trans (K4.mono fun b hb => by simp at hb ⊢; rcases hb with q | q <;> simp [q])).new hn).inn (by simp)
    · rintro σ H1 ⟨more, g1, g2, g3, rfl, P1, R1, G1, hml, K1⟩
      exact k more H1 P1 R1 G1 (by omega) K1
end
end K11

set_option Elab.async false
set_option linter.all false
set_option maxRecDepth 100000
set_option maxHeartbeats 4000000
namespace K11
open PySem L2
theorem key_refs (rs : List (Addr × Row)) : refs (rs.map fun r => (r.1, r.2.1)) = rrefs rs := by
  unfold refs rrefs
  rw [List.map_map]
  rfl

theorem Tree.perm {root : Str} {ps : List Str} {R R' : List Row} (t : Tree root ps R) (p : R'.Perm R) : Tree root ps R' := by
  have q := List.Perm.cons root (p.map (fun r : Row => r.2.2))
  obtain ⟨d, d0, d1⟩ := t.rk
  exact ⟨q.nodup_iff.mpr t.nd, fun x hx => q.mem_iff.mpr (t.all x hx), d, d0, fun r h => d1 r (p.mem_iff.mp h)⟩
/-- the rows of a lot of names -/
noncomputable abbrev rowsIn (rs : List (Addr × Row)) (ss : List Str) : List (Addr × Row) := rs.filter fun r => decide (r.2.1 ∈ ss)
structure TreeOf (root : Str) (ps : List Str) (rs : List (Addr × Row)) (ss : List Str) : Prop where
  so : ss.Pairwise nlt
  nm : ∀ x ∈ ss, x ∈ nms rs
  tr : Tree root ps ((rowsIn rs ss).map (·.2))
theorem TreeOf.perm {root : Str} {ps : List Str} {rs rs' : List (Addr × Row)} {ss : List Str} (t : TreeOf root ps rs ss) (p : rs'.Perm rs) : TreeOf root ps rs' ss :=
  ⟨t.so, fun x hx => (p.map _).mem_iff.mpr (t.nm x hx), t.tr.perm ((p.filter _).map _)⟩
theorem TreeOf.more {root : Str} {ps : List Str} {rs more : List (Addr × Row)} {ss : List Str} (t : TreeOf root ps rs ss) (nd : (nms (rs ++ more)).Nodup) : TreeOf root ps (rs ++ more) ss := by
  have e : rowsIn (rs ++ more) ss = rowsIn rs ss := by
    unfold rowsIn
    rw [List.filter_append]
    have : more.filter (fun r => decide (r.2.1 ∈ ss)) = [] := by
      rw [List.filter_eq_nil_iff]
      intro r hr hc
      have h1 := t.nm _ (of_decide_eq_true hc)
      unfold nms at nd
      rw [List.map_append] at nd
      exact (List.nodup_append.mp nd).2.2 _ h1 _ (List.mem_map_of_mem hr) rfl
    rw [this, List.append_nil]
  exact ⟨t.so, fun x hx => by unfold nms; rw [List.map_append]; exact List.mem_append_left _ (t.nm x hx), by rw [e]; exact t.tr⟩
theorem TreeOf.grown {root : Str} {ps : List Str} {rs more : List (Addr × Row)} {ss : List Str} (so : ss.Pairwise nlt) (pm : ss.Perm (more.map (·.2.1))) (tr : Tree root ps (more.map (·.2))) (nd : (nms (rs ++ more)).Nodup) : TreeOf root ps (rs ++ more) ss := by
  have e : rowsIn (rs ++ more) ss = more := by
    unfold rowsIn
    rw [List.filter_append]
    have h1 : rs.filter (fun r => decide (r.2.1 ∈ ss)) = [] := by
      rw [List.filter_eq_nil_iff]
      intro r hr hc
      have h1 := pm.mem_iff.mp (of_decide_eq_true hc)
      unfold nms at nd
      rw [List.map_append] at nd
      exact (List.nodup_append.mp nd).2.2 _ (List.mem_map_of_mem hr) _ h1 rfl
    have h2 : more.filter (fun r => decide (r.2.1 ∈ ss)) = more := by
      rw [List.filter_eq_self]
      intro r hr
      exact decide_eq_true (pm.mem_iff.mpr (List.mem_map_of_mem hr))
    rw [h1, h2, List.nil_append]
  exact ⟨so, fun x hx => by unfold nms; rw [List.map_append]; exact List.mem_append_right _ (pm.mem_iff.mp hx), by rw [e]; exact tr⟩
noncomputable abbrev Tr := Addr × List Str
noncomputable abbrev trefs (ts : List Tr) : List V := ts.map fun t => V.ref t.1
noncomputable def TrsAt (H : Hp) (ts : List Tr) : Prop := ∀ t ∈ ts, H t.1 = some (.tup (t.2.map V.str))
section
variable {P : Program} {w : World} {K : PySem.W.Frag} {mg : Str → Option Value} {base : Heap}
end
end K11

set_option Elab.async false
set_option linter.all false
set_option maxRecDepth 100000
set_option maxHeartbeats 4000000
namespace K11
open PySem L2
section
variable {P : Program} {w : World} {K : PySem.W.Frag} {mg : Str → Option Value} {base : Heap}
noncomputable def spWebT : Sp := fun vs H Q _ => ∃ (p : Addr), vs = [.ref p, .int 8, .int 16] ∧ Pot H p ∧
  ∀ (v u tl pa ra : Addr) (root : Str) (ps : List Str) (rs : List (Addr × Row)) (ts : List Tr) (H' : Hp), Pot H' p → H' v = some (.tup [.ref u, .str root, .ref tl]) → WebAt H' u pa ra ps rs → Good ps (rs.map (·.2)) → ps.length ≤ 8 → rs.length ≤ 40 → Kp [p] H H' →
    H' tl = some (.lst (trefs ts)) → TrsAt H' ts → (∀ t ∈ ts, TreeOf root ps rs t.2) → root ∈ ps → ts.length ≤ 3 → Q (.ref v) H'
noncomputable abbrev N16 : List Str := ["_law_pot_here", "_law_most_places", "_law_most_more", "_law_places_here", "_law_root", "_law_rows", "_law_taken", "_law_trees", "_law_many"]
theorem sc16 : FnScope N16 ["_law_pot_here", "_law_most_places", "_law_most_more"] (defScope (top 16)) := ⟨rfl, rfl, rfl, by decide +kernel, rfl, by decide +kernel, by decide +kernel⟩
theorem ok_web {f : Addr} {fd : FuncData} (F : Fun K "_law_web" "_law_web" (top 16) f fd) (B : Bl mg) (Ft : Fn P w K mg base 1 "_law_take" ["_law_pot_here", "_law_many"] spTake) (Fp : Fn P w K mg base 3 "_law_places" ["_law_pot_here", "_law_most"] spPlaces)
    (Fg : Fn P w K mg base 3 "_law_grown" ["_law_pot_here", "_law_places_here", "_law_root", "_law_rows", "_law_taken"] spGrown) (Fm : Fn P w K mg base 3 "_law_more" ["_law_pot_here", "_law_places_here", "_law_rows", "_law_taken", "_law_many"] spMore) :
    FnOk P w K mg base CX0 4 f fd ["_law_pot_here", "_law_most_places", "_law_most_more"] spWebT := by
  refine F.ok sc16 (fun vs H Q E h => ?_) (fun cdv A outer s H vs Q E hr h => ?_)
  · obtain ⟨p, rfl, _⟩ := h
    rfl
  · obtain ⟨p, rfl, hp, k⟩ := h
    have hr1 : Room 1 _ := hr.mono (by decide)
    refine ⟨_, pss_cons (ps_set (i := 3) sc16.nd rfl (Or.inr rfl) (pe_fn Fp hr (pa_cons (pv 0) (pa_cons (pv 1) pa_nil))))
      (pss_cons (ps_set (i := 4) sc16.nd rfl (Or.inr rfl) (pe_ix ix_seq (pv 3) (pe_fn Ft hr1 (pa_cons (pv 0) (pa_cons (pe_callB call_len_seq rfl B.len PySem.boot_len (pa_cons (pv 3) pa_nil)) pa_nil))) (fun _ _ => rfl)))
      (pss_cons (ps_asg (pe_tup (pa_cons (pe_lst pa_nil) (pa_cons (pe_lst pa_nil) pa_nil))) (pg_tup rfl (n := 2) (pgs_cons (pg_name (i := 5) sc16.nd rfl (Or.inr rfl)) (pgs_cons (pg_name (i := 6) sc16.nd rfl (Or.inr rfl)) pgs_nil))))
      (pss_cons (ps_setLc (i := 7) (N := ["_law_k", "_law_places_here", "_law_pot_here", "_law_root", "_law_rows", "_law_taken"]) (ix := [none, some 3, some 0, some 4, some 5, some 6]) sc16.nd rfl (Or.inl rfl) ⟨rfl, rfl, rfl, by decide⟩ rfl
        (pi_range1 rfl B.range (pa_cons (pe_fn Ft hr1 (pa_cons (pv 0) (pa_cons pe_int pa_nil))) pa_nil)) (fun _ _ _ _ => pg_lc 0 (by decide) rfl rfl) (fun _ _ _ _ => pts_nil) (fun _ _ _ _ => pe_fn Fg hr (pa_cons (pv 2) (pa_cons (pv 1) (pa_cons (pv 3) (pa_cons (pv 4) (pa_cons (pv 5) pa_nil)))))))
      (pss_cons (ps_set (i := 8) sc16.nd rfl (Or.inl rfl) (pe_fn Ft hr1 (pa_cons (pv 0) (pa_cons (pe_op op_add (pv 2) pe_int) pa_nil))))
      (pss_cons (ps_if (pt_cmpR op_eq (pe_fn Ft hr1 (pa_cons (pv 0) (pa_cons pe_int pa_nil))) pe_int (nomark _)) (pss_one (ps_set (i := 8) sc16.nd rfl (Or.inl rfl) (pe_op op_sub pe_int (pe_callB call_len_seq rfl B.len PySem.boot_len (pa_cons (pv 5) pa_nil))))) pss_nil)
      (pss_cons (ps_expr (pe_fn Fm hr (pa_cons (pv 0) (pa_cons (pv 3) (pa_cons (pv 5) (pa_cons (pv 6) (pa_cons (pv 8) pa_nil)))))))
      (pss_one (ps_ret (pe_tup (pa_cons (pe_tup (pa_cons (pe_callTy call_tuple_of rfl B.tuple b_tuple (pa_cons (pv 3) pa_nil)) (pa_cons (pe_callTy call_tuple_of rfl B.tuple b_tuple (pa_cons (pe_callB call_sortedR rfl B.sorted b_sorted (pa_cons (pv 5) pa_nil)) pa_nil)) pa_nil))) (pa_cons (pv 4) (pa_cons (pv 7) pa_nil)))))))))))), ?_⟩
    -- the places, the root
    refine ⟨_, rfl, _, rfl, p, 8, rfl, hp, by decide, by decide, fun pl ps H1 P1 l1 hlH pnm pso p1 p8 K1 => ?_⟩
    have nlp : pl ≠ p := pot_ne P1 l1
    have pnd := pw_nodup pso
    have hlen : (ps.map V.str).length = ps.length := by simp
    refine ⟨_, rfl, _, rfl, _, rfl, pl, _, rfl, .inl (SqL.of l1), p, _, rfl, P1, by omega, by omega, fun i H2 i0 i1 P2 e2 => ?_⟩
    rw [hlen] at i1
    have l2 : H2 pl = some (.lst (ps.map V.str)) := by rw [e2 pl nlp]; exact l1
    have K2 : Kp [p] H H2 := K1.trans fun b o e nb => by rw [e2 b (by simpa using nb)]; exact e
    have hil : i.toNat < ps.length := by omega
    refine rix_of (j := i.toNat) (.inl (SqL.of l2)) (by omega) (strAt hil) ?_
    have hroot : ps[i.toNat] ∈ ps := List.getElem_mem hil
    generalize ps[i.toNat] = root at hroot ⊢
    -- rows, taken
    refine ⟨Nat.zero_le _, fun rw hrw => ?_⟩
    refine ⟨Nat.zero_le _, fun tk htk => ?_⟩
    refine ⟨by show 2 ≤ sizeLine; decide, fun pr hpr => ?_⟩
    have nrp : rw ≠ p := fun z => by obtain ⟨o, e⟩ := P2.some; rw [← z, hrw] at e; cases e
    have nlr : pl ≠ rw := ne_of_none l2 hrw
    have nrt : rw ≠ tk := fun z => by rw [z, upd_same] at htk; cases htk
    have ntp : tk ≠ p := fun z => by obtain ⟨o, e⟩ := P2.some; rw [z, upd_ne nrp.symm, e] at htk; cases htk
    have nlt' : pl ≠ tk := fun z => by rw [← z, upd_ne nlr, l2] at htk; cases htk
    have K3 : Kp [p] H (upd (upd (upd H2 rw (.lst [])) tk (.lst [])) pr (.tup [.ref rw, .ref tk])) := ((K2.new hrw).new htk).new hpr
    have e3 : ∀ b o, H2 b = some o → upd (upd (upd H2 rw (.lst [])) tk (.lst [])) pr (.tup [.ref rw, .ref tk]) b = some o := ((Kp.refl [] H2).new hrw |>.new htk |>.new hpr) |> fun q b o e => q b o e (by simp)
    have R3 : RowsAt (upd (upd (upd H2 rw (.lst [])) tk (.lst [])) pr (.tup [.ref rw, .ref tk])) rw tk [] := by
      have hpr1 : rw ≠ pr := fun z => by rw [← z, upd_ne nrt, upd_same] at hpr; cases hpr
      have hpr2 : tk ≠ pr := fun z => by rw [← z, upd_same] at hpr; cases hpr
      exact ⟨by rw [upd_ne hpr1, upd_ne nrt, upd_same]; rfl, by rw [upd_ne hpr2, upd_same]; rfl, by simp⟩
    have hpr3 : upd (upd (upd H2 rw (.lst [])) tk (.lst [])) pr (.tup [.ref rw, .ref tk]) pr = some (.tup [.ref rw, .ref tk]) := upd_same
    have P3 := P2.keep (e3 p)
    have l3 := e3 _ _ l2
    have hrwH : H rw = none := K2.free (fun b hb => by
      have e : b = p := by simpa using hb
      subst e; exact P2.some) hrw
    have htkH : H tk = none := (K2.new (o := .lst []) hrw).free (fun b hb => by
      have e : b = p := by simpa using hb
      subst e; rw [upd_ne nrp.symm]; exact P2.some) htk
    generalize upd (upd (upd H2 rw (.lst [])) tk (.lst [])) pr (.tup [.ref rw, .ref tk]) = H3 at K3 R3 hpr3 P3 l3 ⊢
    have K3' : Kp [p, rw, tk] H H3 := K3.mono (by simp)
    refine ⟨pr, _, rfl, SqT.of hpr3, rfl, _, _, rfl, _, _, rfl, rfl, ?_⟩
    -- trees
    refine ⟨_, rfl, p, 4, rfl, P3, by decide, by decide, fun c H4 c0 c1 P4 e4 => ⟨_, rfl, by omega, by omega, ?_⟩⟩
    have R4 : RowsAt H4 rw tk [] := R3.kp (P := [p]) (fun b o e nb => by rw [e4 b (by simpa using nb)]; exact e) (fun b hb => by
      have e : b = p := by simpa using hb
      subst e; exact P3.lst) (by simpa using nrp) (by simpa using ntp)
    have l4 : H4 pl = some (.lst (ps.map V.str)) := by rw [e4 pl nlp]; exact l3
    have K4 : Kp [p, rw, tk] H H4 := K3'.trans fun b o e nb => by rw [e4 b (by simp at nb; exact nb.1)]; exact e
    refine lcw_range0 (fits (by omega)) (fun i ys σ H5 => (∃ v, σ = [v, some (.ref pl), some (.ref p), some (.str root), some (.ref rw), some (.ref tk)]) ∧ Pot H5 p ∧ H5 pl = some (.lst (ps.map V.str)) ∧ Kp [p, rw, tk] H H5 ∧ ∃ rs ts, ys = trefs ts ∧ ts.length = i ∧ TrsAt H5 ts ∧ (∀ t ∈ ts, TreeOf root ps rs t.2) ∧ RowsAt H5 rw tk rs ∧ GR ps rs ∧ rs.length ≤ 7 * i)
      ⟨⟨_, rfl⟩, P4, l4, K4, [], [], rfl, rfl, (fun t ht => by cases ht), (fun t ht => by cases ht), R4, ⟨List.nodup_nil, by simp⟩, by simp⟩ (fun i ys σ H5 _ q => by obtain ⟨_, _, _, _, rs, ts, e, e', _⟩ := q; rw [e, List.length_map, e']; exact Nat.le_refl _) ?_ ?_
    · rintro i ys σ H5 hi ⟨⟨v, rfl⟩, P5, l5, K5, rs, ts, rfl, hts, T5, O5, R5, G5, z5⟩
      refine ⟨_, rfl, _, rfl, _, rfl, _, rfl, _, rfl, p, pl, rw, tk, root, ps, rs, rfl, P5, l5, hroot, pnd, pnm, p8, R5, G5, by omega, nrp, ntp, nrt, fun q more ss H6 P6 R6 G6 m7 K6 q6 so6 pm6 tr6 => ?_⟩
      refine ⟨⟨_, rfl⟩, P6, K6 _ _ l5 (by simp [nlp, nlr, nlt']), K5.trans K6, rs ++ more, ts ++ [(q, ss)], by simp, by simp [hts], fun t ht => ?_, fun t ht => ?_, R6, G6, by rw [List.length_append]; omega⟩
      · rcases List.mem_append.mp ht with z | z
        · exact tup_kp K6 (fun c hc => by
            rcases List.mem_cons.mp hc with rfl | hc
            · exact P5.lst
            rcases List.mem_cons.mp hc with rfl | hc
            · exact ⟨_, R5.rl⟩
            · have e : c = tk := by simpa using hc
              subst e; exact ⟨_, R5.tl⟩) (T5 t z)
        · have e : t = (q, ss) := by simpa using z
          subst e; exact q6
      · rcases List.mem_append.mp ht with z | z
        · exact (O5 t z).more G6.nd
        · have e : t = (q, ss) := by simpa using z
          subst e; exact TreeOf.grown so6 pm6 tr6 G6.nd
    rintro ys σ H5 ⟨⟨v, rfl⟩, P5, l5, K5, rs, ts, rfl, hts, T5, O5, R5, G5, z5⟩ tl htl
    have z5' : rs.length ≤ 21 := by omega
    have t14 : ts.length ≤ 3 := by omega
    clear hts
    have ntlp : tl ≠ p := fun z => by obtain ⟨o, e⟩ := P5.some; rw [← z, htl] at e; cases e
    have P6 : Pot (upd H5 tl (.lst (trefs ts))) p := P5.keep fun o e => by rw [upd_ne ntlp.symm]; exact e
    have R6 := R5.new (o := .lst (trefs ts)) htl
    have K6 := K5.new (o := .lst (trefs ts)) htl
    have T6 : TrsAt (upd H5 tl (.lst (trefs ts))) ts := fun t ht => by rw [upd_ne (ne_of_none (T5 t ht) htl)]; exact T5 t ht
    have tl6 : upd H5 tl (.lst (trefs ts)) tl = some (.lst (trefs ts)) := upd_same
    have l6 : upd H5 tl (.lst (trefs ts)) pl = some (.lst (ps.map V.str)) := by rw [upd_ne (ne_of_none l5 htl)]; exact l5
    have ntr : tl ≠ rw := (ne_of_none R5.rl htl).symm
    have ntt : tl ≠ tk := (ne_of_none R5.tl htl).symm
    generalize upd H5 tl (.lst (trefs ts)) = H6 at P6 R6 K6 l6 T6 tl6 ⊢
    have hz8 : (rrefs rs).length = rs.length := by simp
    refine ⟨_, rfl, _, rfl, _, _, rfl, rfl, p, _, rfl, P6, by decide, by decide, fun mn H7 mn0 mn1 P7 e7 => ?_⟩
    refine ⟨_, rfl, p, 8, rfl, P7, by decide, by decide, fun c8 H8 _ _ P8 e8 => ⟨rfl, _, rfl, ?_⟩⟩
    have e68 : ∀ b, b ≠ p → H8 b = H6 b := fun b hb => (e8 b hb).trans (e7 b hb)
    have R8 : RowsAt H8 rw tk rs := R6.kp (P := [p]) (fun b o e nb => by rw [e68 b (by simpa using nb)]; exact e) (fun b hb => by
      have e : b = p := by simpa using hb
      subst e; exact P6.lst) (by simpa using nrp) (by simpa using ntp)
    have l8 : H8 pl = some (.lst (ps.map V.str)) := by rw [e68 pl nlp]; exact l6
    have tl8 : H8 tl = some (.lst (trefs ts)) := by rw [e68 tl ntlp]; exact tl6
    have T8 : TrsAt H8 ts := fun t ht => by rw [e68 t.1 (fun z => by obtain ⟨ys, e⟩ := P6.lst; rw [← z, T6 t ht] at e; cases e)]; exact T6 t ht
    have K8 : Kp [p, rw, tk] H H8 := K6.trans fun b o e nb => by rw [e68 b (by simp at nb; exact nb.1)]; exact e
    refine ite2 (fun c => ?_) (fun c => ?_)
    · refine ⟨_, rfl, rw, _, rfl, .inl (SqL.of R8.rl), _, _, rfl, rfl, ?_⟩
      refine ⟨_, rfl, _, rfl, _, rfl, _, rfl, _, rfl, p, pl, rw, tk, _, ps, rs, rfl, P8, l8, pnd, p8, R8, G5, by omega, by rw [hz8]; omega, by rw [hz8]; omega, nrp, ntp, nrt, nlr, nlt', fun more H9 P9 R9 G9 z9 K9 => ?_⟩
      have hz40 : (rs ++ more).length ≤ 40 := by rw [hz8] at z9; rw [List.length_append]; omega
      clear z9
      have l9 : H9 pl = some (.lst (ps.map V.str)) := K9 _ _ l8 (by simp [nlp, nlr, nlt'])
      have tl9 : H9 tl = some (.lst (trefs ts)) := K9 _ _ tl8 (by simp [ntlp, ntr, ntt])
      have T9 : TrsAt H9 ts := fun t ht => tup_kp K9 (fun c hc => by
        rcases List.mem_cons.mp hc with rfl | hc
        · exact P8.lst
        rcases List.mem_cons.mp hc with rfl | hc
        · exact ⟨_, R8.rl⟩
        · have e : c = tk := by simpa using hc
          subst e; exact ⟨_, R8.tl⟩) (T8 t ht)
      have O9 : ∀ t ∈ ts, TreeOf root ps (rs ++ more) t.2 := fun t ht => (O5 t ht).more G9.nd
      have KH : Kp [p] H H9 := fun b o e nb => (K8.trans K9) b o e (by
        simp at nb ⊢
        exact ⟨nb, ne_of_none e hrwH, ne_of_none e htkH⟩)
      generalize rs ++ more = ra9 at R9 G9 hz40 O9
      refine ⟨_, rfl, pl, _, rfl, .inl ⟨SqL.of l9, fun pa hpa => ?_⟩⟩
      have R10 := R9.new (o := .tup (ps.map V.str)) hpa
      have K10 := KH.new (o := .tup (ps.map V.str)) hpa
      have P10 : Pot (upd H9 pa (.tup (ps.map V.str))) p := P9.keep fun o e => by rw [upd_ne (ne_of_none e hpa)]; exact e
      have a10 : upd H9 pa (.tup (ps.map V.str)) pa = some (.tup (ps.map V.str)) := upd_same
      have e10 : ∀ b o, H9 b = some o → upd H9 pa (.tup (ps.map V.str)) b = some o := fun b o e => by rw [upd_ne (ne_of_none e hpa)]; exact e
      generalize upd H9 pa (.tup (ps.map V.str)) = H10 at R10 K10 P10 a10 e10 ⊢
      refine ⟨_, rfl, rw, ra9.map fun r => (r.1, r.2.1), rfl, .inl (SqL.of (by rw [key_refs]; exact R10.rl)), fun y hy => ?_, by rw [List.length_map]; omega, ?_, fun rs1 q hpm hpw hq => ?_⟩
      · obtain ⟨x, hx, rfl⟩ := List.mem_map.mp hy
        exact ⟨_, R10.rows x hx⟩
      · rw [List.map_map]; exact G9.nd
      obtain ⟨rs', hp2, e2'⟩ := perm_lift (fun r : Addr × Row => (r.1, r.2.1)) rs1 _ hpm
      subst e2'
      rw [key_refs]
      have s1 := same_upd (o := .lst (rrefs rs')) (Same.refl H10) hq
      refine ⟨q, _, rfl, .inl ⟨SqL.of upd_same, fun ra hra => ?_⟩⟩
      have s2 := same_upd (o := .tup (rrefs rs')) s1 hra
      refine ⟨by show 2 ≤ sizeLine; decide, fun u hu => ?_⟩
      have s3 := same_upd (o := .tup [.ref pa, .ref ra]) s2 hu
      refine ⟨_, rfl, _, rfl, by show 3 ≤ sizeLine; decide, fun v hv => ?_⟩
      have s4 := same_upd (o := .tup [.ref u, .str root, .ref tl]) s3 hv
      have hur : ra ≠ u := fun z => by rw [← z, upd_same] at hu; cases hu
      have hvu : u ≠ v := fun z => by rw [← z, upd_same] at hv; cases hv
      have hvr : ra ≠ v := fun z => by rw [← z, upd_ne hur, upd_same] at hv; cases hv
      refine k v u tl pa ra root ps rs' ts _ (P10.keep fun o e => s4 _ _ e) upd_same ⟨?_, s4 _ _ a10, ?_, fun x hx => s4 _ _ (R10.rows x (hp2.mem_iff.mp hx))⟩ ⟨?_, pnm, pso, fun r hr => ?_, ?_, by omega, ?_⟩ p8 (by rw [hp2.length_eq]; exact hz40) (K10.of_same s4) (s4 _ _ (e10 _ _ tl9)) (fun t ht => s4 _ _ (e10 _ _ (T9 t ht))) (fun t ht => (O9 t ht).perm hp2) hroot t14
      · rw [upd_ne hvu, upd_same]
      · rw [upd_ne hvr, upd_ne hur, upd_same]
      · intro z; rw [z] at p1; simp at p1
      · obtain ⟨x, hx, rfl⟩ := List.mem_map.mp hr
        exact G9.ok x (hp2.mem_iff.mp hx)
      · rw [List.map_map] at hpw ⊢; exact hpw
      · rw [List.length_map, hp2.length_eq]; omega
    · skip
      refine ⟨_, rfl, _, rfl, _, rfl, _, rfl, _, rfl, p, pl, rw, tk, _, ps, rs, rfl, P8, l8, pnd, p8, R8, G5, by omega, mn0, by omega, nrp, ntp, nrt, nlr, nlt', fun more H9 P9 R9 G9 z9 K9 => ?_⟩
      have hz40 : (rs ++ more).length ≤ 40 := by rw [List.length_append]; omega
      clear z9
      have l9 : H9 pl = some (.lst (ps.map V.str)) := K9 _ _ l8 (by simp [nlp, nlr, nlt'])
      have tl9 : H9 tl = some (.lst (trefs ts)) := K9 _ _ tl8 (by simp [ntlp, ntr, ntt])
      have T9 : TrsAt H9 ts := fun t ht => tup_kp K9 (fun c hc => by
        rcases List.mem_cons.mp hc with rfl | hc
        · exact P8.lst
        rcases List.mem_cons.mp hc with rfl | hc
        · exact ⟨_, R8.rl⟩
        · have e : c = tk := by simpa using hc
          subst e; exact ⟨_, R8.tl⟩) (T8 t ht)
      have O9 : ∀ t ∈ ts, TreeOf root ps (rs ++ more) t.2 := fun t ht => (O5 t ht).more G9.nd
      have KH : Kp [p] H H9 := fun b o e nb => (K8.trans K9) b o e (by
        simp at nb ⊢
        exact ⟨nb, ne_of_none e hrwH, ne_of_none e htkH⟩)
      generalize rs ++ more = ra9 at R9 G9 hz40 O9
      refine ⟨_, rfl, pl, _, rfl, .inl ⟨SqL.of l9, fun pa hpa => ?_⟩⟩
      have R10 := R9.new (o := .tup (ps.map V.str)) hpa
      have K10 := KH.new (o := .tup (ps.map V.str)) hpa
      have P10 : Pot (upd H9 pa (.tup (ps.map V.str))) p := P9.keep fun o e => by rw [upd_ne (ne_of_none e hpa)]; exact e
      have a10 : upd H9 pa (.tup (ps.map V.str)) pa = some (.tup (ps.map V.str)) := upd_same
      have e10 : ∀ b o, H9 b = some o → upd H9 pa (.tup (ps.map V.str)) b = some o := fun b o e => by rw [upd_ne (ne_of_none e hpa)]; exact e
      generalize upd H9 pa (.tup (ps.map V.str)) = H10 at R10 K10 P10 a10 e10 ⊢
      refine ⟨_, rfl, rw, ra9.map fun r => (r.1, r.2.1), rfl, .inl (SqL.of (by rw [key_refs]; exact R10.rl)), fun y hy => ?_, by rw [List.length_map]; omega, ?_, fun rs1 q hpm hpw hq => ?_⟩
      · obtain ⟨x, hx, rfl⟩ := List.mem_map.mp hy
        exact ⟨_, R10.rows x hx⟩
      · rw [List.map_map]; exact G9.nd
      obtain ⟨rs', hp2, e2'⟩ := perm_lift (fun r : Addr × Row => (r.1, r.2.1)) rs1 _ hpm
      subst e2'
      rw [key_refs]
      have s1 := same_upd (o := .lst (rrefs rs')) (Same.refl H10) hq
      refine ⟨q, _, rfl, .inl ⟨SqL.of upd_same, fun ra hra => ?_⟩⟩
      have s2 := same_upd (o := .tup (rrefs rs')) s1 hra
      refine ⟨by show 2 ≤ sizeLine; decide, fun u hu => ?_⟩
      have s3 := same_upd (o := .tup [.ref pa, .ref ra]) s2 hu
      refine ⟨_, rfl, _, rfl, by show 3 ≤ sizeLine; decide, fun v hv => ?_⟩
      have s4 := same_upd (o := .tup [.ref u, .str root, .ref tl]) s3 hv
      have hur : ra ≠ u := fun z => by rw [← z, upd_same] at hu; cases hu
      have hvu : u ≠ v := fun z => by rw [← z, upd_same] at hv; cases hv
      have hvr : ra ≠ v := fun z => by rw [← z, upd_ne hur, upd_same] at hv; cases hv
      refine k v u tl pa ra root ps rs' ts _ (P10.keep fun o e => s4 _ _ e) upd_same ⟨?_, s4 _ _ a10, ?_, fun x hx => s4 _ _ (R10.rows x (hp2.mem_iff.mp hx))⟩ ⟨?_, pnm, pso, fun r hr => ?_, ?_, by omega, ?_⟩ p8 (by rw [hp2.length_eq]; exact hz40) (K10.of_same s4) (s4 _ _ (e10 _ _ tl9)) (fun t ht => s4 _ _ (e10 _ _ (T9 t ht))) (fun t ht => (O9 t ht).perm hp2) hroot t14
      · rw [upd_ne hvu, upd_same]
      · rw [upd_ne hvr, upd_ne hur, upd_same]
      · intro z; rw [z] at p1; simp at p1
      · obtain ⟨x, hx, rfl⟩ := List.mem_map.mp hr
        exact G9.ok x (hp2.mem_iff.mp hx)
      · rw [List.map_map] at hpw ⊢; exact hpw
      · rw [List.length_map, hp2.length_eq]; omega
end
end K11

set_option Elab.async false
set_option linter.all false
set_option maxRecDepth 100000
set_option maxHeartbeats 4000000
namespace L2
open PySem PySem.Spec PyProof.Rows PySem.W PySem.Calls
section
variable {X : Cx}
/-- repr of a thing: data, or an empty dict -/
theorem call_reprX {k : Nat} (hr : Room k X.A) : CallR X (.builtin "repr") (fun xs H Q => ∃ x, xs = [x] ∧ ((∃ d, DV H x d ∧ d.showable = true ∧ d.hasDict = false ∧ d.depth ≤ 40 ∧ d.shown.length ≤ sizeLine ∧ (∀ i, d = .int i → i.natAbs.log2 < 1920) ∧ Q (.str d.shown) H) ∨
    ∃ a, x = .ref a ∧ H a = some (.dK []) ∧ Q (.str (PyData.dict []).shown) H)) := by
  intro pins s σ H xs us Q I r h
  obtain ⟨x, rfl, h⟩ := h
  obtain ⟨u, rfl, rx⟩ := vals1 r
  rcases h with ⟨d, dx, h1, h2, h3, h4, h5, q⟩ | ⟨a, rfl, ha, q⟩
  · cases dx with
    | non => cases (show u = Value.none from rx); exact PySem.P.repr_of_none ⟨.str (PyData.none).shown, H, I.tok _, ⟨_, rfl⟩, q⟩
    | bl b =>
      cases (show u = Value.bool b from rx)
      refine PySem.P.repr_of_bool ⟨.str (PyData.bool b).shown, H, I.tok _, ⟨s.toks, ?_⟩, q⟩
      cases b <;> rfl
    | int i => obtain ⟨t, e⟩ := (show ∃ t, u = Value.int i t from rx); cases e; exact PySem.P.repr_of_int (h5 i rfl) ⟨.str (PyData.int i).shown, H, I.tok _, ⟨_, by first | rfl | (rw [PyData.shown])⟩, q⟩
    | str z => obtain ⟨t, e⟩ := (show ∃ t, u = Value.str z t from rx); cases e; exact PySem.P.repr_of_str ⟨.str (PyData.str z).shown, H, I.tok _, ⟨_, by first | rfl | (rw [PyData.shown])⟩, q⟩ (by rw [PyData.shown] at h4; exact h4)
    | @tup a xs ds e q' =>
      cases (show u = Value.ref a from rx)
      obtain ⟨as, r1⟩ := (DV.tup e q').reads I.hok (show RelV (.ref a) (Value.ref a) from rfl)
      exact repr_of_reads' r1 h1 (fun z => by rw [h2] at z; cases z) hr.gd (by have := hr.units; omega) (fun _ _ e => e) (fun h' t tk kp => ⟨.str _, H, I.kept kp, ⟨_, rfl⟩, q⟩) h4
    | @lst a xs ds e q' =>
      cases (show u = Value.ref a from rx)
      obtain ⟨as, r1⟩ := (DV.lst e q').reads I.hok (show RelV (.ref a) (Value.ref a) from rfl)
      exact repr_of_reads' r1 h1 (fun z => by rw [h2] at z; cases z) hr.gd (by have := hr.units; omega) (fun _ _ e => e) (fun h' t tk kp => ⟨.str _, H, I.kept kp, ⟨_, rfl⟩, q⟩) h4
  · cases (show u = Value.ref a from rx)
    obtain ⟨_, hne, vs, kv, o, es, ep, ho, hex, hd, hk, prs, nd⟩ := (show ObjOk X.prog X.w H s.heap a (.dK []) from I.hok a _ ha)
    have hvs : vs = [] := by cases kv; rfl
    subst hvs
    have hes : es.toList = [] := by
      cases hc : es.toList with
      | nil => rfl
      | cons e r => rw [hc] at prs; cases prs
    have r1 : Reads s.heap (.ref a) (.dict []) (a :: [] ++ []) := Reads.dict ho hex.1 hd (by rw [hes]; exact ReadsAll.nil) (by rw [hes]; exact ReadsAll.nil)
    refine repr_of_reads' r1 rfl (fun _ hm => ?_) hr.gd (by have := hr.units; show _ + (1 + 1) < _; omega) (fun _ _ e => e) (fun h' t tk kp => ⟨.str _, H, I.kept kp, ⟨_, rfl⟩, q⟩) (by decide)
    have e : sysModules = a := by simpa using hm
    rw [← e] at hne
    simp at hne
/-- x.strip(letters) -/
theorem mt_strip : MtR X "str.strip" (fun x xs H Q => ∃ z y : Str, x = .str z ∧ xs = [.str y] ∧ z.length ≤ sizeLine ∧ Q (.str (if stripSame y.cps.contains true true z = true then z else PySem.stripped y.cps.contains true true z)) H) := by
  intro pins s σ H x xs v us Q I rx rs h
  obtain ⟨z, y, rfl, rfl, hz, q⟩ := h
  obtain ⟨t, rfl⟩ := rx
  obtain ⟨u, rfl, ru⟩ := vals1 rs
  obtain ⟨t', rfl⟩ := ru
  refine call_gives PySem.F.slot_str_strip rfl PySem.F.entry_str_strip (PySem.F.args_str_strip_2 _ _) (gives_str_strip_chars z y t t') ?_
  by_cases c : stripSame y.cps.contains true true z = true
  · rw [if_pos c] at q ⊢
    exact ⟨.str z, H, I, ⟨_, rfl⟩, q⟩
  · rw [if_neg c] at q ⊢
    exact ⟨fits_stripped _ _ _ hz, .str _, H, I.tok _, ⟨_, rfl⟩, q⟩
end
end L2

set_option Elab.async false
set_option linter.all false
set_option maxRecDepth 100000
set_option maxHeartbeats 4000000
namespace K11
open PySem L2
/-! ### data of any shape -/
theorem iteNT {c A B : Prop} [Decidable c] (hc : ¬ c) (h : A) : if (!decide c) = true then A else B := by
  rw [decide_eq_false hc]; exact iteT h
noncomputable def okS (s : Str) : Prop := s.length ≤ 100 ∧ s.cps.all (· < 128) = true
inductive Dok : PyData → Prop
  | non : Dok .none
  | bl (b : Bool) : Dok (.bool b)
  | int (i : Int) (h : i.natAbs ≤ 1000) : Dok (.int i)
  | str (s : Str) (h : okS s) : Dok (.str s)
  | tup (ds : List PyData) (hl : ds.length ≤ 60) (h : ∀ d ∈ ds, Dok d) : Dok (.tuple ds)
  | lst (ds : List PyData) (hl : ds.length ≤ 60) (h : ∀ d ∈ ds, Dok d) (hn : ∀ i j, ds ≠ [.int i, .int j]) : Dok (.list ds)
mutual
theorem DV.same {H H' : Hp} (s : Same H H') : ∀ {x : V} {d : PyData}, DV H x d → DV H' x d
  | _, _, .non => .non
  | _, _, .bl b => .bl b
  | _, _, .int i => .int i
  | _, _, .str x => .str x
  | _, _, .tup e q => .tup (s _ _ e) (DVs.same s q)
  | _, _, .lst e q => .lst (s _ _ e) (DVs.same s q)
theorem DVs.same {H H' : Hp} (s : Same H H') : ∀ {xs : List V} {ds : List PyData}, DVs H xs ds → DVs H' xs ds
  | _, _, .nil => .nil
  | _, _, .cons a b => .cons (DV.same s a) (DVs.same s b)
end
theorem DVs.len {H : Hp} : ∀ {xs : List V} {ds : List PyData}, DVs H xs ds → xs.length = ds.length
  | _, _, .nil => rfl
  | _, _, .cons _ b => by rw [List.length_cons, List.length_cons, DVs.len b]
theorem DVs.at {H : Hp} : ∀ {xs : List V} {ds : List PyData}, DVs H xs ds → ∀ {i : Nat} {x : V}, xs[i]? = some x → ∃ d, ds[i]? = some d ∧ DV H x d
  | _, _, .nil, i, x, h => by simp at h
  | _, _, .cons a b, 0, x, h => by cases h; exact ⟨_, rfl, a⟩
  | _, _, .cons a b, i + 1, x, h => DVs.at b (i := i) (by simpa using h)
/-- the rows of strings that data holds -/
theorem DVs.txt {H : Hp} : ∀ {xs : List V} {ss : List Str}, DVs H xs (ss.map PyData.str) → xs = ss.map V.str
  | _, [], .nil => rfl
  | _, s :: r, .cons a b => by cases a; rw [DVs.txt b]; rfl
noncomputable def az (c : Nat) : Bool := decide (97 ≤ c) && decide (c ≤ 122)
noncomputable def okName (s : Str) : Bool := decide (1 ≤ s.length) && decide (s.length ≤ 8) && s.cps.toList.all az
theorem okName_iff {s : Str} : okName s = true ↔ NameP s := by
  unfold okName az
  constructor
  · intro h
    simp only [Bool.and_eq_true, decide_eq_true_eq, List.all_eq_true] at h
    exact ⟨h.1.1, h.1.2, h.2⟩
  · intro h
    simp only [Bool.and_eq_true, decide_eq_true_eq, List.all_eq_true]
    exact ⟨⟨h.lo, h.hi⟩, h.az⟩
noncomputable def nameD : PyData → Bool
  | .str s => okName s
  | _ => false
theorem nameD_str {d : PyData} (h : nameD d = true) : ∃ s, d = .str s ∧ NameP s := by
  cases d with
  | str s => exact ⟨s, rfl, okName_iff.mp h⟩
  | _ => cases h
theorem all_names {ds : List PyData} : ds.all nameD = true → ∃ ss : List Str, ds = ss.map PyData.str ∧ ∀ x ∈ ss, NameP x := by
  induction ds with
  | nil => intro _; exact ⟨[], rfl, by simp⟩
  | cons d r ih =>
    intro h
    rw [List.all_cons, Bool.and_eq_true] at h
    obtain ⟨s, rfl, hs⟩ := nameD_str h.1
    obtain ⟨ss, rfl, hss⟩ := ih h.2
    exact ⟨s :: ss, rfl, fun x hx => by
      rcases List.mem_cons.mp hx with e | e
      · rw [e]; exact hs
      · exact hss x e⟩
section
variable {P : Program} {w : World} {K : PySem.W.Frag} {mg : Str → Option Value} {base : Heap}
noncomputable def spNameD : Sp := fun vs H Q _ => ∃ (x : V) (d : PyData), vs = [x] ∧ DV H x d ∧ Dok d ∧ ∀ H', Same H H' → Q (.bl (nameD d)) H'
theorem sc2 : FnScope ["thing"] ["thing"] (defScope (top 2)) := ⟨rfl, rfl, rfl, by decide +kernel, rfl, by decide +kernel, by decide +kernel⟩
theorem ok_nameD {f : Addr} {fd : FuncData} (F : Fun K "is_name" "is_name" (top 2) f fd) (B : Bl mg) : FnOk P w K mg base CX0 1 f fd ["thing"] spNameD := by
  refine F.ok sc2 (fun vs H Q E h => ?_) (fun cdv A outer s H vs Q E hr h => ?_)
  · obtain ⟨x, d, rfl, _⟩ := h
    rfl
  · obtain ⟨x, d, rfl, hx, hd, k⟩ := h
    obtain ⟨tl, hl⟩ := B.lng
    refine ⟨_, pss_cons (ps_if (PW.pt (pw_or (pt_not (pt_val (pe_callB (call_isinst (T := "str")) rfl B.isinstance b_isinstance (pa_cons (pv 0) (pa_cons (pe_bltn (v := .ty "str") rfl B.str b_str rfl) pa_nil)))))
        (pw_or1 (pt_not (pt_chain op_le op_le pe_int (pe_callB call_len_str rfl B.len PySem.boot_len (pa_cons (pv 0) pa_nil)) (pe_glob (v := .int 8) rfl hl ⟨_, rfl⟩)))))) (pss_one (ps_ret pe_bl)) pss_nil)
      (pss_one (ps_ret (pe_callB (call_allB rfl) rfl B.all b_all (pa_cons (pe_lc (N := ["letter"]) (ix := [none]) ⟨rfl, rfl, rfl, by decide⟩ rfl (pi_str (pv 0)) (fun _ _ _ _ => pg_lc 0 (by decide) rfl rfl) (fun _ _ _ _ => pts_nil)
        (fun _ _ _ _ => pe_chain op_le_str op_le_str pe_str (pv 0) pe_str)) pa_nil)))), ?_⟩
    have kF : nameD d = false → Q (.bl false) H := fun e => by have := k H (Same.refl _); rw [e] at this; exact this
    cases hx with
    | non => exact ⟨_, rfl, _, _, false, rfl, .non, rfl, false, rfl, iteT (iteT (kF rfl))⟩
    | int i => exact ⟨_, rfl, _, _, false, rfl, .int i, rfl, false, rfl, iteT (iteT (kF rfl))⟩
    | bl b => exact ⟨_, rfl, _, _, false, rfl, .bl b, rfl, false, rfl, iteT (iteT (kF rfl))⟩
    | tup e _ => exact ⟨_, rfl, _, _, false, rfl, .tup e, rfl, false, rfl, iteT (iteT (kF rfl))⟩
    | lst e _ => exact ⟨_, rfl, _, _, false, rfl, .lst e, rfl, false, rfl, iteT (iteT (kF rfl))⟩
    | str x =>
      obtain ⟨hx1, hx2⟩ : okS x := by cases hd with | str _ h => exact h
      refine ⟨_, rfl, _, _, true, rfl, .str x, ?kit, true, rfl, iteF ?_⟩
      case kit => rfl
      refine ⟨_, rfl, x, rfl, Nat.le_of_lt (fits (by omega)), _, _, rfl, rfl, _, rfl, ?_⟩
      by_cases c1 : 1 ≤ x.length
      · refine iteD (by omega) ⟨_, _, rfl, rfl, _, rfl, ?_⟩
        by_cases c2 : x.length ≤ 8
        · refine iteNS (by omega) ?_
          refine ⟨_, rfl, x, rfl, hx2, lcw_str0 (fits (by omega)) (fun i ys σ H1 => ys = (x.cps.toList.take i).map (fun c => V.bl (az c)) ∧ Same H H1 ∧ ∃ v, σ = [v]) ⟨rfl, Same.refl _, _, rfl⟩ (fun i ys σ H1 hi q => by rw [q.1]; simp; omega) ?_ ?_⟩
          · rintro i c ys σ H1 hc ⟨rfl, hs, v, rfl⟩
            have hc' : x.cps.toList[i]? = some c := by simpa using hc
            have en : (x.cps.toList.take (i + 1)).map (fun c => V.bl (az c)) = (x.cps.toList.take i).map (fun c => V.bl (az c)) ++ [V.bl (az c)] := (take_map_succ _ _ _ _ hc')
            refine ⟨_, rfl, _, _, rfl, rfl, _, rfl, ?_⟩
            show if (!decide ([c] < [97])) = true then _ else _
            by_cases d1 : 97 ≤ c
            · refine iteNT (by rw [lt1]; omega) ⟨_, _, rfl, rfl, ?_, hs, _, rfl⟩
              show _ ++ [V.bl (!decide ([122] < [c]))] = _
              rw [en]
              have : (!decide ([122] < [c])) = az c := by
                unfold az
                rw [decide_eq_true d1]
                by_cases d2 : c ≤ 122
                · rw [decide_eq_false (by rw [lt1]; omega), decide_eq_true d2]; rfl
                · rw [decide_eq_true (by rw [lt1]; omega), decide_eq_false d2]; rfl
              rw [this]
            · refine iteNS (by rw [lt1]; omega) ⟨?_, hs, _, rfl⟩
              rw [en]
              have : az c = false := by unfold az; rw [decide_eq_false d1]; rfl
              rw [this]
          · rintro ys σ H1 ⟨rfl, hs, v, rfl⟩ p hp
            have ea : (x.cps.toList.take x.length).map (fun c => V.bl (az c)) = (x.cps.toList.map az).map V.bl := by
              rw [List.take_of_length_le (by simp [Str.length]), List.map_map]; rfl
            rw [ea]
            refine ⟨p, x.cps.toList.map az, rfl, SqL.of upd_same, ?_⟩
            have e : (x.cps.toList.map az).all id = okName x := by
              unfold okName
              rw [decide_eq_true c1, decide_eq_true c2, List.all_map]; rfl
            rw [e]
            exact k _ (same_upd hs hp)
        · refine iteNT (by omega) ?_
          have e : okName x = false := by unfold okName; rw [decide_eq_false c2]; simp
          exact kF e
      · refine iteDN (by omega) ?_
        have e : okName x = false := by unfold okName; rw [decide_eq_false c1]; rfl
        exact ⟨_, rfl, iteT (kF e)⟩
end
end K11

set_option Elab.async false
set_option linter.all false
set_option maxRecDepth 100000
set_option maxHeartbeats 4000000
namespace K11
open PySem L2
theorem FnOk.or {P : Program} {w : World} {K : PySem.W.Frag} {mg : Str → Option Value} {base : Heap} {CX : CXT} {k : Nat} {f : Addr} {fd : FuncData} {ps : List Str} {sp sp' : Sp} (F : FnOk P w K mg base CX k f fd ps sp) (G : FnOk P w K mg base CX k f fd ps sp') :
    FnOk P w K mg base CX k f fd ps (fun vs H Q E => sp vs H Q E ∨ sp' vs H Q E) :=
  ⟨fun vs H Q E h => h.elim (F.len vs H Q E) (G.len vs H Q E), fun A outer s H args us vs Q E hr he hb hv hs => hs.elim (F.run A outer s H args us vs Q E hr he hb hv) (G.run A outer s H args us vs Q E hr he hb hv)⟩
theorem adj_pw {ss : List Str} (h : ∀ i (hi : i + 1 < ss.length), nlt ss[i] ss[i + 1]) : ss.Pairwise nlt := by
  rw [List.pairwise_iff_getElem]
  have key : ∀ (k i : Nat) (hk : i + k + 1 < ss.length), nlt ss[i] (ss[i + k + 1]'hk) := by
    intro k
    induction k with
    | zero => intro i hk; exact h i hk
    | succ k ih =>
      intro i hk
      have h1 := ih i (by omega)
      have h2 := h (i + k + 1) (by omega)
      exact List.lt_trans h1 h2
  intro i j hi hj hij
  have := key (j - i - 1) i (by omega)
  have e : i + (j - i - 1) + 1 = j := by omega
  simpa [e] using this
section
variable {P : Program} {w : World} {K : PySem.W.Frag} {mg : Str → Option Value} {base : Heap}
noncomputable def spRisingN (K : PySem.W.Frag) : Sp := fun vs H Q _ => ∃ (p : Addr) (ss : List Str), vs = [.ref p] ∧ Sq K H p (ss.map V.str) ∧ ¬ ss.Pairwise nlt ∧ ss.length ≤ 1000 ∧ ∀ H', Same H H' → Q (.bl false) H'
theorem ok_is_risingN {f : Addr} {fd : FuncData} (F : Fun K "is_rising" "is_rising" (top 3) f fd) (B : Bl mg) : FnOk P w K mg base CX0 1 f fd ["names"] (spRisingN K) := by
  refine F.ok sc3 (fun vs H Q E h => ?_) (fun cdv A outer s H vs Q E hr h => ?_)
  · obtain ⟨p, ss, rfl, _⟩ := h
    rfl
  · obtain ⟨p, ss, rfl, hq, hp, hz, k⟩ := h
    refine ⟨_, pss_one (ps_ret (pe_callB (call_allB rfl) rfl B.all b_all (pa_cons (pe_lc (N := ["at", "names"]) (ix := [none, some 0]) ⟨rfl, rfl, rfl, by decide⟩ rfl
      (pi_range2 rfl B.range (pa_cons pe_int (pa_cons (pe_callB call_len_seq rfl B.len PySem.boot_len (pa_cons (pv 0) pa_nil)) pa_nil))) (fun _ _ _ _ => pg_lc 0 (by decide) rfl rfl) (fun _ _ _ _ => pts_nil)
      (fun _ _ _ _ => pe_cmpR op_lt_str (pe_ix (ix_seqK K) (pv 1) (pe_op op_sub (pv 0) pe_int) (fun _ _ => rfl)) (pe_ix (ix_seqK K) (pv 1) (pv 0) (fun _ _ => rfl)) (nomark _))) pa_nil))), ?_⟩
    have hz' : (ss.map V.str).length ≤ 1000 := by simpa using hz
    let at' : Nat → Bool := fun j => decide ((ss.getD j default).cps.toList < (ss.getD (j + 1) default).cps.toList)
    refine ⟨_, rfl, p, ss.map V.str, rfl, hq, 1, _, rfl, ⟨by decide, by decide, by omega, by omega⟩, lcw_range0 (fits (by omega)) (fun i ys σ H1 => ys = ((List.range i).map at').map V.bl ∧ Same H H1 ∧ ∃ v, σ = [v, some (.ref p)])
      ⟨rfl, Same.refl _, _, rfl⟩ (fun i ys σ H1 _ q => by rw [q.1]; simp) ?_ ?_⟩
    · rintro i ys σ H1 hi ⟨rfl, hs, v, rfl⟩
      have hl : i + 1 < ss.length := by rw [List.length_map] at hi; omega
      refine ⟨_, rfl, _, rfl, _, _, rfl, rfl, rix_of (j := i) (hq.same hs) (by omega) (strAt (by omega)) ⟨_, rfl, _, rfl, rix_of (j := i + 1) (hq.same hs) (by push_cast; omega) (strAt hl) ⟨_, _, rfl, rfl, ?_, hs, _, rfl⟩⟩⟩
      have e1 : ss.getD i default = ss[i] := by rw [List.getD_eq_getElem?_getD, List.getElem?_eq_getElem (by omega)]; rfl
      have e2 : ss.getD (i + 1) default = ss[i + 1] := by rw [List.getD_eq_getElem?_getD, List.getElem?_eq_getElem hl]; rfl
      show _ ++ [V.bl (decide (ss[i].cps.toList < ss[i + 1].cps.toList))] = _
      rw [List.range_succ, List.map_append, List.map_append]
      show _ = _ ++ [V.bl (decide ((ss.getD i default).cps.toList < (ss.getD (i + 1) default).cps.toList))]
      rw [e1, e2]
    · rintro ys σ H1 ⟨rfl, hs, v, rfl⟩ q hqn
      refine ⟨q, _, rfl, SqL.of upd_same, ?_⟩
      have e : (((List.range (((ss.map V.str).length : Int) - 1).toNat).map at').all id) = false := by
        cases c : (((List.range (((ss.map V.str).length : Int) - 1).toNat).map at').all id) with
        | false => rfl
        | true =>
          refine absurd (adj_pw fun i hi => ?_) hp
          have := List.all_eq_true.mp c (at' i) (List.mem_map.mpr ⟨i, List.mem_range.mpr (by rw [List.length_map]; omega), rfl⟩)
          have h2 : (ss.getD i default).cps.toList < (ss.getD (i + 1) default).cps.toList := of_decide_eq_true this
          have e1 : ss.getD i default = ss[i] := by rw [List.getD_eq_getElem?_getD, List.getElem?_eq_getElem (by omega)]; rfl
          have e2 : ss.getD (i + 1) default = ss[i + 1] := by rw [List.getD_eq_getElem?_getD, List.getElem?_eq_getElem hi]; rfl
          rw [e1, e2] at h2
          exact h2
      rw [e]
      exact k _ (same_upd hs hqn)
noncomputable def risB (ss : List Str) : Bool := @decide (ss.Pairwise nlt) (Classical.propDecidable _)
theorem risB_t {ss : List Str} : risB ss = true ↔ ss.Pairwise nlt := @decide_eq_true_iff _ (Classical.propDecidable _)
theorem risB_f {ss : List Str} (h : ¬ ss.Pairwise nlt) : risB ss = false := @decide_eq_false _ (Classical.propDecidable _) h
noncomputable def spRisingD (K : PySem.W.Frag) : Sp := fun vs H Q _ => ∃ (p : Addr) (ss : List Str), vs = [.ref p] ∧ Sq K H p (ss.map V.str) ∧ ss.length ≤ 1000 ∧ ∀ H', Same H H' → Q (.bl (risB ss)) H'
theorem ok_risingD {f : Addr} {fd : FuncData} (F : Fun K "is_rising" "is_rising" (top 3) f fd) (B : Bl mg) : FnOk P w K mg base CX0 1 f fd ["names"] (spRisingD K) :=
  (FnOk.or (ok_is_rising F B) (ok_is_risingN F B)).imp fun vs H Q E h => by
    obtain ⟨p, ss, e, hq, hz, k⟩ := h
    by_cases c : ss.Pairwise nlt
    · exact .inl ⟨p, ss, e, hq, c, hz, fun H' s => by have := k H' s; rw [risB_t.mpr c] at this; exact this⟩
    · exact .inr ⟨p, ss, e, hq, c, hz, fun H' s => by have := k H' s; rw [risB_f c] at this; exact this⟩
/-! ### sorted names -/
noncomputable def txts (ds : List PyData) : List Str := ds.filterMap fun | .str s => some s | _ => none
theorem txts_map (ss : List Str) : txts (ss.map PyData.str) = ss := by
  unfold txts
  induction ss with
  | nil => rfl
  | cons s r ih => rw [List.map_cons, List.filterMap_cons]; simp only [ih]
noncomputable def sortedD : PyData → Bool
  | .tuple ds => ds.all nameD && risB (txts ds)
  | _ => false
theorem sortedD_t {d : PyData} (h : sortedD d = true) : ∃ ss : List Str, d = .tuple (ss.map PyData.str) ∧ (∀ x ∈ ss, NameP x) ∧ ss.Pairwise nlt := by
  cases d with
  | tuple ds =>
    unfold sortedD at h
    rw [Bool.and_eq_true] at h
    obtain ⟨ss, rfl, hs⟩ := all_names h.1
    exact ⟨ss, rfl, hs, by have := risB_t.mp h.2; rwa [txts_map] at this⟩
  | _ => cases h
noncomputable def spSortedD : Sp := fun vs H Q _ => ∃ (x : V) (d : PyData), vs = [x] ∧ DV H x d ∧ Dok d ∧ ∀ H', Same H H' → Q (.bl (sortedD d)) H'
theorem sc4 : FnScope ["thing"] ["thing"] (defScope (top 4)) := ⟨rfl, rfl, rfl, by decide +kernel, rfl, by decide +kernel, by decide +kernel⟩
theorem ok_sortedD {f : Addr} {fd : FuncData} (F : Fun K "is_sorted_names" "is_sorted_names" (top 4) f fd) (B : Bl mg) (F1 : Fn P w K mg base 1 "is_name" ["thing"] spNameD) (F2 : Fn P w K mg base 1 "is_rising" ["names"] (spRisingD K)) :
    FnOk P w K mg base CX0 2 f fd ["thing"] spSortedD := by
  refine F.ok sc4 (fun vs H Q E h => ?_) (fun cdv A outer s H vs Q E hr h => ?_)
  · obtain ⟨x, d, rfl, _⟩ := h
    rfl
  · obtain ⟨x, d, rfl, hx, hd, k⟩ := h
    refine ⟨_, pss_cons (ps_if (pt_not (pt_val (pe_callB (call_isinst (T := "tuple")) rfl B.isinstance b_isinstance (pa_cons (pv 0) (pa_cons (pe_bltn (v := .ty "tuple") rfl B.tuple b_tuple rfl) pa_nil))))) (pss_one (ps_ret pe_bl)) pss_nil)
      (pss_one (ps_ret (pe_and (pe_callB (call_allB rfl) rfl B.all b_all (pa_cons (pe_lc (N := ["name"]) (ix := [none]) ⟨rfl, rfl, rfl, by decide⟩ rfl (pi_tup (pv 0)) (fun _ _ _ _ => pg_lc 0 (by decide) rfl rfl) (fun _ _ _ _ => pts_nil)
        (fun _ _ _ _ => pe_fn F1 hr (pa_cons (pv 0) pa_nil))) pa_nil)) (pe_one (pe_fn F2 hr (pa_cons (pv 0) pa_nil)))))), ?_⟩
    have kF : sortedD d = false → Q (.bl false) H := fun e => by have := k H (Same.refl _); rw [e] at this; exact this
    cases hx with
    | non => exact ⟨_, rfl, _, _, false, rfl, .non, rfl, false, rfl, iteT (kF rfl)⟩
    | int i => exact ⟨_, rfl, _, _, false, rfl, .int i, rfl, false, rfl, iteT (kF rfl)⟩
    | bl b => exact ⟨_, rfl, _, _, false, rfl, .bl b, rfl, false, rfl, iteT (kF rfl)⟩
    | str z => exact ⟨_, rfl, _, _, false, rfl, .str z, rfl, false, rfl, iteT (kF rfl)⟩
    | lst e _ => exact ⟨_, rfl, _, _, false, rfl, .lst e, rfl, false, rfl, iteT (kF rfl)⟩
    | @tup p xs ds hp q =>
      obtain ⟨hz, hds⟩ : ds.length ≤ 60 ∧ ∀ d ∈ ds, Dok d := by cases hd with | tup _ a b => exact ⟨a, b⟩
      have hxl := DVs.len q
      refine ⟨_, rfl, _, _, true, rfl, .tup hp, rfl, true, rfl, iteF ?_⟩
      refine ⟨_, rfl, p, rfl, ⟨_, SqT.of hp⟩, lcw_tup0 (xs := xs) (fits (by omega)) (fun i ys σ H1 => ys = (ds.take i).map (fun d => V.bl (nameD d)) ∧ Same H H1 ∧ ∃ v, σ = [v]) ⟨rfl, Same.refl _, _, rfl⟩
        (fun i ys σ H1 _ q => ⟨by rw [q.1]; simp; omega, same_tup q.2.1 (SqT.of hp)⟩) ?_ ?_⟩
      · rintro i x ys σ H1 hx ⟨rfl, hs1, v, rfl⟩
        obtain ⟨d', hd', dv⟩ := DVs.at q hx
        exact ⟨_, rfl, x, d', rfl, DV.same hs1 dv, hds d' (List.mem_of_getElem? hd'), fun H2 hs2 => ⟨(take_map_succ _ _ _ _ hd').symm, hs1.trans hs2, _, rfl⟩⟩
      · rintro ys σ H1 ⟨rfl, hs1, v, rfl⟩ r hr'
        have ea : (ds.take xs.length).map (fun d => V.bl (nameD d)) = (ds.map nameD).map V.bl := by rw [hxl, List.take_length, List.map_map]; rfl
        rw [ea]
        have hs2 := same_upd (o := .lst ((ds.map nameD).map V.bl)) hs1 hr'
        refine ⟨r, ds.map nameD, rfl, SqL.of upd_same, _, rfl, ?_⟩
        have e2 : (ds.map nameD).all id = ds.all nameD := by rw [List.all_map]; rfl
        rw [e2]
        cases c : ds.all nameD with
        | false =>
          have := k _ hs2
          have e : sortedD (.tuple ds) = false := by show (ds.all nameD && _) = false; rw [c]; rfl
          rw [e] at this
          exact iteF this
        | true =>
          obtain ⟨ss, rfl, hss⟩ := all_names c
          have ex := DVs.txt q
          subst ex
          refine iteT ⟨_, rfl, p, ss, rfl, .inr (same_tup hs2 (SqT.of hp)), by simp at hz; omega, fun H3 hs3 => ?_⟩
          have := k _ (hs2.trans hs3)
          have e : sortedD (.tuple (ss.map PyData.str)) = risB ss := by show ((ss.map PyData.str).all nameD && risB (txts _)) = _; rw [c, txts_map]; rfl
          rw [e] at this
          exact this
/-! ### among -/
noncomputable def amongD (d : PyData) (ss : List Str) : Bool := match d with | .str s => decide (s ∈ ss) | _ => false
noncomputable def spAmongD (K : PySem.W.Frag) : Sp := fun vs H Q _ => ∃ (x : V) (d : PyData) (p : Addr) (ss : List Str), vs = [x, .ref p] ∧ DV H x d ∧ Sq K H p (ss.map V.str) ∧ Q (.bl (amongD d ss)) H
theorem sc5 : FnScope ["thing", "names"] ["thing", "names"] (defScope (top 5)) := ⟨rfl, rfl, rfl, by decide +kernel, rfl, by decide +kernel, by decide +kernel⟩
theorem ok_amongD {f : Addr} {fd : FuncData} (F : Fun K "is_among" "is_among" (top 5) f fd) (B : Bl mg) : FnOk P w K mg base CX0 1 f fd ["thing", "names"] (spAmongD K) := by
  refine F.ok sc5 (fun vs H Q E h => ?_) (fun cdv A outer s H vs Q E hr h => ?_)
  · obtain ⟨x, d, p, ss, rfl, _⟩ := h
    rfl
  · obtain ⟨x, d, p, ss, rfl, hx, hp, k⟩ := h
    refine ⟨_, pss_one (ps_ret (pe_and (pe_callB (call_isinst (T := "str")) rfl B.isinstance b_isinstance (pa_cons (pv 0) (pa_cons (pe_bltn (v := .ty "str") rfl B.str b_str rfl) pa_nil)))
      (pe_one (pe_cmpR op_in_seq (pv 0) (pv 1) (by with_unfolding_all rfl))))), ?_⟩
    cases hx with
    | non => exact ⟨_, rfl, _, _, false, rfl, .non, rfl, false, rfl, iteF k⟩
    | int i => exact ⟨_, rfl, _, _, false, rfl, .int i, rfl, false, rfl, iteF k⟩
    | bl b => exact ⟨_, rfl, _, _, false, rfl, .bl b, rfl, false, rfl, iteF k⟩
    | tup e _ => exact ⟨_, rfl, _, _, false, rfl, .tup e, rfl, false, rfl, iteF k⟩
    | lst e _ => exact ⟨_, rfl, _, _, false, rfl, .lst e, rfl, false, rfl, iteF k⟩
    | str x =>
      refine ⟨_, rfl, _, _, true, rfl, .str x, rfl, true, rfl, iteT ⟨_, rfl, _, rfl, p, ss.map V.str, rfl, hp, rfl, flat_strs ss, ?_⟩⟩
      show Q (.bl (inV (.str x) (ss.map V.str))) H
      rw [in_strs]
      exact k
end
end K11

set_option Elab.async false
set_option linter.all false
set_option maxRecDepth 100000
set_option maxHeartbeats 4000000
namespace K11
open PySem L2
/-! ### rows and webs -/
noncomputable def tieD (ps : List Str) : PyData → Bool
  | .tuple [a, .str s, .str t] => nameD a && (decide (s ∈ ps) && (decide (t ∈ ps) && !decide (s = t)))
  | _ => false
theorem tieD_t {ps : List Str} {d : PyData} (h : tieD ps d = true) : ∃ n s t : Str, d = .tuple [.str n, .str s, .str t] ∧ NameP n ∧ s ∈ ps ∧ t ∈ ps ∧ s ≠ t := by
  unfold tieD at h
  split at h
  · rename_i a s t
    simp only [Bool.and_eq_true, decide_eq_true_eq, Bool.not_eq_true', decide_eq_false_iff_not] at h
    obtain ⟨n, rfl, hn⟩ := nameD_str h.1
    exact ⟨n, s, t, rfl, hn, h.2.1, h.2.2.1, h.2.2.2⟩
  · cases h
theorem tieD_len {ps : List Str} {ds : List PyData} (h : ds.length ≠ 3) : tieD ps (.tuple ds) = false := by
  unfold tieD
  split
  · rename_i e; cases e; exact absurd rfl h
  · rfl
noncomputable def neD : PyData → PyData → Bool
  | .str s, .str t => !decide (s = t)
  | _, _ => false
theorem tieD_3 {ps : List Str} (a b e : PyData) : tieD ps (.tuple [a, b, e]) = (nameD a && (amongD b ps && (amongD e ps && neD b e))) := by
  cases b with
  | str s =>
    cases e with
    | str t => rfl
    | _ => show false = (nameD a && (decide (s ∈ ps) && (false && _))); simp
  | _ => show false = (nameD a && (false && _)); simp
section
variable {P : Program} {w : World} {K : PySem.W.Frag} {mg : Str → Option Value} {base : Heap}
noncomputable def spTieD : Sp := fun vs H Q _ => ∃ (x : V) (d : PyData) (q : Addr) (ps : List Str), vs = [x, .ref q] ∧ DV H x d ∧ Dok d ∧ H q = some (.tup (ps.map V.str)) ∧ ∀ H', Same H H' → Q (.bl (tieD ps d)) H'
theorem sc6 : FnScope ["thing", "places", "name", "start", "end"] ["thing", "places"] (defScope (top 6)) := ⟨rfl, rfl, rfl, by decide +kernel, rfl, by decide +kernel, by decide +kernel⟩
theorem ok_tieD {f : Addr} {fd : FuncData} (F : Fun K "is_tie_row" "is_tie_row" (top 6) f fd) (B : Bl mg) (F1 : Fn P w K mg base 1 "is_name" ["thing"] spNameD) (F2 : Fn P w K mg base 1 "is_among" ["thing", "names"] (spAmongD K)) :
    FnOk P w K mg base CX0 2 f fd ["thing", "places"] spTieD := by
  refine F.ok sc6 (fun vs H Q E h => ?_) (fun cdv A outer s H vs Q E hr h => ?_)
  · obtain ⟨x, d, q, ps, rfl, _⟩ := h
    rfl
  · obtain ⟨x, d, q, ps, rfl, hx, hd, hq, k⟩ := h
    refine ⟨_, pss_cons (ps_if (PW.pt (pw_or (pt_not (pt_val (pe_callB (call_isinst (T := "tuple")) rfl B.isinstance b_isinstance (pa_cons (pv 0) (pa_cons (pe_bltn (v := .ty "tuple") rfl B.tuple b_tuple rfl) pa_nil)))))
        (pw_or1 (pt_cmpR op_ne (pe_callB call_len_seq rfl B.len PySem.boot_len (pa_cons (pv 0) pa_nil)) pe_int (nomark _))))) (pss_one (ps_ret pe_bl)) pss_nil)
      (pss_cons (ps_asg (pv 0) (pg_tup rfl (n := 3) (pgs_cons (pg_name (i := 2) sc6.nd rfl (Or.inl rfl)) (pgs_cons (pg_name (i := 3) sc6.nd rfl (Or.inl rfl)) (pgs_cons (pg_name (i := 4) sc6.nd rfl (Or.inl rfl)) pgs_nil)))))
      (pss_one (ps_ret (pe_and (pe_fn F1 hr (pa_cons (pv 2) pa_nil)) (pe_and (pe_fn F2 hr (pa_cons (pv 3) (pa_cons (pv 1) pa_nil))) (pe_and (pe_fn F2 hr (pa_cons (pv 4) (pa_cons (pv 1) pa_nil))) (pe_one (pe_cmpR op_ne (pv 3) (pv 4) (nomark _))))))))), ?_⟩
    have kF : tieD ps d = false → ∀ H', Same H H' → Q (.bl false) H' := fun e H' s => by have := k H' s; rw [e] at this; exact this
    cases hx with
    | non => exact ⟨_, rfl, _, _, false, rfl, .non, rfl, false, rfl, iteT (iteT (kF rfl H (Same.refl _)))⟩
    | int i => exact ⟨_, rfl, _, _, false, rfl, .int i, rfl, false, rfl, iteT (iteT (kF rfl H (Same.refl _)))⟩
    | bl b => exact ⟨_, rfl, _, _, false, rfl, .bl b, rfl, false, rfl, iteT (iteT (kF rfl H (Same.refl _)))⟩
    | str z => exact ⟨_, rfl, _, _, false, rfl, .str z, rfl, false, rfl, iteT (iteT (kF rfl H (Same.refl _)))⟩
    | lst e _ => exact ⟨_, rfl, _, _, false, rfl, .lst e, rfl, false, rfl, iteT (iteT (kF rfl H (Same.refl _)))⟩
    | @tup p xs ds hp' qs =>
      have hxl := DVs.len qs
      refine ⟨_, rfl, _, _, true, rfl, .tup hp', rfl, true, rfl, iteF ⟨_, rfl, p, _, rfl, .inr (SqT.of hp'), rfl, _, rfl, ?_⟩⟩
      by_cases c : ds.length = 3
      · obtain ⟨a, b, e, rfl⟩ : ∃ a b e, ds = [a, b, e] := by
          match ds, c with
          | [a, b, e], _ => exact ⟨a, b, e, rfl⟩
        cases qs with
        | @cons x1 _ _ _ d1 r =>
          cases r with
          | @cons x2 _ _ _ d2 r =>
            cases r with
            | @cons x3 _ _ _ d3 r =>
              cases r
              obtain ⟨k1, k2, k3⟩ : Dok a ∧ Dok b ∧ Dok e := by cases hd with | tup _ _ z => exact ⟨z _ (by simp), z _ (by simp), z _ (by simp)⟩
              refine iteNS rfl ?_
              refine ⟨_, rfl, p, _, rfl, SqT.of hp', rfl, _, _, rfl, _, _, rfl, _, _, rfl, rfl, ?_⟩
              rw [tieD_3] at k
              refine ⟨_, rfl, x1, a, rfl, d1, k1, fun H1 s1 => ⟨nameD a, rfl, ?_⟩⟩
              cases n1 : nameD a with
              | false => rw [n1] at k; exact iteF (k H1 s1)
              | true =>
                rw [n1] at k
                refine iteT ⟨_, rfl, _, rfl, x2, b, q, ps, rfl, DV.same s1 d2, .inr (same_tup s1 (SqT.of hq)), amongD b ps, rfl, ?_⟩
                cases n2 : amongD b ps with
                | false => rw [n2] at k; exact iteF (k H1 s1)
                | true =>
                  rw [n2] at k
                  refine iteT ⟨_, rfl, _, rfl, x3, e, q, ps, rfl, DV.same s1 d3, .inr (same_tup s1 (SqT.of hq)), amongD e ps, rfl, ?_⟩
                  cases n3 : amongD e ps with
                  | false => rw [n3] at k; exact iteF (k H1 s1)
                  | true =>
                    rw [n3] at k
                    refine iteT ?_
                    cases d2 with
                    | str s' =>
                      cases d3 with
                      | str t' =>
                        refine ⟨_, rfl, _, rfl, rfl, ?_⟩
                        have e : (!decide (V.str s' = V.str t')) = neD (PyData.str s') (PyData.str t') := by
                          show _ = !decide (s' = t')
                          by_cases z : s' = t'
                          · subst z; simp
                          · rw [decide_eq_false (fun w => z (V.str.inj w)), decide_eq_false z]
                        rw [e]
                        exact k H1 s1
                      | _ => cases n3
                    | _ => cases n2
      · refine iteNT (fun z => c ?_) (kF (tieD_len c) H (Same.refl _))
        have := V.int.inj z
        rw [hxl] at this
        omega
end
end K11

set_option Elab.async false
set_option linter.all false
set_option maxRecDepth 100000
set_option maxHeartbeats 4000000
namespace K11
open PySem L2
noncomputable def subs : PyData → List PyData
  | .tuple ds => ds
  | _ => []
noncomputable def isTupD : PyData → Bool
  | .tuple _ => true
  | _ => false
noncomputable def rowNm : PyData → Str
  | .tuple (.str n :: _) => n
  | _ => ""
noncomputable def webB : PyData → Bool
  | .tuple [a, b] => sortedD a && (!(subs a).isEmpty && (isTupD b && ((subs b).all (tieD (txts (subs a))) && risB ((subs b).map rowNm))))
  | _ => false
theorem webB_len {ds : List PyData} (h : ds.length ≠ 2) : webB (.tuple ds) = false := by
  unfold webB
  split
  · rename_i e; cases e; exact absurd rfl h
  · rfl
/-- rows that are rows: their names -/
theorem row_nm {H : Hp} {ps : List Str} : ∀ {xs : List V} {ds : List PyData}, DVs H xs ds → ds.all (tieD ps) = true → ∀ {i : Nat} {x : V}, xs[i]? = some x → ∃ (d : PyData) (a : Addr) (ys : List V), ds[i]? = some d ∧ x = .ref a ∧ H a = some (.tup (V.str (rowNm d) :: ys)) := by
  intro xs ds q h i x hx
  obtain ⟨d, hd, dv⟩ := DVs.at q hx
  obtain ⟨n, s, t, rfl, hn, _⟩ := tieD_t (List.all_eq_true.mp h d (List.mem_of_getElem? hd))
  cases dv with
  | @tup a ys _ e r =>
    cases r with
    | cons r1 r2 =>
      cases r1
      exact ⟨_, a, _, hd, rfl, e⟩
section
variable {P : Program} {w : World} {K : PySem.W.Frag} {mg : Str → Option Value} {base : Heap}
noncomputable def spWebD : Sp := fun vs H Q _ => (∃ (x : V) (d : PyData), vs = [x] ∧ DV H x d ∧ Dok d ∧ ∀ H', Same H H' → Q (.bl (webB d)) H') ∨ ∃ a : Addr, vs = [.ref a] ∧ H a = some (.dK []) ∧ Q (.bl false) H
theorem sc7 : FnScope ["thing", "places", "rows"] ["thing"] (defScope (top 7)) := ⟨rfl, rfl, rfl, by decide +kernel, rfl, by decide +kernel, by decide +kernel⟩
theorem ok_webD {f : Addr} {fd : FuncData} (F : Fun K "is_web" "is_web" (top 7) f fd) (B : Bl mg) (F1 : Fn P w K mg base 2 "is_sorted_names" ["thing"] spSortedD) (F2 : Fn P w K mg base 2 "is_tie_row" ["thing", "places"] spTieD)
    (F3 : Fn P w K mg base 1 "is_rising" ["names"] (spRisingD K)) : FnOk P w K mg base CX0 3 f fd ["thing"] spWebD := by
  refine F.ok sc7 (fun vs H Q E h => ?_) (fun cdv A outer s H vs Q E hr h => ?_)
  · rcases h with ⟨x, d, rfl, _⟩ | ⟨a, rfl, _⟩ <;> rfl
  · have hr1 : Room 1 _ := hr.mono (by decide)
    refine ⟨_, pss_cons (ps_if (PW.pt (pw_or (pt_not (pt_val (pe_callB (call_isinst (T := "tuple")) rfl B.isinstance b_isinstance (pa_cons (pv 0) (pa_cons (pe_bltn (v := .ty "tuple") rfl B.tuple b_tuple rfl) pa_nil)))))
        (pw_or1 (pt_cmpR op_ne (pe_callB call_len_seq rfl B.len PySem.boot_len (pa_cons (pv 0) pa_nil)) pe_int (nomark _))))) (pss_one (ps_ret pe_bl)) pss_nil)
      (pss_cons (ps_asg (pv 0) (pg_tup rfl (n := 2) (pgs_cons (pg_name (i := 1) sc7.nd rfl (Or.inr rfl)) (pgs_cons (pg_name (i := 2) sc7.nd rfl (Or.inl rfl)) pgs_nil))))
      (pss_cons (ps_if (PW.pt (pw_or (pt_not (pt_val (pe_fn F1 hr (pa_cons (pv 1) pa_nil)))) (pw_or (pt_cmpR op_eq (pe_callB call_len_seq rfl B.len PySem.boot_len (pa_cons (pv 1) pa_nil)) pe_int (nomark _))
        (pw_or1 (pt_not (pt_val (pe_callB (call_isinst (T := "tuple")) rfl B.isinstance b_isinstance (pa_cons (pv 2) (pa_cons (pe_bltn (v := .ty "tuple") rfl B.tuple b_tuple rfl) pa_nil))))))))) (pss_one (ps_ret pe_bl)) pss_nil)
      (pss_one (ps_ret (pe_and (pe_callB (call_allB rfl) rfl B.all b_all (pa_cons (pe_lc (N := ["row", "places"]) (ix := [none, some 1]) ⟨rfl, rfl, rfl, by decide⟩ rfl (pi_tup (pv 2)) (fun _ _ _ _ => pg_lc 0 (by decide) rfl rfl) (fun _ _ _ _ => pts_nil)
        (fun _ _ _ _ => pe_fn F2 hr (pa_cons (pv 0) (pa_cons (pv 1) pa_nil)))) pa_nil))
        (pe_one (pe_fn F3 hr1 (pa_cons (pe_lc (N := ["row"]) (ix := [none]) ⟨rfl, rfl, rfl, by decide⟩ rfl (pi_tup (pv 2)) (fun _ _ _ _ => pg_lc 0 (by decide) rfl rfl) (fun _ _ _ _ => pts_nil)
          (fun _ _ _ _ => pe_ix (ix_seqK K) (pv 0) pe_int (fun _ _ => rfl))) pa_nil)))))))), ?_⟩
    rcases h with ⟨x, d, rfl, hx, hd, k⟩ | ⟨a, rfl, ha, k⟩
    rotate_left
    · exact ⟨_, rfl, _, _, false, rfl, .dK ha, rfl, false, rfl, iteT (iteT k)⟩
    have kF : webB d = false → ∀ H', Same H H' → Q (.bl false) H' := fun e H' s => by have := k H' s; rw [e] at this; exact this
    cases hx with
    | non => exact ⟨_, rfl, _, _, false, rfl, .non, rfl, false, rfl, iteT (iteT (kF rfl H (Same.refl _)))⟩
    | int i => exact ⟨_, rfl, _, _, false, rfl, .int i, rfl, false, rfl, iteT (iteT (kF rfl H (Same.refl _)))⟩
    | bl b => exact ⟨_, rfl, _, _, false, rfl, .bl b, rfl, false, rfl, iteT (iteT (kF rfl H (Same.refl _)))⟩
    | str z => exact ⟨_, rfl, _, _, false, rfl, .str z, rfl, false, rfl, iteT (iteT (kF rfl H (Same.refl _)))⟩
    | lst e _ => exact ⟨_, rfl, _, _, false, rfl, .lst e, rfl, false, rfl, iteT (iteT (kF rfl H (Same.refl _)))⟩
    | @tup v xs ds hv qs =>
      have hxl := DVs.len qs
      refine ⟨_, rfl, _, _, true, rfl, .tup hv, rfl, true, rfl, iteF ⟨_, rfl, v, _, rfl, .inr (SqT.of hv), rfl, _, rfl, ?_⟩⟩
      by_cases c : ds.length = 2
      rotate_left
      · refine iteNT (fun z => c ?_) (kF (webB_len c) H (Same.refl _))
        have := V.int.inj z
        rw [hxl] at this
        omega
      obtain ⟨a, b, rfl⟩ : ∃ a b, ds = [a, b] := by
        match ds, c with
        | [a, b], _ => exact ⟨a, b, rfl⟩
      cases qs with
      | @cons x1 _ _ _ d1 r =>
        cases r with
        | @cons x2 _ _ _ d2 r =>
          cases r
          obtain ⟨ka, kb⟩ : Dok a ∧ Dok b := by cases hd with | tup _ _ z => exact ⟨z _ (by simp), z _ (by simp)⟩
          refine iteNS rfl ?_
          refine ⟨_, rfl, v, _, rfl, SqT.of hv, rfl, _, _, rfl, _, _, rfl, rfl, ?_⟩
          have ew : webB (.tuple [a, b]) = (sortedD a && (!(subs a).isEmpty && (isTupD b && ((subs b).all (tieD (txts (subs a))) && risB ((subs b).map rowNm))))) := rfl
          refine ⟨_, rfl, x1, a, rfl, d1, ka, fun H1 s1 => ⟨sortedD a, rfl, ?_⟩⟩
          cases ca : sortedD a with
          | false => exact iteT (iteT (kF (by rw [ew, ca]; rfl) H1 s1))
          | true =>
            obtain ⟨ps, rfl, pnm, pso⟩ := sortedD_t ca
            cases d1 with
            | @tup pa ys _ hpa qp =>
              have ex := DVs.txt qp
              subst ex
              have hpz : ps.length ≤ 60 := by cases ka with | tup _ z _ => simpa using z
              refine iteF ⟨_, rfl, pa, _, rfl, .inr (SqT.of (s1 _ _ hpa)), rfl, _, rfl, ?_⟩
              have et : txts (subs (.tuple (ps.map PyData.str))) = ps := txts_map ps
              cases ps with
              | nil => exact iteT (iteT (kF (by rw [ew, ca]; rfl) H1 s1))
              | cons p0 pr =>
                generalize hps : p0 :: pr = ps at *
                refine iteDN (fun z => ?_) ?_
                · have z' := V.int.inj z
                  rw [List.length_map, ← hps] at z'
                  simp at z'
                  omega
                have en : (!(subs (.tuple (ps.map PyData.str))).isEmpty) = true := by rw [← hps]; rfl
                rw [ca, en, et] at ew
                cases d2 with
                | non => exact ⟨_, rfl, _, _, false, rfl, .non, rfl, false, rfl, iteT (kF (by rw [ew]; rfl) H1 s1)⟩
                | int i => exact ⟨_, rfl, _, _, false, rfl, .int i, rfl, false, rfl, iteT (kF (by rw [ew]; rfl) H1 s1)⟩
                | bl b => exact ⟨_, rfl, _, _, false, rfl, .bl b, rfl, false, rfl, iteT (kF (by rw [ew]; rfl) H1 s1)⟩
                | str z => exact ⟨_, rfl, _, _, false, rfl, .str z, rfl, false, rfl, iteT (kF (by rw [ew]; rfl) H1 s1)⟩
                | lst e _ => exact ⟨_, rfl, _, _, false, rfl, .lst (s1 _ _ e), rfl, false, rfl, iteT (kF (by rw [ew]; rfl) H1 s1)⟩
                | @tup ra zs rs hra qr =>
                  have hzl := DVs.len qr
                  obtain ⟨hrz, hrd⟩ : rs.length ≤ 60 ∧ ∀ d ∈ rs, Dok d := by cases kb with | tup _ y z => exact ⟨y, z⟩
                  have ew2 : webB (.tuple [.tuple (ps.map PyData.str), .tuple rs]) = (rs.all (tieD ps) && risB (rs.map rowNm)) := by rw [ew]; rfl
                  refine ⟨_, rfl, _, _, true, rfl, .tup (s1 _ _ hra), rfl, true, rfl, iteF ?_⟩
                  refine ⟨_, rfl, ra, rfl, ⟨_, SqT.of (s1 _ _ hra)⟩, lcw_tup0 (xs := zs) (fits (by omega)) (fun i ys σ H2 => ys = (rs.take i).map (fun d => V.bl (tieD ps d)) ∧ Same H H2 ∧ ∃ x, σ = [x, some (.ref pa)]) ⟨rfl, s1, _, rfl⟩
                    (fun i ys σ H2 _ q => ⟨by rw [q.1]; simp; omega, SqT.of (q.2.1 _ _ hra)⟩) ?_ ?_⟩
                  · rintro i x ys σ H2 hx ⟨rfl, s2, y, rfl⟩
                    obtain ⟨d', hd', dv⟩ := DVs.at qr hx
                    exact ⟨_, rfl, _, rfl, x, d', pa, ps, rfl, DV.same s2 dv, hrd d' (List.mem_of_getElem? hd'), s2 _ _ hpa, fun H3 s3 => ⟨(take_map_succ _ _ _ _ hd').symm, s2.trans s3, _, rfl⟩⟩
                  · rintro ys σ H2 ⟨rfl, s2, y, rfl⟩ q hqn
                    have ea : (rs.take zs.length).map (fun d => V.bl (tieD ps d)) = (rs.map (tieD ps)).map V.bl := by rw [hzl, List.take_length, List.map_map]; rfl
                    rw [ea]
                    have s3 := same_upd (o := .lst ((rs.map (tieD ps)).map V.bl)) s2 hqn
                    refine ⟨q, rs.map (tieD ps), rfl, SqL.of upd_same, _, rfl, ?_⟩
                    have e2 : (rs.map (tieD ps)).all id = rs.all (tieD ps) := by rw [List.all_map]; rfl
                    rw [e2]
                    cases cr : rs.all (tieD ps) with
                    | false => exact iteF (kF (by rw [ew2, cr]; rfl) _ s3)
                    | true =>
                      rw [cr] at ew2
                      refine iteT ⟨_, rfl, ra, rfl, ⟨_, SqT.of (s3 _ _ hra)⟩, lcw_tup0 (xs := zs) (fits (by omega)) (fun i ys σ H4 => ys = (rs.take i).map (fun d => V.str (rowNm d)) ∧ Same H H4 ∧ ∃ x, σ = [x]) ⟨rfl, s3, _, rfl⟩
                        (fun i ys σ H4 _ q => ⟨by rw [q.1]; simp; omega, SqT.of (q.2.1 _ _ hra)⟩) ?_ ?_⟩
                      · rintro i x ys σ H4 hx ⟨rfl, s4, z, rfl⟩
                        obtain ⟨d', a', ys', hd', rfl, ha'⟩ := row_nm qr cr hx
                        exact ⟨_, rfl, rix_of (j := 0) (.inr (SqT.of (s4 _ _ ha'))) rfl rfl ⟨(take_map_succ _ _ _ _ hd').symm, s4, _, rfl⟩⟩
                      · rintro ys σ H4 ⟨rfl, s4, z, rfl⟩ q2 hq2
                        have eb : (rs.take zs.length).map (fun d => V.str (rowNm d)) = (rs.map rowNm).map V.str := by rw [hzl, List.take_length, List.map_map]; rfl
                        rw [eb]
                        refine ⟨q2, rs.map rowNm, rfl, .inl (SqL.of upd_same), by simp; omega, fun H5 s5 => ?_⟩
                        have := k H5 ((same_upd s4 hq2).trans s5)
                        rw [ew2] at this
                        exact this
end
end K11

set_option Elab.async false
set_option linter.all false
set_option maxRecDepth 100000
set_option maxHeartbeats 4000000
namespace K11
open PySem L2
theorem nlt_irr (x : Str) : ¬ nlt x x := fun h => List.lt_irrefl _ h
theorem nlt_asy {x y : Str} (h : nlt x y) (h' : nlt y x) : False := List.lt_irrefl _ (List.lt_trans h h')
/-- two rising lists that hold the same are the same -/
theorem pw_ext : ∀ {a b : List Str}, a.Pairwise nlt → b.Pairwise nlt → (∀ x, x ∈ a ↔ x ∈ b) → a = b := by
  intro a
  induction a with
  | nil =>
    intro b _ _ h
    cases b with
    | nil => rfl
    | cons y s => exact absurd ((h y).mpr List.mem_cons_self) (by simp)
  | cons x r ih =>
    intro b ha hb h
    obtain ⟨ha1, ha2⟩ := List.pairwise_cons.mp ha
    cases b with
    | nil => exact absurd ((h x).mp List.mem_cons_self) (by simp)
    | cons y s =>
      obtain ⟨hb1, hb2⟩ := List.pairwise_cons.mp hb
      have e : x = y := by
        rcases List.mem_cons.mp ((h x).mp List.mem_cons_self) with e | e
        · exact e
        · rcases List.mem_cons.mp ((h y).mpr List.mem_cons_self) with e' | e'
          · exact e'.symm
          · exact (nlt_asy (hb1 x e) (ha1 y e')).elim
      subst e
      rw [ih ha2 hb2 fun z => ⟨fun hz => ?_, fun hz => ?_⟩]
      · rcases List.mem_cons.mp ((h z).mp (List.mem_cons_of_mem _ hz)) with e | e
        · subst e; exact (nlt_irr _ (ha1 _ hz)).elim
        · exact e
      · rcases List.mem_cons.mp ((h z).mpr (List.mem_cons_of_mem _ hz)) with e | e
        · subst e; exact (nlt_irr _ (hb1 _ hz)).elim
        · exact e
theorem b_set : bootBuiltins "set" = some (.type "set") := by decide +kernel
theorem call_setTuW (w : World) {X : Cx} (hc : X.calm = true) (h : X.w = w := by rfl) : CallR X (.type "set") (fun xs H Q => ∃ (p : Addr) (ss : List Str), xs = [.ref p] ∧ SqT X.K H p (ss.map V.str) ∧ ss.length < 3000 ∧
    ∀ (a : Addr), H a = none → Q (.ref a) (upd H a (SetT w a (metS ss.reverse)))) := by subst h; exact call_setTu hc
theorem call_sortedSetW (w : World) {X : Cx} (hc : X.calm = true) (h : X.w = w := by rfl) : CallR X (.builtin "sorted") (fun xs H Q => ∃ (a : Addr) (ss : List Str), xs = [.ref a] ∧ H a = some (SetT w a ss) ∧ ss.length < 64 ∧
    ∀ (ss' : List Str) (q : Addr), ss'.Perm ss → PyProof.Rows.sortedS ss' = true → H q = none → Q (.ref q) (upd H q (.lst (ss'.map V.str)))) := by subst h; exact call_sortedSet hc
theorem call_setLiW (w : World) {X : Cx} (hc : X.calm = true) (h : X.w = w := by rfl) : CallR X (.type "set") (fun xs H Q => ∃ (p : Addr) (ss : List Str), xs = [.ref p] ∧ SqL X.K H p (ss.map V.str) ∧ ss.length < 3000 ∧
    ∀ (a : Addr), H a = none → Q (.ref a) (upd H a (SetT w a (metS ss.reverse)))) := by subst h; exact call_setLi hc
/-! ### strip -/
theorem let_has (c : Nat) : letters.cps.contains c = az c := by
  have hl : letters.cps.toList = (List.range 26).map (97 + ·) := by decide +kernel
  have h1 : letters.cps.contains c = letters.cps.toList.contains c := by rw [Array.contains_toList]
  rw [h1, hl]
  unfold az
  rw [Bool.eq_iff_iff, List.contains_iff_mem, List.mem_map, Bool.and_eq_true, decide_eq_true_eq, decide_eq_true_eq]
  constructor
  · rintro ⟨a, ha, rfl⟩
    have := List.mem_range.mp ha
    omega
  · rintro ⟨h1, h2⟩
    exact ⟨c - 97, List.mem_range.mpr (by omega), by omega⟩
theorem tw_all {α : Type} (g : α → Bool) : ∀ l : List α, l.all g = true → l.takeWhile g = l
  | [], _ => rfl
  | a :: r, h => by
    rw [List.all_cons, Bool.and_eq_true] at h
    rw [List.takeWhile_cons, h.1]
    simp only [if_true]
    rw [tw_all g r h.2]
theorem tw_lt {α : Type} (g : α → Bool) : ∀ l : List α, l.all g = false → (l.takeWhile g).length < l.length
  | [], h => by cases h
  | a :: r, h => by
    rw [List.takeWhile_cons]
    cases c : g a with
    | false => simp
    | true =>
      rw [List.all_cons, c, Bool.true_and] at h
      have := tw_lt g r h
      simp only [if_true, List.length_cons]
      omega
theorem tw_drop {α : Type} (g : α → Bool) : ∀ l : List α, l.all g = false → (l.drop (l.takeWhile g).length).all g = false
  | [], h => by cases h
  | a :: r, h => by
    rw [List.takeWhile_cons]
    cases c : g a with
    | false => simp [c]
    | true =>
      rw [List.all_cons, c, Bool.true_and] at h
      have := tw_drop g r h
      simpa using this
theorem strip_nil {x : Str} (h : 1 ≤ x.length) : decide ((if stripSame letters.cps.contains true true x = true then x else PySem.stripped letters.cps.contains true true x) = Str.ofString "") = x.cps.toList.all az := by
  have eg : letters.cps.contains = az := funext let_has
  rw [eg]
  have hl : x.cps.toList.length = x.length := by simp [Str.length]
  have e0 : ∀ y : Str, y = Str.ofString "" → y.length = 0 := fun y e => by rw [e]; decide
  cases c : x.cps.toList.all az with
  | true =>
    have lo : stripLo az true x = x.length := by unfold stripLo; rw [if_pos rfl, tw_all _ _ c, hl]
    have hi : stripHi az true x x.length = x.length := by
      unfold stripHi
      rw [if_pos rfl, List.drop_of_length_le (by omega)]
      simp
    have ns : ¬ stripSame az true true x = true := by
      unfold stripSame
      rw [lo]
      intro z
      rw [Bool.and_eq_true] at z
      have := eq_of_beq z.1
      omega
    rw [if_neg ns]
    refine decide_eq_true ?_
    unfold PySem.stripped
    rw [lo, hi]
    unfold Builtin.Str.strSub
    have : (x.cps.extract x.length x.length) = #[] := by simp [Str.length]
    rw [this]
    decide
  | false =>
    refine decide_eq_false fun z => ?_
    have z0 := e0 _ z
    by_cases ss : stripSame az true true x = true
    · rw [if_pos ss] at z0; omega
    · rw [if_neg ss] at z0
      have l1 := tw_lt az _ c
      have d1 := tw_drop az _ c
      have lo : stripLo az true x = (x.cps.toList.takeWhile az).length := by unfold stripLo; rw [if_pos rfl]
      have d2 : (x.cps.toList.drop (x.cps.toList.takeWhile az).length).reverse.all az = false := by rw [List.all_reverse]; exact d1
      have l2 := tw_lt az _ d2
      rw [List.length_reverse, List.length_drop] at l2
      have hi : stripHi az true x (stripLo az true x) = x.length - (((x.cps.toList.drop (x.cps.toList.takeWhile az).length).reverse).takeWhile az).length := by unfold stripHi; rw [if_pos rfl, lo]
      unfold PySem.stripped Builtin.Str.strSub Str.length at z0
      rw [hi, lo] at z0
      rw [Array.size_extract] at z0
      unfold Str.length at z0 hl h
      omega
section
variable {P : Program} {w : World} {K : PySem.W.Frag} {mg : Str → Option Value} {base : Heap}
theorem sc17 : FnScope ["_law_thing"] ["_law_thing"] (defScope (top 17)) := ⟨rfl, rfl, rfl, by decide +kernel, rfl, by decide +kernel, by decide +kernel⟩
theorem ok_lnameD {f : Addr} {fd : FuncData} (F : Fun K "_law_is_name" "_law_is_name" (top 17) f fd) (B : Bl mg) : FnOk P w K mg base CX0 1 f fd ["_law_thing"] spNameD := by
  refine F.ok sc17 (fun vs H Q E h => ?_) (fun cdv A outer s H vs Q E hr h => ?_)
  · obtain ⟨x, d, rfl, _⟩ := h
    rfl
  · obtain ⟨x, d, rfl, hx, hd, k⟩ := h
    refine ⟨_, pss_cons (ps_if (PW.pt (pw_or (pt_not (pt_val (pe_callB (call_isinst (T := "str")) rfl B.isinstance b_isinstance (pa_cons (pv 0) (pa_cons (pe_bltn (v := .ty "str") rfl B.str b_str rfl) pa_nil)))))
        (pw_or (pt_cmpR op_lt (pe_callB call_len_str rfl B.len PySem.boot_len (pa_cons (pv 0) pa_nil)) pe_int (nomark _)) (pw_or1 (pt_cmpR op_gt (pe_callB call_len_str rfl B.len PySem.boot_len (pa_cons (pv 0) pa_nil)) pe_int (nomark _)))))) (pss_one (ps_ret pe_bl)) pss_nil)
      (pss_one (ps_ret (pe_cmpR op_eq (pe_bm PySem.F.plainAttrs_str PySem.F.slot_str_strip PySem.F.type_str_strip mt_strip (pv 0) (pa_cons pe_str pa_nil)) pe_str (nomark _)))), ?_⟩
    have kF : nameD d = false → Q (.bl false) H := fun e => by have := k H (Same.refl _); rw [e] at this; exact this
    cases hx with
    | non => exact ⟨_, rfl, _, _, false, rfl, .non, rfl, false, rfl, iteT (iteT (kF rfl))⟩
    | int i => exact ⟨_, rfl, _, _, false, rfl, .int i, rfl, false, rfl, iteT (iteT (kF rfl))⟩
    | bl b => exact ⟨_, rfl, _, _, false, rfl, .bl b, rfl, false, rfl, iteT (iteT (kF rfl))⟩
    | tup e _ => exact ⟨_, rfl, _, _, false, rfl, .tup e, rfl, false, rfl, iteT (iteT (kF rfl))⟩
    | lst e _ => exact ⟨_, rfl, _, _, false, rfl, .lst e, rfl, false, rfl, iteT (iteT (kF rfl))⟩
    | str x =>
      obtain ⟨hx1, hx2⟩ : okS x := by cases hd with | str _ h => exact h
      have hxs : x.length ≤ sizeLine := Nat.le_of_lt (fits (by omega))
      refine ⟨_, rfl, _, _, true, rfl, .str x, ?kit, true, rfl, iteF ?_⟩
      case kit => rfl
      refine ⟨_, rfl, x, rfl, hxs, _, _, rfl, rfl, _, rfl, ?_⟩
      by_cases c1 : 1 ≤ x.length
      · refine iteDN (by omega) ⟨_, rfl, x, rfl, hxs, _, _, rfl, rfl, _, rfl, ?_⟩
        by_cases c2 : x.length ≤ 8
        · refine iteDN (by omega) ?_
          refine ⟨_, rfl, rfl, x, letters, rfl, rfl, hxs, ?_⟩
          refine ⟨rfl, ?_⟩
          have := k H (Same.refl _)
          have e : decide (V.str (if stripSame letters.cps.contains true true x = true then x else PySem.stripped letters.cps.contains true true x) = V.str (Str.ofString "")) = nameD (.str x) := by
            show _ = okName x
            unfold okName
            rw [decide_eq_true c1, decide_eq_true c2, ← strip_nil c1]
            show _ = decide _
            generalize (if stripSame letters.cps.contains true true x = true then x else PySem.stripped letters.cps.contains true true x) = y
            by_cases z : y = Str.ofString ""
            · rw [decide_eq_true z, decide_eq_true (by rw [z])]
            · rw [decide_eq_false z, decide_eq_false (fun w => z (V.str.inj w))]
          rw [e]
          exact this
        · refine iteD (by omega) ?_
          have e : okName x = false := by unfold okName; rw [decide_eq_false c2]; simp
          exact kF e
      · refine iteD (by omega) ?_
        have e : okName x = false := by unfold okName; rw [decide_eq_false c1]; rfl
        exact iteT (kF e)
end
end K11

set_option Elab.async false
set_option linter.all false
set_option maxRecDepth 100000
set_option maxHeartbeats 4000000
namespace K11
open PySem L2
theorem tie_names {ps : List Str} (pn : ∀ x ∈ ps, NameP x) {a b e : PyData} (h : tieD ps (.tuple [a, b, e]) = true) : [a, b, e].all nameD = true := by
  obtain ⟨n, s, t, ee, hn, hs, ht, _⟩ := tieD_t h
  cases ee
  have h1 : nameD (.str n) = true := okName_iff.mpr hn
  have h2 : nameD (.str s) = true := okName_iff.mpr (pn s hs)
  have h3 : nameD (.str t) = true := okName_iff.mpr (pn t ht)
  simp [h1, h2, h3]
section
variable {P : Program} {w : World} {K : PySem.W.Frag} {mg : Str → Option Value} {base : Heap}
noncomputable def spLRow : Sp := fun vs H Q _ => ∃ (x : V) (d : PyData) (q : Addr) (ps : List Str), vs = [.ref q, x] ∧ DV H x d ∧ Dok d ∧ H q = some (.tup (ps.map V.str)) ∧ (∀ y ∈ ps, NameP y) ∧ ∀ H', Same H H' → Q (.bl (tieD ps d)) H'
theorem sc18 : FnScope ["_law_places_here", "_law_thing"] ["_law_places_here", "_law_thing"] (defScope (top 18)) := ⟨rfl, rfl, rfl, by decide +kernel, rfl, by decide +kernel, by decide +kernel⟩
theorem ok_lrow {f : Addr} {fd : FuncData} (F : Fun K "_law_is_row" "_law_is_row" (top 18) f fd) (B : Bl mg) (F1 : Fn P w K mg base 1 "_law_is_name" ["_law_thing"] spNameD) : FnOk P w K mg base CX0 2 f fd ["_law_places_here", "_law_thing"] spLRow := by
  refine F.ok sc18 (fun vs H Q E h => ?_) (fun cdv A outer s H vs Q E hr h => ?_)
  · obtain ⟨x, d, q, ps, rfl, _⟩ := h
    rfl
  · obtain ⟨x, d, q, ps, rfl, hx, hd, hq, pn, k⟩ := h
    refine ⟨_, pss_cons (ps_if (PW.pt (pw_or (pt_not (pt_val (pe_callB (call_isinst (T := "tuple")) rfl B.isinstance b_isinstance (pa_cons (pv 1) (pa_cons (pe_bltn (v := .ty "tuple") rfl B.tuple b_tuple rfl) pa_nil)))))
        (pw_or (pt_cmpR op_ne (pe_callB call_len_seq rfl B.len PySem.boot_len (pa_cons (pv 1) pa_nil)) pe_int (nomark _))
        (pw_or1 (pt_not (pt_val (pe_callB (call_allB rfl) rfl B.all b_all (pa_cons (pe_lc (N := ["_law_one"]) (ix := [none]) ⟨rfl, rfl, rfl, by decide⟩ rfl (pi_tup (pv 1)) (fun _ _ _ _ => pg_lc 0 (by decide) rfl rfl) (fun _ _ _ _ => pts_nil)
          (fun _ _ _ _ => pe_fn F1 hr (pa_cons (pv 0) pa_nil))) pa_nil)))))))) (pss_one (ps_ret pe_bl)) pss_nil)
      (pss_one (ps_ret (pe_and (pe_cmpR op_in_seq (pe_ix ix_seq (pv 1) pe_int (fun _ _ => rfl)) (pv 0) (by with_unfolding_all rfl)) (pe_and (pe_cmpR op_in_seq (pe_ix ix_seq (pv 1) pe_int (fun _ _ => rfl)) (pv 0) (by with_unfolding_all rfl))
        (pe_one (pe_cmpR op_ne (pe_ix ix_seq (pv 1) pe_int (fun _ _ => rfl)) (pe_ix ix_seq (pv 1) pe_int (fun _ _ => rfl)) (nomark _))))))), ?_⟩
    have kF : tieD ps d = false → ∀ H', Same H H' → Q (.bl false) H' := fun e H' s => by have := k H' s; rw [e] at this; exact this
    cases hx with
    | non => exact ⟨_, rfl, _, _, false, rfl, .non, rfl, false, rfl, iteT (iteT (kF rfl H (Same.refl _)))⟩
    | int i => exact ⟨_, rfl, _, _, false, rfl, .int i, rfl, false, rfl, iteT (iteT (kF rfl H (Same.refl _)))⟩
    | bl b => exact ⟨_, rfl, _, _, false, rfl, .bl b, rfl, false, rfl, iteT (iteT (kF rfl H (Same.refl _)))⟩
    | str z => exact ⟨_, rfl, _, _, false, rfl, .str z, rfl, false, rfl, iteT (iteT (kF rfl H (Same.refl _)))⟩
    | lst e _ => exact ⟨_, rfl, _, _, false, rfl, .lst e, rfl, false, rfl, iteT (iteT (kF rfl H (Same.refl _)))⟩
    | @tup p xs ds hp' qs =>
      have hxl := DVs.len qs
      refine ⟨_, rfl, _, _, true, rfl, .tup hp', rfl, true, rfl, iteF ⟨_, rfl, p, _, rfl, .inr (SqT.of hp'), rfl, _, rfl, ?_⟩⟩
      by_cases c : ds.length = 3
      rotate_left
      · refine iteNT (fun z => c ?_) (iteT (kF (tieD_len c) H (Same.refl _)))
        have := V.int.inj z
        rw [hxl] at this
        omega
      obtain ⟨a, b, e, rfl⟩ : ∃ a b e, ds = [a, b, e] := by
        match ds, c with
        | [a, b, e], _ => exact ⟨a, b, e, rfl⟩
      have hdk : ∀ y ∈ [a, b, e], Dok y := by cases hd with | tup _ _ z => exact z
      have hx3 : xs.length = 3 := hxl
      refine iteNS (by rw [hx3]; rfl) ?_
      refine ⟨_, rfl, p, rfl, ⟨_, SqT.of hp'⟩, lcw_tup0 (xs := xs) (fits (by omega)) (fun i ys σ H1 => ys = ([a, b, e].take i).map (fun d => V.bl (nameD d)) ∧ Same H H1 ∧ ∃ v, σ = [v]) ⟨rfl, Same.refl _, _, rfl⟩
        (fun i ys σ H1 _ q => ⟨by rw [q.1]; simp; omega, same_tup q.2.1 (SqT.of hp')⟩) ?_ ?_⟩
      · rintro i x ys σ H1 hx ⟨rfl, hs1, v, rfl⟩
        obtain ⟨d', hd', dv⟩ := DVs.at qs hx
        exact ⟨_, rfl, x, d', rfl, DV.same hs1 dv, hdk d' (List.mem_of_getElem? hd'), fun H2 hs2 => ⟨(take_map_succ _ _ _ _ hd').symm, hs1.trans hs2, _, rfl⟩⟩
      · rintro ys σ H1 ⟨rfl, hs1, v, rfl⟩ r hr'
        have ea : ([a, b, e].take xs.length).map (fun d => V.bl (nameD d)) = ([a, b, e].map nameD).map V.bl := by rw [hx3]; rfl
        rw [ea]
        have hs2 := same_upd (o := .lst (([a, b, e].map nameD).map V.bl)) hs1 hr'
        refine ⟨r, [a, b, e].map nameD, rfl, SqL.of upd_same, _, rfl, ?_⟩
        have e2 : ([a, b, e].map nameD).all id = [a, b, e].all nameD := by rw [List.all_map]; rfl
        rw [e2]
        cases c' : [a, b, e].all nameD with
        | false =>
          refine iteT (kF ?_ _ hs2)
          cases ct : tieD ps (.tuple [a, b, e]) with
          | false => rfl
          | true => rw [tie_names pn ct] at c'; cases c'
        | true =>
          refine iteF ?_
          obtain ⟨ss, ess, _⟩ := all_names c'
          match ss, ess with
          | [n, s', t'], ess =>
            cases ess
            have ex := DVs.txt (ss := [n, s', t']) qs
            subst ex
            have hp2 : H p = some (.tup [.str n, .str s', .str t']) := hp'
            have n1 : nameD (.str n) = true := by simp at c'; exact c'.1
            have kk : ∀ H', Same H H' → Q (.bl (decide (s' ∈ ps) && (decide (t' ∈ ps) && !decide (s' = t')))) H' := fun H' s => by
              have := k H' s
              have e3 : tieD ps (.tuple [.str n, .str s', .str t']) = (nameD (.str n) && (decide (s' ∈ ps) && (decide (t' ∈ ps) && !decide (s' = t')))) := rfl
              rw [e3, n1] at this
              exact this
            have kq := kk _ hs2
            generalize upd H1 r (.lst (([PyData.str n, .str s', .str t'].map nameD).map V.bl)) = H2 at hs2 kq ⊢
            have hp3 := hs2 _ _ hp2
            refine ⟨_, rfl, rix_of (j := 1) (.inr (SqT.of hp3)) rfl rfl ⟨_, rfl, q, ps.map V.str, rfl, .inr (SqT.of (hs2 _ _ hq)), rfl, flat_strs ps, decide (s' ∈ ps), ?_, ?_⟩⟩
            · show V.bl (inV (.str s') (ps.map V.str)) = _
              rw [in_strs]
            · cases c1 : decide (s' ∈ ps) with
              | false => rw [c1] at kq; exact iteF kq
              | true =>
                rw [c1] at kq
                refine iteT ⟨_, rfl, rix_of (j := 2) (.inr (SqT.of hp3)) rfl rfl ⟨_, rfl, q, ps.map V.str, rfl, .inr (SqT.of (hs2 _ _ hq)), rfl, flat_strs ps, decide (t' ∈ ps), ?_, ?_⟩⟩
                · show V.bl (inV (.str t') (ps.map V.str)) = _
                  rw [in_strs]
                · cases c2 : decide (t' ∈ ps) with
                  | false => rw [c2] at kq; exact iteF kq
                  | true =>
                    rw [c2] at kq
                    refine iteT ⟨_, rfl, rix_of (j := 1) (.inr (SqT.of hp3)) rfl rfl ⟨_, rfl, rix_of (j := 2) (.inr (SqT.of hp3)) rfl rfl ⟨rfl, ?_⟩⟩⟩
                    have e4 : (!decide (V.str s' = V.str t')) = !decide (s' = t') := by
                      by_cases z : s' = t'
                      · subst z; simp
                      · rw [decide_eq_false (fun w => z (V.str.inj w)), decide_eq_false z]
                    rw [e4]
                    exact kq
end
end K11

set_option Elab.async false
set_option linter.all false
set_option maxRecDepth 100000
set_option maxHeartbeats 4000000
namespace K11
open PySem L2
/-- sorted(set(names)) is names just where they rise -/
theorem same_sorted {ss so : List Str} (pm : so.Perm (metS ss.reverse)) (hs : PyProof.Rows.sortedS so = true) : so.Pairwise nlt ∧ (ss = so ↔ ss.Pairwise nlt) ∧ ∀ x, x ∈ so ↔ x ∈ ss := by
  have mnd := metS_nodup ss.reverse
  have spw : so.Pairwise nlt := sorted_pw hs (pm.nodup_iff.mpr mnd)
  have mem : ∀ x, x ∈ so ↔ x ∈ ss := fun x => by rw [pm.mem_iff, metS_mem, List.mem_reverse]
  exact ⟨spw, ⟨fun e => by rw [e]; exact spw, fun h => pw_ext h spw fun x => (mem x).symm⟩, mem⟩
theorem dec_ris {ss so : List Str} (h : ss = so ↔ ss.Pairwise nlt) : decide (ss = so) = risB ss := by
  by_cases c : ss.Pairwise nlt
  · rw [risB_t.mpr c, decide_eq_true (h.mpr c)]
  · rw [risB_f c, decide_eq_false fun z => c (h.mp z)]
section
variable {P : Program} {w : World} {K : PySem.W.Frag} {mg : Str → Option Value} {base : Heap}
noncomputable abbrev N19 : List Str := ["_law_thing", "_law_places_here", "_law_rows", "_law_names"]
theorem sc19 : FnScope N19 ["_law_thing"] (defScope (top 19)) := ⟨rfl, rfl, rfl, by decide +kernel, rfl, by decide +kernel, by decide +kernel⟩
theorem ok_lweb {f : Addr} {fd : FuncData} (F : Fun K "_law_is_web" "_law_is_web" (top 19) f fd) (B : Bl mg) (F1 : Fn P w K mg base 1 "_law_is_name" ["_law_thing"] spNameD) (F2 : Fn P w K mg base 2 "_law_is_row" ["_law_places_here", "_law_thing"] spLRow) : FnOk P w K mg base CX0 3 f fd ["_law_thing"] spWebD := by
  refine F.ok sc19 (fun vs H Q E h => ?_) (fun cdv A outer s H vs Q E hr h => ?_)
  · rcases h with ⟨x, d, rfl, _⟩ | ⟨a, rfl, _⟩ <;> rfl
  · have hr1 : Room 1 _ := hr.mono (by decide)
    refine ⟨_, pss_cons (ps_if (PW.pt (pw_or (pt_not (pt_val (pe_callB (call_isinst (T := "tuple")) rfl B.isinstance b_isinstance (pa_cons (pv 0) (pa_cons (pe_bltn (v := .ty "tuple") rfl B.tuple b_tuple rfl) pa_nil)))))
        (pw_or1 (pt_cmpR op_ne (pe_callB call_len_seq rfl B.len PySem.boot_len (pa_cons (pv 0) pa_nil)) pe_int (nomark _))))) (pss_one (ps_ret pe_bl)) pss_nil)
      (pss_cons (ps_asg (pv 0) (pg_tup rfl (n := 2) (pgs_cons (pg_name (i := 1) sc19.nd rfl (Or.inr rfl)) (pgs_cons (pg_name (i := 2) sc19.nd rfl (Or.inl rfl)) pgs_nil))))
      (pss_cons (ps_if (PW.pt (pw_or (pt_not (pt_val (pe_callB (call_isinst (T := "tuple")) rfl B.isinstance b_isinstance (pa_cons (pv 1) (pa_cons (pe_bltn (v := .ty "tuple") rfl B.tuple b_tuple rfl) pa_nil)))))
        (pw_or (pt_not (pt_val (pe_callB (call_isinst (T := "tuple")) rfl B.isinstance b_isinstance (pa_cons (pv 2) (pa_cons (pe_bltn (v := .ty "tuple") rfl B.tuple b_tuple rfl) pa_nil)))))
        (pw_or1 (pt_cmpR op_lt (pe_callB call_len_seq rfl B.len PySem.boot_len (pa_cons (pv 1) pa_nil)) pe_int (nomark _)))))) (pss_one (ps_ret pe_bl)) pss_nil)
      (pss_cons (ps_if (PW.pt (pw_or (pt_not (pt_val (pe_callB (call_allB rfl) rfl B.all b_all (pa_cons (pe_lc (N := ["_law_place"]) (ix := [none]) ⟨rfl, rfl, rfl, by decide⟩ rfl (pi_tup (pv 1)) (fun _ _ _ _ => pg_lc 0 (by decide) rfl rfl) (fun _ _ _ _ => pts_nil)
          (fun _ _ _ _ => pe_fn F1 hr1 (pa_cons (pv 0) pa_nil))) pa_nil))))
        (pw_or1 (pt_cmpR (op_neD hr) (pe_callTy call_list_of rfl B.list b_list (pa_cons (pv 1) pa_nil)) (pe_callB (call_sortedSetW w rfl) rfl B.sorted b_sorted (pa_cons (pe_callTy (call_setTuW w rfl) rfl B.set b_set (pa_cons (pv 1) pa_nil)) pa_nil)) (nomark _))))) (pss_one (ps_ret pe_bl)) pss_nil)
      (pss_cons (ps_if (pt_not (pt_val (pe_callB (call_allB rfl) rfl B.all b_all (pa_cons (pe_lc (N := ["_law_row", "_law_places_here"]) (ix := [none, some 1]) ⟨rfl, rfl, rfl, by decide⟩ rfl (pi_tup (pv 2)) (fun _ _ _ _ => pg_lc 0 (by decide) rfl rfl) (fun _ _ _ _ => pts_nil)
          (fun _ _ _ _ => pe_fn F2 hr (pa_cons (pv 1) (pa_cons (pv 0) pa_nil)))) pa_nil)))) (pss_one (ps_ret pe_bl)) pss_nil)
      (pss_cons (ps_setLc (i := 3) (N := ["_law_row"]) (ix := [none]) sc19.nd rfl (Or.inl rfl) ⟨rfl, rfl, rfl, by decide⟩ rfl (pi_tup (pv 2)) (fun _ _ _ _ => pg_lc 0 (by decide) rfl rfl) (fun _ _ _ _ => pts_nil)
          (fun _ _ _ _ => pe_ix (ix_seqK K) (pv 0) pe_int (fun _ _ => rfl)))
      (pss_one (ps_ret (pe_cmpR (op_eqD hr) (pv 3) (pe_callB (call_sortedSetW w rfl) rfl B.sorted b_sorted (pa_cons (pe_callTy (call_setLiW w rfl) rfl B.set b_set (pa_cons (pv 3) pa_nil)) pa_nil)) (nomark _))))))))), ?_⟩
    rcases h with ⟨x, d, rfl, hx, hd, k⟩ | ⟨a, rfl, ha, k⟩
    rotate_left
    · exact ⟨_, rfl, _, _, false, rfl, .dK ha, rfl, false, rfl, iteT (iteT k)⟩
    have kF : webB d = false → ∀ H', Same H H' → Q (.bl false) H' := fun e H' s => by have := k H' s; rw [e] at this; exact this
    cases hx with
    | non => exact ⟨_, rfl, _, _, false, rfl, .non, rfl, false, rfl, iteT (iteT (kF rfl H (Same.refl _)))⟩
    | int i => exact ⟨_, rfl, _, _, false, rfl, .int i, rfl, false, rfl, iteT (iteT (kF rfl H (Same.refl _)))⟩
    | bl b => exact ⟨_, rfl, _, _, false, rfl, .bl b, rfl, false, rfl, iteT (iteT (kF rfl H (Same.refl _)))⟩
    | str z => exact ⟨_, rfl, _, _, false, rfl, .str z, rfl, false, rfl, iteT (iteT (kF rfl H (Same.refl _)))⟩
    | lst e _ => exact ⟨_, rfl, _, _, false, rfl, .lst e, rfl, false, rfl, iteT (iteT (kF rfl H (Same.refl _)))⟩
    | @tup v xs ds hv qs =>
      have hxl := DVs.len qs
      refine ⟨_, rfl, _, _, true, rfl, .tup hv, rfl, true, rfl, iteF ⟨_, rfl, v, _, rfl, .inr (SqT.of hv), rfl, _, rfl, ?_⟩⟩
      by_cases c : ds.length = 2
      rotate_left
      · refine iteNT (fun z => c ?_) (kF (webB_len c) H (Same.refl _))
        have := V.int.inj z
        rw [hxl] at this
        omega
      obtain ⟨a, b, rfl⟩ : ∃ a b, ds = [a, b] := by
        match ds, c with
        | [a, b], _ => exact ⟨a, b, rfl⟩
      have ew : webB (.tuple [a, b]) = (sortedD a && (!(subs a).isEmpty && (isTupD b && ((subs b).all (tieD (txts (subs a))) && risB ((subs b).map rowNm))))) := rfl
      cases qs with
      | @cons x1 _ _ _ d1 r =>
        cases r with
        | @cons x2 _ _ _ d2 r =>
          cases r
          obtain ⟨ka, kb⟩ : Dok a ∧ Dok b := by cases hd with | tup _ _ z => exact ⟨z _ (by simp), z _ (by simp)⟩
          refine iteNS rfl ?_
          refine ⟨_, rfl, v, _, rfl, SqT.of hv, rfl, _, _, rfl, _, _, rfl, rfl, ?_⟩
          cases d1 with
          | non => exact ⟨_, rfl, _, _, false, rfl, .non, rfl, false, rfl, iteT (iteT (kF rfl H (Same.refl _)))⟩
          | int i => exact ⟨_, rfl, _, _, false, rfl, .int i, rfl, false, rfl, iteT (iteT (kF rfl H (Same.refl _)))⟩
          | bl b => exact ⟨_, rfl, _, _, false, rfl, .bl b, rfl, false, rfl, iteT (iteT (kF rfl H (Same.refl _)))⟩
          | str z => exact ⟨_, rfl, _, _, false, rfl, .str z, rfl, false, rfl, iteT (iteT (kF rfl H (Same.refl _)))⟩
          | lst e _ => exact ⟨_, rfl, _, _, false, rfl, .lst e, rfl, false, rfl, iteT (iteT (kF rfl H (Same.refl _)))⟩
          | @tup pa ys pd hpa qp =>
            refine ⟨_, rfl, _, _, true, rfl, .tup hpa, rfl, true, rfl, iteF ?_⟩
            have nb : isTupD b = false → webB (.tuple [.tuple pd, b]) = false := fun e => by rw [ew, e]; simp
            cases d2 with
            | non => exact ⟨_, rfl, _, _, false, rfl, .non, rfl, false, rfl, iteT (iteT (kF (nb rfl) H (Same.refl _)))⟩
            | int i => exact ⟨_, rfl, _, _, false, rfl, .int i, rfl, false, rfl, iteT (iteT (kF (nb rfl) H (Same.refl _)))⟩
            | bl b => exact ⟨_, rfl, _, _, false, rfl, .bl b, rfl, false, rfl, iteT (iteT (kF (nb rfl) H (Same.refl _)))⟩
            | str z => exact ⟨_, rfl, _, _, false, rfl, .str z, rfl, false, rfl, iteT (iteT (kF (nb rfl) H (Same.refl _)))⟩
            | lst e _ => exact ⟨_, rfl, _, _, false, rfl, .lst e, rfl, false, rfl, iteT (iteT (kF (nb rfl) H (Same.refl _)))⟩
            | @tup ra zs rs hra qr =>
              refine ⟨_, rfl, _, _, true, rfl, .tup hra, rfl, true, rfl, iteF ?_⟩
              have hyl := DVs.len qp
              have hzl := DVs.len qr
              obtain ⟨hpz, hpd⟩ : pd.length ≤ 60 ∧ ∀ d ∈ pd, Dok d := by cases ka with | tup _ y z => exact ⟨y, z⟩
              obtain ⟨hrz, hrd⟩ : rs.length ≤ 60 ∧ ∀ d ∈ rs, Dok d := by cases kb with | tup _ y z => exact ⟨y, z⟩
              refine ⟨_, rfl, pa, _, rfl, .inr (SqT.of hpa), _, _, rfl, rfl, _, rfl, ?_⟩
              have ew1 : webB (.tuple [.tuple pd, .tuple rs]) = (sortedD (.tuple pd) && (!pd.isEmpty && (true && (rs.all (tieD (txts pd)) && risB (rs.map rowNm))))) := rfl
              by_cases c0 : pd = []
              · refine iteD (by rw [hyl, c0]; decide) ?_
                exact kF (by rw [ew1, c0]; simp) H (Same.refl _)
              have hp0 : 0 < pd.length := by
                cases hc : pd with
                | nil => exact absurd hc c0
                | cons _ _ => simp
              refine iteDN (by rw [hyl]; omega) ?_
              have ne : (!pd.isEmpty) = true := by
                cases hc : pd with
                | nil => exact absurd hc c0
                | cons _ _ => rfl
              -- the names of the places
              refine ⟨_, rfl, pa, rfl, ⟨_, SqT.of hpa⟩, lcw_tup0 (xs := ys) (fits (by omega)) (fun i ys σ H1 => ys = (pd.take i).map (fun d => V.bl (nameD d)) ∧ Same H H1 ∧ ∃ v, σ = [v]) ⟨rfl, Same.refl _, _, rfl⟩
                (fun i ys σ H1 _ q => ⟨by rw [q.1]; simp; omega, same_tup q.2.1 (SqT.of hpa)⟩) ?_ ?_⟩
              · rintro i x ys σ H1 hx ⟨rfl, hs1, v, rfl⟩
                obtain ⟨d', hd', dv⟩ := DVs.at qp hx
                exact ⟨_, rfl, x, d', rfl, DV.same hs1 dv, hpd d' (List.mem_of_getElem? hd'), fun H2 hs2 => ⟨(take_map_succ _ _ _ _ hd').symm, hs1.trans hs2, _, rfl⟩⟩
              rintro ys' σ H1 ⟨rfl, hs1, v', rfl⟩ q1 hq1
              have ea : (pd.take ys.length).map (fun d => V.bl (nameD d)) = (pd.map nameD).map V.bl := by rw [hyl, List.take_length, List.map_map]; rfl
              rw [ea]
              have s1 := same_upd (o := .lst ((pd.map nameD).map V.bl)) hs1 hq1
              refine ⟨q1, pd.map nameD, rfl, SqL.of upd_same, _, rfl, ?_⟩
              have e2 : (pd.map nameD).all id = pd.all nameD := by rw [List.all_map]; rfl
              rw [e2]
              generalize upd H1 q1 (.lst ((pd.map nameD).map V.bl)) = H1' at s1 ⊢
              cases cn : pd.all nameD with
              | false =>
                refine iteT (iteT (kF ?_ _ s1))
                have : sortedD (.tuple pd) = false := by show (pd.all nameD && _) = false; rw [cn]; rfl
                rw [ew1, this]; rfl
              | true =>
                refine iteF ?_
                obtain ⟨ps, rfl, pnm⟩ := all_names cn
                have ex := DVs.txt qp
                subst ex
                rw [List.length_map] at hpz
                have es : sortedD (.tuple (ps.map PyData.str)) = risB ps := by show ((ps.map PyData.str).all nameD && risB (txts _)) = _; rw [cn, txts_map]; rfl
                rw [es, ne, txts_map] at ew1
                -- list(places) != sorted(set(places))
                refine ⟨_, rfl, pa, _, rfl, .inr (SqT.of (s1 _ _ hpa)), fun l hl => ?_⟩
                have s2 := same_upd (o := .lst (ps.map V.str)) s1 hl
                have l2 : upd H1' l (.lst (ps.map V.str)) l = some (.lst (ps.map V.str)) := upd_same
                generalize upd H1' l (.lst (ps.map V.str)) = H2 at s2 l2 ⊢
                refine ⟨_, rfl, pa, ps, rfl, SqT.of (s2 _ _ hpa), by omega, fun st hst => ?_⟩
                have s3 := same_upd (o := SetT w st (metS ps.reverse)) (Same.refl H2) hst
                have hml : (metS ps.reverse).length ≤ 60 := by have := metS_len ps.reverse; rw [List.length_reverse] at this; omega
                refine ⟨st, metS ps.reverse, rfl, upd_same, by omega, fun so q4 hpm hso hq4 => ?_⟩
                obtain ⟨spw, seq, smem⟩ := same_sorted hpm hso
                have s4 := same_upd (o := .lst (so.map V.str)) s3 hq4
                have q4' : upd (upd H2 st (SetT w st (metS ps.reverse))) q4 (.lst (so.map V.str)) q4 = some (.lst (so.map V.str)) := upd_same
                generalize upd (upd H2 st (SetT w st (metS ps.reverse))) q4 (.lst (so.map V.str)) = H4 at s4 q4' ⊢
                have nmo : ∀ x ∈ so, NameP x := fun x hx => pnm x ((smem x).mp hx)
                refine ⟨.list (ps.map PyData.str), .list (so.map PyData.str), .lst (s4 _ _ l2) (DVs.strs ps), .lst q4' (DVs.strs so), (shaped_strs pnm).1, (shaped_strs nmo).1, _, rfl, ?_⟩
                have ev : PyData.eqv (.list (ps.map PyData.str)) (.list (so.map PyData.str)) = decide (ps = so) := eqvAll_strs ps so
                rw [ev, dec_ris seq]
                have s04 := s2.trans s4
                cases cr : risB ps with
                | false => exact iteT (kF (by rw [ew1, cr]; rfl) _ s04)
                | true =>
                  rw [cr] at ew1
                  refine iteF ?_
                  -- the rows
                  refine ⟨_, rfl, ra, rfl, ⟨_, SqT.of (s04 _ _ hra)⟩, lcw_tup0 (xs := zs) (fits (by omega)) (fun i ys σ H5 => ys = (rs.take i).map (fun d => V.bl (tieD ps d)) ∧ Same H H5 ∧ ∃ x, σ = [x, some (.ref pa)]) ⟨rfl, s04, _, rfl⟩
                    (fun i ys σ H5 _ q => ⟨by rw [q.1]; simp; omega, SqT.of (q.2.1 _ _ hra)⟩) ?_ ?_⟩
                  · rintro i x ys σ H5 hx ⟨rfl, s5, y, rfl⟩
                    obtain ⟨d', hd', dv⟩ := DVs.at qr hx
                    exact ⟨_, rfl, _, rfl, x, d', pa, ps, rfl, DV.same s5 dv, hrd d' (List.mem_of_getElem? hd'), s5 _ _ hpa, pnm, fun H6 s6 => ⟨(take_map_succ _ _ _ _ hd').symm, s5.trans s6, _, rfl⟩⟩
                  rintro ys' σ H5 ⟨rfl, s5, y, rfl⟩ q6 hq6
                  have ea : (rs.take zs.length).map (fun d => V.bl (tieD ps d)) = (rs.map (tieD ps)).map V.bl := by rw [hzl, List.take_length, List.map_map]; rfl
                  rw [ea]
                  have s6 := same_upd (o := .lst ((rs.map (tieD ps)).map V.bl)) s5 hq6
                  refine ⟨q6, rs.map (tieD ps), rfl, SqL.of upd_same, _, rfl, ?_⟩
                  have e2 : (rs.map (tieD ps)).all id = rs.all (tieD ps) := by rw [List.all_map]; rfl
                  rw [e2]
                  generalize upd H5 q6 (.lst ((rs.map (tieD ps)).map V.bl)) = H6 at s6 ⊢
                  cases ct : rs.all (tieD ps) with
                  | false => exact iteT (kF (by rw [ew1, ct]; rfl) _ s6)
                  | true =>
                    rw [ct] at ew1
                    refine iteF ?_
                    refine ⟨_, rfl, ra, rfl, ⟨_, SqT.of (s6 _ _ hra)⟩, lcw_tup0 (xs := zs) (fits (by omega)) (fun i ys σ H7 => ys = (rs.take i).map (fun d => V.str (rowNm d)) ∧ Same H H7 ∧ ∃ x, σ = [x]) ⟨rfl, s6, _, rfl⟩
                      (fun i ys σ H7 _ q => ⟨by rw [q.1]; simp; omega, SqT.of (q.2.1 _ _ hra)⟩) ?_ ?_⟩
                    · rintro i x ys σ H7 hx ⟨rfl, s7, z, rfl⟩
                      obtain ⟨d', a', ys', hd', rfl, ha'⟩ := row_nm qr ct hx
                      exact ⟨_, rfl, rix_of (j := 0) (.inr (SqT.of (s7 _ _ ha'))) rfl rfl ⟨(take_map_succ _ _ _ _ hd').symm, s7, _, rfl⟩⟩
                    rintro ys' σ H7 ⟨rfl, s7, z, rfl⟩ q8 hq8
                    have eb : (rs.take zs.length).map (fun d => V.str (rowNm d)) = (rs.map rowNm).map V.str := by rw [hzl, List.take_length, List.map_map]; rfl
                    rw [eb]
                    have s8 := same_upd (o := .lst ((rs.map rowNm).map V.str)) s7 hq8
                    have q8' : upd H7 q8 (.lst ((rs.map rowNm).map V.str)) q8 = some (.lst ((rs.map rowNm).map V.str)) := upd_same
                    generalize upd H7 q8 (.lst ((rs.map rowNm).map V.str)) = H8 at s8 q8' ⊢
                    have rnm : ∀ x ∈ rs.map rowNm, NameP x := fun x hx => by
                      obtain ⟨d', hd', e⟩ := List.mem_map.mp hx
                      obtain ⟨n, s', t', e', hn, _⟩ := tieD_t (List.all_eq_true.mp ct d' hd')
                      rw [e'] at e
                      rw [← e]; exact hn
                    have hnl : (rs.map rowNm).length ≤ 60 := by simpa using hrz
                    generalize rs.map rowNm = nn at q8' rnm hnl ew1 ⊢
                    refine ⟨_, rfl, _, rfl, q8, nn, rfl, SqL.of q8', by omega, fun st9 hst9 => ?_⟩
                    have s9 := same_upd (o := SetT w st9 (metS nn.reverse)) (Same.refl H8) hst9
                    have hml9 : (metS nn.reverse).length ≤ 60 := by have := metS_len nn.reverse; rw [List.length_reverse] at this; omega
                    refine ⟨st9, metS nn.reverse, rfl, upd_same, by omega, fun so9 q10 hpm9 hso9 hq10 => ?_⟩
                    obtain ⟨spw9, seq9, smem9⟩ := same_sorted hpm9 hso9
                    have s10 := same_upd (o := .lst (so9.map V.str)) s9 hq10
                    have q10' : upd (upd H8 st9 (SetT w st9 (metS nn.reverse))) q10 (.lst (so9.map V.str)) q10 = some (.lst (so9.map V.str)) := upd_same
                    generalize upd (upd H8 st9 (SetT w st9 (metS nn.reverse))) q10 (.lst (so9.map V.str)) = H10 at s10 q10' ⊢
                    have nmo9 : ∀ x ∈ so9, NameP x := fun x hx => rnm x ((smem9 x).mp hx)
                    refine ⟨.list (nn.map PyData.str), .list (so9.map PyData.str), .lst (s10 _ _ q8') (DVs.strs nn), .lst q10' (DVs.strs so9), (shaped_strs rnm).1, (shaped_strs nmo9).1, ?_⟩
                    have ev9 : PyData.eqv (.list (nn.map PyData.str)) (.list (so9.map PyData.str)) = decide (nn = so9) := eqvAll_strs nn so9
                    rw [ev9, dec_ris seq9]
                    have := k _ (s8.trans s10)
                    rw [ew1] at this
                    exact this
end
end K11

set_option Elab.async false
set_option linter.all false
set_option maxRecDepth 100000
set_option maxHeartbeats 4000000
namespace K11
open PySem L2
/-! ### data and the pot -/
mutual
theorem DV.kp {H H' : Hp} {p : Addr} (k : Kp [p] H H') (hp : Pot H p) : ∀ {x : V} {d : PyData}, DV H x d → Dok d → DV H' x d
  | _, _, .non, _ => .non
  | _, _, .bl b, _ => .bl b
  | _, _, .int i, _ => .int i
  | _, _, .str x, _ => .str x
  | _, _, .tup (a := a) (xs := xs) e q, hd => .tup (k _ _ e fun z => by
      have z : a = p := by simpa using z
      subst z
      obtain ⟨i, j, q, _⟩ := hp
      rw [e] at q; cases q) (DVs.kp k hp q (by cases hd with | tup _ _ h => exact h))
  | _, _, .lst (a := a) (xs := xs) e q, hd => .lst (k _ _ e fun z => by
      have z : a = p := by simpa using z
      subst z
      obtain ⟨i, j, q', _⟩ := hp
      rw [e] at q'
      cases q'
      cases hd with
      | lst _ _ _ hn =>
        cases q with
        | cons r1 r =>
          cases r with
          | cons r2 r3 =>
            cases r3
            cases r1
            cases r2
            exact hn _ _ rfl) (DVs.kp k hp q (by cases hd with | lst _ _ h _ => exact h))
theorem DVs.kp {H H' : Hp} {p : Addr} (k : Kp [p] H H') (hp : Pot H p) : ∀ {xs : List V} {ds : List PyData}, DVs H xs ds → (∀ d ∈ ds, Dok d) → DVs H' xs ds
  | _, _, .nil, _ => .nil
  | _, _, .cons a b, h => .cons (DV.kp k hp a (h _ List.mem_cons_self)) (DVs.kp k hp b fun d hd => h d (List.mem_cons_of_mem _ hd))
end
theorem showAll_of : ∀ {ds : List PyData}, (∀ d ∈ ds, d.showable = true) → PyData.showableAll ds = true
  | [], _ => rfl
  | d :: r, h => by rw [PyData.showableAll, h d List.mem_cons_self, showAll_of fun x hx => h x (List.mem_cons_of_mem _ hx)]; rfl
theorem hasAll_of : ∀ {ds : List PyData}, (∀ d ∈ ds, d.hasDict = false) → PyData.hasDictAll ds = false
  | [], _ => rfl
  | d :: r, h => by rw [PyData.hasDictAll, h d List.mem_cons_self, hasAll_of fun x hx => h x (List.mem_cons_of_mem _ hx)]; rfl
theorem depthAll_of {k : Nat} : ∀ {ds : List PyData}, (∀ d ∈ ds, d.depth ≤ k) → PyData.depthAll ds ≤ k
  | [], _ => Nat.zero_le _
  | d :: r, h => by
    rw [PyData.depthAll]
    have h1 := h d List.mem_cons_self
    have h2 := depthAll_of (ds := r) fun x hx => h x (List.mem_cons_of_mem _ hx)
    omega
theorem log_small {i : Int} (h : i.natAbs ≤ 1000) : i.natAbs.log2 < 1920 := by
  by_cases c : i.natAbs = 0
  · rw [c]; decide
  · have := (Nat.log2_lt c (k := 1920)).mpr (Nat.lt_of_le_of_lt h (by decide))
    exact this
theorem Dok.show {d : PyData} (h : Dok d) : d.showable = true ∧ d.hasDict = false := by
  induction h with
  | non => exact ⟨rfl, rfl⟩
  | bl b => exact ⟨rfl, rfl⟩
  | int i h => exact ⟨by rw [PyData.showable]; exact decide_eq_true (log_small h), rfl⟩
  | str s h => exact ⟨rfl, rfl⟩
  | tup ds hl h ih => exact ⟨by rw [PyData.showable]; exact showAll_of fun d hd => (ih d hd).1, by rw [PyData.hasDict]; exact hasAll_of fun d hd => (ih d hd).2⟩
  | lst ds hl h hn ih => exact ⟨by rw [PyData.showable]; exact showAll_of fun d hd => (ih d hd).1, by rw [PyData.hasDict]; exact hasAll_of fun d hd => (ih d hd).2⟩
/-- data whose text and depth are bounded -/
structure Bd (B D : Nat) (d : PyData) : Prop where
  ok : Dok d
  dp : d.depth ≤ D
  sh : d.shown.length ≤ B
theorem Bd.mono {B D B' D' : Nat} {d : PyData} (h : Bd B D d) (hB : B ≤ B') (hD : D ≤ D') : Bd B' D' d := ⟨h.ok, Nat.le_trans h.dp hD, Nat.le_trans h.sh hB⟩
end K11

set_option Elab.async false
set_option linter.all false
set_option maxRecDepth 100000
set_option maxHeartbeats 4000000
namespace K11
open PySem L2
theorem join_le (B : Nat) : ∀ ts : List Str, (∀ t ∈ ts, t.length ≤ B) → (Str.join ", " ts).length ≤ ts.length * (B + 2)
  | [], _ => by show (0 : Nat) ≤ _; exact Nat.zero_le _
  | [x], h => by
    have := h x List.mem_cons_self
    show x.length ≤ 1 * (B + 2)
    omega
  | x :: y :: r, h => by
    have ih := join_le B (y :: r) fun t ht => h t (List.mem_cons_of_mem _ ht)
    have hx := h x List.mem_cons_self
    show (x ++ (", " : Str) ++ Str.join ", " (y :: r)).length ≤ _
    have e2 : ((", " : Str)).length = 2 := by decide
    rw [Str.length_append, Str.length_append, e2]
    simp only [List.length_cons] at ih ⊢
    rw [Nat.add_mul (r.length + 1) 1 (B + 2)]
    omega
theorem tupleText_le {B : Nat} {ts : List Str} (h : ∀ t ∈ ts, t.length ≤ B) : (tupleText ts).length ≤ 3 + ts.length * (B + 2) := by
  have := join_le B ts h
  unfold tupleText
  rw [Str.length_append, Str.length_append]
  have e1 : (("(" : Str)).length = 1 := by decide
  rw [e1]
  by_cases c : (ts.length == 1) = true
  · rw [if_pos c]
    have e3 : ((",)" : String) : Str).length = 2 := by decide
    rw [e3]; omega
  · rw [if_neg c]
    have e3 : ((")" : String) : Str).length = 1 := by decide
    rw [e3]; omega
theorem repr_le {x : Str} (h : NameP x) : (reprText x).length ≤ 82 := by
  have := StrLaws.reprText_len x fun c hc => by have := h.az c hc; omega
  have h8 := h.hi
  omega
theorem shownAll_mem : ∀ {ds : List PyData} {t : Str}, t ∈ PyData.shownAll ds → ∃ d ∈ ds, t = d.shown
  | [], t, h => by simp [PyData.shownAll] at h
  | d :: ds, t, h => by
    rw [PyData.shownAll] at h
    rcases List.mem_cons.mp h with e | h
    · exact ⟨d, List.mem_cons_self, e⟩
    · obtain ⟨d', h1, h2⟩ := shownAll_mem h
      exact ⟨d', List.mem_cons_of_mem _ h1, h2⟩
theorem shownAll_len : ∀ ds : List PyData, (PyData.shownAll ds).length = ds.length
  | [] => rfl
  | d :: ds => by rw [PyData.shownAll, List.length_cons, List.length_cons, shownAll_len ds]
theorem shown_tuple {B : Nat} {ds : List PyData} (h : ∀ d ∈ ds, d.shown.length ≤ B) : (PyData.tuple ds).shown.length ≤ 3 + ds.length * (B + 2) := by
  rw [PyData.shown, ← shownAll_len ds]
  refine tupleText_le fun t ht => ?_
  obtain ⟨d, hd, rfl⟩ := shownAll_mem ht
  exact h d hd
theorem textFrom_le (B : Nat) : ∀ (ts : List Str) (k : Nat) (acc : Str), (∀ t ∈ ts, t.length ≤ B) → (textFrom k acc ts).length ≤ acc.length + ts.length * (B + 2)
  | [], k, acc, _ => by simp [textFrom]
  | t :: r, k, acc, h => by
    have ht := h t List.mem_cons_self
    have e2 : ((", " : Str)).length = 2 := by decide
    have e0 : (("" : Str)).length = 0 := by decide
    unfold textFrom
    have ih := fun acc' => textFrom_le B r (k + 1) acc' fun x hx => h x (List.mem_cons_of_mem _ hx)
    simp only [List.length_cons]
    rw [Nat.add_mul]
    first
      | (refine Nat.le_trans (ih _) ?_; split <;> simp only [Str.length_append, e2, e0] <;> omega)
      | (split <;> refine Nat.le_trans (ih _) ?_ <;> simp only [Str.length_append, e2, e0] <;> omega)
theorem shown_list {B : Nat} {ds : List PyData} (h : ∀ d ∈ ds, d.shown.length ≤ B) : (PyData.list ds).shown.length ≤ 2 + ds.length * (B + 2) := by
  have q := textFrom_le B (PyData.shownAll ds) 0 "[" fun t ht => by
    obtain ⟨d, hd, rfl⟩ := shownAll_mem ht
    exact h d hd
  rw [shownAll_len] at q
  have e1 : (("[" : Str)).length = 1 := by decide
  have e2 : (("]" : Str)).length = 1 := by decide
  rw [PyData.shown]
  unfold listText
  rw [Str.length_append, e2]
  rw [e1] at q
  omega
theorem rcat_tup {K : PySem.W.Frag} {H : Hp} {a b : Addr} {xs ys : List V} {Q : VK} (ha : H a = some (.tup xs)) (hb : H b = some (.tup ys)) (hz : xs.length + ys.length ≤ sizeLine) (h : ∀ p H', Same H H' → H' p = some (.tup (xs ++ ys)) → Q (.ref p) H') : rCatA K (.ref a) (.ref b) H Q :=
  ⟨a, b, xs, ys, rfl, rfl, SqT.of ha, SqT.of hb, hz, fun e => h b H (Same.refl _) (by subst e; exact hb), fun e => h a H (Same.refl _) (by subst e; rw [List.append_nil]; exact ha), fun p hp => h p _ (same_upd (Same.refl _) hp) upd_same⟩
noncomputable def Yd (t : TE) (σ : St) (H : Hp) (f : V → Hp → Prop) : Prop := ∀ H', Same H H' → ∀ Q : VK, (∀ x H2, Same H' H2 → f x H2 → Q x H2) → t σ H' Q
noncomputable def Po (t : TO) (σ : St) : Prop := ∃ l, ∀ H Q, Q l H → t σ H Q
noncomputable def Ya (f : V → Hp → Prop) (t : TA) (σ : St) (H : Hp) (n : Nat) : Prop := ∀ H', Same H H' → ∀ Q : List V → Hp → Prop, (∀ xs H2, Same H' H2 → (∀ x ∈ xs, f x H2) → xs.length = n → Q xs H2) → t σ H' Q
noncomputable abbrev Keeps (f : V → Hp → Prop) : Prop := ∀ x H H', f x H → Same H H' → f x H'
noncomputable def DY (B D : Nat) (x : V) (H : Hp) : Prop := ∃ d, DV H x d ∧ Bd B D d
/-- data that is no number -/
noncomputable def DN (B D : Nat) (x : V) (H : Hp) : Prop := ∃ d, DV H x d ∧ Bd B D d ∧ ∀ i, d ≠ .int i
noncomputable def DT (n B D : Nat) (x : V) (H : Hp) : Prop := ∃ (p : Addr) (xs : List V) (ds : List PyData), x = .ref p ∧ H p = some (.tup xs) ∧ DVs H xs ds ∧ (∀ d ∈ ds, Bd B D d) ∧ ds.length ≤ n
noncomputable def DM (n B D : Nat) (x : V) (H : Hp) : Prop := ∃ (p : Addr) (xs : List V) (ds : List PyData), x = .ref p ∧ H p = some (.tup xs) ∧ DVs H xs ds ∧ (∀ d ∈ ds, Bd B D d ∧ ∀ i, d ≠ .int i) ∧ ds.length ≤ n
theorem DM.dt {n B D : Nat} {x : V} {H : Hp} (h : DM n B D x H) : DT n B D x H := by
  obtain ⟨p, xs, ds, e, h1, h2, h3, h4⟩ := h
  exact ⟨p, xs, ds, e, h1, h2, fun d hd => (h3 d hd).1, h4⟩
theorem DY.keeps {B D : Nat} : Keeps (DY B D) := fun x H H' h s => by
  obtain ⟨d, h1, h2⟩ := h
  exact ⟨d, DV.same s h1, h2⟩
theorem DY.mono {B D B' D' : Nat} {x : V} {H : Hp} (h : DY B D x H) (hB : B ≤ B') (hD : D ≤ D') : DY B' D' x H := by
  obtain ⟨d, h1, h2⟩ := h
  exact ⟨d, h1, h2.mono hB hD⟩
theorem DY.kp {B D : Nat} {x : V} {H H' : Hp} {p : Addr} (h : DY B D x H) (k : Kp [p] H H') (hp : Pot H p) : DY B D x H' := by
  obtain ⟨d, h1, h2⟩ := h
  exact ⟨d, DV.kp k hp h1 h2.ok, h2⟩
theorem Bd.tup {n B D : Nat} {ds : List PyData} (h : ∀ d ∈ ds, Bd B D d) (hl : ds.length ≤ n) (hn : n ≤ 60) : Bd (3 + n * (B + 2)) (D + 1) (.tuple ds) := by
  refine ⟨.tup ds (by omega) fun d hd => (h d hd).ok, ?_, ?_⟩
  · rw [PyData.depth]
    have := depthAll_of fun d hd => (h d hd).dp
    omega
  · have := shown_tuple (B := B) fun d hd => (h d hd).sh
    have h2 : ds.length * (B + 2) ≤ n * (B + 2) := Nat.mul_le_mul_right _ hl
    omega
theorem Bd.lst {n B D : Nat} {ds : List PyData} (h : ∀ d ∈ ds, Bd B D d) (hl : ds.length ≤ n) (hn : n ≤ 60) (hi : ∀ i j, ds ≠ [.int i, .int j]) : Bd (3 + n * (B + 2)) (D + 1) (.list ds) := by
  refine ⟨.lst ds (by omega) (fun d hd => (h d hd).ok) hi, ?_, ?_⟩
  · rw [PyData.depth]
    have := depthAll_of fun d hd => (h d hd).dp
    omega
  · have := shown_list (B := B) fun d hd => (h d hd).sh
    have h2 : ds.length * (B + 2) ≤ n * (B + 2) := Nat.mul_le_mul_right _ hl
    omega
theorem DT.dy {n B D : Nat} {x : V} {H : Hp} (h : DT n B D x H) (hn : n ≤ 60) : DY (3 + n * (B + 2)) (D + 1) x H := by
  obtain ⟨p, xs, ds, rfl, h1, h2, h3, h4⟩ := h
  exact ⟨.tuple ds, .tup h1 h2, Bd.tup h3 h4 hn⟩
theorem Yd.imp {t : TE} {σ : St} {H : Hp} {f g : V → Hp → Prop} (h : Yd t σ H f) (i : ∀ x H', f x H' → g x H') : Yd t σ H g := fun H' s Q k => h H' s Q fun x H2 s2 hx => k x H2 s2 (i x H2 hx)
theorem Yd.dy {t : TE} {σ : St} {H : Hp} {n B D B' D' : Nat} (h : Yd t σ H (DT n B D)) (hn : n ≤ 60) (hB : 3 + n * (B + 2) ≤ B') (hD : D + 1 ≤ D') : Yd t σ H (DY B' D') := h.imp fun x H' z => (z.dy hn).mono hB hD
theorem Yd.dmono {t : TE} {σ : St} {H : Hp} {B D B' D' : Nat} (h : Yd t σ H (DY B D)) (hB : B ≤ B') (hD : D ≤ D') : Yd t σ H (DY B' D') := h.imp fun x H' z => z.mono hB hD
theorem Yd.var {σ : St} {i : Nat} {v : V} {H : Hp} {f : V → Hp → Prop} (h : σ[i]? = some (some v)) (hf : ∀ H', Same H H' → f v H') : Yd (tVar i) σ H f := fun H' s Q k => ⟨v, h, k v H' (Same.refl _) (hf H' s)⟩
theorem Yd.con {σ : St} {H : Hp} {v : V} {f : V → Hp → Prop} (h : ∀ H', f v H') : Yd (tC v) σ H f := fun H' s Q k => k _ _ (Same.refl _) (h _)
theorem Po.none {σ : St} : Po tNoPart σ := ⟨_, fun H Q h => h⟩
theorem Po.some {σ : St} {te : TE} (i : Int) (h : ∀ H Q, Q (.int i) H → te σ H Q) : Po (tPart te) σ := ⟨Option.some i, fun H Q k => h H _ ⟨i, rfl, k⟩⟩
theorem DVs.drop {H : Hp} : ∀ (n : Nat) {xs : List V} {ds : List PyData}, DVs H xs ds → DVs H (xs.drop n) (ds.drop n)
  | 0, _, _, h => h
  | n + 1, _, _, .nil => by simpa using DVs.nil
  | n + 1, _, _, .cons a b => by simpa using DVs.drop n b
theorem DVs.take {H : Hp} : ∀ (n : Nat) {xs : List V} {ds : List PyData}, DVs H xs ds → DVs H (xs.take n) (ds.take n)
  | 0, _, _, h => by simpa using DVs.nil
  | n + 1, _, _, .nil => by simpa using DVs.nil
  | n + 1, _, _, .cons a b => by simpa using DVs.cons a (DVs.take n b)
theorem DVs.append {H : Hp} : ∀ {xs ys : List V} {ds es : List PyData}, DVs H xs ds → DVs H ys es → DVs H (xs ++ ys) (ds ++ es)
  | _, _, _, _, .nil, h => h
  | _, _, _, _, .cons a b, h => .cons a (DVs.append b h)
theorem DVs.rev {H : Hp} : ∀ {xs : List V} {ds : List PyData}, DVs H xs ds → DVs H xs.reverse ds.reverse
  | _, _, .nil => .nil
  | _, _, .cons a b => by rw [List.reverse_cons, List.reverse_cons]; exact DVs.append (DVs.rev b) (.cons a .nil)
theorem Yd.cut {K : PySem.W.Frag} {te : TE} {lo hi : TO} {σ : St} {H : Hp} {n B D : Nat} (h : Yd te σ H (DT n B D)) (hl : Po lo σ) (hh : Po hi σ) : Yd (tSl (rSlA K) te lo hi) σ H (DT n B D) := fun H' s Q k => h H' s _ fun x H1 s1 hx => by
  obtain ⟨p, xs, ds, rfl, h1, h2, h3, h4⟩ := hx
  obtain ⟨l, hl⟩ := hl
  obtain ⟨u, hh⟩ := hh
  refine hl _ _ (hh _ _ ⟨p, xs, rfl, SqT.of h1, fun _ => k _ _ s1 ⟨p, xs, ds, rfl, h1, h2, h3, h4⟩, fun q hq => ?_⟩)
  have s2 := same_upd (o := .tup (cutV xs l u)) (Same.refl H1) hq
  refine k _ _ (s1.trans s2) ⟨q, cutV xs l u, (ds.drop (HT.sIx xs.length 0 l)).take (HT.sIx xs.length xs.length u - HT.sIx xs.length 0 l), rfl, upd_same, DVs.same s2 ?_, fun d hd => h3 d (List.mem_of_mem_drop (List.mem_of_mem_take hd)), ?_⟩
  · exact DVs.take _ (DVs.drop _ h2)
  · rw [List.length_take, List.length_drop]; omega
theorem Yd.cat {K : PySem.W.Frag} {ta tb : TE} {σ : St} {H : Hp} {n m B D : Nat} (ha : Yd ta σ H (DT n B D)) (hb : Yd tb σ H (DT m B D)) (hz : n + m ≤ 900) : Yd (tOp (rCatA K) ta tb) σ H (DT (n + m) B D) := fun H' s Q k => ha H' s _ fun x H1 s1 hx => hb H1 (s.trans s1) _ fun y H2 s2 hy => by
  obtain ⟨p, xs, ds, rfl, h1, h2, h3, h4⟩ := hx
  obtain ⟨q, ys, es, rfl, g1, g2, g3, g4⟩ := hy
  have l1 := DVs.len h2
  have l2 := DVs.len g2
  refine rcat_tup (s2 _ _ h1) g1 (Nat.le_of_lt (fits (by omega))) fun r H3 s3 hr => k _ _ (s1.trans (s2.trans s3)) ⟨r, xs ++ ys, ds ++ es, rfl, hr, DVs.append (DVs.same (s2.trans s3) h2) (DVs.same s3 g2), fun d hd => ?_, by simp; omega⟩
  rcases List.mem_append.mp hd with z | z
  · exact h3 d z
  · exact g3 d z
theorem Yd.rev {K : PySem.W.Frag} {te : TE} {tk : TO} {σ : St} {H : Hp} {n B D : Nat} (h : Yd te σ H (DT n B D)) (hk : ∀ H Q, Q (some (-1)) H → tk σ H Q) : Yd (tRevT K te tk) σ H (DT n B D) := fun H' s Q k => h H' s _ fun x H1 s1 hx => by
  obtain ⟨p, xs, ds, rfl, h1, h2, h3, h4⟩ := hx
  refine hk _ _ ⟨rfl, p, _, rfl, SqT.of h1, fun q hq => ?_⟩
  have s2 := same_upd (o := .tup xs.reverse) (Same.refl H1) hq
  exact k _ _ (s1.trans s2) ⟨q, xs.reverse, ds.reverse, rfl, upd_same, DVs.same s2 (DVs.rev h2), fun d hd => h3 d (List.mem_reverse.mp hd), by simpa using h4⟩
theorem no_two {ds : List PyData} (h : ∀ d ∈ ds, ∀ i, d ≠ .int i) : ∀ i j, ds ≠ [.int i, .int j] := fun i j e => by
  subst e
  exact h (.int i) (by simp) i rfl
theorem Yd.lst {K : PySem.W.Frag} {te : TE} {σ : St} {H : Hp} {n B D : Nat} (h : Yd te σ H (DM n B D)) (hn : n ≤ 60) :
    Yd (tCB (fun xs H Q => ∃ p ys, xs = [.ref p] ∧ (SqL K H p ys ∨ SqT K H p ys) ∧ ∀ l, H l = none → Q (.ref l) (upd H l (.lst ys))) (tCons te tNil)) σ H (DY (3 + n * (B + 2)) (D + 1)) := fun H' s Q k => h H' s _ fun x H1 s1 hx => by
  obtain ⟨p, xs, ds, rfl, h1, h2, h3, h4⟩ := hx
  refine ⟨p, _, rfl, .inr (SqT.of h1), fun l hl => ?_⟩
  have s2 := same_upd (o := .lst xs) (Same.refl H1) hl
  exact k _ _ (s1.trans s2) ⟨.list ds, .lst upd_same (DVs.same s2 h2), Bd.lst (fun d hd => (h3 d hd).1) h4 hn (no_two fun d hd => (h3 d hd).2)⟩
theorem dvs_of {B D : Nat} {H : Hp} : ∀ {xs : List V}, (∀ x ∈ xs, DY B D x H) → ∃ ds, DVs H xs ds ∧ (∀ d ∈ ds, Bd B D d) ∧ ds.length = xs.length
  | [], _ => ⟨[], .nil, by simp, rfl⟩
  | x :: r, h => by
    obtain ⟨d, h1, h2⟩ := h x List.mem_cons_self
    obtain ⟨ds, g1, g2, g3⟩ := dvs_of fun y hy => h y (List.mem_cons_of_mem _ hy)
    exact ⟨d :: ds, .cons h1 g1, fun e he => by
      rcases List.mem_cons.mp he with z | z
      · rw [z]; exact h2
      · exact g2 e z, by simp [g3]⟩
theorem Yd.tup {t : TA} {σ : St} {H : Hp} {n B D : Nat} (h : Ya (DY B D) t σ H n) (hn : n ≤ 60) : Yd (tTup t) σ H (DT n B D) := fun H' s Q k => h H' s _ fun xs H1 s1 hx hl => by
  refine ⟨Nat.le_of_lt (fits (by omega)), fun p hp => ?_⟩
  have s2 := same_upd (o := .tup xs) (Same.refl H1) hp
  obtain ⟨ds, g1, g2, g3⟩ := dvs_of hx
  exact k _ _ (s1.trans s2) ⟨p, xs, ds, rfl, upd_same, DVs.same s2 g1, g2, by omega⟩
theorem Yd.lstD {t : TA} {σ : St} {H : Hp} {n B D : Nat} (h : Ya (DY B D) t σ H n) (hn : n ≤ 60) (h2 : n ≠ 2) : Yd (tLst t) σ H (DY (3 + n * (B + 2)) (D + 1)) := fun H' s Q k => h H' s _ fun xs H1 s1 hx hl => by
  refine ⟨Nat.le_of_lt (fits (by omega)), fun p hp => ?_⟩
  have s2 := same_upd (o := .lst xs) (Same.refl H1) hp
  obtain ⟨ds, g1, g2, g3⟩ := dvs_of hx
  exact k _ _ (s1.trans s2) ⟨.list ds, .lst upd_same (DVs.same s2 g1), Bd.lst g2 (by omega) hn fun i j e => by rw [e] at g3; simp at g3; omega⟩
theorem Ya.nil {f : V → Hp → Prop} {σ : St} {H : Hp} : Ya f tNil σ H 0 := fun H' s Q k => k _ _ (Same.refl _) (fun x hx => (by cases hx)) rfl
theorem Ya.cons {f : V → Hp → Prop} (kf : Keeps f) {te : TE} {t : TA} {σ : St} {H : Hp} {n : Nat} (h : Yd te σ H f) (hs : Ya f t σ H n) : Ya f (tCons te t) σ H (n + 1) := fun H' s Q k => h H' s _ fun x H1 s1 hx => hs H1 (s.trans s1) _ fun xs H2 s2 hxs hl => k _ _ (s1.trans s2) (fun y hy => by
  rcases List.mem_cons.mp hy with e | e
  · subst e; exact kf _ _ _ hx s2
  · exact hxs y e) (by simp [hl])
theorem sq_lst {f : V → Hp → Prop} (kf : Keeps f) {t : TA} {g : TG} {u : TS} {D : Ends} {σ : St} {H : Hp} {n : Nat} (h : Ya f t σ H n) (hn : n ≤ 900) (k : ∀ (p : Addr) (xs : List V) (H' : Hp), Same H H' → H' p = some (.lst xs) → (∀ x ∈ xs, f x H') → xs.length = n → H p = none → g (.ref p) σ H' (u D)) : tSeq (tAsg (tLst t) g) u D σ H :=
  h H (Same.refl _) _ fun xs H2 s2 hx hl => ⟨Nat.le_of_lt (fits (by omega)), fun p hp => k p xs _ (same_upd s2 hp) upd_same (fun x hm => kf _ _ _ (hx x hm) (same_upd (Same.refl _) hp)) hl (by
    cases hc : H p with
    | none => rfl
    | some o => have := s2 _ _ hc; rw [hp] at this; cases this)⟩
theorem sq_cat {f : V → Hp → Prop} (kf : Keeps f) {t : TA} {g : TG} {u : TS} {D : Ends} {σ : St} {H : Hp} {n i : Nat} {q : Addr} {ys : List V} (hi : σ[i]? = some (some (.ref q))) (hq : H q = some (.lst ys)) (hy : ∀ x ∈ ys, f x H) (h : Ya f t σ H n) (hn : ys.length + n ≤ 900)
    (k : ∀ (p : Addr) (xs : List V) (H' : Hp), Same H H' → H' p = some (.lst xs) → (∀ x ∈ xs, f x H') → xs.length = ys.length + n → H p = none → g (.ref p) σ H' (u D)) : tSeq (tAsg (tOp rCat (tVar i) (tLst t)) g) u D σ H :=
  ⟨_, hi, h H (Same.refl _) _ fun xs H2 s2 hx hl => ⟨Nat.le_of_lt (fits (by omega)), fun p hp => by
    have s3 := same_upd (o := .lst xs) s2 hp
    have h3 : upd H2 p (.lst xs) p = some (.lst xs) := upd_same
    have x3 : ∀ x ∈ xs, f x (upd H2 p (.lst xs)) := fun x hm => kf _ _ _ (hx x hm) (same_upd (Same.refl _) hp)
    generalize upd H2 p (.lst xs) = H3 at s3 h3 x3 ⊢
    refine ⟨q, p, _, _, rfl, rfl, s3 _ _ hq, h3, Nat.le_of_lt (fits (by omega)), fun r hr => ?_⟩
    have s4 := same_upd (o := .lst (ys ++ xs)) (Same.refl H3) hr
    refine k r (ys ++ xs) _ (s3.trans s4) upd_same (fun x hm => ?_) (by simp [hl]) ?_
    · rcases List.mem_append.mp hm with z | z
      · exact kf _ _ _ (hy x z) (s3.trans s4)
      · exact kf _ _ _ (x3 x z) s4
    · cases hc : H r with
      | none => rfl
      | some o => have := s3 _ _ hc; rw [hr] at this; cases this⟩⟩
theorem Pot.same {H H' : Hp} {p : Addr} (h : Pot H p) (s : Same H H') : Pot H' p := h.keep fun o e => s _ _ e
theorem kp1 {p : Addr} {Ha Hb : Hp} (e : ∀ b, b ≠ p → Hb b = Ha b) : Kp [p] Ha Hb := fun b o q nb => by rw [e b (by simpa using nb)]; exact q
theorem Kp.tup {H H' : Hp} {p a : Addr} {ys : List V} (k : Kp [p] H H') (hp : Pot H p) (h : H a = some (.tup ys)) : H' a = some (.tup ys) := k a _ h fun z => by
  have z : a = p := by simpa using z
  subst z
  obtain ⟨i, j, q, _⟩ := hp
  rw [h] at q; cases q
theorem DT.kp {n B D : Nat} {x : V} {H H' : Hp} {p : Addr} (h : DT n B D x H) (k : Kp [p] H H') (hp : Pot H p) : DT n B D x H' := by
  obtain ⟨q, xs, ds, e, h1, h2, h3, h4⟩ := h
  exact ⟨q, xs, ds, e, k.tup hp h1, DVs.kp k hp h2 fun d hd => (h3 d hd).ok, h3, h4⟩
theorem DM.kp {n B D : Nat} {x : V} {H H' : Hp} {p : Addr} (h : DM n B D x H) (k : Kp [p] H H') (hp : Pot H p) : DM n B D x H' := by
  obtain ⟨q, xs, ds, e, h1, h2, h3, h4⟩ := h
  exact ⟨q, xs, ds, e, k.tup hp h1, DVs.kp k hp h2 fun d hd => (h3 d hd).1.ok, h3, h4⟩
theorem DT.keeps {n B D : Nat} : Keeps (DT n B D) := fun x H H' h s => by
  obtain ⟨q, xs, ds, e, h1, h2, h3, h4⟩ := h
  exact ⟨q, xs, ds, e, s _ _ h1, DVs.same s h2, h3, h4⟩
theorem DM.keeps {n B D : Nat} : Keeps (DM n B D) := fun x H H' h s => by
  obtain ⟨q, xs, ds, e, h1, h2, h3, h4⟩ := h
  exact ⟨q, xs, ds, e, s _ _ h1, DVs.same s h2, h3, h4⟩
theorem DT.mono {n B D n' B' D' : Nat} {x : V} {H : Hp} (h : DT n B D x H) (hn : n ≤ n') (hB : B ≤ B') (hD : D ≤ D') : DT n' B' D' x H := by
  obtain ⟨q, xs, ds, e, h1, h2, h3, h4⟩ := h
  exact ⟨q, xs, ds, e, h1, h2, fun d hd => (h3 d hd).mono hB hD, by omega⟩
theorem DY.str {H : Hp} (s : Str) (h : okS s) (hr : (reprText s).length ≤ 100) : DY 100 0 (.str s) H := ⟨.str s, .str s, .str s h, Nat.zero_le _, by rw [PyData.shown]; exact hr⟩
theorem DY.name {H : Hp} {s : Str} (h : NameP s) : DY 100 0 (.str s) H := .str s ⟨by have := h.hi; omega, h.ascii⟩ (by have := repr_le h; omega)
theorem DY.non {H : Hp} : DY 100 0 .non H := ⟨.none, .non, .non, Nat.zero_le _, by decide⟩
theorem DY.int {H : Hp} (i : Int) (h : i.natAbs ≤ 1000) (hs : (PyData.int i).shown.length ≤ 100) : DY 100 0 (.int i) H := ⟨.int i, .int i, .int i h, Nat.zero_le _, hs⟩
theorem DY.bl {H : Hp} (b : Bool) : DY 100 0 (.bl b) H := ⟨.bool b, .bl b, .bl b, Nat.zero_le _, by cases b <;> decide⟩
end K11

set_option Elab.async false
set_option linter.all false
set_option maxRecDepth 100000
set_option maxHeartbeats 4000000
namespace K11
open PySem L2
theorem se_C {c : Const} {k : Nat} {p : Pos} {es : List Expr} {env : Env} : starEach (.Constant c k p :: es) env = (false, eval (.Constant c k p) env) :: starEach es env := rfl
theorem se_T {xs : List Expr} {k : Nat} {p : Pos} {es : List Expr} {env : Env} : starEach (.Tuple xs k p :: es) env = (false, eval (.Tuple xs k p) env) :: starEach es env := rfl
theorem se_L {xs : List Expr} {p : Pos} {es : List Expr} {env : Env} : starEach (.List xs p :: es) env = (false, eval (.List xs p) env) :: starEach es env := rfl
theorem se_D {xs : List (Option Expr)} {ys : List Expr} {p : Pos} {es : List Expr} {env : Env} : starEach (.Dict xs ys p :: es) env = (false, eval (.Dict xs ys p) env) :: starEach es env := rfl
section
variable {P : Program} {w : World} {K : PySem.W.Frag} {mg : Str → Option Value} {base : Heap}
noncomputable def spOdd : Sp := fun vs H Q _ => ∃ (p : Addr), vs = [.ref p] ∧ Pot H p ∧ ∀ (x : V) (H' : Hp), Pot H' p → Kp [p] H H' → DY 110 1 x H' → Q x H'
noncomputable abbrev N20 : List Str := ["_law_pot_here", "_law_some"]
theorem sc20 : FnScope N20 ["_law_pot_here"] (defScope (top 20)) := ⟨rfl, rfl, rfl, by decide +kernel, rfl, by decide +kernel, by decide +kernel⟩
theorem ok_odd {f : Addr} {fd : FuncData} (F : Fun K "_law_odd" "_law_odd" (top 20) f fd) (B : Bl mg) (Ft : Fn P w K mg base 1 "_law_take" ["_law_pot_here", "_law_many"] spTake) : FnOk P w K mg base CX0 2 f fd ["_law_pot_here"] spOdd := by
  refine F.ok sc20 (fun vs H Q E h => ?_) (fun cdv A outer s H vs Q E hr h => ?_)
  · obtain ⟨p, rfl, _⟩ := h
    rfl
  · obtain ⟨p, rfl, hp, k⟩ := h
    refine' ⟨_, pss_cons ?s1 ?r1, ?main⟩
    case s1 =>
      refine' ps_set (i := 1) ?nd ?x ?y ?z ?hs ?hf
      case nd => exact sc20.nd
      case x => exact rfl
      case y => exact Or.inl rfl
      case hf => first | exact .inl rfl | exact .inr rfl
      case' z => refine' pe_lst ?l0
      case' l0 => refine' pa_cons ?i0 ?l1 ?h0
      case i0 => exact pe_str
      case h0 => exact se_C
      case' l1 => refine' pa_cons ?i1 ?l2 ?h1
      case i1 => exact pe_str
      case h1 => exact se_C
      case' l2 => refine' pa_cons ?i2 ?l3 ?h2
      case i2 => exact pe_str
      case h2 => exact se_C
      case' l3 => refine' pa_cons ?i3 ?l4 ?h3
      case i3 => exact pe_str
      case h3 => exact se_C
      case' l4 => refine' pa_cons ?i4 ?l5 ?h4
      case i4 => exact pe_str
      case h4 => exact se_C
      case' l5 => refine' pa_cons ?i5 ?l6 ?h5
      case i5 => exact pe_str
      case h5 => exact se_C
      case' l6 => refine' pa_cons ?i6 ?l7 ?h6
      case i6 => exact pe_str
      case h6 => exact se_C
      case' l7 => refine' pa_cons ?i7 ?l8 ?h7
      case i7 => exact pe_str
      case h7 => exact se_C
      case' l8 => refine' pa_cons ?i8 ?l9 ?h8
      case i8 => exact pe_str
      case h8 => exact se_C
      case' l9 => refine' pa_cons ?i9 ?l10 ?h9
      case i9 => exact pe_non
      case h9 => exact se_C
      case' l10 => refine' pa_cons ?i10 ?l11 ?h10
      case i10 => exact pe_int
      case h10 => exact se_C
      case' l11 => refine' pa_cons ?i11 ?l12 ?h11
      case i11 => exact pe_bl
      case h11 => exact se_C
      case' l12 => refine' pa_cons ?i12 ?l13 ?h12
      case i12 => exact pe_int
      case h12 => exact se_C
      case' l13 => refine' pa_cons ?i13 ?l14 ?h13
      case i13 => exact pe_tup (pa_cons pe_str pa_nil se_C)
      case h13 => exact se_T
      case' l14 => refine' pa_cons ?i14 ?l15 ?h14
      case i14 => exact pe_lst (pa_cons pe_str pa_nil se_C)
      case h14 => exact se_L
      case' l15 => refine' pa_cons ?i15 ?l16 ?h15
      case i15 => exact pe_tup pa_nil
      case h15 => exact se_T
      case' l16 => refine' pa_cons ?i16 ?l17 ?h16
      case i16 => exact pe_str
      case h16 => exact se_C
      case l17 => exact pa_nil
      case hs => kernel_rfl
    case r1 => exact pss_one (ps_ret (pe_ix ix_seq (pv 1) (pe_fn Ft hr (pa_cons (pv 0) (pa_cons (pe_callB call_len_seq rfl B.len PySem.boot_len (pa_cons (pv 1) pa_nil)) pa_nil))) (fun _ _ => rfl)))
    case main =>
      have a17 : Ya (DY 110 1) tNil [some (.ref p), none] H 0 := .nil
      have a16 := Ya.cons DY.keeps (Yd.con (v := .str (Str.ofString "zz")) fun _ => (DY.str (Str.ofString "zz") ⟨by decide +kernel, by decide +kernel⟩ (by decide +kernel)).mono (by decide) (by decide)) a17
      have a15 := Ya.cons DY.keeps ((Yd.tup (B := 100) (D := 0) (n := 0) .nil (by decide)).dy (by decide) (by decide) (by decide)) a16
      have a14 := Ya.cons DY.keeps ((Yd.lstD (B := 100) (D := 0) (Ya.cons DY.keeps (Yd.con (v := .str (Str.ofString "a")) fun _ => DY.str (Str.ofString "a") ⟨by decide +kernel, by decide +kernel⟩ (by decide +kernel)) .nil) (by decide) (by decide)).dmono (by decide) (by decide)) a15
      have a13 := Ya.cons DY.keeps ((Yd.tup (B := 100) (D := 0) (Ya.cons DY.keeps (Yd.con (v := .str (Str.ofString "a")) fun _ => DY.str (Str.ofString "a") ⟨by decide +kernel, by decide +kernel⟩ (by decide +kernel)) .nil) (by decide)).dy (by decide) (by decide) (by decide)) a14
      have a12 := Ya.cons DY.keeps (Yd.con (v := .int 0) fun _ => (DY.int 0 (by decide) (by decide)).mono (by decide) (by decide)) a13
      have a11 := Ya.cons DY.keeps (Yd.con (v := .bl true) fun _ => (DY.bl true).mono (by decide) (by decide)) a12
      have a10 := Ya.cons DY.keeps (Yd.con (v := .int 7) fun _ => (DY.int 7 (by decide) (by decide)).mono (by decide) (by decide)) a11
      have a9 := Ya.cons DY.keeps (Yd.con (v := .non) fun _ => DY.non.mono (by decide) (by decide)) a10
      have a8 := Ya.cons DY.keeps (Yd.con (v := .str (Str.ofString " a")) fun _ => (DY.str (Str.ofString " a") ⟨by decide +kernel, by decide +kernel⟩ (by decide +kernel)).mono (by decide) (by decide)) a9
      have a7 := Ya.cons DY.keeps (Yd.con (v := .str (Str.ofString "a\n")) fun _ => (DY.str (Str.ofString "a\n") ⟨by decide +kernel, by decide +kernel⟩ (by decide +kernel)).mono (by decide) (by decide)) a8
      have a6 := Ya.cons DY.keeps (Yd.con (v := .str (Str.ofString "a b")) fun _ => (DY.str (Str.ofString "a b") ⟨by decide +kernel, by decide +kernel⟩ (by decide +kernel)).mono (by decide) (by decide)) a7
      have a5 := Ya.cons DY.keeps (Yd.con (v := .str (Str.ofString "a_")) fun _ => (DY.str (Str.ofString "a_") ⟨by decide +kernel, by decide +kernel⟩ (by decide +kernel)).mono (by decide) (by decide)) a6
      have a4 := Ya.cons DY.keeps (Yd.con (v := .str (Str.ofString "a1")) fun _ => (DY.str (Str.ofString "a1") ⟨by decide +kernel, by decide +kernel⟩ (by decide +kernel)).mono (by decide) (by decide)) a5
      have a3 := Ya.cons DY.keeps (Yd.con (v := .str (Str.ofString "aB")) fun _ => (DY.str (Str.ofString "aB") ⟨by decide +kernel, by decide +kernel⟩ (by decide +kernel)).mono (by decide) (by decide)) a4
      have a2 := Ya.cons DY.keeps (Yd.con (v := .str (Str.ofString "A")) fun _ => (DY.str (Str.ofString "A") ⟨by decide +kernel, by decide +kernel⟩ (by decide +kernel)).mono (by decide) (by decide)) a3
      have a1 := Ya.cons DY.keeps (Yd.con (v := .str (Str.ofString "abcdefghi")) fun _ => (DY.str (Str.ofString "abcdefghi") ⟨by decide +kernel, by decide +kernel⟩ (by decide +kernel)).mono (by decide) (by decide)) a2
      have a0 := Ya.cons DY.keeps (Yd.con (v := .str (Str.ofString "")) fun _ => (DY.str (Str.ofString "") ⟨by decide +kernel, by decide +kernel⟩ (by decide +kernel)).mono (by decide) (by decide)) a1
      refine sq_lst DY.keeps a0 (by decide) fun q xs H1 s1 h1 t1 l1 n1 => ?_
      have nqp : q ≠ p := fun z => by obtain ⟨o, e⟩ := hp.some; rw [← z, n1] at e; cases e
      have P1 := hp.same s1
      refine ⟨_, rfl, _, rfl, _, rfl, q, _, rfl, .inl (SqL.of h1), p, _, rfl, P1, by omega, by omega, fun i H2 b0 b1 P2 e2 => ?_⟩
      have hi : i.toNat < xs.length := by omega
      refine rix_of (j := i.toNat) (.inl (SqL.of (by rw [e2 q nqp]; exact h1))) (by omega) (List.getElem?_eq_getElem hi) ?_
      exact k _ H2 P2 ((Kp.same s1).trans (kp1 e2)) ((t1 _ (List.getElem_mem hi)).kp (kp1 e2) P1)
end
end K11

set_option Elab.async false
set_option linter.all false
set_option maxRecDepth 100000
set_option maxHeartbeats 4000000
namespace K11
open PySem L2
theorem row_dm {H : Hp} {ro : Addr} {r : Row} (h : RowAt H ro r) (n1 : NameP r.1) (n2 : NameP r.2.1) (n3 : NameP r.2.2) : DM 3 100 0 (.ref ro) H := by
  refine ⟨ro, _, [.str r.1, .str r.2.1, .str r.2.2], rfl, h, .cons (.str _) (.cons (.str _) (.cons (.str _) .nil)), fun d hd => ?_, Nat.le_refl _⟩
  have key : ∀ {s : Str}, NameP s → Bd 100 0 (.str s) := fun {s} hs => by
    obtain ⟨d, dv, b⟩ := DY.name (H := H) hs
    cases dv
    exact b
  simp at hd
  rcases hd with rfl | rfl | rfl
  · exact ⟨key n1, fun i e => by cases e⟩
  · exact ⟨key n2, fun i e => by cases e⟩
  · exact ⟨key n3, fun i e => by cases e⟩
section
variable {P : Program} {w : World} {K : PySem.W.Frag} {mg : Str → Option Value} {base : Heap}
noncomputable def spORow : Sp := fun vs H Q _ => ∃ (p pa ro : Addr) (ps : List Str) (r : Row), vs = [.ref p, .ref pa, .ref ro] ∧ Pot H p ∧ H pa = some (.tup (ps.map V.str)) ∧ ps ≠ [] ∧ ps.length ≤ 20 ∧ (∀ x ∈ ps, NameP x) ∧ RowAt H ro r ∧ NameP r.1 ∧ NameP r.2.1 ∧ NameP r.2.2 ∧
  ∀ (x : V) (H' : Hp), Pot H' p → Kp [p] H H' → DY 420 2 x H' → Q x H'
noncomputable abbrev N21 : List Str := ["_law_pot_here", "_law_places_here", "_law_row", "_law_tie", "_law_begin", "_law_goal", "_law_odd_here", "_law_place", "_law_some"]
theorem sc21 : FnScope N21 ["_law_pot_here", "_law_places_here", "_law_row"] (defScope (top 21)) := ⟨rfl, rfl, rfl, by decide +kernel, rfl, by decide +kernel, by decide +kernel⟩
theorem ok_orow {f : Addr} {fd : FuncData} (F : Fun K "_law_other_row" "_law_other_row" (top 21) f fd) (B : Bl mg) (Ft : Fn P w K mg base 1 "_law_take" ["_law_pot_here", "_law_many"] spTake) (Fo : Fn P w K mg base 2 "_law_odd" ["_law_pot_here"] spOdd) : FnOk P w K mg base CX0 3 f fd ["_law_pot_here", "_law_places_here", "_law_row"] spORow := by
  refine F.ok sc21 (fun vs H Q E h => ?_) (fun cdv A outer s H vs Q E hr h => ?_)
  · obtain ⟨p, pa, ro, ps, r, rfl, _⟩ := h
    rfl
  · obtain ⟨p, pa, ro, ps, r, rfl, hp, hpa, hne, hpz, pnm, hro, n1, n2, n3, k⟩ := h
    have hr1 : Room 1 _ := hr.mono (by decide)
    have hro' : H ro = some (.tup [.str r.1, .str r.2.1, .str r.2.2]) := hro
    refine' ⟨_, pss_cons ?s1 ?r1, ?main⟩
    case s1 => exact ps_asg (pv 2) (pg_tup rfl (n := 3) (pgs_cons (pg_name (i := 3) sc21.nd rfl (Or.inl rfl)) (pgs_cons (pg_name (i := 4) sc21.nd rfl (Or.inl rfl)) (pgs_cons (pg_name (i := 5) sc21.nd rfl (Or.inl rfl)) pgs_nil))))
    case r1 =>
      refine' pss_cons ?s2 ?r2
      case s2 => exact ps_set (i := 6) sc21.nd rfl (Or.inl rfl) (pe_fn Fo hr (pa_cons (pv 0) pa_nil))
      case r2 =>
        refine' pss_cons ?s3 ?r3
        case s3 => exact ps_set (i := 7) sc21.nd rfl (Or.inl rfl) (pe_ix ix_seq (pv 1) (pe_fn Ft hr1 (pa_cons (pv 0) (pa_cons (pe_callB call_len_seq rfl B.len PySem.boot_len (pa_cons (pv 1) pa_nil)) pa_nil))) (fun _ _ => rfl))
        case r3 =>
          refine' pss_cons ?s4 ?r4
          case s4 =>
            refine' ps_set (i := 8) ?a_nd ?a_x ?a_y ?a_z ?a_hs ?a_hf
            case a_nd => exact sc21.nd
            case a_x => exact rfl
            case a_y => exact Or.inl rfl
            case a_hf => first | exact .inl rfl | exact .inr rfl
            case' a_z => refine' pe_lst ?a_l0
            case' a_l0 => refine' pa_cons ?a_i0 ?a_l1 ?a_h0
            case a_i0 => exact pe_callTy call_list_of rfl B.list b_list (pa_cons (pv 2) pa_nil)
            case a_h0 => exact rfl
            case' a_l1 => refine' pa_cons ?a_i1 ?a_l2 ?a_h1
            case a_i1 => exact pe_op op_catA (pv 2) (pe_tup (pa_cons pe_str pa_nil))
            case a_h1 => exact rfl
            case' a_l2 => refine' pa_cons ?a_i2 ?a_l3 ?a_h2
            case a_i2 => exact pe_slice sl_tupA (pv 2) po_none (po_some pe_int)
            case a_h2 => exact rfl
            case' a_l3 => refine' pa_cons ?a_i3 ?a_l4 ?a_h3
            case a_i3 => exact pe_tup (pa_cons (pv 6) (pa_cons (pv 4) (pa_cons (pv 5) pa_nil)))
            case a_h3 => exact se_T
            case' a_l4 => refine' pa_cons ?a_i4 ?a_l5 ?a_h4
            case a_i4 => exact pe_tup (pa_cons (pv 3) (pa_cons (pv 6) (pa_cons (pv 5) pa_nil)))
            case a_h4 => exact se_T
            case' a_l5 => refine' pa_cons ?a_i5 ?a_l6 ?a_h5
            case a_i5 => exact pe_tup (pa_cons (pv 3) (pa_cons (pv 4) (pa_cons (pv 6) pa_nil)))
            case a_h5 => exact se_T
            case a_l6 => exact pa_nil
            case a_hs => kernel_rfl
          case r4 =>
            refine' pss_cons ?s5 ?r5
            case s5 =>
              refine' ps_set (i := 8) ?b_nd ?b_x ?b_y ?b_z ?b_hs ?b_hf
              case b_nd => exact sc21.nd
              case b_x => exact rfl
              case b_y => exact Or.inl rfl
              case b_hf => first | exact .inl rfl | exact .inr rfl
              case' b_z => refine' pe_op ?b_o ?b_a ?b_b
              case b_o => exact op_cat
              case b_a => exact pv 8
              case' b_b => refine' pe_lst ?b_l0
              case' b_l0 => refine' pa_cons ?b_i0 ?b_l1 ?b_h0
              case b_i0 => exact pe_tup (pa_cons (pv 3) (pa_cons (pv 4) (pa_cons (pv 4) pa_nil)))
              case b_h0 => exact se_T
              case' b_l1 => refine' pa_cons ?b_i1 ?b_l2 ?b_h1
              case b_i1 => exact pe_tup (pa_cons (pv 3) (pa_cons (pv 5) (pa_cons (pv 4) pa_nil)))
              case b_h1 => exact se_T
              case' b_l2 => refine' pa_cons ?b_i2 ?b_l3 ?b_h2
              case b_i2 => exact pe_tup (pa_cons (pv 3) (pa_cons (pv 7) (pa_cons (pv 5) pa_nil)))
              case b_h2 => exact se_T
              case' b_l3 => refine' pa_cons ?b_i3 ?b_l4 ?b_h3
              case b_i3 => exact pe_tup (pa_cons (pv 3) (pa_cons (pv 4) (pa_cons (pv 7) pa_nil)))
              case b_h3 => exact se_T
              case' b_l4 => refine' pa_cons ?b_i4 ?b_l5 ?b_h4
              case b_i4 => exact pv 6
              case b_h4 => exact rfl
              case' b_l5 => refine' pa_cons ?b_i5 ?b_l6 ?b_h5
              case b_i5 => exact pe_tup (pa_cons (pv 2) pa_nil)
              case b_h5 => exact se_T
              case b_l6 => exact pa_nil
              case b_hs => kernel_rfl
            case r5 => exact pss_one (ps_ret (pe_ix ix_seq (pv 8) (pe_fn Ft hr1 (pa_cons (pv 0) (pa_cons (pe_callB call_len_seq rfl B.len PySem.boot_len (pa_cons (pv 8) pa_nil)) pa_nil))) (fun _ _ => rfl)))
    case main =>
      refine ⟨_, rfl, ro, _, rfl, SqT.of hro', rfl, _, _, rfl, _, _, rfl, _, _, rfl, rfl, ?_⟩
      refine ⟨_, rfl, p, rfl, hp, fun od H1 P1 K1 hod => ?_⟩
      have pa1 := K1.tup hp hpa
      have hpl : 0 < ps.length := by
        cases hc : ps with
        | nil => exact absurd hc hne
        | cons _ _ => simp
      refine ⟨_, rfl, _, rfl, _, rfl, pa, _, rfl, .inr (SqT.of pa1), p, _, rfl, P1, by rw [List.length_map]; omega, by rw [List.length_map]; omega, fun j H2 j0 j1 P2 e2 => ?_⟩
      rw [List.length_map] at j1
      have hj : j.toNat < ps.length := by omega
      have K2 := kp1 e2
      refine rix_of (j := j.toNat) (.inr (SqT.of (K2.tup P1 pa1))) (by omega) (strAt hj) ?_
      have npl := pnm _ (List.getElem_mem hj)
      generalize ps[j.toNat] = pl at npl ⊢
      have hod2 := hod.kp K2 P1
      have ro2 : RowAt H2 ro r := (K1.trans K2).tup hp hro'
      have dm := row_dm ro2 n1 n2 n3
      have yr : ∀ (v : Option V) (Hx : Hp), Same H2 Hx → Yd (tVar 2) [some (.ref p), some (.ref pa), some (.ref ro), some (.str r.1), some (.str r.2.1), some (.str r.2.2), some od, some (.str pl), v] Hx (DM 3 100 0) := fun v Hx sx => .var rfl fun H' s' => DM.keeps _ _ _ dm (sx.trans s')
      have yt : ∀ (v : Option V) (Hx : Hp), Same H2 Hx → Yd (tVar 2) [some (.ref p), some (.ref pa), some (.ref ro), some (.str r.1), some (.str r.2.1), some (.str r.2.2), some od, some (.str pl), v] Hx (DT 3 100 0) := fun v Hx sx => (yr v Hx sx).imp fun x H' z => z.dt
      have y3 : ∀ (v : Option V) (Hx : Hp), Yd (tVar 3) [some (.ref p), some (.ref pa), some (.ref ro), some (.str r.1), some (.str r.2.1), some (.str r.2.2), some od, some (.str pl), v] Hx (DY 110 1) := fun v Hx => .var rfl fun H' s' => (DY.name n1).mono (by decide) (by decide)
      have y4 : ∀ (v : Option V) (Hx : Hp), Yd (tVar 4) [some (.ref p), some (.ref pa), some (.ref ro), some (.str r.1), some (.str r.2.1), some (.str r.2.2), some od, some (.str pl), v] Hx (DY 110 1) := fun v Hx => .var rfl fun H' s' => (DY.name n2).mono (by decide) (by decide)
      have y5 : ∀ (v : Option V) (Hx : Hp), Yd (tVar 5) [some (.ref p), some (.ref pa), some (.ref ro), some (.str r.1), some (.str r.2.1), some (.str r.2.2), some od, some (.str pl), v] Hx (DY 110 1) := fun v Hx => .var rfl fun H' s' => (DY.name n3).mono (by decide) (by decide)
      have y6 : ∀ (v : Option V) (Hx : Hp), Same H2 Hx → Yd (tVar 6) [some (.ref p), some (.ref pa), some (.ref ro), some (.str r.1), some (.str r.2.1), some (.str r.2.2), some od, some (.str pl), v] Hx (DY 110 1) := fun v Hx sx => .var rfl fun H' s' => DY.keeps _ _ _ hod2 (sx.trans s')
      have y7 : ∀ (v : Option V) (Hx : Hp), Yd (tVar 7) [some (.ref p), some (.ref pa), some (.ref ro), some (.str r.1), some (.str r.2.1), some (.str r.2.2), some od, some (.str pl), v] Hx (DY 110 1) := fun v Hx => .var rfl fun H' s' => (DY.name npl).mono (by decide) (by decide)
      have t3 : ∀ {i j m : Nat} (v : Option V) (Hx : Hp), Yd (tVar i) [some (.ref p), some (.ref pa), some (.ref ro), some (.str r.1), some (.str r.2.1), some (.str r.2.2), some od, some (.str pl), v] Hx (DY 110 1) → Yd (tVar j) [some (.ref p), some (.ref pa), some (.ref ro), some (.str r.1), some (.str r.2.1), some (.str r.2.2), some od, some (.str pl), v] Hx (DY 110 1) → Yd (tVar m) [some (.ref p), some (.ref pa), some (.ref ro), some (.str r.1), some (.str r.2.1), some (.str r.2.2), some od, some (.str pl), v] Hx (DY 110 1) → Yd (tTup (tCons (tVar i) (tCons (tVar j) (tCons (tVar m) tNil)))) [some (.ref p), some (.ref pa), some (.ref ro), some (.str r.1), some (.str r.2.1), some (.str r.2.2), some od, some (.str pl), v] Hx (DY 420 2) := fun v Hx a b c =>
        (Yd.tup (.cons DY.keeps a (.cons DY.keeps b (.cons DY.keeps c .nil))) (by decide)).dy (by decide) (by decide) (by decide)
      have ya : ∀ (v : Option V) (Hx : Hp), Yd (tTup (tCons (tC (.str (Str.ofString "a"))) tNil)) [some (.ref p), some (.ref pa), some (.ref ro), some (.str r.1), some (.str r.2.1), some (.str r.2.2), some od, some (.str pl), v] Hx (DT 1 100 0) := fun v Hx => Yd.tup (.cons DY.keeps (.con fun _ => .str (Str.ofString "a") ⟨by decide +kernel, by decide +kernel⟩ (by decide +kernel)) .nil) (by decide)
      have a1 := fun (v : Option V) (Hx : Hp) (sx : Same H2 Hx) => Ya.cons DY.keeps (((yr v Hx sx).lst (K := K) (by decide)).dmono (by decide) (by decide) : Yd _ [some (.ref p), some (.ref pa), some (.ref ro), some (.str r.1), some (.str r.2.1), some (.str r.2.2), some od, some (.str pl), v] Hx (DY 420 2))
        (Ya.cons DY.keeps (((yt v Hx sx).cat (K := K) (ya v Hx) (by decide)).dy (by decide) (by decide) (by decide))
        (Ya.cons DY.keeps (((yt v Hx sx).cut (K := K) (hi := tPart (tC (.int 2))) .none (.some 2 fun H Q h => h)).dy (by decide) (by decide) (by decide))
        (Ya.cons DY.keeps (t3 v Hx (y6 v Hx sx) (y4 v Hx) (y5 v Hx)) (Ya.cons DY.keeps (t3 v Hx (y3 v Hx) (y6 v Hx sx) (y5 v Hx)) (Ya.cons DY.keeps (t3 v Hx (y3 v Hx) (y4 v Hx) (y6 v Hx sx)) .nil)))))
      have a2 := fun (v : Option V) (Hx : Hp) (sx : Same H2 Hx) => Ya.cons DY.keeps (t3 v Hx (y3 v Hx) (y4 v Hx) (y4 v Hx)) (Ya.cons DY.keeps (t3 v Hx (y3 v Hx) (y5 v Hx) (y4 v Hx)) (Ya.cons DY.keeps (t3 v Hx (y3 v Hx) (y7 v Hx) (y5 v Hx)) (Ya.cons DY.keeps (t3 v Hx (y3 v Hx) (y4 v Hx) (y7 v Hx))
        (Ya.cons DY.keeps ((y6 v Hx sx).dmono (by decide) (by decide)) (Ya.cons DY.keeps ((Yd.tup (B := 309) (D := 1) (.cons DY.keeps ((yt v Hx sx).dy (by decide) (by decide) (by decide)) .nil) (by decide)).dy (by decide) (by decide) (by decide)) .nil)))))
      unfold gName
      dsimp only
      refine sq_lst DY.keeps (a1 none H2 (Same.refl _)) (by decide) fun q4 xs H4 s4 h4 t4 l4 n4 => ?_
      refine sq_cat DY.keeps (q := q4) rfl h4 t4 (a2 (some (.ref q4)) H4 s4) (by omega) fun q5 us H5 s5 h5 t5 l5 n5 => ?_
      have P4 := P2.same s4
      have nqp : q5 ≠ p := fun z => by obtain ⟨o, e⟩ := P4.some; rw [← z, n5] at e; cases e
      have P5 := P4.same s5
      refine ⟨_, rfl, _, rfl, _, rfl, q5, _, rfl, .inl (SqL.of h5), p, _, rfl, P5, by omega, by omega, fun i H6 b0 b1 P6 e6 => ?_⟩
      have hi : i.toNat < us.length := by omega
      refine rix_of (j := i.toNat) (.inl (SqL.of (by rw [e6 q5 nqp]; exact h5))) (by omega) (List.getElem?_eq_getElem hi) ?_
      exact k _ H6 P6 ((K1.trans K2).trans ((Kp.same (s4.trans s5)).trans (kp1 e6))) ((t5 _ (List.getElem_mem hi)).kp (kp1 e6) P5)
end
end K11

set_option Elab.async false
set_option linter.all false
set_option maxRecDepth 100000
set_option maxHeartbeats 4000000
namespace K11
open PySem L2
noncomputable def rowD (r : Row) : PyData := .tuple [.str r.1, .str r.2.1, .str r.2.2]
theorem rowsDV {H : Hp} : ∀ {rs : List (Addr × Row)}, (∀ r ∈ rs, RowAt H r.1 r.2) → DVs H (rrefs rs) ((rs.map (·.2)).map rowD)
  | [], _ => .nil
  | r :: t, h => .cons (.tup (h r List.mem_cons_self) (.cons (.str _) (.cons (.str _) (.cons (.str _) .nil)))) (rowsDV fun x hx => h x (List.mem_cons_of_mem _ hx))
theorem lay_rows : ∀ {rows : List Row}, (∀ r ∈ rows, NameP r.1 ∧ NameP r.2.1 ∧ NameP r.2.2) → PyData.canLayAll0 (rows.map rowD) = true ∧ PyData.depthAll (rows.map rowD) ≤ 1
  | [], _ => ⟨rfl, Nat.zero_le _⟩
  | r :: t, h => by
    have ih := lay_rows (rows := t) fun x hx => h x (List.mem_cons_of_mem _ hx)
    obtain ⟨a, b, c⟩ := h r List.mem_cons_self
    rw [List.map_cons]
    have i2 := ih.2
    simp only [PyData.canLayAll0, PyData.canLay0, PyData.depthAll, PyData.depth, rowD, strOk_of a, strOk_of b, strOk_of c, ih.1]
    exact ⟨rfl, by omega⟩
theorem ret_yd {te : TE} {f : V → Hp → Prop} {D : Ends} {σ : St} {H : Hp} (h : Yd te σ H f) (k : ∀ x H2, Same H H2 → f x H2 → D.rt x H2) : tRet te D σ H := h H (Same.refl _) _ k
theorem row_bd {r : Row} (n1 : NameP r.1) (n2 : NameP r.2.1) (n3 : NameP r.2.2) : Bd 309 1 (rowD r) := by
  have key : ∀ {s : Str}, NameP s → Bd 100 0 (.str s) := fun {s} hs => by
    obtain ⟨d, dv, b⟩ := DY.name (H := fun _ => none) hs
    cases dv
    exact b
  refine (Bd.tup (n := 3) (B := 100) (D := 0) (ds := [.str r.1, .str r.2.1, .str r.2.2]) (fun d hd => ?_) (Nat.le_refl _) (by decide) : Bd (3 + 3 * (100 + 2)) (0 + 1) _)
  simp at hd
  rcases hd with rfl | rfl | rfl
  · exact key n1
  · exact key n2
  · exact key n3
/-- tuples known to the item -/
noncomputable def TX (ys : List V) (es : List PyData) (x : V) (H : Hp) : Prop := ∃ p, x = .ref p ∧ H p = some (.tup ys) ∧ DVs H ys es
theorem cut_to (xs : List V) (k : Nat) : cutV xs none (some (k : Int)) = xs.take k := by
  unfold cutV
  rw [HT.sIx_none, HT.sIx_nat, List.drop_zero, Nat.sub_zero]
  rcases Nat.le_total k xs.length with h | h
  · rw [Nat.min_eq_left h]
  · rw [Nat.min_eq_right h, List.take_length, List.take_of_length_le h]
theorem cut_from (xs : List V) (k : Nat) : cutV xs (some (k : Int)) none = xs.drop k := by
  unfold cutV
  rw [HT.sIx_none, HT.sIx_nat]
  rcases Nat.le_total k xs.length with h | h
  · rw [Nat.min_eq_left h, List.take_of_length_le (by rw [List.length_drop]; omega)]
  · rw [Nat.min_eq_right h, Nat.sub_self, List.take_zero, List.drop_of_length_le h]
theorem Yd.takeX {K : PySem.W.Frag} {te th : TE} {σ : St} {H : Hp} {xs : List V} {ds : List PyData} (k : Nat) (h : Yd te σ H (TX xs ds)) (hk : ∀ H Q, Q (.int k) H → th σ H Q) : Yd (tSl (rSlA K) te tNoPart (tPart th)) σ H (TX (xs.take k) (ds.take k)) := fun H' s Q kk => h H' s _ fun x H1 s1 hx => by
  obtain ⟨p, rfl, h1, h2⟩ := hx
  refine hk _ _ ⟨_, rfl, p, xs, rfl, SqT.of h1, fun e => ?_, fun q hq => ?_⟩
  · rw [cut_to] at e
    refine kk _ _ s1 ⟨p, rfl, by rw [e]; exact h1, DVs.take k h2⟩
  · rw [cut_to]
    have s2 := same_upd (o := .tup (xs.take k)) (Same.refl H1) hq
    exact kk _ _ (s1.trans s2) ⟨q, rfl, upd_same, DVs.same s2 (DVs.take k h2)⟩
theorem Yd.dropX {K : PySem.W.Frag} {te tl : TE} {σ : St} {H : Hp} {xs : List V} {ds : List PyData} (k : Nat) (h : Yd te σ H (TX xs ds)) (hk : ∀ H Q, Q (.int k) H → tl σ H Q) : Yd (tSl (rSlA K) te (tPart tl) tNoPart) σ H (TX (xs.drop k) (ds.drop k)) := fun H' s Q kk => h H' s _ fun x H1 s1 hx => by
  obtain ⟨p, rfl, h1, h2⟩ := hx
  refine hk _ _ ⟨_, rfl, p, xs, rfl, SqT.of h1, fun e => ?_, fun q hq => ?_⟩
  · rw [cut_from] at e
    refine kk _ _ s1 ⟨p, rfl, by rw [e]; exact h1, DVs.drop k h2⟩
  · rw [cut_from]
    have s2 := same_upd (o := .tup (xs.drop k)) (Same.refl H1) hq
    exact kk _ _ (s1.trans s2) ⟨q, rfl, upd_same, DVs.same s2 (DVs.drop k h2)⟩
theorem Yd.catX {K : PySem.W.Frag} {ta tb : TE} {σ : St} {H : Hp} {xs ys : List V} {ds es : List PyData} (ha : Yd ta σ H (TX xs ds)) (hb : Yd tb σ H (TX ys es)) (hz : xs.length + ys.length ≤ 900) : Yd (tOp (rCatA K) ta tb) σ H (TX (xs ++ ys) (ds ++ es)) := fun H' s Q k => ha H' s _ fun x H1 s1 hx => hb H1 (s.trans s1) _ fun y H2 s2 hy => by
  obtain ⟨p, rfl, h1, h2⟩ := hx
  obtain ⟨q, rfl, g1, g2⟩ := hy
  exact rcat_tup (s2 _ _ h1) g1 (Nat.le_of_lt (fits (by omega))) fun r H3 s3 hr => k _ _ (s1.trans (s2.trans s3)) ⟨r, rfl, hr, DVs.append (DVs.same (s2.trans s3) h2) (DVs.same s3 g2)⟩
theorem Yd.ofX {t : TE} {σ : St} {H : Hp} {xs : List V} {ds : List PyData} {n B D B' D' : Nat} (h : Yd t σ H (TX xs ds)) (hb : ∀ d ∈ ds, Bd B D d) (hl : ds.length ≤ n) (hn : n ≤ 60) (hB : 3 + n * (B + 2) ≤ B') (hD : D + 1 ≤ D') : Yd t σ H (DY B' D') := h.imp fun x H' z => by
  obtain ⟨p, rfl, h1, h2⟩ := z
  exact ⟨.tuple ds, .tup h1 h2, (Bd.tup hb hl hn).mono hB hD⟩
section
variable {P : Program} {w : World} {K : PySem.W.Frag} {mg : Str → Option Value} {base : Heap}
noncomputable def spORows : Sp := fun vs H Q _ => ∃ (p pa ra : Addr) (ps : List Str) (rs : List (Addr × Row)), vs = [.ref p, .ref pa, .ref ra] ∧ Pot H p ∧ H pa = some (.tup (ps.map V.str)) ∧ ps ≠ [] ∧ ps.length ≤ 20 ∧ (∀ x ∈ ps, NameP x) ∧ H ra = some (.tup (rrefs rs)) ∧ (∀ r ∈ rs, RowAt H r.1 r.2) ∧ (∀ r ∈ rs, NameP r.2.1 ∧ NameP r.2.2.1 ∧ NameP r.2.2.2) ∧ rs.length ≤ 40 ∧
  ∀ (x : V) (H' : Hp), Pot H' p → Kp [p] H H' → DY 18000 4 x H' → Q x H'
noncomputable abbrev N22 : List Str := ["_law_pot_here", "_law_places_here", "_law_rows", "_law_at_here", "_law_way", "_law_new"]
theorem sc22 : FnScope N22 ["_law_pot_here", "_law_places_here", "_law_rows"] (defScope (top 22)) := ⟨rfl, rfl, rfl, by decide +kernel, rfl, by decide +kernel, by decide +kernel⟩
theorem ok_orows {f : Addr} {fd : FuncData} (F : Fun K "_law_other_rows" "_law_other_rows" (top 22) f fd) (B : Bl mg) (Ft : Fn P w K mg base 1 "_law_take" ["_law_pot_here", "_law_many"] spTake) (Fo : Fn P w K mg base 2 "_law_odd" ["_law_pot_here"] spOdd) (Fr : Fn P w K mg base 3 "_law_other_row" ["_law_pot_here", "_law_places_here", "_law_row"] spORow) : FnOk P w K mg base CX0 4 f fd ["_law_pot_here", "_law_places_here", "_law_rows"] spORows := by
  refine F.ok sc22 (fun vs H Q E h => ?_) (fun cdv A outer s H vs Q E hr h => ?_)
  · obtain ⟨p, pa, ra, ps, rs, rfl, _⟩ := h
    rfl
  · obtain ⟨p, pa, ra, ps, rs, rfl, hp, hpa, hne, hpz, pnm, hra, hro, rnm, hrz, k⟩ := h
    have hr1 : Room 1 _ := hr.mono (by decide)
    have hr2 : Room 2 _ := hr.mono (by decide)
    refine ⟨_, pss_cons (ps_if (pt_cmpR (op_eqD hr) (pv 2) (pe_tup pa_nil) (nomark _)) (pss_one (ps_ret (pe_ix ix_seq (pe_lst (pa_cons (pe_tup (pa_cons (pe_tup (pa_cons (pe_fn Fo hr2 (pa_cons (pv 0) pa_nil)) (pa_cons (pe_ix ix_seq (pv 1) pe_int (fun _ _ => rfl)) (pa_cons (pe_ix ix_seq (pv 1) (pe_un un_neg pe_int) (fun _ _ => rfl)) pa_nil)))) pa_nil))
          (pa_cons (pe_lst pa_nil) (pa_cons pe_non (pa_cons (pe_tup (pa_cons (pe_tup pa_nil) pa_nil)) pa_nil))))) (pe_fn Ft hr1 (pa_cons (pv 0) (pa_cons pe_int pa_nil))) (fun _ _ => rfl)))) pss_nil)
      (pss_cons (ps_set (i := 3) sc22.nd rfl (Or.inl rfl) (pe_fn Ft hr1 (pa_cons (pv 0) (pa_cons (pe_callB call_len_seq rfl B.len PySem.boot_len (pa_cons (pv 2) pa_nil)) pa_nil))))
      (pss_cons (ps_set (i := 4) sc22.nd rfl (Or.inl rfl) (pe_fn Ft hr1 (pa_cons (pv 0) (pa_cons pe_int pa_nil))))
      (pss_cons (ps_if (pt_cmpR op_eq (pv 4) pe_int (nomark _)) (pss_one (ps_ret (pe_revT (fun o i => [o, i]) (pv 2) (po_some (pe_un un_neg pe_int)) (fun _ _ => by with_unfolding_all rfl)))) pss_nil)
      (pss_cons (ps_if (pt_cmpR op_eq (pv 4) pe_int (nomark _)) (pss_one (ps_ret (pe_op op_catA (pe_slice sl_tupA (pv 2) po_none (po_some (pe_op op_add (pv 3) pe_int))) (pe_slice sl_tupA (pv 2) (po_some (pv 3)) po_none)))) pss_nil)
      (pss_cons (ps_if (pt_cmpR op_eq (pv 4) pe_int (nomark _)) (pss_one (ps_ret (pe_callTy call_list_of rfl B.list b_list (pa_cons (pv 2) pa_nil)))) pss_nil)
      (pss_cons (ps_if (pt_cmpR op_eq (pv 4) pe_int (nomark _)) (pss_one (ps_ret (pe_op op_catA (pe_slice sl_tupA (pv 2) (po_some (pv 3)) po_none) (pe_slice sl_tupA (pv 2) po_none (po_some (pv 3)))))) pss_nil)
      (pss_cons (ps_set (i := 5) sc22.nd rfl (Or.inl rfl) (pe_fn Fr hr (pa_cons (pv 0) (pa_cons (pv 1) (pa_cons (pe_ix ix_seq (pv 2) (pv 3) (fun _ _ => rfl)) pa_nil)))))
      (pss_one (ps_ret (pe_op op_catA (pe_op op_catA (pe_slice sl_tupA (pv 2) po_none (po_some (pv 3))) (pe_tup (pa_cons (pv 5) pa_nil))) (pe_slice sl_tupA (pv 2) (po_some (pe_op op_add (pv 3) pe_int)) po_none))))))))))), ?_⟩
    have rdv : DVs H (rrefs rs) ((rs.map (·.2)).map rowD) := rowsDV hro
    have rbd : ∀ d ∈ (rs.map (·.2)).map rowD, Bd 309 1 d ∧ ∀ i, d ≠ .int i := fun d hd => by
      obtain ⟨r, hr', rfl⟩ := List.mem_map.mp hd
      obtain ⟨t, ht, rfl⟩ := List.mem_map.mp hr'
      obtain ⟨a, b, c⟩ := rnm t ht
      exact ⟨row_bd a b c, fun i e => by unfold rowD at e; cases e⟩
    have hpl : 0 < ps.length := by
      cases hc : ps with
      | nil => exact absurd hc hne
      | cons _ _ => simp
    refine ⟨_, rfl, Nat.zero_le _, fun u hu => ?_⟩
    have s1 := same_upd (o := .tup []) (Same.refl H) hu
    have u1 : upd H u (.tup []) u = some (.tup []) := upd_same
    generalize upd H u (.tup []) = H1 at s1 u1 ⊢
    have P1 := hp.same s1
    have lr := lay_rows (rows := rs.map (·.2)) fun r hr' => by
      obtain ⟨t, ht, rfl⟩ := List.mem_map.mp hr'
      exact rnm t ht
    have sh : SeqAt.shaped (.tuple ((rs.map (·.2)).map rowD)) = true := by
      have hc : (PyData.tuple ((rs.map (·.2)).map rowD)).canLay0 = true := by simp only [PyData.canLay0, lr.1]
      have hd : (PyData.tuple ((rs.map (·.2)).map rowD)).depth ≤ 2 := by simp only [PyData.depth]; have := lr.2; omega
      unfold SeqAt.shaped
      rw [hc, decide_eq_true (by omega)]
      rfl
    refine ⟨_, _, .tup (s1 _ _ hra) (DVs.same s1 rdv), .tup u1 .nil, sh, by decide +kernel, _, rfl, ?_⟩
    by_cases c0 : rs = []
    · subst c0
      have e : PyData.eqv (.tuple ((([] : List (Addr × Row)).map (·.2)).map rowD)) (.tuple []) = true := by decide +kernel
      rw [e]
      refine iteT ?_
      refine ⟨_, rfl, p, rfl, P1, fun od H2 P2 K2 hod => ?_⟩
      have pa2 : H2 pa = some (.tup (ps.map V.str)) := K2.tup P1 (s1 _ _ hpa)
      obtain ⟨pi, pl, epl⟩ : ∃ pi pl, ps = pi ++ [pl] := ⟨ps.dropLast, ps.getLast hne, (List.dropLast_concat_getLast hne).symm⟩
      refine ⟨_, rfl, rix_of (j := 0) (.inr (SqT.of pa2)) rfl (strAt hpl) ⟨_, rfl, _, rfl, .inr (.inl ⟨pa, ps.map V.str, -1, .str pl, rfl, rfl, SqT.of pa2, by rw [epl, List.map_append]; exact atI_last _ _, ?_⟩)⟩⟩
      have n0 := pnm _ (List.getElem_mem hpl)
      have nl := pnm pl (by rw [epl]; simp)
      generalize ps[0] = p0 at n0 ⊢
      -- the tuple of three, the tuple of it
      refine ⟨by show 3 ≤ sizeLine; decide, fun t3 ht3 => ⟨by show 1 ≤ sizeLine; decide, fun t4 ht4 => ?_⟩⟩
      have s3 := same_upd (o := .tup [od, .str p0, .str pl]) (Same.refl H2) ht3
      have h3 : upd H2 t3 (.tup [od, .str p0, .str pl]) t3 = some (.tup [od, .str p0, .str pl]) := upd_same
      generalize upd H2 t3 (.tup [od, .str p0, .str pl]) = H3 at s3 h3 ht4 ⊢
      have s4 := same_upd (o := .tup [.ref t3]) (Same.refl H3) ht4
      have h4 : upd H3 t4 (.tup [.ref t3]) t4 = some (.tup [.ref t3]) := upd_same
      generalize upd H3 t4 (.tup [.ref t3]) = H4 at s4 h4 ⊢
      have y4 : DY 18000 4 (.ref t4) H4 := by
        obtain ⟨dd, dv, bd⟩ := hod
        obtain ⟨e1, f1, g1⟩ := DY.name (H := H3) n0
        obtain ⟨e2, f2, g2⟩ := DY.name (H := H3) nl
        have b3 : Bd 339 2 (.tuple [dd, e1, e2]) := Bd.tup (n := 3) (B := 110) (D := 1) (fun d hd => by
          simp at hd
          rcases hd with rfl | rfl | rfl
          · exact bd
          · exact g1.mono (by decide) (by decide)
          · exact g2.mono (by decide) (by decide)) (Nat.le_refl _) (by decide)
        have b4 : Bd 344 3 (.tuple [.tuple [dd, e1, e2]]) := Bd.tup (n := 1) (B := 339) (D := 2) (fun d hd => by
          simp at hd; rw [hd]; exact b3) (Nat.le_refl _) (by decide)
        exact ⟨_, .tup h4 (.cons (.tup (s4 _ _ h3) (.cons (DV.same (s3.trans s4) dv) (.cons (DV.same s4 f1) (.cons (DV.same s4 f2) .nil)))) .nil), b4.mono (by decide) (by decide)⟩
      refine ⟨Nat.zero_le _, fun t5 ht5 => ?_⟩
      have s5 := same_upd (o := .lst []) (Same.refl H4) ht5
      have h5 : upd H4 t5 (.lst []) t5 = some (.lst []) := upd_same
      generalize upd H4 t5 (.lst []) = H5 at s5 h5 ⊢
      refine ⟨Nat.zero_le _, fun t6 ht6 => ⟨by show 1 ≤ sizeLine; decide, fun t7 ht7 => ?_⟩⟩
      have s6 := same_upd (o := .tup []) (Same.refl H5) ht6
      have h6 : upd H5 t6 (.tup []) t6 = some (.tup []) := upd_same
      generalize upd H5 t6 (.tup []) = H6 at s6 h6 ht7 ⊢
      have s7 := same_upd (o := .tup [.ref t6]) (Same.refl H6) ht7
      have h7 : upd H6 t7 (.tup [.ref t6]) t7 = some (.tup [.ref t6]) := upd_same
      generalize upd H6 t7 (.tup [.ref t6]) = H7 at s7 h7 ⊢
      refine ⟨by show 4 ≤ sizeLine; decide, fun l8 hl8 => ?_⟩
      have s8 := same_upd (o := .lst [.ref t4, .ref t5, .non, .ref t7]) (Same.refl H7) hl8
      have h8 : upd H7 l8 (.lst [.ref t4, .ref t5, .non, .ref t7]) l8 = some (.lst [.ref t4, .ref t5, .non, .ref t7]) := upd_same
      have s28 := s3.trans (s4.trans (s5.trans (s6.trans s7)))
      have P7 := P2.same s28
      have nlp : l8 ≠ p := fun z => by obtain ⟨o, e⟩ := P7.some; rw [← z, hl8] at e; cases e
      generalize upd H7 l8 (.lst [.ref t4, .ref t5, .non, .ref t7]) = H8 at s8 h8 ⊢
      have P8 := P7.same s8
      have all : ∀ x ∈ [V.ref t4, .ref t5, .non, .ref t7], DY 18000 4 x H8 := fun x hx => by
        simp at hx
        rcases hx with rfl | rfl | rfl | rfl
        · exact DY.keeps _ _ _ y4 (s5.trans (s6.trans (s7.trans s8)))
        · exact ⟨.list [], .lst ((s6.trans (s7.trans s8)) _ _ h5) .nil, (Bd.lst (n := 0) (B := 0) (D := 0) (by simp) (Nat.le_refl _) (by decide) (fun i j e => by cases e)).mono (by decide) (by decide)⟩
        · exact DY.non.mono (by decide) (by decide)
        · have b0 : Bd 3 1 (.tuple []) := Bd.tup (n := 0) (B := 0) (D := 0) (by simp) (Nat.le_refl _) (by decide)
          exact ⟨.tuple [.tuple []], .tup (s8 _ _ h7) (.cons (.tup ((s7.trans s8) _ _ h6) .nil) .nil), (Bd.tup (n := 1) (B := 3) (D := 1) (fun d hd => by simp at hd; rw [hd]; exact b0) (Nat.le_refl _) (by decide)).mono (by decide) (by decide)⟩
      have ul : [V.ref t4, .ref t5, .non, .ref t7].length = 4 := rfl
      generalize [V.ref t4, .ref t5, .non, .ref t7] = us at h8 all ul ⊢
      refine ⟨_, rfl, p, _, rfl, P8, by decide, by decide, fun i H9 b0 b1 P9 e9 => ?_⟩
      have hi : i.toNat < us.length := by omega
      refine rix_of (j := i.toNat) (.inl (SqL.of (by rw [e9 l8 nlp]; exact h8))) (by omega) (List.getElem?_eq_getElem hi) ?_
      exact k _ H9 P9 ((Kp.same s1).trans (K2.trans ((Kp.same (s28.trans s8)).trans (kp1 e9)))) ((all _ (List.getElem_mem hi)).kp (kp1 e9) P8)
    have ee : PyData.eqv (.tuple ((rs.map (·.2)).map rowD)) (.tuple []) = false := by
      cases rs with
      | nil => exact absurd rfl c0
      | cons r t => simp [PyData.eqv, PyData.eqvAll]
    rw [ee]
    refine iteF ?_
    have hrl : 0 < rs.length := by
      cases hc : rs with
      | nil => exact absurd hc c0
      | cons _ _ => simp
    refine ⟨_, rfl, _, rfl, ra, _, rfl, .inr (SqT.of (s1 _ _ hra)), p, _, rfl, P1, by simp; omega, by simp; omega, fun at_ H2 a0 a1 P2 e2 => ?_⟩
    refine ⟨_, rfl, p, _, rfl, P2, by decide, by decide, fun way H3 w0 w1 P3 e3 => ?_⟩
    have K3 : Kp [p] H H3 := (Kp.same s1).trans ((kp1 e2).trans (kp1 e3))
    obtain ⟨n, rfl⟩ := Int.eq_ofNat_of_zero_le a0
    have hn : n < rs.length := by simp at a1; omega
    have ra3 := K3.tup hp hra
    have pa3 := K3.tup hp hpa
    have rdv3 : DVs H3 (rrefs rs) ((rs.map (·.2)).map rowD) := DVs.kp K3 hp rdv fun d hd => (rbd d hd).1.ok
    have rl : ((rs.map (·.2)).map rowD).length = rs.length := by simp
    have xl : (rrefs rs).length = rs.length := by simp
    have yX : ∀ (v : Option V) (Hx : Hp), Same H3 Hx → Yd (tVar 2) [some (.ref p), some (.ref pa), some (.ref ra), some (.int (n : Int)), some (.int way), v] Hx (TX (rrefs rs) ((rs.map (·.2)).map rowD)) := fun v Hx sx => .var rfl fun H' s' => ⟨ra, rfl, s' _ _ (sx _ _ ra3), DVs.same (sx.trans s') rdv3⟩
    have yT : Yd (tVar 2) [some (.ref p), some (.ref pa), some (.ref ra), some (.int (n : Int)), some (.int way), none] H3 (DT 40 309 1) := (yX none H3 (Same.refl _)).imp fun x H' z => by
      obtain ⟨q, e, h1, h2⟩ := z
      exact ⟨q, _, _, e, h1, h2, fun d hd => (rbd d hd).1, by omega⟩
    have yM : Yd (tVar 2) [some (.ref p), some (.ref pa), some (.ref ra), some (.int (n : Int)), some (.int way), none] H3 (DM 40 309 1) := (yX none H3 (Same.refl _)).imp fun x H' z => by
      obtain ⟨q, e, h1, h2⟩ := z
      exact ⟨q, _, _, e, h1, h2, rbd, by omega⟩
    have bdm : ∀ d ∈ (rs.map (·.2)).map rowD, Bd 420 2 d := fun d hd => (rbd d hd).1.mono (by decide) (by decide)
    have fin : ∀ x H4, Same H3 H4 → DY 18000 4 x H4 → Q x H4 := fun x H4 s4 hx => k x H4 (P3.same s4) (K3.trans (Kp.same s4)) hx
    refine ⟨_, rfl, rfl, _, rfl, ite2 (fun _ => ?_) (fun _ => ?_)⟩
    · exact ret_yd ((yT.rev (K := K) (tk := tPart (tUn (rU fun i => .int (-i)) (tC (.int 1)))) fun H Q h => ⟨1, rfl, _, rfl, h⟩).dy (B' := 18000) (D' := 4) (by decide) (by decide) (by decide)) fin
    refine ⟨_, rfl, rfl, _, rfl, ite2 (fun _ => ?_) (fun _ => ?_)⟩
    · refine ret_yd ((((yX none H3 (Same.refl _)).takeX (K := K) (th := tOp (rI0 fun i j => .int (i + j)) (tVar 3) (tC (.int 1))) (n + 1) fun H Q h => ⟨_, rfl, n, 1, rfl, rfl, h⟩).catX (K := K) ((yX none H3 (Same.refl _)).dropX (K := K) (tl := tVar 3) n fun H Q h => ⟨_, rfl, h⟩) ?_).ofX (n := 41) (B := 420) (D := 2) (B' := 18000) (D' := 4) ?_ ?_ (by decide) (by decide) (by decide)) fin
      · rw [List.length_take, List.length_drop]; omega
      · intro d hd
        rcases List.mem_append.mp hd with z | z
        · exact bdm d (List.mem_of_mem_take z)
        · exact bdm d (List.mem_of_mem_drop z)
      · rw [List.length_append, List.length_take, List.length_drop]; omega
    refine ⟨_, rfl, rfl, _, rfl, ite2 (fun _ => ?_) (fun _ => ?_)⟩
    · exact ret_yd ((yM.lst (K := K) (by decide)).dmono (B' := 18000) (D' := 4) (by decide) (by decide)) fin
    refine ⟨_, rfl, rfl, _, rfl, ite2 (fun _ => ?_) (fun _ => ?_)⟩
    · refine ret_yd ((((yX none H3 (Same.refl _)).dropX (K := K) (tl := tVar 3) n fun H Q h => ⟨_, rfl, h⟩).catX (K := K) ((yX none H3 (Same.refl _)).takeX (K := K) (th := tVar 3) n fun H Q h => ⟨_, rfl, h⟩) ?_).ofX (n := 41) (B := 420) (D := 2) (B' := 18000) (D' := 4) ?_ ?_ (by decide) (by decide) (by decide)) fin
      · rw [List.length_take, List.length_drop]; omega
      · intro d hd
        rcases List.mem_append.mp hd with z | z
        · exact bdm d (List.mem_of_mem_drop z)
        · exact bdm d (List.mem_of_mem_take z)
      · rw [List.length_append, List.length_take, List.length_drop]; omega
    -- another row
    have hrow := K3.tup hp (hro _ (List.getElem_mem hn))
    obtain ⟨n1, n2, n3⟩ := rnm _ (List.getElem_mem hn)
    have hget : (rrefs rs)[n]? = some (.ref rs[n].1) := by rw [List.getElem?_map, List.getElem?_eq_getElem hn]; rfl
    refine ⟨_, rfl, _, rfl, _, rfl, _, rfl, rix_of (j := n) (.inr (SqT.of ra3)) rfl hget ⟨p, pa, rs[n].1, ps, rs[n].2, rfl, P3, pa3, hne, hpz, pnm, hrow, n1, n2, n3, fun new H4 P4 K4 hnew => ?_⟩⟩
    obtain ⟨dn, dvn, bdn⟩ := hnew
    have ra4 := K4.tup P3 ra3
    have rdv4 : DVs H4 (rrefs rs) ((rs.map (·.2)).map rowD) := DVs.kp K4 P3 rdv3 fun d hd => (rbd d hd).1.ok
    have yX4 : Yd (tVar 2) [some (.ref p), some (.ref pa), some (.ref ra), some (.int (n : Int)), some (.int way), some new] H4 (TX (rrefs rs) ((rs.map (·.2)).map rowD)) := .var rfl fun H' s' => ⟨ra, rfl, s' _ _ ra4, DVs.same s' rdv4⟩
    have yN : Yd (tTup (tCons (tVar 5) tNil)) [some (.ref p), some (.ref pa), some (.ref ra), some (.int (n : Int)), some (.int way), some new] H4 (TX [new] [dn]) := fun H' s' Q' k' => ⟨_, rfl, by show 1 ≤ sizeLine; decide, fun q hq => k' _ _ (same_upd (Same.refl _) hq) ⟨q, rfl, upd_same, .cons (DV.same (same_upd s' hq) dvn) .nil⟩⟩
    refine ret_yd ((((yX4.takeX (K := K) (th := tVar 3) n fun H Q h => ⟨_, rfl, h⟩).catX (K := K) yN ?_).catX (K := K) (yX4.dropX (K := K) (tl := tOp (rI0 fun i j => .int (i + j)) (tVar 3) (tC (.int 1))) (n + 1) fun H Q h => ⟨_, rfl, n, 1, rfl, rfl, h⟩) ?_).ofX (n := 41) (B := 420) (D := 2) (B' := 18000) (D' := 4) ?_ ?_ (by decide) (by decide) (by decide)) fun x H5 s5 hx => k x H5 (P4.same s5) (K3.trans (K4.trans (Kp.same s5))) hx
    · rw [List.length_take]; simp; omega
    · rw [List.length_append, List.length_take, List.length_drop]; simp; omega
    · intro d hd
      rcases List.mem_append.mp hd with z | z
      · rcases List.mem_append.mp z with z | z
        · exact bdm d (List.mem_of_mem_take z)
        · rw [List.mem_singleton.mp z]; exact bdn
      · exact bdm d (List.mem_of_mem_drop z)
    · rw [List.length_append, List.length_append, List.length_take, List.length_drop]; simp; omega
end
end K11

set_option Elab.async false
set_option linter.all false
set_option maxRecDepth 100000
set_option maxHeartbeats 4000000
namespace K11
open PySem L2
theorem cut_names (ss : List Str) (lo hi : Option Int) : ∃ ss' : List Str, cutV (ss.map V.str) lo hi = ss'.map V.str ∧ (∀ x ∈ ss', x ∈ ss) ∧ ss'.length ≤ ss.length := by
  refine ⟨(ss.drop (HT.sIx (ss.map V.str).length 0 lo)).take (HT.sIx (ss.map V.str).length (ss.map V.str).length hi - HT.sIx (ss.map V.str).length 0 lo), ?_, fun x hx => List.mem_of_mem_drop (List.mem_of_mem_take hx), ?_⟩
  · unfold cutV
    rw [List.map_take, List.map_drop]
  · rw [List.length_take, List.length_drop]; omega
theorem rsl_names {K : PySem.W.Frag} {H : Hp} {a : Addr} {ss : List Str} {lo hi : Option Int} {Q : VK} (ha : H a = some (.tup (ss.map V.str)))
    (h : ∀ (p : Addr) (H' : Hp) (ss' : List Str), Same H H' → H' p = some (.tup (ss'.map V.str)) → (∀ x ∈ ss', x ∈ ss) → ss'.length ≤ ss.length → Q (.ref p) H') : rSlA K (.ref a) lo hi H Q := by
  obtain ⟨ss', e, h1, h2⟩ := cut_names ss lo hi
  refine ⟨a, _, rfl, SqT.of ha, fun _ => h a H ss (Same.refl _) ha (fun x hx => hx) (Nat.le_refl _), fun p hp => ?_⟩
  rw [e]
  exact h p _ ss' (same_upd (Same.refl _) hp) upd_same h1 h2
theorem rcat_names {K : PySem.W.Frag} {H : Hp} {a b : Addr} {ss us : List Str} {Q : VK} (ha : H a = some (.tup (ss.map V.str))) (hb : H b = some (.tup (us.map V.str))) (hz : ss.length + us.length ≤ 900)
    (h : ∀ (p : Addr) (H' : Hp), Same H H' → H' p = some (.tup ((ss ++ us).map V.str)) → Q (.ref p) H') : rCatA K (.ref a) (.ref b) H Q :=
  rcat_tup ha hb (Nat.le_of_lt (fits (by simp; omega))) fun p H' s e => h p H' s (by rw [e, List.map_append])
/-- data that was there before its list was laid -/
noncomputable def FR (f : V → Hp → Prop) (q : Addr) (xs : List V) (H : Hp) : Prop := ∃ H0, (∀ x ∈ xs, f x H0) ∧ H0 q = none ∧ Same H0 H
theorem sq_catF {f : V → Hp → Prop} (kf : Keeps f) {t : TA} {g : TG} {u : TS} {D : Ends} {σ : St} {H : Hp} {n i : Nat} {q : Addr} {ys : List V} (hi : σ[i]? = some (some (.ref q))) (hq : H q = some (.lst ys)) (hy : ∀ x ∈ ys, f x H) (h : Ya f t σ H n) (hn : ys.length + n ≤ 900)
    (k : ∀ (p : Addr) (xs : List V) (H' : Hp), Same H H' → H' p = some (.lst xs) → FR f p xs H' → xs.length = ys.length + n → H p = none → g (.ref p) σ H' (u D)) : tSeq (tAsg (tOp rCat (tVar i) (tLst t)) g) u D σ H :=
  ⟨_, hi, h H (Same.refl _) _ fun xs H2 s2 hx hl => ⟨Nat.le_of_lt (fits (by omega)), fun p hp => by
    have s3 := same_upd (o := .lst xs) s2 hp
    have h3 : upd H2 p (.lst xs) p = some (.lst xs) := upd_same
    have x3 : ∀ x ∈ xs, f x (upd H2 p (.lst xs)) := fun x hm => kf _ _ _ (hx x hm) (same_upd (Same.refl _) hp)
    generalize upd H2 p (.lst xs) = H3 at s3 h3 x3 ⊢
    refine ⟨q, p, _, _, rfl, rfl, s3 _ _ hq, h3, Nat.le_of_lt (fits (by omega)), fun r hr => ?_⟩
    have s4 := same_upd (o := .lst (ys ++ xs)) (Same.refl H3) hr
    refine k r (ys ++ xs) _ (s3.trans s4) upd_same ⟨H3, fun x hm => ?_, hr, s4⟩ (by simp [hl]) ?_
    · rcases List.mem_append.mp hm with z | z
      · exact kf _ _ _ (hy x z) s3
      · exact x3 x z
    · cases hc : H r with
      | none => rfl
      | some o => have := s3 _ _ hc; rw [hr] at this; cases this⟩⟩
/-- a list with one more thing, which draws from the pot on its way -/
theorem sq_odd {K : PySem.W.Frag} {ta tb : TE} {g : TG} {u : TS} {D : Ends} {σ : St} {H : Hp} {p q ra : Addr} {n m : Nat} {ys : List V} (h0 : σ[0]? = some (some (.ref p))) (h3 : σ[3]? = some (some (.ref ra))) (h5 : σ[5]? = some (some (.ref q)))
    (hp : Pot H p) (nqp : q ≠ p) (hq : H q = some (.lst ys)) (hy : ∀ x ∈ ys, DY 55000 5 x H) (hyl : ys.length ≤ 100) (hra : ∀ H', Kp [p] H H' → Pot H' p → DY 18000 4 (.ref ra) H')
    (ha : Yd ta σ H (DT n 110 1)) (hb : ∀ H', Kp [p] H H' → Pot H' p → Yd tb σ H' (DT m 110 1)) (hnm : n + 1 + m ≤ 60)
    (k : ∀ (r : Addr) (xs : List V) (H' : Hp), Pot H' p → Kp [p] H H' → H' r = some (.lst xs) → (∀ x ∈ xs, DY 55000 5 x H') → xs.length = ys.length + 1 → H r = none → r ≠ p → g (.ref r) σ H' (u D)) :
    tSeq (tAsg (tOp rCat (tVar 5) (tLst (tCons (tTup (tCons (tOp (rCatA K) (tOp (rCatA K) ta (tTup (tCons (tCall spOdd [] E0 (tCons (tVar 0) tNil)) tNil))) tb) (tCons (tVar 3) tNil))) tNil))) g) u D σ H :=
  ⟨_, h5, ha H (Same.refl _) _ fun x1 H1 s1 hx1 => ⟨_, h0, p, rfl, hp.same s1, fun od H2 P2 K2 hod => ⟨by show 1 ≤ sizeLine; decide, fun t3 ht3 => by
    have hx2 := hx1.kp K2 (hp.same s1)
    have s3 := same_upd (o := .tup [od]) (Same.refl H2) ht3
    have e3 : upd H2 t3 (.tup [od]) t3 = some (.tup [od]) := upd_same
    generalize upd H2 t3 (.tup [od]) = H3 at s3 e3 ⊢
    have P3 := P2.same s3
    have K3 : Kp [p] H H3 := (Kp.same s1).trans (K2.trans (Kp.same s3))
    obtain ⟨a1, xs1, ds1, rfl, f1, f2, f3, f4⟩ := DT.keeps _ _ _ hx2 s3
    obtain ⟨dd, dv, bd⟩ := DY.keeps _ _ _ hod s3
    have l1 := DVs.len f2
    refine rcat_tup f1 e3 (Nat.le_of_lt (fits (by simp; omega))) fun r4 H4 s4 h4 => ?_
    have d4 : DT (n + 1) 110 1 (.ref r4) H4 := ⟨r4, _, ds1 ++ [dd], rfl, h4, DVs.append (DVs.same s4 f2) (.cons (DV.same s4 dv) .nil), fun d hd => by
      rcases List.mem_append.mp hd with z | z
      · exact f3 d z
      · rw [List.mem_singleton.mp z]; exact bd, by simp; omega⟩
    have K4 := K3.trans (Kp.same s4)
    have P4 := P3.same s4
    refine hb H4 K4 P4 H4 (Same.refl _) _ fun y H5 s5 hy5 => ?_
    obtain ⟨a2, xs2, ds2, rfl, g1, g2, g3, g4⟩ := hy5
    obtain ⟨a4, xs4, ds4, e4, j1, j2, j3, j4⟩ := DT.keeps _ _ _ d4 s5
    cases e4
    have l2 := DVs.len g2
    have l4 := DVs.len j2
    refine rcat_tup j1 g1 (Nat.le_of_lt (fits (by omega))) fun r6 H6 s6 h6 => ?_
    have d6 : DT (n + 1 + m) 110 1 (.ref r6) H6 := ⟨r6, _, ds4 ++ ds2, rfl, h6, DVs.append (DVs.same s6 j2) (DVs.same s6 g2), fun d hd => by
      rcases List.mem_append.mp hd with z | z
      · exact j3 d z
      · exact g3 d z, by simp; omega⟩
    have y6 : DY 18000 4 (.ref r6) H6 := (d6.dy hnm).mono (by
      have : (n + 1 + m) * 112 ≤ 60 * 112 := Nat.mul_le_mul_right _ hnm
      omega) (by decide)
    have K6 := K4.trans (Kp.same (s5.trans s6))
    have P6 := P4.same (s5.trans s6)
    have r6' := hra H6 K6 P6
    refine ⟨_, h3, by show 2 ≤ sizeLine; decide, fun t7 ht7 => ?_⟩
    have s7 := same_upd (o := .tup [.ref r6, .ref ra]) (Same.refl H6) ht7
    have e7 : upd H6 t7 (.tup [.ref r6, .ref ra]) t7 = some (.tup [.ref r6, .ref ra]) := upd_same
    generalize upd H6 t7 (.tup [.ref r6, .ref ra]) = H7 at s7 e7 ⊢
    have y7 : DY 55000 5 (.ref t7) H7 := by
      obtain ⟨c1, c2, c3⟩ := DY.keeps _ _ _ y6 s7
      obtain ⟨w1, w2, w3⟩ := DY.keeps _ _ _ r6' s7
      refine ⟨.tuple [c1, w1], .tup e7 (.cons c2 (.cons w2 .nil)), (Bd.tup (n := 2) (B := 18000) (D := 4) (fun d hd => ?_) (Nat.le_refl _) (by decide)).mono (by decide) (by decide)⟩
      simp at hd
      rcases hd with rfl | rfl
      · exact c3
      · exact w3
    refine ⟨by show 1 ≤ sizeLine; decide, fun l8 hl8 => ?_⟩
    have s8 := same_upd (o := .lst [.ref t7]) (Same.refl H7) hl8
    have e8 : upd H7 l8 (.lst [.ref t7]) l8 = some (.lst [.ref t7]) := upd_same
    generalize upd H7 l8 (.lst [.ref t7]) = H8 at s8 e8 ⊢
    have K8 := K6.trans (Kp.same (s7.trans s8))
    have P8 := P6.same (s7.trans s8)
    have q8 : H8 q = some (.lst ys) := K8 _ _ hq (by simpa using nqp)
    refine ⟨q, l8, _, _, rfl, rfl, q8, e8, Nat.le_of_lt (fits (by simp; omega)), fun r hr => ?_⟩
    have s9 := same_upd (o := .lst (ys ++ [.ref t7])) (Same.refl H8) hr
    refine k r (ys ++ [.ref t7]) _ (P8.same s9) (K8.trans (Kp.same s9)) upd_same (fun x hm => ?_) (by simp) ?_ ?_
    · rcases List.mem_append.mp hm with z | z
      · exact DY.keeps _ _ _ ((hy x z).kp K8 hp) s9
      · rw [List.mem_singleton.mp z]; exact DY.keeps _ _ _ y7 (s8.trans s9)
    · cases hc : H r with
      | none => rfl
      | some o =>
        by_cases e : r = p
        · subst e
          obtain ⟨o', e'⟩ := P8.some
          rw [hr] at e'; cases e'
        · have := K8 _ _ hc (by simpa using e)
          rw [hr] at this; cases this
    · intro e
      subst e
      obtain ⟨o', e'⟩ := P8.some
      rw [hr] at e'; cases e'⟩⟩⟩
mutual
theorem DV.put {H0 H1 : Hp} {q : Addr} {o : HO} (hq : H0 q = none) (s : Same H0 H1) : ∀ {x : V} {d : PyData}, DV H0 x d → DV (upd H1 q o) x d
  | _, _, .non => .non
  | _, _, .bl b => .bl b
  | _, _, .int i => .int i
  | _, _, .str x => .str x
  | _, _, .tup e r => .tup (by rw [upd_ne (ne_of_none e hq)]; exact s _ _ e) (DVs.put hq s r)
  | _, _, .lst e r => .lst (by rw [upd_ne (ne_of_none e hq)]; exact s _ _ e) (DVs.put hq s r)
theorem DVs.put {H0 H1 : Hp} {q : Addr} {o : HO} (hq : H0 q = none) (s : Same H0 H1) : ∀ {xs : List V} {ds : List PyData}, DVs H0 xs ds → DVs (upd H1 q o) xs ds
  | _, _, .nil => .nil
  | _, _, .cons a b => .cons (DV.put hq s a) (DVs.put hq s b)
end
theorem sq_app {K : PySem.W.Frag} {te : TE} {u : TS} {D : Ends} {σ : St} {H : Hp} {i : Nat} {q : Addr} {ys : List V} {f : V → Hp → Prop} (hi : σ[i]? = some (some (.ref q))) (hq : H q = some (.lst ys)) (hl : ys.length ≤ 900) (h : Yd te σ H f)
    (k : ∀ (x : V) (H' : Hp), Same H H' → f x H' → u D σ (upd H' q (.lst (ys ++ [x])))) : tSeq (tDrop (tBM K "list" rAppend (tVar i) (tCons te tNil))) u D σ H :=
  ⟨_, hi, .inl ⟨rfl, _, SqL.of hq⟩, h H (Same.refl _) _ fun x H' s hx => ⟨q, ys, x, rfl, rfl, s _ _ hq, fits (by omega), k x H' s hx⟩⟩
/-- a tuple of names and one more -/
theorem yd_tail {K : PySem.W.Frag} {σ : St} {H : Hp} {pa : Addr} {ps : List Str} {c : Str} {lo hi : TO} (h2 : σ[2]? = some (some (.ref pa))) (hpa : H pa = some (.tup (ps.map V.str))) (hl : Po lo σ) (hh : Po hi σ) (hz : ps.length ≤ 20) :
    Yd (tOp (rCatA K) (tSl (rSlA K) (tVar 2) lo hi) (tTup (tCons (tC (.str c)) tNil))) σ H (fun x H' => ∃ (a : Addr) (ss : List Str), x = .ref a ∧ H' a = some (.tup (ss.map V.str)) ∧ (∀ s ∈ ss, s ∈ ps ∨ s = c) ∧ ss.length ≤ 21) := fun H' s Q k => by
  obtain ⟨l, hl⟩ := hl
  obtain ⟨w, hh⟩ := hh
  refine ⟨_, h2, hl _ _ (hh _ _ (rsl_names (s _ _ hpa) fun q H2 ss' s2 hq hm hz' => ⟨by show 1 ≤ sizeLine; decide, fun t ht => ?_⟩))⟩
  have s3 := same_upd (o := .tup [.str c]) (Same.refl H2) ht
  have t3 : upd H2 t (.tup [.str c]) t = some (.tup ([c].map V.str)) := upd_same
  generalize upd H2 t (.tup [.str c]) = H3 at s3 t3 ⊢
  refine rcat_names (s3 _ _ hq) t3 (by simp; omega) fun r H4 s4 h4 => k _ _ (s2.trans (s3.trans s4)) ⟨r, ss' ++ [c], rfl, h4, fun x hx => ?_, by simp; omega⟩
  rcases List.mem_append.mp hx with z | z
  · exact .inl (hm x z)
  · exact .inr (List.mem_singleton.mp z)
section
variable {P : Program} {w : World} {K : PySem.W.Frag} {mg : Str → Option Value} {base : Heap}
noncomputable def spOther : Sp := fun vs H Q _ => ∃ (p v pa ra : Addr) (ps : List Str) (rs : List (Addr × Row)), vs = [.ref p, .ref v] ∧ Pot H p ∧ WebAt H v pa ra ps rs ∧ Good ps (rs.map (·.2)) ∧ ps.length ≤ 8 ∧ rs.length ≤ 40 ∧
  ∀ (x : V) (H' : Hp), Pot H' p → Kp [p] H H' → DY 55000 5 x H' → Q x H'
noncomputable abbrev N23 : List Str := ["_law_pot_here", "_law_web_here", "_law_places_here", "_law_rows", "_law_at_here", "_law_some", "_law_way"]
theorem sc23 : FnScope N23 ["_law_pot_here", "_law_web_here"] (defScope (top 23)) := ⟨rfl, rfl, rfl, by decide +kernel, rfl, by decide +kernel, by decide +kernel⟩
theorem zz8 : NameP (Str.ofString "zzzzzzzz") := ⟨by decide, by decide, by decide⟩
theorem ok_other {f : Addr} {fd : FuncData} (F : Fun K "_law_other" "_law_other" (top 23) f fd) (B : Bl mg) (Ft : Fn P w K mg base 1 "_law_take" ["_law_pot_here", "_law_many"] spTake) (Fo : Fn P w K mg base 2 "_law_odd" ["_law_pot_here"] spOdd) (Fr : Fn P w K mg base 4 "_law_other_rows" ["_law_pot_here", "_law_places_here", "_law_rows"] spORows) : FnOk P w K mg base CX0 5 f fd ["_law_pot_here", "_law_web_here"] spOther := by
  refine F.ok sc23 (fun vs H Q E h => ?_) (fun cdv A outer s H vs Q E hr h => ?_)
  · obtain ⟨p, v, pa, ra, ps, rs, rfl, _⟩ := h
    rfl
  · obtain ⟨p, v, pa, ra, ps, rs, rfl, hp, W, G, hpz, hrz, k⟩ := h
    have hr1 : Room 1 _ := hr.mono (by decide)
    have hr2 : Room 2 _ := hr.mono (by decide)
    refine' ⟨_, pss_cons ?s1 ?r1, ?main⟩
    case s1 => exact ps_asg (pv 1) (pg_tup rfl (n := 2) (pgs_cons (pg_name (i := 2) sc23.nd rfl (Or.inl rfl)) (pgs_cons (pg_name (i := 3) sc23.nd rfl (Or.inl rfl)) pgs_nil)))
    case r1 =>
      refine' pss_cons ?s2 ?r2
      case s2 => exact ps_set (i := 4) sc23.nd rfl (Or.inl rfl) (pe_fn Ft hr1 (pa_cons (pv 0) (pa_cons (pe_callB call_len_seq rfl B.len PySem.boot_len (pa_cons (pv 2) pa_nil)) pa_nil)))
      case r2 =>
        refine' pss_cons ?s3 ?r3
        case s3 =>
          refine' ps_set (i := 5) ?a_nd ?a_x ?a_y ?a_z ?a_hs ?a_hf
          case a_nd => exact sc23.nd
          case a_x => exact rfl
          case a_y => exact Or.inl rfl
          case a_hf => first | exact .inl rfl | exact .inr rfl
          case' a_z => refine' pe_lst ?a_l0
          case' a_l0 => refine' pa_cons ?a_i0 ?a_l1 ?a_h0
          case a_i0 => exact pe_callTy call_list_of rfl B.list b_list (pa_cons (pv 1) pa_nil)
          case a_h0 => exact rfl
          case' a_l1 => refine' pa_cons ?a_i1 ?a_l2 ?a_h1
          case a_i1 => exact pe_tup (pa_cons (pe_callTy call_list_of rfl B.list b_list (pa_cons (pv 2) pa_nil)) (pa_cons (pv 3) pa_nil))
          case a_h1 => exact se_T
          case' a_l2 => refine' pa_cons ?a_i2 ?a_l3 ?a_h2
          case a_i2 => exact pe_tup (pa_cons (pe_op op_catA (pe_slice sl_tupA (pv 2) po_none (po_some (pv 4))) (pe_slice sl_tupA (pv 2) (po_some (pe_op op_add (pv 4) pe_int)) po_none)) (pa_cons (pv 3) pa_nil))
          case a_h2 => exact se_T
          case a_l3 => exact pa_nil
          case a_hs => kernel_rfl
        case r3 =>
          refine' pss_cons ?s4 ?r4
          case s4 =>
            refine' ps_set (i := 5) ?b_nd ?b_x ?b_y ?b_z ?b_hs ?b_hf
            case b_nd => exact sc23.nd
            case b_x => exact rfl
            case b_y => exact Or.inl rfl
            case b_hf => first | exact .inl rfl | exact .inr rfl
            case' b_z => refine' pe_op ?b_o ?b_a ?b_b
            case b_o => exact op_cat
            case b_a => exact pv 5
            case' b_b => refine' pe_lst ?b_l0
            case' b_l0 => refine' pa_cons ?b_i0 ?b_l1 ?b_h0
            case b_i0 => exact pe_tup (pa_cons (pe_op op_catA (pe_slice sl_tupA (pv 2) po_none (po_some (pe_op op_add (pv 4) pe_int))) (pe_slice sl_tupA (pv 2) (po_some (pv 4)) po_none)) (pa_cons (pv 3) pa_nil))
            case b_h0 => exact se_T
            case' b_l1 => refine' pa_cons ?b_i1 ?b_l2 ?b_h1
            case b_i1 => exact pe_tup (pa_cons (pe_revT (fun o i => [o, i]) (pv 2) (po_some (pe_un un_neg pe_int)) (fun _ _ => by with_unfolding_all rfl)) (pa_cons (pv 3) pa_nil))
            case b_h1 => exact se_T
            case b_l2 => exact pa_nil
            case b_hs => kernel_rfl
          case r4 =>
            refine' pss_cons ?s5 ?r5
            case s5 =>
              refine' ps_set (i := 5) ?c_nd ?c_x ?c_y ?c_z ?c_hs ?c_hf
              case c_nd => exact sc23.nd
              case c_x => exact rfl
              case c_y => exact Or.inl rfl
              case c_hf => first | exact .inl rfl | exact .inr rfl
              case' c_z => refine' pe_op ?c_o ?c_a ?c_b
              case c_o => exact op_cat
              case c_a => exact pv 5
              case' c_b => refine' pe_lst ?c_l0
              case' c_l0 => refine' pa_cons ?c_i0 ?c_l1 ?c_h0
              case c_i0 => exact pe_tup (pa_cons (pe_op op_catA (pe_op op_catA (pe_slice sl_tupA (pv 2) po_none (po_some (pv 4))) (pe_tup (pa_cons (pe_fn Fo hr2 (pa_cons (pv 0) pa_nil)) pa_nil))) (pe_slice sl_tupA (pv 2) (po_some (pe_op op_add (pv 4) pe_int)) po_none)) (pa_cons (pv 3) pa_nil))
              case c_h0 => exact se_T
              case c_l1 => exact pa_nil
              case c_hs => kernel_rfl
            case r5 =>
              refine' pss_cons ?s6 ?r6
              case s6 =>
                refine' ps_set (i := 5) ?d_nd ?d_x ?d_y ?d_z ?d_hs ?d_hf
                case d_nd => exact sc23.nd
                case d_x => exact rfl
                case d_y => exact Or.inl rfl
                case d_hf => first | exact .inl rfl | exact .inr rfl
                case' d_z => refine' pe_op ?d_o ?d_a ?d_b
                case d_o => exact op_cat
                case d_a => exact pv 5
                case' d_b => refine' pe_lst ?d_l0
                case' d_l0 => refine' pa_cons ?d_i0 ?d_l1 ?d_h0
                case d_i0 => exact pe_tup (pa_cons (pv 2) pa_nil)
                case d_h0 => exact se_T
                case' d_l1 => refine' pa_cons ?d_i1 ?d_l2 ?d_h1
                case d_i1 => exact pe_tup (pa_cons (pv 3) (pa_cons (pv 2) pa_nil))
                case d_h1 => exact se_T
                case' d_l2 => refine' pa_cons ?d_i2 ?d_l3 ?d_h2
                case d_i2 => exact pe_tup (pa_cons (pv 2) (pa_cons (pe_slice sl_tupA (pv 3) po_none (po_some pe_int)) pa_nil))
                case d_h2 => exact se_T
                case' d_l3 => refine' pa_cons ?d_i3 ?d_l4 ?d_h3
                case d_i3 => exact pe_tup (pa_cons (pv 2) (pa_cons (pv 3) (pa_cons (pv 3) pa_nil)))
                case d_h3 => exact se_T
                case d_l4 => exact pa_nil
                case d_hs => kernel_rfl
              case r6 =>
                refine' pss_cons ?s7 ?r7
                case s7 => exact ps_expr (pe_bm PySem.F.plainAttrs_list PySem.F.slot_list_append PySem.F.type_list_append mt_append (pv 5) (pa_cons (pe_tup (pa_cons (pe_op op_catA (pe_slice sl_tupA (pv 2) (po_some (pe_un un_neg pe_int)) po_none) (pe_tup (pa_cons pe_str pa_nil))) (pa_cons (pv 3) pa_nil))) pa_nil))
                case r7 =>
                  refine' pss_cons ?s8 ?r8
                  case s8 => exact ps_set (i := 6) sc23.nd rfl (Or.inl rfl) (pe_fn Ft hr1 (pa_cons (pv 0) (pa_cons (pe_op op_mul pe_int (pe_callB call_len_seq rfl B.len PySem.boot_len (pa_cons (pv 5) pa_nil))) pa_nil)))
                  case r8 =>
                    refine' pss_cons ?s9 ?r9
                    case s9 => exact ps_if (pt_cmpR op_lt (pv 6) (pe_callB call_len_seq rfl B.len PySem.boot_len (pa_cons (pv 5) pa_nil)) (nomark _)) (pss_one (ps_ret (pe_ix ix_seq (pv 5) (pv 6) (fun _ _ => rfl)))) pss_nil
                    case r9 => exact pss_one (ps_ret (pe_tup (pa_cons (pv 2) (pa_cons (pe_fn Fr hr (pa_cons (pv 0) (pa_cons (pv 2) (pa_cons (pv 3) pa_nil)))) pa_nil))))
    case main =>
      have hpl : 0 < ps.length := by
        cases hc : ps with
        | nil => exact absurd hc G.ne
        | cons _ _ => simp
      have rnm : ∀ r ∈ rs, NameP r.2.1 ∧ NameP r.2.2.1 ∧ NameP r.2.2.2 := fun r hr' => by
        obtain ⟨a, b, c, _⟩ := G.rn r.2 (List.mem_map_of_mem hr')
        exact ⟨a, G.nm _ b, G.nm _ c⟩
      have rbd : ∀ d ∈ (rs.map (·.2)).map rowD, Bd 309 1 d ∧ ∀ i, d ≠ .int i := fun d hd => by
        obtain ⟨r, hr', rfl⟩ := List.mem_map.mp hd
        obtain ⟨t, ht, rfl⟩ := List.mem_map.mp hr'
        obtain ⟨a, b, c⟩ := rnm t ht
        exact ⟨row_bd a b c, fun i e => by unfold rowD at e; cases e⟩
      have pbd : ∀ d ∈ ps.map PyData.str, Bd 100 0 d ∧ ∀ i, d ≠ .int i := fun d hd => by
        obtain ⟨x, hx, rfl⟩ := List.mem_map.mp hd
        obtain ⟨d', dv, b⟩ := DY.name (H := H) (G.nm x hx)
        cases dv
        exact ⟨b, fun i e => by cases e⟩
      have dpa : DM 8 100 0 (.ref pa) H := ⟨pa, _, ps.map PyData.str, rfl, W.pl, DVs.strs ps, pbd, by simpa using hpz⟩
      have dra : DM 40 309 1 (.ref ra) H := ⟨ra, _, (rs.map (·.2)).map rowD, rfl, W.rl, rowsDV W.rows, rbd, by simpa using hrz⟩
      have dwv : DM 2 18000 4 (.ref v) H := ⟨v, _, [.tuple (ps.map PyData.str), .tuple ((rs.map (·.2)).map rowD)], rfl, W.tp, .cons (.tup W.pl (DVs.strs ps)) (.cons (.tup W.rl (rowsDV W.rows)) .nil), fun d hd => by
        simp at hd
        rcases hd with rfl | rfl
        · exact ⟨(Bd.tup (n := 8) (fun d hd => (pbd d hd).1) (by simpa using hpz) (by decide)).mono (by decide) (by decide), fun i e => by cases e⟩
        · exact ⟨(Bd.tup (n := 40) (fun d hd => (rbd d (by simpa using hd)).1) (by simpa using hrz) (by decide)).mono (by decide) (by decide), fun i e => by cases e⟩, Nat.le_refl _⟩
      refine ⟨_, rfl, v, _, rfl, SqT.of W.tp, rfl, _, _, rfl, _, _, rfl, rfl, ?_⟩
      refine ⟨_, rfl, _, rfl, pa, _, rfl, .inr (SqT.of W.pl), p, _, rfl, hp, by rw [List.length_map]; omega, by rw [List.length_map]; omega, fun at_ H1 a0 a1 P1 e1 => ?_⟩
      obtain ⟨n, rfl⟩ := Int.eq_ofNat_of_zero_le a0
      have K1 := kp1 e1
      have y1 : ∀ (z : Option V) (Hx : Hp), Kp [p] H Hx → Yd (tVar 1) [some (.ref p), some (.ref v), some (.ref pa), some (.ref ra), some (.int (n : Int)), z, none] Hx (DM 2 18000 4) := fun z Hx Kx => .var rfl fun H' s' => DM.keeps _ _ _ (dwv.kp Kx hp) s'
      have y2 : ∀ (z : Option V) (Hx : Hp), Kp [p] H Hx → Yd (tVar 2) [some (.ref p), some (.ref v), some (.ref pa), some (.ref ra), some (.int (n : Int)), z, none] Hx (DM 8 100 0) := fun z Hx Kx => .var rfl fun H' s' => DM.keeps _ _ _ (dpa.kp Kx hp) s'
      have y2t : ∀ (z : Option V) (Hx : Hp), Kp [p] H Hx → Yd (tVar 2) [some (.ref p), some (.ref v), some (.ref pa), some (.ref ra), some (.int (n : Int)), z, none] Hx (DT 8 110 1) := fun z Hx Kx => (y2 z Hx Kx).imp fun x H' q => q.dt.mono (by decide) (by decide) (by decide)
      have y2d : ∀ (z : Option V) (Hx : Hp), Kp [p] H Hx → Yd (tVar 2) [some (.ref p), some (.ref v), some (.ref pa), some (.ref ra), some (.int (n : Int)), z, none] Hx (DY 18000 4) := fun z Hx Kx => (y2t z Hx Kx).dy (by decide) (by decide) (by decide)
      have y3t : ∀ (z : Option V) (Hx : Hp), Kp [p] H Hx → Yd (tVar 3) [some (.ref p), some (.ref v), some (.ref pa), some (.ref ra), some (.int (n : Int)), z, none] Hx (DT 40 309 1) := fun z Hx Kx => .var rfl fun H' s' => (DM.keeps _ _ _ (dra.kp Kx hp) s').dt
      have y3 : ∀ (z : Option V) (Hx : Hp), Kp [p] H Hx → Yd (tVar 3) [some (.ref p), some (.ref v), some (.ref pa), some (.ref ra), some (.int (n : Int)), z, none] Hx (DY 18000 4) := fun z Hx Kx => (y3t z Hx Kx).dy (by decide) (by decide) (by decide)
      have pair : ∀ {ta tb : TE} (z : Option V) (Hx : Hp), Yd ta [some (.ref p), some (.ref v), some (.ref pa), some (.ref ra), some (.int (n : Int)), z, none] Hx (DY 18000 4) → Yd tb [some (.ref p), some (.ref v), some (.ref pa), some (.ref ra), some (.int (n : Int)), z, none] Hx (DY 18000 4) → Yd (tTup (tCons ta (tCons tb tNil))) [some (.ref p), some (.ref v), some (.ref pa), some (.ref ra), some (.int (n : Int)), z, none] Hx (DY 55000 5) := fun z Hx a b =>
        (Yd.tup (.cons DY.keeps a (.cons DY.keeps b .nil)) (by decide)).dy (by decide) (by decide) (by decide)
      have pA : ∀ z : Option V, Po (tPart (tVar 4)) [some (.ref p), some (.ref v), some (.ref pa), some (.ref ra), some (.int (n : Int)), z, none] := fun z => .some n fun H Q h => ⟨_, rfl, h⟩
      have pA1 : ∀ z : Option V, Po (tPart (tOp (rI0 fun i j => .int (i + j)) (tVar 4) (tC (.int 1)))) [some (.ref p), some (.ref v), some (.ref pa), some (.ref ra), some (.int (n : Int)), z, none] := fun z => .some (n + 1) fun H Q h => ⟨_, rfl, n, 1, rfl, rfl, h⟩
      have a1 := fun (z : Option V) (Hx : Hp) (Kx : Kp [p] H Hx) => Ya.cons DY.keeps (((y1 z Hx Kx).lst (K := K) (by decide)).dmono (by decide) (by decide) : Yd _ [some (.ref p), some (.ref v), some (.ref pa), some (.ref ra), some (.int (n : Int)), z, none] Hx (DY 55000 5))
        (Ya.cons DY.keeps (pair z Hx (((y2 z Hx Kx).lst (K := K) (by decide)).dmono (by decide) (by decide)) (y3 z Hx Kx))
        (Ya.cons DY.keeps (pair z Hx ((((y2t z Hx Kx).cut (K := K) .none (pA z)).cat (K := K) ((y2t z Hx Kx).cut (K := K) (pA1 z) .none) (by decide)).dy (by decide) (by decide) (by decide)) (y3 z Hx Kx)) .nil))
      have a2 := fun (z : Option V) (Hx : Hp) (Kx : Kp [p] H Hx) => Ya.cons DY.keeps (pair z Hx ((((y2t z Hx Kx).cut (K := K) .none (pA1 z)).cat (K := K) ((y2t z Hx Kx).cut (K := K) (pA z) .none) (by decide)).dy (by decide) (by decide) (by decide)) (y3 z Hx Kx))
        (Ya.cons DY.keeps (pair z Hx (((y2t z Hx Kx).rev (K := K) (tk := tPart (tUn (rU fun i => .int (-i)) (tC (.int 1)))) fun H Q h => ⟨1, rfl, _, rfl, h⟩).dy (by decide) (by decide) (by decide)) (y3 z Hx Kx)) .nil)
      have a4 := fun (z : Option V) (Hx : Hp) (Kx : Kp [p] H Hx) => Ya.cons DY.keeps ((Yd.tup (.cons DY.keeps (y2d z Hx Kx) .nil) (by decide)).dy (by decide) (by decide) (by decide) : Yd _ [some (.ref p), some (.ref v), some (.ref pa), some (.ref ra), some (.int (n : Int)), z, none] Hx (DY 55000 5))
        (Ya.cons DY.keeps (pair z Hx (y3 z Hx Kx) (y2d z Hx Kx))
        (Ya.cons DY.keeps (pair z Hx (y2d z Hx Kx) (((y3t z Hx Kx).cut (K := K) (hi := tPart (tC (.int 1))) .none (.some 1 fun H Q h => h)).dy (by decide) (by decide) (by decide)))
        (Ya.cons DY.keeps ((Yd.tup (.cons DY.keeps (y2d z Hx Kx) (.cons DY.keeps (y3 z Hx Kx) (.cons DY.keeps (y3 z Hx Kx) .nil))) (by decide)).dy (by decide) (by decide) (by decide)) .nil)))
      unfold gName
      dsimp only
      refine sq_lst DY.keeps (a1 none H1 K1) (by decide) fun q3 xs3 H3 s3 h3 t3 l3 n3 => ?_
      have K3 := K1.trans (Kp.same (P := [p]) s3)
      refine sq_cat DY.keeps (q := q3) rfl h3 t3 (a2 (some (.ref q3)) H3 K3) (by omega) fun q4 xs4 H4 s4 h4 t4 l4 n4 => ?_
      have K4 := K3.trans (Kp.same (P := [p]) s4)
      have P3 := P1.same s3
      have P4 := P3.same s4
      have nq4 : q4 ≠ p := fun e => by obtain ⟨o, e'⟩ := P3.some; rw [← e, n4] at e'; cases e'
      refine sq_odd (K := K) (p := p) (q := q4) (ra := ra) (n := 8) (m := 8) rfl rfl rfl P4 nq4 h4 t4 (by omega) (fun H' Kx Px => ((dra.kp (K4.trans Kx) hp).dt.dy (by decide)).mono (by decide) (by decide)) ((y2t (some (.ref q4)) H4 K4).cut (K := K) .none (pA _)) (fun H' Kx Px => (y2t (some (.ref q4)) H' (K4.trans Kx)).cut (K := K) (pA1 _) .none) (by decide) fun q5 xs5 H5 P5 K45 h5 t5 l5 n5 nq5 => ?_
      have K5 := K4.trans K45
      refine sq_catF DY.keeps (q := q5) rfl h5 t5 (a4 (some (.ref q5)) H5 K5) (by omega) fun q6 xs6 H6 s6 h6 fr6 l6 n6 => ?_
      have K6 := K5.trans (Kp.same (P := [p]) s6)
      have P6 := P5.same s6
      have nq6 : q6 ≠ p := fun e => by obtain ⟨o, e'⟩ := P5.some; rw [← e, n6] at e'; cases e'
      have hq0 : H q6 = none := by
        cases hc : H q6 with
        | none => rfl
        | some o => have := K5 _ _ hc (by simpa using nq6); rw [n6] at this; cases this
      have pa6 := K6.tup hp W.pl
      have ypair : Yd (tTup (tCons (tOp (rCatA K) (tSl (rSlA K) (tVar 2) (tPart (tUn (rU fun i => .int (-i)) (tC (.int 7)))) tNoPart) (tTup (tCons (tC (.str (Str.ofString "zzzzzzzz"))) tNil))) (tCons (tVar 3) tNil))) [some (.ref p), some (.ref v), some (.ref pa), some (.ref ra), some (.int (n : Int)), some (.ref q6), none] H6
          (fun x H' => ∃ (t a : Addr) (ss : List Str), x = .ref t ∧ H' t = some (.tup [.ref a, .ref ra]) ∧ H' a = some (.tup (ss.map V.str)) ∧ (∀ s ∈ ss, NameP s) ∧ ss.length ≤ 21) := fun H' s' Q' k' =>
        yd_tail (K := K) rfl pa6 (.some (-7) fun H Q h => ⟨7, rfl, h⟩) .none (by omega) H' s' _ fun x1 H1 s1 hx1 => by
          obtain ⟨a, ss, rfl, h1, h2, h3⟩ := hx1
          refine ⟨_, rfl, by show 2 ≤ sizeLine; decide, fun t ht => k' _ _ (same_upd s1 ht) ⟨t, a, ss, rfl, upd_same, by rw [upd_ne (ne_of_none h1 ht)]; exact h1, fun x hx => ?_, h3⟩⟩
          rcases h2 x hx with z | z
          · exact G.nm x z
          · rw [z]; exact zz8
      refine sq_app (K := K) (i := 5) (q := q6) rfl h6 (by omega) ypair fun x H7 s7 hx => ?_
      obtain ⟨t, a, ss, rfl, ht, ha, ssn, ssz⟩ := hx
      have q7 := s7 _ _ h6
      have tp : ∀ {b : Addr} {ys : List V}, H7 b = some (.tup ys) → upd H7 q6 (.lst (xs6 ++ [.ref t])) b = some (.tup ys) := fun {b ys} e => by
        rw [upd_ne (fun z => by rw [z, q7] at e; cases e)]; exact e
      have K7 := K6.trans (Kp.same (P := [p]) s7)
      have P8 : Pot (upd H7 q6 (.lst (xs6 ++ [.ref t]))) p := (P6.same s7).keep fun o e => by rw [upd_ne nq6.symm]; exact e
      have K8 : Kp [p] H (upd H7 q6 (.lst (xs6 ++ [.ref t]))) := fun b o e nb => by rw [upd_ne (ne_of_none e hq0)]; exact K7 b o e nb
      have h8 : upd H7 q6 (.lst (xs6 ++ [.ref t])) q6 = some (.lst (xs6 ++ [.ref t])) := upd_same
      have t8 : ∀ x ∈ xs6 ++ [V.ref t], DY 55000 5 x (upd H7 q6 (.lst (xs6 ++ [.ref t]))) := fun x hx => by
        rcases List.mem_append.mp hx with z | z
        · obtain ⟨H0, f0, m0, s0⟩ := fr6
          obtain ⟨d, dv, bd⟩ := f0 x z
          exact ⟨d, DV.put m0 (s0.trans s7) dv, bd⟩
        · rw [List.mem_singleton.mp z]
          have rl8 := tp (K7.tup hp W.rl)
          have ro8 : ∀ r ∈ rs, RowAt (upd H7 q6 (.lst (xs6 ++ [.ref t]))) r.1 r.2 := fun r hr' => tp (K7.tup hp (W.rows r hr'))
          refine ⟨.tuple [.tuple (ss.map PyData.str), .tuple ((rs.map (·.2)).map rowD)], .tup (tp ht) (.cons (.tup (tp ha) (DVs.strs ss)) (.cons (.tup rl8 (rowsDV ro8)) .nil)), (Bd.tup (n := 2) (B := 18000) (D := 4) (fun d hd => ?_) (Nat.le_refl _) (by decide)).mono (by decide) (by decide)⟩
          simp at hd
          rcases hd with rfl | rfl
          · refine (Bd.tup (n := 21) (B := 100) (D := 0) (fun d hd => ?_) (by simpa using ssz) (by decide)).mono (by decide) (by decide)
            obtain ⟨y, hy, rfl⟩ := List.mem_map.mp hd
            obtain ⟨d', dv, b⟩ := DY.name (H := H) (ssn y hy)
            cases dv
            exact b
          · exact (Bd.tup (n := 40) (fun d hd => (rbd d (by simpa using hd)).1) (by simpa using hrz) (by decide)).mono (by decide) (by decide)
      have l8 : (xs6 ++ [V.ref t]).length = 11 := by simp; omega
      generalize upd H7 q6 (.lst (xs6 ++ [.ref t])) = H8 at P8 K8 h8 t8 ⊢
      generalize xs6 ++ [V.ref t] = us at h8 t8 l8
      refine ⟨_, rfl, _, rfl, q6, _, rfl, .inl (SqL.of h8), 2, _, rfl, rfl, .inl ⟨by decide, by decide⟩, p, _, rfl, P8, by omega, by omega, fun way H9 w0 w1 P9 e9 => ?_⟩
      have K9 := K8.trans (kp1 e9)
      have h9 : H9 q6 = some (.lst us) := by rw [e9 q6 nq6]; exact h8
      refine ⟨_, rfl, _, rfl, q6, _, rfl, .inl (SqL.of h9), _, _, rfl, rfl, _, rfl, ite2 (fun c => ?_) (fun c => ?_)⟩
      · have hi : way.toNat < us.length := by simp at c; omega
        exact ⟨_, rfl, _, rfl, rix_of (j := way.toNat) (.inl (SqL.of h9)) (by omega) (List.getElem?_eq_getElem hi) (k _ H9 P9 K9 ((t8 _ (List.getElem_mem hi)).kp (kp1 e9) P8))⟩
      · refine ⟨_, rfl, _, rfl, _, rfl, _, rfl, p, pa, ra, ps, rs, rfl, P9, K9.tup hp W.pl, G.ne, by omega, G.nm, K9.tup hp W.rl, fun r hr' => K9.tup hp (W.rows r hr'), rnm, by omega, fun x H10 P10 K10 hx => ⟨by show 2 ≤ sizeLine; decide, fun t2 ht2 => ?_⟩⟩
        have s11 := same_upd (o := .tup [.ref pa, x]) (Same.refl H10) ht2
        have y10 : DY 18000 4 (.ref pa) H10 := ((dpa.kp (K9.trans K10) hp).dt.dy (by decide)).mono (by decide) (by decide)
        obtain ⟨c1, c2, c3⟩ := DY.keeps _ _ _ y10 s11
        obtain ⟨w1, w2, w3⟩ := DY.keeps _ _ _ hx s11
        refine k _ _ (P10.same s11) (K9.trans (K10.trans (Kp.same s11))) ⟨.tuple [c1, w1], .tup upd_same (.cons c2 (.cons w2 .nil)), (Bd.tup (n := 2) (B := 18000) (D := 4) (fun d hd => ?_) (Nat.le_refl _) (by decide)).mono (by decide) (by decide)⟩
        simp at hd
        rcases hd with rfl | rfl
        · exact c3
        · exact w3
end
end K11

set_option Elab.async false
set_option linter.all false
set_option maxRecDepth 100000
set_option maxHeartbeats 4000000
namespace K11
open PySem L2
/-- what the law asks of: data, or an empty dict -/
noncomputable def TH (x : V) (H : Hp) : Prop := DY 55000 5 x H ∨ ∃ a, x = .ref a ∧ H a = some (.dK [])
theorem TH.keeps : Keeps TH := fun x H H' h s => h.elim (fun z => .inl (DY.keeps _ _ _ z s)) fun ⟨a, e, z⟩ => .inr ⟨a, e, s _ _ z⟩
theorem TH.kp {x : V} {H H' : Hp} {p : Addr} (h : TH x H) (k : Kp [p] H H') (hp : Pot H p) : TH x H' := h.elim (fun z => .inl (z.kp k hp)) fun ⟨a, e, z⟩ => .inr ⟨a, e, k _ _ z fun q => by
  have q : a = p := by simpa using q
  subst q
  obtain ⟨i, j, y, _⟩ := hp
  rw [z] at y; cases y⟩
section
variable {P : Program} {w : World} {K : PySem.W.Frag} {mg : Str → Option Value} {base : Heap}
noncomputable def spMenu : Sp := fun vs H Q _ => ∃ (p : Addr), vs = [.ref p] ∧ Pot H p ∧ ∀ (x : V) (H' : Hp), Pot H' p → Kp [p] H H' → TH x H' → Q x H'
theorem sc24 : FnScope ["_law_pot_here", "_law_some"] ["_law_pot_here"] (defScope (top 24)) := ⟨rfl, rfl, rfl, by decide +kernel, rfl, by decide +kernel, by decide +kernel⟩
theorem ok_menu {f : Addr} {fd : FuncData} (F : Fun K "_law_menu" "_law_menu" (top 24) f fd) (B : Bl mg) (Ft : Fn P w K mg base 1 "_law_take" ["_law_pot_here", "_law_many"] spTake) : FnOk P w K mg base CX0 2 f fd ["_law_pot_here"] spMenu := by
  refine F.ok sc24 (fun vs H Q E h => ?_) (fun cdv A outer s H vs Q E hr h => ?_)
  · obtain ⟨p, rfl, _⟩ := h
    rfl
  · obtain ⟨p, rfl, hp, k⟩ := h
    refine' ⟨_, pss_cons ?s1 ?r1, ?main⟩
    case s1 =>
      refine' ps_set (i := 1) ?a_nd ?a_x ?a_y ?a_z ?a_hs ?a_hf
      case a_nd => exact sc24.nd
      case a_x => exact rfl
      case a_y => exact Or.inl rfl
      case a_hf => first | exact .inl rfl | exact .inr rfl
      case' a_z => refine' pe_lst ?a_l0
      case' a_l0 => refine' pa_cons ?a_i0 ?a_l1 ?a_h0
      case a_i0 => exact pe_non
      case a_h0 => exact se_C
      case' a_l1 => refine' pa_cons ?a_i1 ?a_l2 ?a_h1
      case a_i1 => exact pe_int
      case a_h1 => exact se_C
      case' a_l2 => refine' pa_cons ?a_i2 ?a_l3 ?a_h2
      case a_i2 => exact pe_int
      case a_h2 => exact se_C
      case' a_l3 => refine' pa_cons ?a_i3 ?a_l4 ?a_h3
      case a_i3 => exact pe_bl
      case a_h3 => exact se_C
      case' a_l4 => refine' pa_cons ?a_i4 ?a_l5 ?a_h4
      case a_i4 => exact pe_str
      case a_h4 => exact se_C
      case' a_l5 => refine' pa_cons ?a_i5 ?a_l6 ?a_h5
      case a_i5 => exact pe_str
      case a_h5 => exact se_C
      case' a_l6 => refine' pa_cons ?a_i6 ?a_l7 ?a_h6
      case' a_i6 => refine' pe_tup ?a_i6_l0
      case a_i6_l0 => exact pa_nil
      case a_h6 => exact se_T
      case' a_l7 => refine' pa_cons ?a_i7 ?a_l8 ?a_h7
      case' a_i7 => refine' pe_lst ?a_i7_l0
      case a_i7_l0 => exact pa_nil
      case a_h7 => exact se_L
      case' a_l8 => refine' pa_cons ?a_i8 ?a_l9 ?a_h8
      case a_i8 => exact pe_dnewK
      case a_h8 => exact se_D
      case' a_l9 => refine' pa_cons ?a_i9 ?a_l10 ?a_h9
      case' a_i9 => refine' pe_tup ?a_i9_l0
      case' a_i9_l0 => refine' pa_cons ?a_i9_i0 ?a_i9_l1 ?a_i9_h0
      case' a_i9_i0 => refine' pe_tup ?a_i9_i0_l0
      case a_i9_i0_l0 => exact pa_nil
      case a_i9_h0 => exact se_T
      case' a_i9_l1 => refine' pa_cons ?a_i9_i1 ?a_i9_l2 ?a_i9_h1
      case' a_i9_i1 => refine' pe_tup ?a_i9_i1_l0
      case a_i9_i1_l0 => exact pa_nil
      case a_i9_h1 => exact se_T
      case a_i9_l2 => exact pa_nil
      case a_h9 => exact se_T
      case' a_l10 => refine' pa_cons ?a_i10 ?a_l11 ?a_h10
      case' a_i10 => refine' pe_tup ?a_i10_l0
      case' a_i10_l0 => refine' pa_cons ?a_i10_i0 ?a_i10_l1 ?a_i10_h0
      case' a_i10_i0 => refine' pe_tup ?a_i10_i0_l0
      case' a_i10_i0_l0 => refine' pa_cons ?a_i10_i0_i0 ?a_i10_i0_l1 ?a_i10_i0_h0
      case a_i10_i0_i0 => exact pe_str
      case a_i10_i0_h0 => exact se_C
      case a_i10_i0_l1 => exact pa_nil
      case a_i10_h0 => exact se_T
      case a_i10_l1 => exact pa_nil
      case a_h10 => exact se_T
      case' a_l11 => refine' pa_cons ?a_i11 ?a_l12 ?a_h11
      case' a_i11 => refine' pe_tup ?a_i11_l0
      case' a_i11_l0 => refine' pa_cons ?a_i11_i0 ?a_i11_l1 ?a_i11_h0
      case' a_i11_i0 => refine' pe_tup ?a_i11_i0_l0
      case' a_i11_i0_l0 => refine' pa_cons ?a_i11_i0_i0 ?a_i11_i0_l1 ?a_i11_i0_h0
      case a_i11_i0_i0 => exact pe_str
      case a_i11_i0_h0 => exact se_C
      case a_i11_i0_l1 => exact pa_nil
      case a_i11_h0 => exact se_T
      case' a_i11_l1 => refine' pa_cons ?a_i11_i1 ?a_i11_l2 ?a_i11_h1
      case' a_i11_i1 => refine' pe_tup ?a_i11_i1_l0
      case a_i11_i1_l0 => exact pa_nil
      case a_i11_h1 => exact se_T
      case a_i11_l2 => exact pa_nil
      case a_h11 => exact se_T
      case' a_l12 => refine' pa_cons ?a_i12 ?a_l13 ?a_h12
      case' a_i12 => refine' pe_tup ?a_i12_l0
      case' a_i12_l0 => refine' pa_cons ?a_i12_i0 ?a_i12_l1 ?a_i12_h0
      case a_i12_i0 => exact pe_str
      case a_i12_h0 => exact se_C
      case' a_i12_l1 => refine' pa_cons ?a_i12_i1 ?a_i12_l2 ?a_i12_h1
      case' a_i12_i1 => refine' pe_tup ?a_i12_i1_l0
      case a_i12_i1_l0 => exact pa_nil
      case a_i12_h1 => exact se_T
      case a_i12_l2 => exact pa_nil
      case a_h12 => exact se_T
      case a_l13 => exact pa_nil
      case a_hs => kernel_rfl
    case r1 =>
      refine' pss_cons ?s2 ?r2
      case s2 =>
        refine' ps_set (i := 1) ?b_nd ?b_x ?b_y ?b_z ?b_hs ?b_hf
        case b_nd => exact sc24.nd
        case b_x => exact rfl
        case b_y => exact Or.inl rfl
        case b_hf => first | exact .inl rfl | exact .inr rfl
        case' b_z => refine' pe_op ?b_o ?b_a ?b_b
        case b_o => exact op_cat
        case b_a => exact pv 1
        case' b_b => refine' pe_lst ?b_l0
        case' b_l0 => refine' pa_cons ?b_i0 ?b_l1 ?b_h0
        case' b_i0 => refine' pe_tup ?b_i0_l0
        case' b_i0_l0 => refine' pa_cons ?b_i0_i0 ?b_i0_l1 ?b_i0_h0
        case' b_i0_i0 => refine' pe_tup ?b_i0_i0_l0
        case' b_i0_i0_l0 => refine' pa_cons ?b_i0_i0_i0 ?b_i0_i0_l1 ?b_i0_i0_h0
        case b_i0_i0_i0 => exact pe_str
        case b_i0_i0_h0 => exact se_C
        case b_i0_i0_l1 => exact pa_nil
        case b_i0_h0 => exact se_T
        case' b_i0_l1 => refine' pa_cons ?b_i0_i1 ?b_i0_l2 ?b_i0_h1
        case' b_i0_i1 => refine' pe_lst ?b_i0_i1_l0
        case' b_i0_i1_l0 => refine' pa_cons ?b_i0_i1_i0 ?b_i0_i1_l1 ?b_i0_i1_h0
        case' b_i0_i1_i0 => refine' pe_tup ?b_i0_i1_i0_l0
        case' b_i0_i1_i0_l0 => refine' pa_cons ?b_i0_i1_i0_i0 ?b_i0_i1_i0_l1 ?b_i0_i1_i0_h0
        case b_i0_i1_i0_i0 => exact pe_str
        case b_i0_i1_i0_h0 => exact se_C
        case' b_i0_i1_i0_l1 => refine' pa_cons ?b_i0_i1_i0_i1 ?b_i0_i1_i0_l2 ?b_i0_i1_i0_h1
        case b_i0_i1_i0_i1 => exact pe_str
        case b_i0_i1_i0_h1 => exact se_C
        case' b_i0_i1_i0_l2 => refine' pa_cons ?b_i0_i1_i0_i2 ?b_i0_i1_i0_l3 ?b_i0_i1_i0_h2
        case b_i0_i1_i0_i2 => exact pe_str
        case b_i0_i1_i0_h2 => exact se_C
        case b_i0_i1_i0_l3 => exact pa_nil
        case b_i0_i1_h0 => exact se_T
        case b_i0_i1_l1 => exact pa_nil
        case b_i0_h1 => exact se_L
        case b_i0_l2 => exact pa_nil
        case b_h0 => exact se_T
        case' b_l1 => refine' pa_cons ?b_i1 ?b_l2 ?b_h1
        case' b_i1 => refine' pe_tup ?b_i1_l0
        case' b_i1_l0 => refine' pa_cons ?b_i1_i0 ?b_i1_l1 ?b_i1_h0
        case' b_i1_i0 => refine' pe_tup ?b_i1_i0_l0
        case' b_i1_i0_l0 => refine' pa_cons ?b_i1_i0_i0 ?b_i1_i0_l1 ?b_i1_i0_h0
        case b_i1_i0_i0 => exact pe_str
        case b_i1_i0_h0 => exact se_C
        case b_i1_i0_l1 => exact pa_nil
        case b_i1_h0 => exact se_T
        case' b_i1_l1 => refine' pa_cons ?b_i1_i1 ?b_i1_l2 ?b_i1_h1
        case' b_i1_i1 => refine' pe_tup ?b_i1_i1_l0
        case' b_i1_i1_l0 => refine' pa_cons ?b_i1_i1_i0 ?b_i1_i1_l1 ?b_i1_i1_h0
        case' b_i1_i1_i0 => refine' pe_tup ?b_i1_i1_i0_l0
        case' b_i1_i1_i0_l0 => refine' pa_cons ?b_i1_i1_i0_i0 ?b_i1_i1_i0_l1 ?b_i1_i1_i0_h0
        case b_i1_i1_i0_i0 => exact pe_str
        case b_i1_i1_i0_h0 => exact se_C
        case' b_i1_i1_i0_l1 => refine' pa_cons ?b_i1_i1_i0_i1 ?b_i1_i1_i0_l2 ?b_i1_i1_i0_h1
        case b_i1_i1_i0_i1 => exact pe_str
        case b_i1_i1_i0_h1 => exact se_C
        case' b_i1_i1_i0_l2 => refine' pa_cons ?b_i1_i1_i0_i2 ?b_i1_i1_i0_l3 ?b_i1_i1_i0_h2
        case b_i1_i1_i0_i2 => exact pe_str
        case b_i1_i1_i0_h2 => exact se_C
        case b_i1_i1_i0_l3 => exact pa_nil
        case b_i1_i1_h0 => exact se_T
        case b_i1_i1_l1 => exact pa_nil
        case b_i1_h1 => exact se_T
        case b_i1_l2 => exact pa_nil
        case b_h1 => exact se_T
        case b_l2 => exact pa_nil
        case b_hs => kernel_rfl
      case r2 =>
        refine' pss_cons ?s3 ?r3
        case s3 =>
          refine' ps_set (i := 1) ?c_nd ?c_x ?c_y ?c_z ?c_hs ?c_hf
          case c_nd => exact sc24.nd
          case c_x => exact rfl
          case c_y => exact Or.inl rfl
          case c_hf => first | exact .inl rfl | exact .inr rfl
          case' c_z => refine' pe_op ?c_o ?c_a ?c_b
          case c_o => exact op_cat
          case c_a => exact pv 1
          case' c_b => refine' pe_lst ?c_l0
          case' c_l0 => refine' pa_cons ?c_i0 ?c_l1 ?c_h0
          case' c_i0 => refine' pe_tup ?c_i0_l0
          case' c_i0_l0 => refine' pa_cons ?c_i0_i0 ?c_i0_l1 ?c_i0_h0
          case' c_i0_i0 => refine' pe_tup ?c_i0_i0_l0
          case' c_i0_i0_l0 => refine' pa_cons ?c_i0_i0_i0 ?c_i0_i0_l1 ?c_i0_i0_h0
          case c_i0_i0_i0 => exact pe_str
          case c_i0_i0_h0 => exact se_C
          case' c_i0_i0_l1 => refine' pa_cons ?c_i0_i0_i1 ?c_i0_i0_l2 ?c_i0_i0_h1
          case c_i0_i0_i1 => exact pe_str
          case c_i0_i0_h1 => exact se_C
          case c_i0_i0_l2 => exact pa_nil
          case c_i0_h0 => exact se_T
          case' c_i0_l1 => refine' pa_cons ?c_i0_i1 ?c_i0_l2 ?c_i0_h1
          case' c_i0_i1 => refine' pe_tup ?c_i0_i1_l0
          case' c_i0_i1_l0 => refine' pa_cons ?c_i0_i1_i0 ?c_i0_i1_l1 ?c_i0_i1_h0
          case' c_i0_i1_i0 => refine' pe_tup ?c_i0_i1_i0_l0
          case' c_i0_i1_i0_l0 => refine' pa_cons ?c_i0_i1_i0_i0 ?c_i0_i1_i0_l1 ?c_i0_i1_i0_h0
          case c_i0_i1_i0_i0 => exact pe_str
          case c_i0_i1_i0_h0 => exact se_C
          case' c_i0_i1_i0_l1 => refine' pa_cons ?c_i0_i1_i0_i1 ?c_i0_i1_i0_l2 ?c_i0_i1_i0_h1
          case c_i0_i1_i0_i1 => exact pe_str
          case c_i0_i1_i0_h1 => exact se_C
          case' c_i0_i1_i0_l2 => refine' pa_cons ?c_i0_i1_i0_i2 ?c_i0_i1_i0_l3 ?c_i0_i1_i0_h2
          case c_i0_i1_i0_i2 => exact pe_str
          case c_i0_i1_i0_h2 => exact se_C
          case c_i0_i1_i0_l3 => exact pa_nil
          case c_i0_i1_h0 => exact se_T
          case' c_i0_i1_l1 => refine' pa_cons ?c_i0_i1_i1 ?c_i0_i1_l2 ?c_i0_i1_h1
          case' c_i0_i1_i1 => refine' pe_tup ?c_i0_i1_i1_l0
          case' c_i0_i1_i1_l0 => refine' pa_cons ?c_i0_i1_i1_i0 ?c_i0_i1_i1_l1 ?c_i0_i1_i1_h0
          case c_i0_i1_i1_i0 => exact pe_str
          case c_i0_i1_i1_h0 => exact se_C
          case' c_i0_i1_i1_l1 => refine' pa_cons ?c_i0_i1_i1_i1 ?c_i0_i1_i1_l2 ?c_i0_i1_i1_h1
          case c_i0_i1_i1_i1 => exact pe_str
          case c_i0_i1_i1_h1 => exact se_C
          case' c_i0_i1_i1_l2 => refine' pa_cons ?c_i0_i1_i1_i2 ?c_i0_i1_i1_l3 ?c_i0_i1_i1_h2
          case c_i0_i1_i1_i2 => exact pe_str
          case c_i0_i1_i1_h2 => exact se_C
          case c_i0_i1_i1_l3 => exact pa_nil
          case c_i0_i1_h1 => exact se_T
          case c_i0_i1_l2 => exact pa_nil
          case c_i0_h1 => exact se_T
          case c_i0_l2 => exact pa_nil
          case c_h0 => exact se_T
          case' c_l1 => refine' pa_cons ?c_i1 ?c_l2 ?c_h1
          case' c_i1 => refine' pe_tup ?c_i1_l0
          case' c_i1_l0 => refine' pa_cons ?c_i1_i0 ?c_i1_l1 ?c_i1_h0
          case' c_i1_i0 => refine' pe_tup ?c_i1_i0_l0
          case' c_i1_i0_l0 => refine' pa_cons ?c_i1_i0_i0 ?c_i1_i0_l1 ?c_i1_i0_h0
          case c_i1_i0_i0 => exact pe_str
          case c_i1_i0_h0 => exact se_C
          case' c_i1_i0_l1 => refine' pa_cons ?c_i1_i0_i1 ?c_i1_i0_l2 ?c_i1_i0_h1
          case c_i1_i0_i1 => exact pe_str
          case c_i1_i0_h1 => exact se_C
          case c_i1_i0_l2 => exact pa_nil
          case c_i1_h0 => exact se_T
          case' c_i1_l1 => refine' pa_cons ?c_i1_i1 ?c_i1_l2 ?c_i1_h1
          case' c_i1_i1 => refine' pe_tup ?c_i1_i1_l0
          case' c_i1_i1_l0 => refine' pa_cons ?c_i1_i1_i0 ?c_i1_i1_l1 ?c_i1_i1_h0
          case' c_i1_i1_i0 => refine' pe_tup ?c_i1_i1_i0_l0
          case' c_i1_i1_i0_l0 => refine' pa_cons ?c_i1_i1_i0_i0 ?c_i1_i1_i0_l1 ?c_i1_i1_i0_h0
          case c_i1_i1_i0_i0 => exact pe_str
          case c_i1_i1_i0_h0 => exact se_C
          case' c_i1_i1_i0_l1 => refine' pa_cons ?c_i1_i1_i0_i1 ?c_i1_i1_i0_l2 ?c_i1_i1_i0_h1
          case c_i1_i1_i0_i1 => exact pe_str
          case c_i1_i1_i0_h1 => exact se_C
          case' c_i1_i1_i0_l2 => refine' pa_cons ?c_i1_i1_i0_i2 ?c_i1_i1_i0_l3 ?c_i1_i1_i0_h2
          case c_i1_i1_i0_i2 => exact pe_str
          case c_i1_i1_i0_h2 => exact se_C
          case c_i1_i1_i0_l3 => exact pa_nil
          case c_i1_i1_h0 => exact se_T
          case' c_i1_i1_l1 => refine' pa_cons ?c_i1_i1_i1 ?c_i1_i1_l2 ?c_i1_i1_h1
          case' c_i1_i1_i1 => refine' pe_tup ?c_i1_i1_i1_l0
          case' c_i1_i1_i1_l0 => refine' pa_cons ?c_i1_i1_i1_i0 ?c_i1_i1_i1_l1 ?c_i1_i1_i1_h0
          case c_i1_i1_i1_i0 => exact pe_str
          case c_i1_i1_i1_h0 => exact se_C
          case' c_i1_i1_i1_l1 => refine' pa_cons ?c_i1_i1_i1_i1 ?c_i1_i1_i1_l2 ?c_i1_i1_i1_h1
          case c_i1_i1_i1_i1 => exact pe_str
          case c_i1_i1_i1_h1 => exact se_C
          case' c_i1_i1_i1_l2 => refine' pa_cons ?c_i1_i1_i1_i2 ?c_i1_i1_i1_l3 ?c_i1_i1_i1_h2
          case c_i1_i1_i1_i2 => exact pe_str
          case c_i1_i1_i1_h2 => exact se_C
          case c_i1_i1_i1_l3 => exact pa_nil
          case c_i1_i1_h1 => exact se_T
          case c_i1_i1_l2 => exact pa_nil
          case c_i1_h1 => exact se_T
          case c_i1_l2 => exact pa_nil
          case c_h1 => exact se_T
          case c_l2 => exact pa_nil
          case c_hs => kernel_rfl
        case r3 => exact pss_one (ps_ret (pe_ix ix_seq (pv 1) (pe_fn Ft hr (pa_cons (pv 0) (pa_cons (pe_callB call_len_seq rfl B.len PySem.boot_len (pa_cons (pv 1) pa_nil)) pa_nil))) (fun _ _ => rfl)))
    case main =>
      have a13 : Ya TH tNil [some (.ref p), none] H 0 := .nil
      have yD : Yd tDNewK [some (.ref p), none] H TH := fun H' s Q k p hp => k _ _ (same_upd (Same.refl _) hp) (.inr ⟨p, rfl, upd_same⟩)
      have a12 := Ya.cons TH.keeps ((((Yd.tup (n := 2) (B := 900) (D := 2) (.cons DY.keeps (Yd.con (v := .str (Str.ofString "a")) fun _ => (DY.str (Str.ofString "a") ⟨by decide +kernel, by decide +kernel⟩ (by decide +kernel)).mono (by decide) (by decide)) (.cons DY.keeps ((Yd.tup (n := 0) (B := 400) (D := 1) .nil (by decide)).dy (by decide) (by decide) (by decide)) .nil)) (by decide)).dy (by decide) (by decide) (by decide)) : Yd _ [some (.ref p), none] H (DY 55000 5)).imp fun x H z => Or.inl z) a13
      have a11 := Ya.cons TH.keeps ((((Yd.tup (n := 2) (B := 900) (D := 2) (.cons DY.keeps ((Yd.tup (n := 1) (B := 400) (D := 1) (.cons DY.keeps (Yd.con (v := .str (Str.ofString "a")) fun _ => (DY.str (Str.ofString "a") ⟨by decide +kernel, by decide +kernel⟩ (by decide +kernel)).mono (by decide) (by decide)) .nil) (by decide)).dy (by decide) (by decide) (by decide)) (.cons DY.keeps ((Yd.tup (n := 0) (B := 400) (D := 1) .nil (by decide)).dy (by decide) (by decide) (by decide)) .nil)) (by decide)).dy (by decide) (by decide) (by decide)) : Yd _ [some (.ref p), none] H (DY 55000 5)).imp fun x H z => Or.inl z) a12
      have a10 := Ya.cons TH.keeps ((((Yd.tup (n := 1) (B := 900) (D := 2) (.cons DY.keeps ((Yd.tup (n := 1) (B := 400) (D := 1) (.cons DY.keeps (Yd.con (v := .str (Str.ofString "a")) fun _ => (DY.str (Str.ofString "a") ⟨by decide +kernel, by decide +kernel⟩ (by decide +kernel)).mono (by decide) (by decide)) .nil) (by decide)).dy (by decide) (by decide) (by decide)) .nil) (by decide)).dy (by decide) (by decide) (by decide)) : Yd _ [some (.ref p), none] H (DY 55000 5)).imp fun x H z => Or.inl z) a11
      have a9 := Ya.cons TH.keeps ((((Yd.tup (n := 2) (B := 900) (D := 2) (.cons DY.keeps ((Yd.tup (n := 0) (B := 400) (D := 1) .nil (by decide)).dy (by decide) (by decide) (by decide)) (.cons DY.keeps ((Yd.tup (n := 0) (B := 400) (D := 1) .nil (by decide)).dy (by decide) (by decide) (by decide)) .nil)) (by decide)).dy (by decide) (by decide) (by decide)) : Yd _ [some (.ref p), none] H (DY 55000 5)).imp fun x H z => Or.inl z) a10
      have a8 := Ya.cons TH.keeps yD a9
      have a7 := Ya.cons TH.keeps ((((Yd.lstD (n := 0) (B := 900) (D := 2) .nil (by decide) (by decide)).dmono (by decide) (by decide)) : Yd _ [some (.ref p), none] H (DY 55000 5)).imp fun x H z => Or.inl z) a8
      have a6 := Ya.cons TH.keeps ((((Yd.tup (n := 0) (B := 900) (D := 2) .nil (by decide)).dy (by decide) (by decide) (by decide)) : Yd _ [some (.ref p), none] H (DY 55000 5)).imp fun x H z => Or.inl z) a7
      have a5 := Ya.cons TH.keeps (((Yd.con (v := .str (Str.ofString "a")) fun _ => (DY.str (Str.ofString "a") ⟨by decide +kernel, by decide +kernel⟩ (by decide +kernel)).mono (by decide) (by decide)) : Yd _ [some (.ref p), none] H (DY 55000 5)).imp fun x H z => Or.inl z) a6
      have a4 := Ya.cons TH.keeps (((Yd.con (v := .str (Str.ofString "")) fun _ => (DY.str (Str.ofString "") ⟨by decide +kernel, by decide +kernel⟩ (by decide +kernel)).mono (by decide) (by decide)) : Yd _ [some (.ref p), none] H (DY 55000 5)).imp fun x H z => Or.inl z) a5
      have a3 := Ya.cons TH.keeps (((Yd.con (v := .bl true) fun _ => (DY.bl true).mono (by decide) (by decide)) : Yd _ [some (.ref p), none] H (DY 55000 5)).imp fun x H z => Or.inl z) a4
      have a2 := Ya.cons TH.keeps (((Yd.con (v := .int 1) fun _ => (DY.int 1 (by decide) (by decide)).mono (by decide) (by decide)) : Yd _ [some (.ref p), none] H (DY 55000 5)).imp fun x H z => Or.inl z) a3
      have a1 := Ya.cons TH.keeps (((Yd.con (v := .int 0) fun _ => (DY.int 0 (by decide) (by decide)).mono (by decide) (by decide)) : Yd _ [some (.ref p), none] H (DY 55000 5)).imp fun x H z => Or.inl z) a2
      have a0 := Ya.cons TH.keeps (((Yd.con (v := .non) fun _ => DY.non.mono (by decide) (by decide)) : Yd _ [some (.ref p), none] H (DY 55000 5)).imp fun x H z => Or.inl z) a1
      refine sq_lst TH.keeps a0 (by decide) fun q1 xs1 H1 s1 h1 t1 l1 n1 => ?_
      have b2 : Ya TH tNil [some (.ref p), some (.ref q1)] H1 0 := .nil
      have yD : Yd tDNewK [some (.ref p), some (.ref q1)] H1 TH := fun H' s Q k p hp => k _ _ (same_upd (Same.refl _) hp) (.inr ⟨p, rfl, upd_same⟩)
      have b1 := Ya.cons TH.keeps ((((Yd.tup (n := 2) (B := 900) (D := 2) (.cons DY.keeps ((Yd.tup (n := 1) (B := 400) (D := 1) (.cons DY.keeps (Yd.con (v := .str (Str.ofString "a")) fun _ => (DY.str (Str.ofString "a") ⟨by decide +kernel, by decide +kernel⟩ (by decide +kernel)).mono (by decide) (by decide)) .nil) (by decide)).dy (by decide) (by decide) (by decide)) (.cons DY.keeps ((Yd.tup (n := 1) (B := 400) (D := 1) (.cons DY.keeps ((Yd.tup (n := 3) (B := 100) (D := 0) (.cons DY.keeps (Yd.con (v := .str (Str.ofString "t")) fun _ => (DY.str (Str.ofString "t") ⟨by decide +kernel, by decide +kernel⟩ (by decide +kernel)).mono (by decide) (by decide)) (.cons DY.keeps (Yd.con (v := .str (Str.ofString "a")) fun _ => (DY.str (Str.ofString "a") ⟨by decide +kernel, by decide +kernel⟩ (by decide +kernel)).mono (by decide) (by decide)) (.cons DY.keeps (Yd.con (v := .str (Str.ofString "a")) fun _ => (DY.str (Str.ofString "a") ⟨by decide +kernel, by decide +kernel⟩ (by decide +kernel)).mono (by decide) (by decide)) .nil))) (by decide)).dy (by decide) (by decide) (by decide)) .nil) (by decide)).dy (by decide) (by decide) (by decide)) .nil)) (by decide)).dy (by decide) (by decide) (by decide)) : Yd _ [some (.ref p), some (.ref q1)] H1 (DY 55000 5)).imp fun x H z => Or.inl z) b2
      have b0 := Ya.cons TH.keeps ((((Yd.tup (n := 2) (B := 900) (D := 2) (.cons DY.keeps ((Yd.tup (n := 1) (B := 400) (D := 1) (.cons DY.keeps (Yd.con (v := .str (Str.ofString "a")) fun _ => (DY.str (Str.ofString "a") ⟨by decide +kernel, by decide +kernel⟩ (by decide +kernel)).mono (by decide) (by decide)) .nil) (by decide)).dy (by decide) (by decide) (by decide)) (.cons DY.keeps ((Yd.lstD (n := 1) (B := 400) (D := 1) (.cons DY.keeps ((Yd.tup (n := 3) (B := 100) (D := 0) (.cons DY.keeps (Yd.con (v := .str (Str.ofString "t")) fun _ => (DY.str (Str.ofString "t") ⟨by decide +kernel, by decide +kernel⟩ (by decide +kernel)).mono (by decide) (by decide)) (.cons DY.keeps (Yd.con (v := .str (Str.ofString "a")) fun _ => (DY.str (Str.ofString "a") ⟨by decide +kernel, by decide +kernel⟩ (by decide +kernel)).mono (by decide) (by decide)) (.cons DY.keeps (Yd.con (v := .str (Str.ofString "a")) fun _ => (DY.str (Str.ofString "a") ⟨by decide +kernel, by decide +kernel⟩ (by decide +kernel)).mono (by decide) (by decide)) .nil))) (by decide)).dy (by decide) (by decide) (by decide)) .nil) (by decide) (by decide)).dmono (by decide) (by decide)) .nil)) (by decide)).dy (by decide) (by decide) (by decide)) : Yd _ [some (.ref p), some (.ref q1)] H1 (DY 55000 5)).imp fun x H z => Or.inl z) b1
      refine sq_cat TH.keeps (q := q1) rfl h1 t1 b0 (by omega) fun q2 xs2 H2 s2 h2 t2 l2 n2 => ?_
      have c2 : Ya TH tNil [some (.ref p), some (.ref q2)] H2 0 := .nil
      have yD : Yd tDNewK [some (.ref p), some (.ref q2)] H2 TH := fun H' s Q k p hp => k _ _ (same_upd (Same.refl _) hp) (.inr ⟨p, rfl, upd_same⟩)
      have c1 := Ya.cons TH.keeps ((((Yd.tup (n := 2) (B := 900) (D := 2) (.cons DY.keeps ((Yd.tup (n := 2) (B := 400) (D := 1) (.cons DY.keeps (Yd.con (v := .str (Str.ofString "a")) fun _ => (DY.str (Str.ofString "a") ⟨by decide +kernel, by decide +kernel⟩ (by decide +kernel)).mono (by decide) (by decide)) (.cons DY.keeps (Yd.con (v := .str (Str.ofString "b")) fun _ => (DY.str (Str.ofString "b") ⟨by decide +kernel, by decide +kernel⟩ (by decide +kernel)).mono (by decide) (by decide)) .nil)) (by decide)).dy (by decide) (by decide) (by decide)) (.cons DY.keeps ((Yd.tup (n := 2) (B := 400) (D := 1) (.cons DY.keeps ((Yd.tup (n := 3) (B := 100) (D := 0) (.cons DY.keeps (Yd.con (v := .str (Str.ofString "b")) fun _ => (DY.str (Str.ofString "b") ⟨by decide +kernel, by decide +kernel⟩ (by decide +kernel)).mono (by decide) (by decide)) (.cons DY.keeps (Yd.con (v := .str (Str.ofString "a")) fun _ => (DY.str (Str.ofString "a") ⟨by decide +kernel, by decide +kernel⟩ (by decide +kernel)).mono (by decide) (by decide)) (.cons DY.keeps (Yd.con (v := .str (Str.ofString "b")) fun _ => (DY.str (Str.ofString "b") ⟨by decide +kernel, by decide +kernel⟩ (by decide +kernel)).mono (by decide) (by decide)) .nil))) (by decide)).dy (by decide) (by decide) (by decide)) (.cons DY.keeps ((Yd.tup (n := 3) (B := 100) (D := 0) (.cons DY.keeps (Yd.con (v := .str (Str.ofString "a")) fun _ => (DY.str (Str.ofString "a") ⟨by decide +kernel, by decide +kernel⟩ (by decide +kernel)).mono (by decide) (by decide)) (.cons DY.keeps (Yd.con (v := .str (Str.ofString "b")) fun _ => (DY.str (Str.ofString "b") ⟨by decide +kernel, by decide +kernel⟩ (by decide +kernel)).mono (by decide) (by decide)) (.cons DY.keeps (Yd.con (v := .str (Str.ofString "a")) fun _ => (DY.str (Str.ofString "a") ⟨by decide +kernel, by decide +kernel⟩ (by decide +kernel)).mono (by decide) (by decide)) .nil))) (by decide)).dy (by decide) (by decide) (by decide)) .nil)) (by decide)).dy (by decide) (by decide) (by decide)) .nil)) (by decide)).dy (by decide) (by decide) (by decide)) : Yd _ [some (.ref p), some (.ref q2)] H2 (DY 55000 5)).imp fun x H z => Or.inl z) c2
      have c0 := Ya.cons TH.keeps ((((Yd.tup (n := 2) (B := 900) (D := 2) (.cons DY.keeps ((Yd.tup (n := 2) (B := 400) (D := 1) (.cons DY.keeps (Yd.con (v := .str (Str.ofString "a")) fun _ => (DY.str (Str.ofString "a") ⟨by decide +kernel, by decide +kernel⟩ (by decide +kernel)).mono (by decide) (by decide)) (.cons DY.keeps (Yd.con (v := .str (Str.ofString "b")) fun _ => (DY.str (Str.ofString "b") ⟨by decide +kernel, by decide +kernel⟩ (by decide +kernel)).mono (by decide) (by decide)) .nil)) (by decide)).dy (by decide) (by decide) (by decide)) (.cons DY.keeps ((Yd.tup (n := 2) (B := 400) (D := 1) (.cons DY.keeps ((Yd.tup (n := 3) (B := 100) (D := 0) (.cons DY.keeps (Yd.con (v := .str (Str.ofString "t")) fun _ => (DY.str (Str.ofString "t") ⟨by decide +kernel, by decide +kernel⟩ (by decide +kernel)).mono (by decide) (by decide)) (.cons DY.keeps (Yd.con (v := .str (Str.ofString "a")) fun _ => (DY.str (Str.ofString "a") ⟨by decide +kernel, by decide +kernel⟩ (by decide +kernel)).mono (by decide) (by decide)) (.cons DY.keeps (Yd.con (v := .str (Str.ofString "b")) fun _ => (DY.str (Str.ofString "b") ⟨by decide +kernel, by decide +kernel⟩ (by decide +kernel)).mono (by decide) (by decide)) .nil))) (by decide)).dy (by decide) (by decide) (by decide)) (.cons DY.keeps ((Yd.tup (n := 3) (B := 100) (D := 0) (.cons DY.keeps (Yd.con (v := .str (Str.ofString "t")) fun _ => (DY.str (Str.ofString "t") ⟨by decide +kernel, by decide +kernel⟩ (by decide +kernel)).mono (by decide) (by decide)) (.cons DY.keeps (Yd.con (v := .str (Str.ofString "b")) fun _ => (DY.str (Str.ofString "b") ⟨by decide +kernel, by decide +kernel⟩ (by decide +kernel)).mono (by decide) (by decide)) (.cons DY.keeps (Yd.con (v := .str (Str.ofString "a")) fun _ => (DY.str (Str.ofString "a") ⟨by decide +kernel, by decide +kernel⟩ (by decide +kernel)).mono (by decide) (by decide)) .nil))) (by decide)).dy (by decide) (by decide) (by decide)) .nil)) (by decide)).dy (by decide) (by decide) (by decide)) .nil)) (by decide)).dy (by decide) (by decide) (by decide)) : Yd _ [some (.ref p), some (.ref q2)] H2 (DY 55000 5)).imp fun x H z => Or.inl z) c1
      refine sq_cat TH.keeps (q := q2) rfl h2 t2 c0 (by omega) fun q xs H3 s3 h3 t3 l3 n3 => ?_
      have P2 := (hp.same s1).same s2
      have nqp : q ≠ p := fun z => by obtain ⟨o, e⟩ := P2.some; rw [← z, n3] at e; cases e
      have P3 := P2.same s3
      refine ⟨_, rfl, _, rfl, _, rfl, q, _, rfl, .inl (SqL.of h3), p, _, rfl, P3, by omega, by omega, fun i H4 b0 b1 P4 e4 => ?_⟩
      have hi : i.toNat < xs.length := by omega
      refine rix_of (j := i.toNat) (.inl (SqL.of (by rw [e4 q nqp]; exact h3))) (by omega) (List.getElem?_eq_getElem hi) ?_
      exact k _ H4 P4 ((Kp.same (s1.trans (s2.trans s3))).trans (kp1 e4)) ((t3 _ (List.getElem_mem hi)).kp (kp1 e4) P3)
end
end K11

set_option Elab.async false
set_option linter.all false
set_option maxRecDepth 100000
set_option maxHeartbeats 4000000
namespace L2
open PySem PySem.Spec PyProof.Rows PySem.W PySem.Calls
section
variable {X : Cx}
/-- b is not True -/
theorem op_isnot_bl : OpR X (compareOp .IsNot) (fun x y H Q => ∃ a b, x = .bl a ∧ y = .bl b ∧ Q (.bl (!decide (a = b))) H) := by
  intro pins s σ H x y v u Q I rx ry h
  obtain ⟨a, b, rfl, rfl, q⟩ := h
  cases rx
  cases ry
  show wpAny _ _ (isSame (.bool a) (.bool b) >>= fun r => pure (Value.bool (!r))) _ _ s
  refine wpAny_bind (wpAny_of_eq (a := decide (a = b)) (by cases a <;> cases b <;> rfl) ?_)
  exact wpAny_pure ⟨.bl (!decide (a = b)), H, I, rfl, q⟩
end
end L2
namespace K11
open PySem L2
theorem web_true {ps : List Str} {rows : List Row} (G : Good ps rows) : webB (.tuple [.tuple (ps.map PyData.str), .tuple (rows.map rowD)]) = true := by
  have h1 : (ps.map PyData.str).all nameD = true := List.all_eq_true.mpr fun d hd => by
    obtain ⟨x, hx, rfl⟩ := List.mem_map.mp hd
    exact okName_iff.mpr (G.nm x hx)
  have h2 : sortedD (.tuple (ps.map PyData.str)) = true := by
    show ((ps.map PyData.str).all nameD && risB (txts _)) = true
    rw [h1, txts_map, risB_t.mpr G.so]; rfl
  have h3 : (!(ps.map PyData.str).isEmpty) = true := by
    cases hc : ps with
    | nil => exact absurd hc G.ne
    | cons _ _ => rfl
  have h4 : (rows.map rowD).all (tieD ps) = true := List.all_eq_true.mpr fun d hd => by
    obtain ⟨r, hr, rfl⟩ := List.mem_map.mp hd
    obtain ⟨a, b, c, e⟩ := G.rn r hr
    show (nameD (.str r.1) && (decide (r.2.1 ∈ ps) && (decide (r.2.2 ∈ ps) && !decide (r.2.1 = r.2.2)))) = true
    have n1 : nameD (.str r.1) = true := okName_iff.mpr a
    rw [n1, decide_eq_true b, decide_eq_true c, decide_eq_false e]; rfl
  have h5 : risB ((rows.map rowD).map rowNm) = true := by
    rw [List.map_map]
    exact risB_t.mpr G.rso
  show (sortedD (.tuple (ps.map PyData.str)) && (!(ps.map PyData.str).isEmpty && (true && ((rows.map rowD).all (tieD (txts (ps.map PyData.str))) && risB ((rows.map rowD).map rowNm))))) = true
  rw [h2, h3, txts_map, h4, h5]; rfl
section
variable {P : Program} {w : World} {K : PySem.W.Frag} {mg : Str → Option Value} {base : Heap}
noncomputable def spLaw (K : PySem.W.Frag) : Sp := fun vs H Q _ => ∃ (a : Addr) (ns : List Int), vs = [.ref a] ∧ SqL K H a (ns.map V.int) ∧ ns.length ≤ 63 ∧ ∀ H', Q (.bl true) H'
noncomputable abbrev N25 : List Str := ["_law_script", "_law_k", "_law_pot_here", "_law_web_here", "_law_things", "_law_thing", "_law_before", "_law_found"]
theorem sc25 : FnScope N25 ["_law_script"] (defScope (top 25)) := ⟨rfl, rfl, rfl, by decide +kernel, rfl, by decide +kernel, by decide +kernel⟩
theorem ok_law {f : Addr} {fd : FuncData} (F : Fun K "law" "law" (top 25) f fd) (B : Bl mg) (Fp : Fn P w K mg base 2 "_law_pot" ["_law_script", "_law_k"] (spPot K)) (Fw : Fn P w K mg base 4 "_law_web" ["_law_pot_here", "_law_most_places", "_law_most_more"] spWebT)
    (Fi : Fn P w K mg base 3 "is_web" ["thing"] spWebD) (Fg : Fn P w K mg base 3 "_law_is_web" ["_law_thing"] spWebD) (Fo : Fn P w K mg base 5 "_law_other" ["_law_pot_here", "_law_web_here"] spOther) (Fm : Fn P w K mg base 2 "_law_menu" ["_law_pot_here"] spMenu) : FnOk P w K mg base CX0 6 f fd ["_law_script"] (spLaw K) := by
  refine F.ok sc25 (fun vs H Q E h => ?_) (fun cdv A outer s H vs Q E hr h => ?_)
  · obtain ⟨a, ns, rfl, _⟩ := h
    rfl
  · obtain ⟨a, ns, rfl, hS, hlen, k⟩ := h
    have hr2 : Room 2 _ := hr.mono (by decide)
    have hr3 : Room 3 _ := hr.mono (by decide)
    have hr4 : Room 4 _ := hr.mono (by decide)
    refine ⟨_, pss_cons (ps_for PassesOwn.never rfl (pi_range1 rfl B.range (pa_cons (pe_callB (call_max2 rfl) rfl B.max b_max (pa_cons pe_int (pa_cons (pe_callB (call_min2 rfl) rfl B.min b_min (pa_cons (pe_callB call_len_seq rfl B.len PySem.boot_len (pa_cons (pv 0) pa_nil)) (pa_cons pe_int pa_nil))) pa_nil))) pa_nil)) (pg_name (i := 1) sc25.nd rfl (Or.inl rfl))
        (pss_cons (ps_set (i := 2) sc25.nd rfl (Or.inr rfl) (pe_fn Fp hr2 (pa_cons (pv 0) (pa_cons (pv 1) pa_nil))))
        (pss_cons (ps_set (i := 3) sc25.nd rfl (Or.inr rfl) (pe_ix ix_seq (pe_fn Fw hr4 (pa_cons (pv 2) (pa_cons pe_int (pa_cons pe_int pa_nil)))) pe_int (fun _ _ => rfl)))
        (pss_cons (ps_if (pt_cmpR op_isnot_bl (pe_fn Fi hr3 (pa_cons (pv 3) pa_nil)) pe_bl (nomark _)) pss_never pss_nil)
        (pss_cons (ps_set (i := 4) sc25.nd rfl (Or.inl rfl) (pe_op op_cat (pe_lc (N := ["_law_turn", "_law_pot_here", "_law_web_here"]) (ix := [none, some 2, some 3]) ⟨rfl, rfl, rfl, by decide⟩ rfl (pi_range1 rfl B.range (pa_cons pe_int pa_nil)) (fun _ _ _ _ => pg_lc 0 (by decide) rfl rfl) (fun _ _ _ _ => pts_nil)
            (fun _ _ _ _ => pe_fn Fo hr (pa_cons (pv 1) (pa_cons (pv 2) pa_nil)))) (pe_lst (pa_cons (pe_fn Fm hr2 (pa_cons (pv 2) pa_nil)) pa_nil))))
        (pss_one (ps_for PassesOwn.never rfl (pi_list (pv 4)) (pg_name (i := 5) sc25.nd rfl (Or.inl rfl))
          (pss_cons (ps_set (i := 6) sc25.nd rfl (Or.inl rfl) (pe_callB (call_reprX hr) rfl B.repr b_repr (pa_cons (pv 5) pa_nil)))
          (pss_cons (ps_set (i := 7) sc25.nd rfl (Or.inl rfl) (pe_fn Fi hr3 (pa_cons (pv 5) pa_nil)))
          (pss_one (ps_if (PW.pt (pw_or (pt_not (pt_val (pe_callB (call_isinst (T := "bool")) rfl B.isinstance b_isinstance (pa_cons (pv 7) (pa_cons (pe_bltn (v := .ty "bool") rfl B.bool b_bool rfl) pa_nil)))))
            (pw_or (pt_cmpR op_ne (pv 7) (pe_fn Fg hr3 (pa_cons (pv 5) pa_nil)) (nomark _)) (pw_or1 (pt_cmpR op_ne (pe_callB (call_reprX hr) rfl B.repr b_repr (pa_cons (pv 5) pa_nil)) (pv 6) (nomark _)))))) pss_never pss_nil)))))))))))
      (pss_one (ps_ret pe_bl)), ?_⟩
    refine ⟨_, rfl, a, _, rfl, .inl hS, _, _, rfl, _, _, rfl, _, rfl, ?_, ?_, ?_⟩
    · repeat' split
      all_goals omega
    · repeat' split
      all_goals omega
    have hn9 : ∀ x : Int, x = (if (if (6 : Int) < ((ns.map V.int).length : Int) then 6 else ((ns.map V.int).length : Int)) > 1 then (if (6 : Int) < ((ns.map V.int).length : Int) then 6 else ((ns.map V.int).length : Int)) else 1) → x.toNat ≤ 8 := fun x hx => by
      subst hx
      repeat' split
      all_goals omega
    refine for_range (fun i σ H1 => (∃ g1 g2 g3 g4 g5 g6 g7, σ = [some (.ref a), g1, g2, g3, g4, g5, g6, g7]) ∧ Same H H1) ⟨⟨_, _, _, _, _, _, _, rfl⟩, Same.refl _⟩ ?_ (fun σ H1 _ => k H1)
    rintro i σ H1 hi ⟨⟨g1, g2, g3, g4, g5, g6, g7, rfl⟩, s1⟩
    have hi8 : i < 8 := Nat.lt_of_lt_of_le hi (hn9 _ rfl)
    refine ⟨_, rfl, _, rfl, a, ns, _, rfl, s1.seq hS, by omega, by omega, fun p H2 s2 p0 P2 => ?_⟩
    refine ⟨_, rfl, p, rfl, P2, fun w0 v tl pa ra root ps rs ts H3 P3 w3 W3 G p8 r40 K3 tl3 T3 O3 hroot t3 => ?_⟩
    have sH3 : Same H1 H3 := fun b o e => K3 b o (s2 b o e) (by simp; exact ne_of_none e p0)
    refine rix_of (j := 0) (.inr (SqT.of w3)) rfl rfl ?_
    -- the web itself
    have rnm : ∀ r ∈ rs, NameP r.2.1 ∧ NameP r.2.2.1 ∧ NameP r.2.2.2 := fun r hr' => by
      obtain ⟨a, b, c, _⟩ := G.rn r.2 (List.mem_map_of_mem hr')
      exact ⟨a, G.nm _ b, G.nm _ c⟩
    have dok : Dok (.tuple [.tuple (ps.map PyData.str), .tuple ((rs.map (·.2)).map rowD)]) := by
      refine .tup _ (by simp) fun d hd => ?_
      simp at hd
      rcases hd with rfl | rfl
      · refine .tup _ (by simp; omega) fun d hd => ?_
        obtain ⟨x, hx, rfl⟩ := List.mem_map.mp hd
        exact .str x ⟨by have := (G.nm x hx).hi; omega, (G.nm x hx).ascii⟩
      · refine .tup _ (by simp; omega) fun d hd => ?_
        have hd' : d ∈ (rs.map (·.2)).map rowD := by simpa using hd
        obtain ⟨r, hr', rfl⟩ := List.mem_map.mp hd'
        obtain ⟨t, ht, rfl⟩ := List.mem_map.mp hr'
        obtain ⟨a, b, c⟩ := rnm t ht
        exact (row_bd a b c).ok
    refine ⟨_, rfl, .inl ⟨.ref v, _, rfl, .tup W3.tp (.cons (.tup W3.pl (DVs.strs ps)) (.cons (.tup W3.rl (rowsDV W3.rows)) .nil)), dok, fun H4 s4 => ?_⟩⟩
    rw [web_true G]
    refine ⟨true, true, rfl, rfl, _, rfl, iteF ?_⟩
    have P4 := P3.same s4
    have W4 := W3.same s4
    -- the things
    refine ⟨6, rfl, by decide, by decide, lcw_range0 (n := 6) (fits (by decide)) (fun i ys σ H5 => Pot H5 p ∧ Kp [p] H4 H5 ∧ (∀ x ∈ ys, TH x H5) ∧ ys.length = i ∧ ∃ z, σ = [z, some (.ref p), some (.ref v)]) ⟨P4, Kp.refl _ _, by simp, rfl, _, rfl⟩ (fun i ys σ H5 _ q => by rw [q.2.2.2.1]; exact Nat.le_refl _) ?_ ?_⟩
    · rintro i ys σ H5 hi ⟨P5, K5, t5, l5, z, rfl⟩
      have W5 : WebAt H5 v pa ra ps rs := ⟨K5.tup P4 W4.tp, K5.tup P4 W4.pl, K5.tup P4 W4.rl, fun r hr' => K5.tup P4 (W4.rows r hr')⟩
      refine ⟨_, rfl, _, rfl, p, v, pa, ra, ps, rs, rfl, P5, W5, G, p8, r40, fun x H6 P6 K6 hx => ⟨P6, K5.trans K6, fun y hy => ?_, by simp [l5], _, rfl⟩⟩
      rcases List.mem_append.mp hy with q | q
      · exact (t5 y q).kp K6 P5
      · rw [List.mem_singleton.mp q]; exact .inl hx
    rintro ys σ H5 ⟨P5, K5, t5, l5, z, rfl⟩ q hq
    have s6 := same_upd (o := .lst ys) (Same.refl H5) hq
    have q6 : upd H5 q (.lst ys) q = some (.lst ys) := upd_same
    have nqp : q ≠ p := fun e => by obtain ⟨o, e'⟩ := P5.some; rw [← e, hq] at e'; cases e'
    have t6 : ∀ x ∈ ys, TH x (upd H5 q (.lst ys)) := fun x hx => TH.keeps _ _ _ (t5 x hx) s6
    generalize upd H5 q (.lst ys) = H6 at s6 q6 t6 ⊢
    have P6 := P5.same s6
    refine ⟨_, rfl, p, rfl, P6, fun m H7 P7 K7 hm => ⟨by show 1 ≤ sizeLine; decide, fun l hl => ?_⟩⟩
    have s8 := same_upd (o := .lst [m]) (Same.refl H7) hl
    have l8 : upd H7 l (.lst [m]) l = some (.lst [m]) := upd_same
    have q7 : H7 q = some (.lst ys) := K7 _ _ q6 (by simpa using nqp)
    have m8 := TH.keeps _ _ _ hm s8
    generalize upd H7 l (.lst [m]) = H8 at s8 l8 m8 ⊢
    refine ⟨q, l, _, _, rfl, rfl, s8 _ _ q7, l8, Nat.le_of_lt (fits (by simp; omega)), fun r hr' => ?_⟩
    have s9 := same_upd (o := .lst (ys ++ [m])) (Same.refl H8) hr'
    have r9 : upd H8 r (.lst (ys ++ [m])) r = some (.lst (ys ++ [m])) := upd_same
    have t9 : ∀ x ∈ ys ++ [m], TH x (upd H8 r (.lst (ys ++ [m]))) := fun x hx => by
      rcases List.mem_append.mp hx with z | z
      · exact TH.keeps _ _ _ ((t6 x z).kp K7 P6) (s8.trans s9)
      · rw [List.mem_singleton.mp z]; exact TH.keeps _ _ _ m8 s9
    have sH9 : Same H1 (upd H8 r (.lst (ys ++ [m]))) := fun b o e => by
      have nb : b ∉ [p] := by simp; exact ne_of_none e p0
      exact (s8.trans s9) _ _ (K7 _ _ (s6 _ _ (K5 _ _ (s4 _ _ (sH3 b o e)) nb)) nb)
    generalize upd H8 r (.lst (ys ++ [m])) = H9 at r9 t9 sH9 ⊢
    generalize ys ++ [m] = xs at r9 t9
    refine ⟨_, rfl, r, rfl, ⟨_, SqL.of r9⟩, for_list (K := K) (a := r) (xs := xs) (fun j σ H10 => (∃ g5 g6 g7, σ = [some (.ref a), some (.int (0 + (i : Int))), some (.ref p), some (.ref v), some (.ref r), g5, g6, g7]) ∧ Same H9 H10) ⟨⟨_, _, _, rfl⟩, Same.refl _⟩ (fun j σ H10 _ z => SqL.of (z.2 _ _ r9)) ?_ ?_⟩
    · rintro j x σ H10 hx ⟨⟨h5, h6, h7, rfl⟩, s10⟩
      rcases TH.keeps _ _ _ (t9 x (List.mem_of_getElem? hx)) s10 with ⟨d, dv, bd⟩ | ⟨b, rfl, hb⟩
      · have sh := bd.ok.show
        have dp : d.depth ≤ 40 := by have := bd.dp; omega
        have ln : d.shown.length ≤ sizeLine := by have := bd.sh; rw [sizeLine_eq]; omega
        have li : ∀ i, d = .int i → i.natAbs.log2 < 1920 := fun i e => by subst e; cases bd.ok with | int _ h => exact log_small h
        refine ⟨_, rfl, x, rfl, .inl ⟨d, dv, sh.1, sh.2, dp, ln, li, ?_⟩⟩
        refine ⟨_, rfl, .inl ⟨x, d, rfl, dv, bd.ok, fun H11 s11 => ?_⟩⟩
        refine ⟨_, rfl, .bl (webB d), _, true, rfl, .bl _, rfl, true, rfl, iteF ⟨_, rfl, _, rfl, .inl ⟨x, d, rfl, DV.same s11 dv, bd.ok, fun H12 s12 => ?_⟩⟩⟩
        refine ⟨rfl, _, rfl, ?_⟩
        have e : (!decide (V.bl (webB d) = V.bl (webB d))) = false := by simp
        rw [e]
        refine iteF ⟨_, rfl, x, rfl, .inl ⟨d, DV.same (s11.trans s12) dv, sh.1, sh.2, dp, ln, li, ?_⟩⟩
        refine ⟨_, rfl, rfl, _, rfl, ?_⟩
        have e2 : (!decide (V.str d.shown = V.str d.shown)) = false := by simp
        rw [e2]
        exact iteF ⟨⟨_, _, _, rfl⟩, s10.trans (s11.trans s12)⟩
      · refine ⟨_, rfl, .ref b, rfl, .inr ⟨b, rfl, hb, ?_⟩⟩
        refine ⟨_, rfl, .inr ⟨b, rfl, hb, ?_⟩⟩
        refine ⟨_, rfl, .bl false, _, true, rfl, .bl _, rfl, true, rfl, iteF ⟨_, rfl, _, rfl, .inr ⟨b, rfl, hb, ?_⟩⟩⟩
        refine ⟨rfl, _, rfl, ?_⟩
        have e : (!decide (V.bl false = V.bl false)) = false := by simp
        rw [e]
        refine iteF ⟨_, rfl, .ref b, rfl, .inr ⟨b, rfl, hb, ?_⟩⟩
        refine ⟨_, rfl, rfl, _, rfl, ?_⟩
        have e2 : (!decide (V.str (PyData.dict []).shown = V.str (PyData.dict []).shown)) = false := by simp
        rw [e2]
        exact iteF ⟨⟨_, _, _, rfl⟩, s10⟩
    · rintro σ H10 ⟨⟨h5, h6, h7, rfl⟩, s10⟩
      exact ⟨⟨_, _, _, _, _, _, _, rfl⟩, s1.trans (sH9.trans s10)⟩
end
end K11

set_option Elab.async false
set_option linter.all false
set_option maxRecDepth 100000
set_option maxHeartbeats 4000000
namespace K11
open PySem L2
/-- a def of the text as it stands behind the top -/
noncomputable def DefAt (K : PySem.W.Frag) (x : Str) (st : Stmt) : Prop := ∃ (f : Addr) (oc : Value) (od : Option Addr) (kV doc pm : Value) (an : Option Addr) (cd ct : Value) (sl : Array (Option Value)),
  PySem.W.nsIn K mainGlobals x = some (some (.ref f)) ∧ K.lookup f = some ⟨oc, od, .func (PySem.W.fnOf x x (defArgs st) (defBody st) (defScope st) .none kV doc pm an cd ct), sl⟩ ∧ PySem.W.codeIn K cd x = true ∧ PySem.W.keepIn K (.ref f) = true
theorem def_mk {K : PySem.W.Frag} {x : Str} {st : Stmt} {f : Addr} {oc : Value} {od : Option Addr} {kV doc pm : Value} {an : Option Addr} {cd ct : Value} {sl : Array (Option Value)} (a : PySem.W.nsIn K mainGlobals x = some (some (.ref f)))
    (l : K.lookup f = some ⟨oc, od, .func (PySem.W.fnOf x x (defArgs st) (defBody st) (defScope st) .none kV doc pm an cd ct), sl⟩) (c : PySem.W.codeIn K cd x = true) (k : PySem.W.keepIn K (.ref f) = true) : DefAt K x st :=
  ⟨f, oc, od, kV, doc, pm, an, cd, ct, sl, a, l, c, k⟩
theorem fn_def {P : Program} {w : World} {K : PySem.W.Frag} {mg : Str → Option Value} {base h : Heap} {x : Str} {st : Stmt} {k : Nat} {ps : List Str} {sp : Sp} (D : DefAt K x st) (X : K.In h) (G : h.Ns mainGlobals mg)
    (hb : ∀ (kV doc pm : Value) (an : Option Addr) (cdv ct : Value) (us : List Value), us.length = ps.length → bindArgs (PySem.W.fnOf x x (defArgs st) (defBody st) (defScope st) .none kV doc pm an cdv ct) ⟨us, []⟩ = pure (ps.zip us))
    (ok : ∀ (f : Addr) (fd : FuncData), Fun K x x st f fd → FnOk P w K mg base CX0 k f fd ps sp) : Fn P w K mg base k x ps sp := by
  obtain ⟨f, oc, od, kV, doc, pm, an, cd, ct, sl, a, l, c, kk⟩ := D
  have F := fun_mk (st := st) l c kk
  exact ⟨f, _, PySem.W.mg_of X G a, kk, F.binds hb, ok f _ F⟩
theorem all_mk {l : PySem.W.OpenLaw} {w : World} {K : PySem.W.Frag} {h : Heap} {mg : Str → Option Value} {fa : Addr} (X : K.In h) (G : h.Ns mainGlobals mg) (hfa : mg "law" = some (.ref fa)) (B : Bl mg)
    (d2 : DefAt K "is_name" (top 2))
    (d3 : DefAt K "is_rising" (top 3))
    (d4 : DefAt K "is_sorted_names" (top 4))
    (d5 : DefAt K "is_among" (top 5))
    (d6 : DefAt K "is_tie_row" (top 6))
    (d7 : DefAt K "is_web" (top 7))
    (d9 : DefAt K "_law_at" (top 9))
    (d10 : DefAt K "_law_pot" (top 10))
    (d11 : DefAt K "_law_take" (top 11))
    (d12 : DefAt K "_law_name" (top 12))
    (d13 : DefAt K "_law_grown" (top 13))
    (d14 : DefAt K "_law_more" (top 14))
    (d15 : DefAt K "_law_places" (top 15))
    (d16 : DefAt K "_law_web" (top 16))
    (d17 : DefAt K "_law_is_name" (top 17))
    (d18 : DefAt K "_law_is_row" (top 18))
    (d19 : DefAt K "_law_is_web" (top 19))
    (d20 : DefAt K "_law_odd" (top 20))
    (d21 : DefAt K "_law_other_row" (top 21))
    (d22 : DefAt K "_law_other_rows" (top 22))
    (d23 : DefAt K "_law_other" (top 23))
    (d24 : DefAt K "_law_menu" (top 24))
    (d25 : DefAt K "law" (top 25)) :
    ∃ fd : FuncData, (∀ (s : Shared) (v : Value), BindsTo s fd ⟨[v], []⟩ [("_law_script", v)]) ∧ ∀ base : Heap, K.In base → base.Ns mainGlobals mg → FnOk l.prog w K mg base CX0 6 fa fd ["_law_script"] (spLaw K) := by
  obtain ⟨f, oc, od, kV, doc, pm, an, cd, ct, sl, a, lk, c, kk⟩ := d25
  have e := hfa.symm.trans (PySem.W.mg_of X G a)
  cases e
  refine ⟨PySem.W.fnOf "law" "law" (defArgs (top 25)) (defBody (top 25)) (defScope (top 25)) .none kV doc pm an cd ct, fun s v => .of_eq rfl, fun base _ _ => ?_⟩
  have n2 := fn_def (P := l.prog) (w := w) (base := base) d2 X G (ps := ["thing"]) (fun _ _ _ _ _ _ us hl => match us, hl with | [_], _ => rfl) fun f fd F => ok_nameD F B
  have n3 := fn_def (P := l.prog) (w := w) (base := base) d3 X G (ps := ["names"]) (fun _ _ _ _ _ _ us hl => match us, hl with | [_], _ => rfl) fun f fd F => ok_risingD F B
  have n4 := fn_def (P := l.prog) (w := w) (base := base) d4 X G (ps := ["thing"]) (fun _ _ _ _ _ _ us hl => match us, hl with | [_], _ => rfl) fun f fd F => ok_sortedD F B n2 n3
  have n5 := fn_def (P := l.prog) (w := w) (base := base) d5 X G (ps := ["thing", "names"]) (fun _ _ _ _ _ _ us hl => match us, hl with | [_, _], _ => rfl) fun f fd F => ok_amongD F B
  have n6 := fn_def (P := l.prog) (w := w) (base := base) d6 X G (ps := ["thing", "places"]) (fun _ _ _ _ _ _ us hl => match us, hl with | [_, _], _ => rfl) fun f fd F => ok_tieD F B n2 n5
  have n7 := fn_def (P := l.prog) (w := w) (base := base) d7 X G (ps := ["thing"]) (fun _ _ _ _ _ _ us hl => match us, hl with | [_], _ => rfl) fun f fd F => ok_webD F B n4 n6 n3
  have n9 := fn_def (P := l.prog) (w := w) (base := base) d9 X G (ps := ["_law_script", "_law_k"]) (fun _ _ _ _ _ _ us hl => match us, hl with | [_, _], _ => rfl) fun f fd F => ok_at F B
  have n10 := fn_def (P := l.prog) (w := w) (base := base) d10 X G (ps := ["_law_script", "_law_k"]) (fun _ _ _ _ _ _ us hl => match us, hl with | [_, _], _ => rfl) fun f fd F => ok_pot F B n9
  have n11 := fn_def (P := l.prog) (w := w) (base := base) d11 X G (ps := ["_law_pot_here", "_law_many"]) (fun _ _ _ _ _ _ us hl => match us, hl with | [_, _], _ => rfl) fun f fd F => ok_take F
  have n12 := fn_def (P := l.prog) (w := w) (base := base) d12 X G (ps := ["_law_pot_here", "_law_taken"]) (fun _ _ _ _ _ _ us hl => match us, hl with | [_, _], _ => rfl) fun f fd F => ok_name F B n11
  have n13 := fn_def (P := l.prog) (w := w) (base := base) d13 X G (ps := ["_law_pot_here", "_law_places_here", "_law_root", "_law_rows", "_law_taken"]) (fun _ _ _ _ _ _ us hl => match us, hl with | [_, _, _, _, _], _ => rfl) fun f fd F => ok_grown F B n11 n12
  have n14 := fn_def (P := l.prog) (w := w) (base := base) d14 X G (ps := ["_law_pot_here", "_law_places_here", "_law_rows", "_law_taken", "_law_many"]) (fun _ _ _ _ _ _ us hl => match us, hl with | [_, _, _, _, _], _ => rfl) fun f fd F => ok_more F B n11 n12
  have n15 := fn_def (P := l.prog) (w := w) (base := base) d15 X G (ps := ["_law_pot_here", "_law_most"]) (fun _ _ _ _ _ _ us hl => match us, hl with | [_, _], _ => rfl) fun f fd F => ok_places F B n11 n12
  have n16 := fn_def (P := l.prog) (w := w) (base := base) d16 X G (ps := ["_law_pot_here", "_law_most_places", "_law_most_more"]) (fun _ _ _ _ _ _ us hl => match us, hl with | [_, _, _], _ => rfl) fun f fd F => ok_web F B n11 n15 n13 n14
  have n17 := fn_def (P := l.prog) (w := w) (base := base) d17 X G (ps := ["_law_thing"]) (fun _ _ _ _ _ _ us hl => match us, hl with | [_], _ => rfl) fun f fd F => ok_lnameD F B
  have n18 := fn_def (P := l.prog) (w := w) (base := base) d18 X G (ps := ["_law_places_here", "_law_thing"]) (fun _ _ _ _ _ _ us hl => match us, hl with | [_, _], _ => rfl) fun f fd F => ok_lrow F B n17
  have n19 := fn_def (P := l.prog) (w := w) (base := base) d19 X G (ps := ["_law_thing"]) (fun _ _ _ _ _ _ us hl => match us, hl with | [_], _ => rfl) fun f fd F => ok_lweb F B n17 n18
  have n20 := fn_def (P := l.prog) (w := w) (base := base) d20 X G (ps := ["_law_pot_here"]) (fun _ _ _ _ _ _ us hl => match us, hl with | [_], _ => rfl) fun f fd F => ok_odd F B n11
  have n21 := fn_def (P := l.prog) (w := w) (base := base) d21 X G (ps := ["_law_pot_here", "_law_places_here", "_law_row"]) (fun _ _ _ _ _ _ us hl => match us, hl with | [_, _, _], _ => rfl) fun f fd F => ok_orow F B n11 n20
  have n22 := fn_def (P := l.prog) (w := w) (base := base) d22 X G (ps := ["_law_pot_here", "_law_places_here", "_law_rows"]) (fun _ _ _ _ _ _ us hl => match us, hl with | [_, _, _], _ => rfl) fun f fd F => ok_orows F B n11 n20 n21
  have n23 := fn_def (P := l.prog) (w := w) (base := base) d23 X G (ps := ["_law_pot_here", "_law_web_here"]) (fun _ _ _ _ _ _ us hl => match us, hl with | [_, _], _ => rfl) fun f fd F => ok_other F B n11 n20 n22
  have n24 := fn_def (P := l.prog) (w := w) (base := base) d24 X G (ps := ["_law_pot_here"]) (fun _ _ _ _ _ _ us hl => match us, hl with | [_], _ => rfl) fun f fd F => ok_menu F B n11
  exact ok_law (fun_mk (st := top 25) lk c kk) B n10 n16 n7 n19 n23 n24
theorem bl_mk {K : PySem.W.Frag} {h : Heap} {mg : Str → Option Value} (X : K.In h) (G : h.Ns mainGlobals mg) {t_lng : Tok}
    (z_len : PySem.W.nsIn K mainGlobals "len" = some none)
    (z_isinstance : PySem.W.nsIn K mainGlobals "isinstance" = some none)
    (z_all : PySem.W.nsIn K mainGlobals "all" = some none)
    (z_range : PySem.W.nsIn K mainGlobals "range" = some none)
    (z_sorted : PySem.W.nsIn K mainGlobals "sorted" = some none)
    (z_repr : PySem.W.nsIn K mainGlobals "repr" = some none)
    (z_max : PySem.W.nsIn K mainGlobals "max" = some none)
    (z_min : PySem.W.nsIn K mainGlobals "min" = some none)
    (z_str : PySem.W.nsIn K mainGlobals "str" = some none)
    (z_tuple : PySem.W.nsIn K mainGlobals "tuple" = some none)
    (z_list : PySem.W.nsIn K mainGlobals "list" = some none)
    (z_int : PySem.W.nsIn K mainGlobals "int" = some none)
    (z_set : PySem.W.nsIn K mainGlobals "set" = some none)
    (z_bool : PySem.W.nsIn K mainGlobals "bool" = some none)
    (z_lng : PySem.W.nsIn K mainGlobals "LONGEST_NAME" = some (some (.int 8 t_lng)))
    : Bl mg :=
  ⟨PySem.W.mg_none_of X G z_len, PySem.W.mg_none_of X G z_isinstance, PySem.W.mg_none_of X G z_all, PySem.W.mg_none_of X G z_range, PySem.W.mg_none_of X G z_sorted, PySem.W.mg_none_of X G z_repr, PySem.W.mg_none_of X G z_max, PySem.W.mg_none_of X G z_min, PySem.W.mg_none_of X G z_str, PySem.W.mg_none_of X G z_tuple, PySem.W.mg_none_of X G z_list, PySem.W.mg_none_of X G z_int, PySem.W.mg_none_of X G z_set, PySem.W.mg_none_of X G z_bool, ⟨t_lng, PySem.W.mg_of X G z_lng⟩⟩
theorem walk {l : PySem.W.OpenLaw} {q : Program} {loose : List Str} {XP : (Str → Option Value) → Heap → Prop} {YP : World → Heap → Prop} {d : DefRec} {K : Params → PySem.W.Frag} (hn : l.most = some 63) (hdf : d.params.defaults = [])
    (hY : ∀ (w : World) (h : Heap), YP w h → (K w.params).In h)
    (F : ∀ (w : World) (mg : Str → Option Value) (fa : Addr) (h : Heap), (K w.params).In h → h.Ns mainGlobals mg → mg d.name = some (.ref fa) →
      ∃ fd : FuncData, (∀ (s : Shared) (u : Value), BindsTo s fd ⟨[u], []⟩ [("_law_script", u)]) ∧ ∀ base : Heap, (K w.params).In base → base.Ns mainGlobals mg → FnOk l.prog w (K w.params) mg base CX0 6 fa fd ["_law_script"] (spLaw (K w.params))) :
    PySem.W.WalkO q loose XP YP l.row.toRowW d [] (fun f vs => PySem.call f vs) :=
  L2.walk_of (n := 63) (k := 6) (x := "_law_script") (CX := fun _ => CX0) (sp := fun w => spLaw (K w.params)) hn (by decide) hdf ⟨rfl, by decide, by decide, rfl⟩ hY F (fun _ _ a ns hl _ hS => ⟨a, ns, rfl, hS, hl, fun _ => rfl⟩) fun _ _ _ _ _ z => z
end K11
open PySem PySem.W PyProof.Rows
set_option maxRecDepth 100000 in
set_option maxHeartbeats 0 in
theorem PySem.Challenge.cw_rootshares_k11_webs_told_apart_holds : PySem.Challenge.rw_rootshares_k11_webs_told_apart.Holds := by
  w_on; o_law; k_head; (case hw => w_witness2)
  k_fill
  refine K11.walk (l := PySem.Challenge.rw_rootshares_k11_webs_told_apart) rfl rfl (fun w h Y => PySem.W.kIn_of Y) ?F
  case F =>
    intro w mg fa h KX G hmg
    have B : K11.Bl mg := by
      refine' K11.bl_mk KX G ?len ?isinstance ?all ?range ?sorted ?repr ?max ?min ?str ?tuple ?list ?int ?set ?bool ?lng
      (case len => k_is)
      (case isinstance => k_is)
      (case all => k_is)
      (case range => k_is)
      (case sorted => k_is)
      (case repr => k_is)
      (case max => k_is)
      (case min => k_is)
      (case str => k_is)
      (case tuple => k_is)
      (case list => k_is)
      (case int => k_is)
      (case set => k_is)
      (case bool => k_is)
      (case lng => k_is)
    refine' K11.all_mk KX G hmg B ?d2 ?d3 ?d4 ?d5 ?d6 ?d7 ?d9 ?d10 ?d11 ?d12 ?d13 ?d14 ?d15 ?d16 ?d17 ?d18 ?d19 ?d20 ?d21 ?d22 ?d23 ?d24 ?d25
    (case d2 => (refine' K11.def_mk ?a ?l ?c ?k; (case a => k_is); (case l => k_is); (case c => k_is); (case k => k_is)))
    (case d3 => (refine' K11.def_mk ?a ?l ?c ?k; (case a => k_is); (case l => k_is); (case c => k_is); (case k => k_is)))
    (case d4 => (refine' K11.def_mk ?a ?l ?c ?k; (case a => k_is); (case l => k_is); (case c => k_is); (case k => k_is)))
    (case d5 => (refine' K11.def_mk ?a ?l ?c ?k; (case a => k_is); (case l => k_is); (case c => k_is); (case k => k_is)))
    (case d6 => (refine' K11.def_mk ?a ?l ?c ?k; (case a => k_is); (case l => k_is); (case c => k_is); (case k => k_is)))
    (case d7 => (refine' K11.def_mk ?a ?l ?c ?k; (case a => k_is); (case l => k_is); (case c => k_is); (case k => k_is)))
    (case d9 => (refine' K11.def_mk ?a ?l ?c ?k; (case a => k_is); (case l => k_is); (case c => k_is); (case k => k_is)))
    (case d10 => (refine' K11.def_mk ?a ?l ?c ?k; (case a => k_is); (case l => k_is); (case c => k_is); (case k => k_is)))
    (case d11 => (refine' K11.def_mk ?a ?l ?c ?k; (case a => k_is); (case l => k_is); (case c => k_is); (case k => k_is)))
    (case d12 => (refine' K11.def_mk ?a ?l ?c ?k; (case a => k_is); (case l => k_is); (case c => k_is); (case k => k_is)))
    (case d13 => (refine' K11.def_mk ?a ?l ?c ?k; (case a => k_is); (case l => k_is); (case c => k_is); (case k => k_is)))
    (case d14 => (refine' K11.def_mk ?a ?l ?c ?k; (case a => k_is); (case l => k_is); (case c => k_is); (case k => k_is)))
    (case d15 => (refine' K11.def_mk ?a ?l ?c ?k; (case a => k_is); (case l => k_is); (case c => k_is); (case k => k_is)))
    (case d16 => (refine' K11.def_mk ?a ?l ?c ?k; (case a => k_is); (case l => k_is); (case c => k_is); (case k => k_is)))
    (case d17 => (refine' K11.def_mk ?a ?l ?c ?k; (case a => k_is); (case l => k_is); (case c => k_is); (case k => k_is)))
    (case d18 => (refine' K11.def_mk ?a ?l ?c ?k; (case a => k_is); (case l => k_is); (case c => k_is); (case k => k_is)))
    (case d19 => (refine' K11.def_mk ?a ?l ?c ?k; (case a => k_is); (case l => k_is); (case c => k_is); (case k => k_is)))
    (case d20 => (refine' K11.def_mk ?a ?l ?c ?k; (case a => k_is); (case l => k_is); (case c => k_is); (case k => k_is)))
    (case d21 => (refine' K11.def_mk ?a ?l ?c ?k; (case a => k_is); (case l => k_is); (case c => k_is); (case k => k_is)))
    (case d22 => (refine' K11.def_mk ?a ?l ?c ?k; (case a => k_is); (case l => k_is); (case c => k_is); (case k => k_is)))
    (case d23 => (refine' K11.def_mk ?a ?l ?c ?k; (case a => k_is); (case l => k_is); (case c => k_is); (case k => k_is)))
    (case d24 => (refine' K11.def_mk ?a ?l ?c ?k; (case a => k_is); (case l => k_is); (case c => k_is); (case k => k_is)))
    (case d25 => (refine' K11.def_mk ?a ?l ?c ?k; (case a => k_is); (case l => k_is); (case c => k_is); (case k => k_is)))

