import PyProof.Rows.All
import Wide.All
import OpenK.AllK
import Wide.FinOn
import Lean
import PyProof.EqAt
import PyProof.EqKinds
import PyProof.TupleCall
import KE.KSortTup
import KE.KDictSum
import KE.KDictOf
import PyProof.AttrMissHeap
import PyProof.WalksEnum
import PyProof.EnumMake
import PyProof.Draws
import PyProof.Rows.SetFrom
import KE.KTryOn
import KE.KTryDeep
import PySem.Challenge.RW_rootshares_k42_whole_shares_from_roots
set_option Elab.async false
set_option linter.all false
set_option maxRecDepth 100000
namespace L2
open PySem PySem.Spec PyProof.Rows
noncomputable abbrev Key := Sum Int Str
noncomputable def fb : Key -> Value -> Bool
 | .inl k, v => Value.isInt k v
 | .inr x, v => Value.isStrOf x v
noncomputable def wC (w : World) : Key -> Int
 | .inl k => hashInt k
 | .inr x => hashStr w x
theorem da : ∀ {k : Key} {v : Value}, fb k v = true -> (∃ i t, k = Sum.inl i /\ v = Value.int i t) \/ (∃ x t, k = Sum.inr x /\ v = Value.str x t)
 | .inl i, v, h => by
  obtain ⟨t, e⟩ := Value.isInt_shape (k := i) (v := v) h
  exact .inl ⟨i, t, rfl, e⟩
 | .inr x, v, h => by
  obtain ⟨t, e⟩ := Value.isStrOf_shape (x := x) (v := v) h
  exact .inr ⟨x, t, rfl, e⟩
theorem qr (i : Int) (t : Tok) : fb (.inl i) (.int i t) = true := by simp [fb, Value.isInt]
theorem qm (x : Str) (t : Tok) : fb (.inr x) (.str x t) = true := by simp [fb, Value.isStrOf]
theorem vm (a b : Int) : decide ((Sum.inl a : Key) = Sum.inl b) = (a == b) := by
 by_cases e : a = b
 ·subst e; simp
 ·have h : ¬ (Sum.inl a : Key) = Sum.inl b := fun q => e (Sum.inl.inj q)
  rw [decide_eq_false h]
  exact (beq_eq_false_iff_ne.mpr e).symm
theorem uT (a b : Str) : decide ((Sum.inr a : Key) = Sum.inr b) = decide (a = b) := by
 by_cases e : a = b
 ·subst e; simp
 ·have h : ¬ (Sum.inr a : Key) = Sum.inr b := fun q => e (Sum.inr.inj q)
  rw [decide_eq_false h, decide_eq_false e]
theorem uC (a : Int) (b : Str) : decide ((Sum.inl a : Key) = Sum.inr b) = false := decide_eq_false (fun q => nomatch q)
theorem uV (a : Str) (b : Int) : decide ((Sum.inr a : Key) = Sum.inl b) = false := decide_eq_false (fun q => nomatch q)
noncomputable def bZ (prog : Program) (w : World) : PySem.KeyKind prog w Key where
 is := fb
 hash := wC w
 inj := fun v a b ha hb => by
  rcases da ha with ⟨i, t, rfl, rfl⟩ | ⟨x, t, rfl, rfl⟩
  ·rcases da hb with ⟨j, u, rfl, e⟩ | ⟨y, u, rfl, e⟩
   ·injection e with e1 _; rw [e1]
   ·exact nomatch e
  ·rcases da hb with ⟨j, u, rfl, e⟩ | ⟨y, u, rfl, e⟩
   ·exact nomatch e
   ·injection e with e1 _; rw [e1]
 byValue := fun k v h => by
  rcases da h with ⟨i, t, rfl, rfl⟩ | ⟨x, t, rfl, rfl⟩ <;> rfl
 pyHash := fun hv h => by
  rcases da hv with ⟨i, t, rfl, rfl⟩ | ⟨x, t, rfl, rfl⟩
  ·exact wpAny_pyHash_int h
  ·exact wpAny_pyHash_str h
 eqBool := fun hu hv h => by
  rcases da hu with ⟨i, t, rfl, rfl⟩ | ⟨x, t, rfl, rfl⟩
  ·rcases da hv with ⟨j, u, rfl, rfl⟩ | ⟨y, u, rfl, rfl⟩
   ·rw [vm] at h; exact wpAny_eqBool_int h
   ·rw [uC] at h; exact SeqAt.EqAt.int_str i t y u _ _ _ _ h
  ·rcases da hv with ⟨j, u, rfl, rfl⟩ | ⟨y, u, rfl, rfl⟩
   ·rw [uV] at h; exact SeqAt.EqAt.str_int x t j u _ _ _ _ h
   ·rw [uT] at h; exact wpAny_eqBool_str h
 «strs» := fun k x t v h => by
  rcases da h with ⟨i, u, rfl, e⟩ | ⟨y, u, rfl, e⟩
  ·exact nomatch e
  ·injection e with e1 _
   subst e1
   cases v <;> rfl
theorem oW (prog : Program) (w : World) (i : Int) (t : Tok) : (bZ prog w).is (.inl i) (.int i t) = true := qr i t
theorem oV (prog : Program) (w : World) (x : Str) (t : Tok) : (bZ prog w).is (.inr x) (.str x t) = true := qm x t
inductive V where
 | non | bl (b : Bool) | int (i : Int) | str (x : Str) | byt (b : Array UInt8) | flt (b : UInt64) | ref (a : Addr) | ty (n : String)
 deriving DecidableEq
noncomputable def RelV : V -> Value -> Prop
 | .non, u => u = Value.none
 | .bl b, u => u = Value.bool b
 | .int i, u => ∃ t, u = Value.int i t
 | .str x, u => ∃ t, u = Value.str x t
 | .byt b, u => ∃ t, u = Value.bytes b t
 | .flt b, u => ∃ t, u = Value.float b t
 | .ref a, u => u = Value.ref a
 | .ty n, u => u = Value.type n
noncomputable abbrev ao : List V -> List Value -> Prop := Paired RelV
theorem ao.length {xs : List V} {us : List Value} (r : ao xs us) : xs.length = us.length := Paired.length r
theorem ao.get : ∀ {xs : List V} {us : List Value} {i : Nat} {x : V}, ao xs us -> xs[i]? = some x -> ∃ u, us[i]? = some u /\ RelV x u
 | _, _, _, _, .nil, e => by simp at e
 | _, _, 0, _, .cons r _, e => by simp at e; subst e; exact ⟨_, rfl, r⟩
 | _, _, i + 1, x, .cons _ t, e => by
  obtain ⟨u, h1, h2⟩ := ao.get (i := i) (x := x) t (by simpa using e)
  exact ⟨u, by simpa using h1, h2⟩
theorem ao.set {x : V} {u : Value} (r : RelV x u) : ∀ {xs : List V} {us : List Value} (i : Nat), ao xs us -> ao (xs.set i x) (us.set i u)
 | _, _, _, .nil => .nil
 | _, _, 0, .cons _ t => .cons r t
 | _, _, i + 1, .cons q t => .cons q (ao.set r i t)
theorem ao.append : ∀ {xs ys : List V} {us ws : List Value}, ao xs us -> ao ys ws -> ao (xs ++ ys) (us ++ ws)
 | _, _, _, _, .nil, s => s
 | _, _, _, _, .cons r t, s => .cons r (ao.append t s)
theorem ao.take : ∀ {xs : List V} {us : List Value} (n : Nat), ao xs us -> ao (xs.take n) (us.take n)
 | _, _, 0, _ => .nil
 | _, _, _ + 1, .nil => .nil
 | _, _, n + 1, .cons r t => .cons r (ao.take n t)
theorem ao.drop : ∀ {xs : List V} {us : List Value} (n : Nat), ao xs us -> ao (xs.drop n) (us.drop n)
 | _, _, 0, r => r
 | _, _, _ + 1, .nil => .nil
 | _, _, n + 1, .cons _ t => ao.drop n t
noncomputable def cy : Option V -> Option Value -> Prop
 | some v, some u => RelV v u
 | none, none => True
 | _, _ => False
noncomputable def KV {κ : Type} : List (κ × V) -> List (κ × Value) -> Prop := Paired fun (p : κ × V) (q : κ × Value) => p.1 = q.1 /\ RelV p.2 q.2
noncomputable def kV : Key -> V
 | .inl i => .int i
 | .inr x => .str x
inductive HO where
  | lst (xs : List V)
  | tup (xs : List V)
  | dK (kvs : List (Key × V)) | dT (kvs : List (List Key × V))
  | set (S : Int -> Bool) (n : Nat)
  | ins (C dx : Addr) (fs : List (Str × V))
  | own (x : Addr)
  | xd (fs : List (Str × V))
  | met (f x : Addr)
  | rng (lo hi : Int)
  | frz (o : Obj) (u : HO)
  | tbl (ps : Array Value)
  | ext (φ : Heap -> Prop)
noncomputable abbrev Hp := Addr -> Option HO
noncomputable def upd (H : Hp) (a : Addr) (o : HO) : Hp := fun b => if b = a then some o else H b
theorem ai {H : Hp} {a : Addr} {o : HO} : upd H a o a = some o := by unfold upd; rw [if_pos rfl]
theorem ag {H : Hp} {a b : Addr} {o : HO} (h : b ≠ a) : upd H a o b = H b := by unfold upd; rw [if_neg h]
theorem jf {H : Hp} {a b : Addr} {o u : HO} (h : H a = some o) (h' : H b = some u) (d : o ≠ u) : a ≠ b := by
 intro e; subst e; rw [h] at h'; exact d (Option.some.inj h')
theorem av {H : Hp} {a b : Addr} {o : HO} (h : H a = some o) (h' : H b = none) : a ≠ b := by
 intro e; subst e; rw [h] at h'; cases h'
section
variable (P : Program) (w : World)
noncomputable def aC (H : Hp) (h : Heap) (a : Addr) : HO -> Prop
 | .lst xs => xs.length <= sizeLine /\ ∃ (its : List Value) (n : Nat), ao xs its /\ h.get? a = some { cls := .type "list", data := .seq its.toArray n }
 | .tup xs => xs.length <= sizeLine /\ ∃ its : List Value, ao xs its /\ IsTup h a its.toArray
 | .dK kvs => kvs.length <= sizeLine /\ (a == sysModules) = false /\ ∃ vs, KV kvs vs /\ h.DictOf (bZ P w) a vs
 | .dT kvs => kvs.length <= sizeLine /\ (a == sysModules) = false /\ ∃ xs : List (List Key × Addr × Value),
   Paired (fun (p : List Key × V) (q : List Key × Addr × Value) => p.1 = q.1 /\ H q.2.1 = some (.tup (p.1.map kV)) /\ RelV p.2 q.2.2) kvs xs /\
   ∃ o es ep, h.get? a = some o /\ o.ExactDict /\ o.data = .dict es ep /\ es.toList = xs.map (entryOfKey (tupleKind (bZ P w))) /\ (xs.map (·.1)).Nodup
 | .set S n => h.SetOf (intKind P w) a S n
 | .ins C dx fs => H dx = some (.own a) /\ fs.length <= 1000 /\ dx ≠ a /\ h.get? a = some (PySem.W.instObj C dx) /\
   ∃ mA, h.Ns1 dx mA /\ (∀ f, cy (fs.lookup f) (mA f)) /\ PySem.Within mA (fs.map (·.1))
 | .own _ => ∃ o, h.get? a = some o
 | .xd fs => ∃ mA, h.Ns1 a mA /\ ∀ f, cy (fs.lookup f) (mA f)
 | .rng lo hi => ∃ t u v, h.get? a = some { cls := .type "range", data := .fields #[.int lo t, .int hi u, .int 1 v] }
 | .frz o u => h.get? a = some o /\ aC H h a u
 | .tbl ps => h.get? a = some { cls := .none, data := .fields ps }
 | .met f x => h.get? a = some (PySem.W.methodObj (.ref f) (.ref x))
 | .ext φ => φ h /\ (∃ o, h.get? a = some o) /\ ∀ h1 h2 : Heap, φ h1 -> (∀ o, h1.get? a = some o -> h2.get? a = some o) -> φ h2
noncomputable def HOk (H : Hp) (h : Heap) : Prop := ∀ a o, H a = some o -> aC P w H h a o
end
section
variable {P : Program} {w : World} {H H' : Hp} {h h' : Heap} {a : Addr} {o : HO}
theorem aC.lt (x : aC P w H h a o) : a < h.objs.size := by
 cases o with
 | lst xs => obtain ⟨_, _, _, _, e⟩ := x; exact Heap.lt_size e
 | tup xs => obtain ⟨_, _, _, p⟩ := x; exact p.lt
 | dK kvs => obtain ⟨_, _, _, _, o, _, _, e, _⟩ := x; exact Heap.lt_size e
 | dT kvs => obtain ⟨_, _, _, _, o, _, _, e, _⟩ := x; exact Heap.lt_size e
 | set S n => obtain ⟨o, _, _, _, e, _⟩ := x; exact Heap.lt_size e
 | ins C dx fs => obtain ⟨_, _, _, e, _⟩ := x; exact Heap.lt_size e
 | own y => obtain ⟨_, e⟩ := x; exact Heap.lt_size e
 | xd fs => obtain ⟨_, ⟨_, _, _, e, _⟩, _⟩ := x; exact Heap.lt_size e
 | rng lo hi => obtain ⟨_, _, _, e⟩ := x; exact Heap.lt_size e
 | frz ob u => obtain ⟨e, _⟩ := x; exact Heap.lt_size e
 | tbl ps => exact Heap.lt_size (show h.get? a = some _ from x)
 | met f y => exact Heap.lt_size (show h.get? a = some _ from x)
 | ext φ => obtain ⟨_, ⟨_, e⟩, _⟩ := x; exact Heap.lt_size e
theorem Paired.mapP {α β : Type} {F G : α -> β -> Prop} : ∀ {l₁ : List α} {l₂ : List β}, Paired F l₁ l₂ -> (∀ a b, F a b -> G a b) -> Paired G l₁ l₂
 | _, _, .nil, _ => .nil
 | _, _, .cons r t, f => .cons (f _ _ r) (Paired.mapP t f)
theorem aC.stay (x : aC P w H h a o) (k : ∀ b u, (b = a \/ H b = some (.own a)) -> h.get? b = some u -> h'.get? b = some u)
  (ho : ∀ b, H b = some (.own a) -> H' b = some (.own a)) (ht : ∀ b xs, H b = some (.tup xs) -> H' b = some (.tup xs)) : aC P w H' h' a o := by
 induction o with
 | lst xs => obtain ⟨z, its, n, r, e⟩ := x; exact ⟨z, its, n, r, k _ _ (.inl rfl) e⟩
 | tup xs => obtain ⟨z, its, r, ob, e, c⟩ := x; exact ⟨z, its, r, ob, k _ _ (.inl rfl) e, c⟩
 | dK kvs => obtain ⟨z, y, vs, r, ob, es, ep, e, c⟩ := x; exact ⟨z, y, vs, r, ob, es, ep, k _ _ (.inl rfl) e, c⟩
 | dT kvs =>
  obtain ⟨z, y, xs, r, ob, es, ep, e, c⟩ := x
  exact ⟨z, y, xs, Paired.mapP r fun p q z => ⟨z.1, ht _ _ z.2.1, z.2.2⟩, ob, es, ep, k _ _ (.inl rfl) e, c⟩
 | set S n => obtain ⟨ob, es, ep, t, e, c⟩ := x; exact ⟨ob, es, ep, t, k _ _ (.inl rfl) e, c⟩
 | ins C dx fs =>
  obtain ⟨d, z, ne, e, mA, ⟨od, es, ep, e2, c⟩, r⟩ := x
  exact ⟨ho _ d, z, ne, k _ _ (.inl rfl) e, mA, ⟨od, es, ep, k _ _ (.inr d) e2, c⟩, r⟩
 | own y => obtain ⟨ob, e⟩ := x; exact ⟨ob, k _ _ (.inl rfl) e⟩
 | xd fs => obtain ⟨mA, ⟨od, es, ep, e, c⟩, r⟩ := x; exact ⟨mA, ⟨od, es, ep, k _ _ (.inl rfl) e, c⟩, r⟩
 | rng lo hi => obtain ⟨t, u, v, e⟩ := x; exact ⟨t, u, v, k _ _ (.inl rfl) e⟩
 | frz ob u ih => obtain ⟨e, q⟩ := x; exact ⟨k _ _ (.inl rfl) e, ih q⟩
 | tbl ps =>
  have e : h.get? a = some { cls := .none, data := .fields ps } := x
  show h'.get? a = some { cls := .none, data := .fields ps }
  exact k a _ (.inl rfl) e
 | met f y =>
  have e : h.get? a = some (PySem.W.methodObj (.ref f) (.ref y)) := x
  show h'.get? a = some (PySem.W.methodObj (.ref f) (.ref y))
  exact k a _ (.inl rfl) e
 | ext φ => obtain ⟨p, ⟨o, e⟩, st⟩ := x; exact ⟨st _ _ p fun o q => k _ _ (.inl rfl) q, ⟨o, k _ _ (.inl rfl) e⟩, st⟩
theorem HOk.lt (x : HOk P w H h) (e : H a = some o) : a < h.objs.size := (x a o e).lt
theorem HOk.fresh (x : HOk P w H h) (e : h.objs.size <= a) : H a = none := by
 cases q : H a with
 | none => rfl
 | some u => exact absurd (Nat.lt_of_lt_of_le (x.lt q) e) (Nat.lt_irrefl _)
theorem HOk.kept (x : HOk P w H h) (k : ∀ b u, h.get? b = some u -> h'.get? b = some u) : HOk P w H h' := fun a o e =>
 (x a o e).stay (fun b u _ q => k b u q) (fun _ q => q) fun _ _ q => q
theorem HOk.laid (x : HOk P w H h) (k : ∀ b u, h.get? b = some u -> h'.get? b = some u) (hp : h.objs.size <= a) (new : aC P w (upd H a o) h' a o) : HOk P w (upd H a o) h' := fun b u e => by
 have hn := x.fresh hp
 by_cases hb : b = a
 ·subst hb; rw [ai] at e; cases e; exact new
 ·rw [ag hb] at e
  exact (x b u e).stay (fun c v _ q => k c v q) (fun c q => by rw [ag (av q hn)]; exact q) fun c xs q => by rw [ag (av q hn)]; exact q
end
noncomputable def Rd (H : Hp) (a : Addr) (u : HO) : Prop := H a = some u \/ ∃ o, H a = some (.frz o u)
theorem Rd.ok {P : Program} {w : World} {H : Hp} {h : Heap} {a : Addr} {u : HO} (r : Rd H a u) (x : HOk P w H h) : aC P w H h a u := by
 rcases r with r | ⟨o, r⟩
 ·exact x a u r
 ·obtain ⟨_, q⟩ := x a _ r
  exact q
noncomputable def Mut : Option HO -> Prop
 | some (.lst _) => True
 | some (.dK _) => True
 | some (.dT _) => True
 | some (.set _ _) => True
 | some (.ins _ _ _) => True
 | some (.ext _) => True
 | _ => False
section
variable {P : Program} {w : World} {H : Hp} {h h' : Heap} {x e : Addr} {o' : HO}
theorem HOk.write (ok : HOk P w H h) (mu : Mut (H x)) (he : e = x \/ H e = some (.own x)) (k : ∀ b u, b ≠ e -> h.get? b = some u -> h'.get? b = some u) (heo : ∃ u, h'.get? e = some u)
  (new : aC P w (upd H x o') h' x o') : HOk P w (upd H x o') h' := fun b u q => by
 have nown : ∀ c y, H c = some (.own y) -> c ≠ x := fun c y r z => by subst z; rw [r] at mu; exact mu
 have ntup : ∀ c xs, H c = some (.tup xs) -> c ≠ x := fun c xs r z => by subst z; rw [r] at mu; exact mu
 by_cases hb : b = x
 ·subst hb; rw [ai] at q; cases q; exact new
 ·rw [ag hb] at q
  by_cases hbe : b = e
  ·have q' : H b = some (.own x) := by
    rcases he with z | z
    ·exact absurd (hbe.trans z) hb
    ·rw [hbe]; exact z
   rw [q] at q'; cases q'
   obtain ⟨v, hv⟩ := heo
   exact ⟨v, by rw [hbe]; exact hv⟩
  ·refine (ok b u q).stay (fun c v hc r => k c v ?_ r) (fun c r => by rw [ag (nown c b r)]; exact r) fun c xs r => by rw [ag (ntup c xs r)]; exact r
   rcases hc with rfl | hc
   ·exact hbe
   ·rintro rfl
    rcases he with z | z
    ·exact nown c b hc z
    ·rw [hc] at z; cases z; exact hb rfl
end
structure Un (fs ex : List Addr) (H H' : Hp) (h h' : Heap) : Prop where
 keep : ∀ b o, h.get? b = some o -> H b = none -> b ∉ fs -> b ∉ ex -> h'.get? b = some o
 slot : ∀ b o, h.get? b = some o -> H b = none -> b ∈ fs -> b ∉ ex -> ∃ sl, h'.get? b = some { o with slots := sl }
 free : ∀ b o, h.get? b = some o -> H b = none -> b ∉ ex -> H' b = none
 there : ∀ b o, h.get? b = some o -> b ∉ ex -> ∃ o', h'.get? b = some o'
 tups : ∀ b xs, H b = some (.tup xs) -> H' b = some (.tup xs)
 frzs : ∀ b o u, H b = some (.frz o u) -> H' b = some (.frz o u)
 tbls : ∀ b ps, H b = some (.tbl ps) -> ∃ more, H' b = some (.tbl (ps ++ more))
section
variable {fs fs' ex ex' : List Addr} {H H1 H2 : Hp} {h h1 h2 h' : Heap} {a x e : Addr} {o : HO}
theorem Un.any (u : Un fs ex H H1 h h1) {b : Addr} {ob : Obj} (q : h.get? b = some ob) (n : H b = none) (hx : b ∉ ex) : ∃ sl, h1.get? b = some { ob with slots := sl } := by
 by_cases hb : b ∈ fs
 ·exact u.slot b ob q n hb hx
 ·exact ⟨ob.slots, u.keep b ob q n hb hx⟩
theorem Un.kept (k : ∀ b u, h.get? b = some u -> h'.get? b = some u) : Un fs ex H H h h' :=
 ⟨fun b ob q _ _ _ => k b ob q, fun b ob q _ _ _ => ⟨ob.slots, k b ob q⟩, fun _ _ _ n _ => n, fun b ob q _ => ⟨ob, k b ob q⟩, fun _ _ q => q, fun _ _ _ q => q, fun _ ps q => ⟨#[], by rw [q]; simp⟩⟩
theorem Un.refl : Un fs ex H H h h := Un.kept fun _ _ q => q
theorem Un.laid (k : ∀ b u, h.get? b = some u -> h'.get? b = some u) (hp : h.objs.size <= a) (hn : H a = none) : Un fs ex H (upd H a o) h h' where
 keep := fun b u q _ _ _ => k b u q
 slot := fun b u q _ _ _ => ⟨u.slots, k b u q⟩
 free := fun b u q n _ => by rw [ag (Nat.ne_of_lt (Nat.lt_of_lt_of_le (Heap.lt_size q) hp))]; exact n
 there := fun b u q _ => ⟨u, k b u q⟩
 tups := fun b xs q => by rw [ag (av q hn)]; exact q
 frzs := fun b u xs q => by rw [ag (av q hn)]; exact q
 tbls := fun b ps q => ⟨#[], by rw [ag (av q hn), q]; simp⟩
theorem Un.write (mu : Mut (H x)) (he : e = x \/ H e = some (.own x)) (k : ∀ b u, b ≠ e -> h.get? b = some u -> h'.get? b = some u) (heo : ∃ u, h'.get? e = some u) : Un fs ex H (upd H x o) h h' := by
 have hx : ∀ b, H b = none -> b ≠ x := fun b n z => by subst z; rw [n] at mu; exact mu
 have hb : ∀ b, H b = none -> b ≠ e := fun b n z => by
  subst z
  rcases he with r | r
  ·exact hx b n r
  ·rw [n] at r; cases r
 have hm : ∀ b u, H b = some u -> ¬ Mut (some u) -> b ≠ x := fun b u q nm z => by subst z; rw [q] at mu; exact nm mu
 refine ⟨fun b u q n _ _ => k b u (hb b n) q, fun b u q n _ _ => ⟨u.slots, k b u (hb b n) q⟩, fun b u q n _ => by rw [ag (hx b n)]; exact n, fun b u q _ => ?_,
  fun b xs q => by rw [ag (hm b _ q fun z => z)]; exact q, fun b u xs q => by rw [ag (hm b _ q fun z => z)]; exact q, fun b ps q => ⟨#[], by rw [ag (hm b _ q fun z => z), q]; simp⟩⟩
 by_cases hbe : b = e
 ·subst hbe; exact heo
 ·exact ⟨u, k b u hbe q⟩
end
noncomputable def trk (h : Heap) (H : Hp) : List Addr := (List.range h.objs.size).filter fun a => (H a).isSome
noncomputable def dr (h : Heap) (H : Hp) : Heap := PySem.W.hideAll h (trk h H)
theorem qP (h : Heap) (H : Hp) : (dr h H).objs.size = h.objs.size := PySem.W.hideAll_size _ _
theorem rE {h : Heap} {H : Hp} {b : Addr} {o : Obj} (e : h.get? b = some o) (n : H b = none) : (dr h H).get? b = some o :=
 PySem.W.hideAll_get _ e fun hm => by
  have q : (H b).isSome = true := (List.mem_filter.mp hm).2
  rw [n] at q; simp at q
theorem tI {h : Heap} {H : Hp} {b : Addr} {o : Obj} (e : (dr h H).get? b = some o) : h.get? b = some o /\ H b = none := by
 have e' : h.get? b = some o := PySem.W.of_hideAll (trk h H) e
 refine ⟨e', ?_⟩
 cases q : H b with
 | none => rfl
 | some x =>
  have hm : b ∈ trk h H := List.mem_filter.mpr ⟨List.mem_range.mpr (Heap.lt_size e'), by simp [q]⟩
  have z : (dr h H).get? b = none := PySem.W.hideAll_none (trk h H) hm
  rw [z] at e; cases e
noncomputable def tu (g h : Heap) (L : Addr) : List (Addr × Obj) := (List.range h.objs.size).filterMap fun a => if a = L \/ (g.get? a).isSome = true then none else (h.get? a).map fun o => (a, o)
noncomputable def rest (g h : Heap) (L d : Addr) : List (Addr × Obj) := (tu g h L).filter fun p => decide (p.1 ≠ d)
structure Mod (K : PySem.W.Frag) (mg : Str -> Option Value) (base : Heap) : Prop where
 kin : K.In base
 glob : base.Ns mainGlobals mg
 blt : ∃ mb, base.Ns builtinsNs mb /\ ∀ x : Str, x ≠ "__name__" -> mb x = bootBuiltins x
 nolimit : base.NoLimit
structure Cx where
 prog : Program
 w : World
 K : PySem.W.Frag
 mg : Str -> Option Value
 base : Heap
 A : Around
 N : List Str
 s₀ : Shared
 H₀ : Hp
 env : Env
 outer : List Env
 stack : List Env
 ex : List Addr
 fn : Str -> Bool
 calm : Bool
 pn : List (Addr × Obj)
 xe : Value -> Shared -> Prop
noncomputable def frs (l : List Env) : List Addr := l.filterMap (·.frame)
noncomputable abbrev Cx.fs (X : Cx) : List Addr := frs X.outer
noncomputable def Vis (sc : Scope) (x : Str) : Prop := sc.names.lookup x = some .local \/ sc.names.lookup x = some .cell \/ sc.names.lookup x = some .free
noncomputable def Loc (sc : Scope) (x : Str) : Prop := sc.names.lookup x = some .local \/ sc.names.lookup x = some .cell
noncomputable def Look (env : Env) (h : Heap) (m : Str -> Option Value) (x : Str) (u : Value) : Prop :=
 (env.kindOf x = some .local /\ m x = some u) \/ ((env.kindOf x = some .cell \/ env.kindOf x = some .free) /\ ∃ c, env.cells.lookup x = some c /\ h.IsCell c (some u))
structure Cx.Ok (X : Cx) : Prop where
 mod : Mod X.K X.mg X.base
 kind : X.env.scope.kind = .function
 glob : X.env.globals = mainGlobals
 blt : X.env.builtins = builtinsNs
 above : X.s₀.heap.objs.size <= X.env.locals
 inj : ∀ x y c, X.env.cells.lookup x = some c -> X.env.cells.lookup y = some c -> x = y
 has : ∀ x, (X.env.kindOf x = some .cell \/ X.env.kindOf x = some .free) -> ∃ c, X.env.cells.lookup x = some c
 cab : ∀ x c, X.fn x = true -> X.env.cells.lookup x = some c -> X.s₀.heap.objs.size <= c
 hd : X.calm = true -> X.A.handled = none
 frames : X.A.frames = some X.stack
 stk : X.stack = X.outer \/ (X.stack = X.env :: X.outer /\ X.env.frame = some X.env.locals)
 exf : ∀ b ∈ X.ex, b ≠ X.env.locals /\ ∀ x c, X.env.cells.lookup x = some c -> c ≠ b
 bs : ∀ b o, X.base.get? b = some o -> X.s₀.heap.get? b = some o /\ X.H₀ b = none
 bsz : X.base.objs.size <= X.s₀.heap.objs.size
 noex : ∀ b o, X.base.get? b = some o -> b ∉ X.ex
 exfs : ∀ b ∈ X.ex, b ∉ X.fs
 funs : X.s₀.heap.FunFrames X.base X.outer
 frf : ∀ b ∈ X.fs, X.H₀ b = none
structure Inv (X : Cx) (pins : List (Addr × Obj)) (σ : List (Option V)) (H : Hp) (s : Shared) : Prop where
 ok : X.Ok
 os : s.os = X.s₀.os
 bare : AllBare s.gens
 base : Un X.fs X.ex X.H₀ H X.s₀.heap s.heap
 loc : ∃ m, s.heap.Ns X.env.locals m /\ ∀ (i : Nat) (x : Str) (v : V), X.N[i]? = some x -> σ[i]? = some (some v) -> Vis X.env.scope x -> ∃ u, RelV v u /\ Look X.env s.heap m x u
 cell : ∀ x c, X.env.cells.lookup x = some c -> ∃ v, s.heap.IsCell c v
 free : H X.env.locals = none
 freeC : ∀ x c, X.env.cells.lookup x = some c -> H c = none
 pin : ∀ p ∈ X.pn ++ pins, s.heap.get? p.1 = some p.2 /\ H p.1 = none /\ p.1 ≠ X.env.locals /\ p.1 ∉ X.fs /\ ∀ v, p.2.data ≠ .cell v
 hok : HOk X.prog X.w H s.heap
 len : σ.length = X.N.length
section
variable {X : Cx} {pins : List (Addr × Obj)} {σ : List (Option V)} {H H' : Hp} {s : Shared} {h' : Heap}
theorem Cx.Ok.nofr (ok : X.Ok) {b : Addr} {o : Obj} (e : X.base.get? b = some o) : b ∉ X.fs := fun hb => by
 have := (ok.funs.mem hb).1
 rw [e] at this; cases this
theorem Inv.bs (I : Inv X pins σ H s) : ∀ b o, X.base.get? b = some o -> s.heap.get? b = some o /\ H b = none := fun b o e =>
 ⟨I.base.keep b o (I.ok.bs b o e).1 (I.ok.bs b o e).2 (I.ok.nofr e) (I.ok.noex b o e), I.base.free b o (I.ok.bs b o e).1 (I.ok.bs b o e).2 (I.ok.noex b o e)⟩
theorem Inv.bk (I : Inv X pins σ H s) : ∀ b o, X.base.get? b = some o -> s.heap.get? b = some o := fun b o e => (I.bs b o e).1
theorem Inv.mod (I : Inv X pins σ H s) : Mod X.K X.mg X.base := I.ok.mod
theorem Inv.kIn (I : Inv X pins σ H s) : X.K.In s.heap := I.ok.mod.kin.keeps I.bk
theorem Inv.lt (I : Inv X pins σ H s) : X.env.locals < s.heap.objs.size := let ⟨_, hn, _⟩ := I.loc; hn.lt
theorem Inv.sz (I : Inv X pins σ H s) : X.s₀.heap.objs.size <= s.heap.objs.size := Nat.le_trans I.ok.above (Nat.le_of_lt I.lt)
theorem Inv.nofs (I : Inv X pins σ H s) {a : Addr} (h : s.heap.objs.size <= a) : a ∉ X.fs := fun hb => by
 obtain ⟨_, o, ho, _⟩ := I.ok.funs.mem hb
 exact absurd (Nat.lt_of_lt_of_le (Heap.lt_size ho) (Nat.le_trans I.sz h)) (Nat.lt_irrefl _)
theorem Inv.cne (I : Inv X pins σ H s) : ∀ x c, X.env.cells.lookup x = some c -> c ≠ X.env.locals := fun x c e z => by
 obtain ⟨v, o, ho, hd⟩ := I.cell x c e
 obtain ⟨m, ⟨o', es, ep, ho', hd', _⟩, _⟩ := I.loc
 rw [z, ho'] at ho; cases ho; rw [hd'] at hd; cases hd
theorem Inv.funs (I : Inv X pins σ H s) : s.heap.FunFrames X.base X.outer := by
 have all : ∀ (l : List Env), (∀ b ∈ frs l, b ∈ X.fs) -> X.s₀.heap.FunFrames X.base l -> s.heap.FunFrames X.base l := by
  intro l
  induction l with
  | nil => intro _ _; trivial
  | cons env r ih =>
   intro hs hl
   obtain ⟨hk, ⟨L, o, hf, hn, ho, hd⟩, hr⟩ := hl
   have hL : L ∈ X.fs := hs L (by unfold frs; rw [List.filterMap_cons, hf]; exact List.mem_cons_self)
   obtain ⟨sl, e⟩ := I.base.slot L o ho (I.ok.frf L hL) hL fun z => I.ok.exfs L z hL
   exact ⟨hk, ⟨L, _, hf, hn, e, hd⟩, ih (fun b hb => hs b (by unfold frs; rw [List.filterMap_cons, hf]; exact List.mem_cons_of_mem _ hb)) hr⟩
 exact all X.outer (fun _ hb => hb) I.ok.funs
theorem Inv.stack (I : Inv X pins σ H s) : s.heap.FunFrames X.base X.stack := by
 rcases I.ok.stk with e | ⟨e, hf⟩
 ·rw [e]; exact I.funs
 ·rw [e]
  obtain ⟨m, hn, _⟩ := I.loc
  refine .cons (by rw [I.ok.kind]; decide) hf hn ?_ I.funs
  exact Heap.get?_none_of_le (Nat.le_trans I.ok.bsz I.ok.above)
theorem Inv.stkSub (I : Inv X pins σ H s) : ∀ b ∈ frs X.stack, b ∈ X.env.locals :: X.fs := fun b hb => by
 rcases I.ok.stk with e | ⟨e, hf⟩
 ·rw [e] at hb; exact List.mem_cons_of_mem _ hb
 ·rw [e] at hb
  unfold frs at hb
  rw [List.filterMap_cons, hf] at hb
  exact hb
theorem Inv.stkFree (I : Inv X pins σ H s) : ∀ b ∈ frs X.stack, H b = none := fun b hb => by
 rcases List.mem_cons.mp (I.stkSub b hb) with e | hb
 ·rw [e]; exact I.free
 ·obtain ⟨_, o, ho, _⟩ := I.ok.funs.mem hb
  exact I.base.free b o ho (I.ok.frf b hb) fun z => I.ok.exfs b z hb
theorem Inv.step {g' : Array GenState} {t' : Nat} {d' : Drawn} {ch : List Addr} (I : Inv X pins σ H s)
  (hch : ∀ b ∈ ch, (b ∈ X.ex \/ X.s₀.heap.objs.size <= b) /\ b ≠ X.env.locals /\ (∀ x c, X.env.cells.lookup x = some c -> c ≠ b) /\ ∀ p ∈ X.pn ++ pins, p.1 ≠ b)
  (keep : ∀ b o, b ≠ X.env.locals -> b ∉ X.fs -> b ∉ ch -> s.heap.get? b = some o -> H b = none -> h'.get? b = some o)
  (slot : ∀ b o, b ≠ X.env.locals -> b ∈ X.fs -> b ∉ ch -> s.heap.get? b = some o -> H b = none -> ∃ sl, h'.get? b = some { o with slots := sl }) (free : ∀ b o, b ∉ ch -> s.heap.get? b = some o -> H b = none -> H' b = none)
  (there : ∀ b o, b ∉ ch -> s.heap.get? b = some o -> ∃ o', h'.get? b = some o')
  (tups : ∀ b xs, H b = some (.tup xs) -> H' b = some (.tup xs)) (frzs : ∀ b o u, H b = some (.frz o u) -> H' b = some (.frz o u)) (tbls : ∀ b ps, H b = some (.tbl ps) -> ∃ more, H' b = some (.tbl (ps ++ more)))
  (ns : ∀ m, s.heap.Ns X.env.locals m -> h'.Ns X.env.locals m) (hok : HOk X.prog X.w H' h') (hg : AllBare g') :
  Inv X pins σ H' { s with heap := h', gens := g', drawn := d', toks := t' } := by
 have neL : ∀ b o, X.s₀.heap.get? b = some o -> b ≠ X.env.locals := fun b o e => Nat.ne_of_lt (Nat.lt_of_lt_of_le (Heap.lt_size e) I.ok.above)
 have neC : ∀ b o, X.s₀.heap.get? b = some o -> b ∉ X.ex -> b ∉ ch := fun b o e hx hb => by
  rcases (hch b hb).1 with z | z
  ·exact hx z
  ·exact absurd (Nat.lt_of_lt_of_le (Heap.lt_size e) z) (Nat.lt_irrefl _)
 have cellK : ∀ x c, X.env.cells.lookup x = some c -> ∀ v, s.heap.IsCell c v -> h'.IsCell c v := fun x c e v ⟨o, ho, hd⟩ => by
  have nch : c ∉ ch := fun z => (hch c z).2.2.1 x c e rfl
  by_cases hc : c ∈ X.fs
  ·obtain ⟨sl, q⟩ := slot c o (I.cne x c e) hc nch ho (I.freeC x c e)
   exact ⟨_, q, hd⟩
  ·exact ⟨o, keep c o (I.cne x c e) hc nch ho (I.freeC x c e), hd⟩
 refine ⟨I.ok, I.os, hg, ⟨fun b o e n hb hx => ?_, fun b o e n hb hx => ?_, fun b o e n hx => ?_, fun b o e hx => ?_, fun b xs e => tups b xs (I.base.tups b xs e), fun b o xs e => frzs b o xs (I.base.frzs b o xs e), fun b ps e => ?_⟩, ?_, fun x c e => ?_, ?_, fun x c e => ?_, fun p hp => ?_, hok, I.len⟩
 ·exact keep b o (neL b o e) hb (neC b o e hx) (I.base.keep b o e n hb hx) (I.base.free b o e n hx)
 ·obtain ⟨sl, e1⟩ := I.base.slot b o e n hb hx
  obtain ⟨sl', e2⟩ := slot b _ (neL b o e) hb (neC b o e hx) e1 (I.base.free b o e n hx)
  exact ⟨sl', e2⟩
 ·obtain ⟨o', e1⟩ := I.base.there b o e hx
  exact free b o' (neC b o e hx) e1 (I.base.free b o e n hx)
 ·obtain ⟨o', e1⟩ := I.base.there b o e hx
  exact there b o' (neC b o e hx) e1
 ·obtain ⟨m1, e1⟩ := I.base.tbls b ps e
  obtain ⟨m2, e2⟩ := tbls b _ e1
  exact ⟨m1 ++ m2, by rw [e2, Array.append_assoc]⟩
 ·obtain ⟨m, hn, hl⟩ := I.loc
  refine ⟨m, ns m hn, fun i x v e1 e2 e3 => ?_⟩
  obtain ⟨u, r, l⟩ := hl i x v e1 e2 e3
  refine ⟨u, r, ?_⟩
  rcases l with l | ⟨k, c, e, z⟩
  ·exact .inl l
  ·exact .inr ⟨k, c, e, cellK x c e _ z⟩
 ·obtain ⟨v, z⟩ := I.cell x c e
  exact ⟨v, cellK x c e v z⟩
 ·obtain ⟨m, ⟨o, _, _, ho, _⟩, _⟩ := I.loc
  exact free _ o (fun z => (hch _ z).2.1 rfl) ho I.free
 ·obtain ⟨v, o, ho, hd⟩ := I.cell x c e
  exact free c o (fun z => (hch c z).2.2.1 x c e rfl) ho (I.freeC x c e)
 ·obtain ⟨e, n, ne, nf, d⟩ := I.pin p hp
  have nch : p.1 ∉ ch := fun z => (hch p.1 z).2.2.2 p hp rfl
  exact ⟨keep p.1 p.2 ne nf nch e n, free p.1 p.2 nch e n, ne, nf, d⟩
theorem Inv.un {t' : Nat} (I : Inv X pins σ H s) (u : Un X.fs [] H H' s.heap h') (hok : HOk X.prog X.w H' h') : Inv X pins σ H' { s with heap := h', toks := t' } := by
 obtain ⟨m, ⟨o, es, ep, ho, r⟩, _⟩ := id I.loc
 obtain ⟨sl, hL⟩ := u.any ho I.free (by simp)
 exact I.step (g' := s.gens) (d' := s.drawn) (ch := []) (fun _ z => nomatch z) (fun b o _ hb _ e n => u.keep b o e n hb (by simp)) (fun b o _ hb _ e n => u.slot b o e n hb (by simp)) (fun b o _ e n => u.free b o e n (by simp)) (fun b o _ e => u.there b o e (by simp)) u.tups u.frzs u.tbls (fun m' hm => by
  obtain ⟨o', es', ep', ho', r'⟩ := hm
  rw [ho] at ho'; cases ho'
  exact ⟨_, es', ep', hL, r'⟩) hok I.bare
theorem Inv.call {g' : Array GenState} {t' : Nat} {d' : Drawn} {ch : List Addr} (I : Inv X pins σ H s) (u : Un (frs X.stack) ch H H' s.heap h') (hok : HOk X.prog X.w H' h') (hg : AllBare g')
  (hch : ∀ b ∈ ch, (b ∈ X.ex \/ X.s₀.heap.objs.size <= b) /\ b ≠ X.env.locals /\ (∀ x c, X.env.cells.lookup x = some c -> c ≠ b) /\ ∀ p ∈ X.pn ++ pins, p.1 ≠ b) :
  Inv X pins σ H' { s with heap := h', gens := g', drawn := d', toks := t' } := by
 obtain ⟨m, ⟨o, es, ep, ho, r⟩, _⟩ := id I.loc
 obtain ⟨sl, hL⟩ := u.any ho I.free fun z => (hch _ z).2.1 rfl
 exact I.step (ch := ch) hch (fun b o hL hb hc e n => u.keep b o e n (fun z => (List.mem_cons.mp (I.stkSub b z)).elim hL hb) hc) (fun b o _ _ hc e n => u.any e n hc) (fun b o hc e n => u.free b o e n hc) (fun b o hc e => u.there b o e hc) u.tups u.frzs u.tbls (fun m' hm => by
  obtain ⟨o', es', ep', ho', r'⟩ := hm
  rw [ho] at ho'; cases ho'
  exact ⟨_, es', ep', hL, r'⟩) hok hg
theorem Inv.turned {t' : Nat} {it : Addr} (I : Inv X pins σ H s) (k : ∀ b o, b ≠ it -> s.heap.get? b = some o -> h'.get? b = some o) (hn : H it = none) (hL : it ≠ X.env.locals)
  (h1 : it ∈ X.ex \/ X.s₀.heap.objs.size <= it) (h2 : ∀ x c, X.env.cells.lookup x = some c -> c ≠ it) (h3 : ∀ p ∈ X.pn ++ pins, p.1 ≠ it) : Inv X pins σ H { s with heap := h', toks := t' } := by
 have nit : ∀ b u, H b = some u -> b ≠ it := fun b u e z => by rw [z, hn] at e; cases e
 refine I.step (g' := s.gens) (d' := s.drawn) (ch := [it]) (fun b hb => ?_) (fun b o _ _ hc e _ => k b o (fun z => hc (by simp [z])) e) (fun b o _ _ hc e _ => ⟨o.slots, k b o (fun z => hc (by simp [z])) e⟩) (fun _ _ _ _ n => n)
  (fun b o hc e => ⟨o, k b o (fun z => hc (by simp [z])) e⟩) (fun _ _ e => e) (fun _ _ _ e => e) (fun b ps e => ⟨#[], by rw [e]; simp⟩) (fun m hm => ?_) (fun b u e => ?_) I.bare
 ·have e : b = it := by simpa using hb
  subst e
  exact ⟨h1, hL, h2, h3⟩
 ·obtain ⟨o, es, ep, ho, r⟩ := hm
  exact ⟨o, es, ep, k _ o (Ne.symm hL) ho, r⟩
 ·refine (I.hok b u e).stay (fun c v hc q => k c v ?_ q) (fun _ q => q) fun _ _ q => q
  rcases hc with z | z
  ·rw [z]; exact nit b u e
  ·exact nit c _ z
theorem Inv.tok (I : Inv X pins σ H s) (t : Nat) : Inv X pins σ H { s with toks := t } := I.un (h' := s.heap) (t' := t) Un.refl I.hok
theorem Inv.kept {t' : Nat} (I : Inv X pins σ H s) (k : ∀ b u, s.heap.get? b = some u -> h'.get? b = some u) : Inv X pins σ H { s with heap := h', toks := t' } := I.un (Un.kept k) (I.hok.kept k)
theorem Inv.laid {a : Addr} {o : HO} {t' : Nat} (I : Inv X pins σ H s) (k : ∀ b u, s.heap.get? b = some u -> h'.get? b = some u) (hp : s.heap.objs.size <= a) (new : aC X.prog X.w (upd H a o) h' a o) :
  Inv X pins σ (upd H a o) { s with heap := h', toks := t' } := I.un (Un.laid k hp (I.hok.fresh hp)) (I.hok.laid k hp new)
theorem Inv.write {x e : Addr} {o : HO} {t' : Nat} (I : Inv X pins σ H s) (mu : Mut (H x)) (he : e = x \/ H e = some (.own x)) (k : ∀ b u, b ≠ e -> s.heap.get? b = some u -> h'.get? b = some u) (heo : ∃ u, h'.get? e = some u)
  (new : aC X.prog X.w (upd H x o) h' x o) : Inv X pins σ (upd H x o) { s with heap := h', toks := t' } := I.un (Un.write mu he k heo) (I.hok.write mu he k heo new)
theorem Inv.pins_of {pins' : List (Addr × Obj)} (I : Inv X pins σ H s) (h : ∀ p ∈ pins', s.heap.get? p.1 = some p.2 /\ H p.1 = none /\ p.1 ≠ X.env.locals /\ p.1 ∉ X.fs /\ ∀ v, p.2.data ≠ .cell v) : Inv X pins' σ H s :=
 ⟨I.ok, I.os, I.bare, I.base, I.loc, I.cell, I.free, I.freeC, fun p hp => (List.mem_append.mp hp).elim (fun z => I.pin p (List.mem_append_left _ z)) (h p), I.hok, I.len⟩
theorem iL {N : List Str} (hN : N.Nodup) {i j : Nat} {x : Str} (a : N[i]? = some x) (b : N[j]? = some x) : i = j := by
 obtain ⟨h1, e1⟩ := List.getElem?_eq_some_iff.mp a
 obtain ⟨h2, e2⟩ := List.getElem?_eq_some_iff.mp b
 exact (List.getElem_inj hN).mp (e1.trans e2.symm)
theorem iu {M : Model} {A : Around} {E : Value -> Shared -> Prop} {i : Nat} {x : Str} {v : V} {u : Value} {Q : Unit -> Shared -> Prop} (I : Inv X pins σ H s) (hN : X.N.Nodup) (hi : X.N[i]? = some x) (hx : Loc X.env.scope x) (r : RelV v u)
  (h : ∀ s', Inv X pins (σ.set i (some v)) H s' -> (∃ a, Heap.SameBut a s.heap s'.heap /\ (a = X.env.locals \/ X.env.cells.lookup x = some a)) -> Q () s') (hf : X.fn x = true \/ X.env.scope.names.lookup x = some .local := by first | exact .inl rfl | exact .inr rfl | assumption) : wpAny M A (storeName X.env x u) Q E s := by
 obtain ⟨m, hn, hl⟩ := id I.loc
 have hcls : (X.env.scope.kind == .class || (X.env.scope.kind == .module && X.env.locals != X.env.globals)) = false := by rw [I.ok.kind]; rfl
 have hiσ : i < σ.length := by rw [I.len]; exact (List.getElem?_eq_some_iff.mp hi).1
 have cne := I.cne
 have tracked : ∀ {a : Addr} {h' : Heap}, (∃ o, s.heap.get? a = some o /\ H a = none) -> Heap.SameBut a s.heap h' -> HOk X.prog X.w H h' := fun {a h'} ha hs b ob e => by
  obtain ⟨_, _, hfree⟩ := ha
  refine (I.hok b ob e).stay (fun c w' hc q => (hs.2 c ?_).trans q) (fun _ q => q) fun _ _ q => q
  rintro rfl
  rcases hc with rfl | hc
  ·rw [hfree] at e; cases e
  ·rw [hfree] at hc; cases hc
 rcases hx with hk | hk
 ·refine wpAny_storeName_local hk hn (fun h' hn' hs => ?_) hcls
  obtain ⟨oL, _, _, hoL, _⟩ := id hn
  refine h _ ⟨I.ok, I.os, I.bare, ⟨fun b o e n hb hx => ?_, fun b o e n hb hx => ?_, I.base.free, fun b o e hx => ?_, I.base.tups, I.base.frzs, I.base.tbls⟩, ⟨_, hn', fun j y v' e1 e2 e3 => ?_⟩, fun y c e => ?_, I.free, I.freeC, fun p hp => ?_, tracked ⟨oL, hoL, I.free⟩ hs, by simpa using I.len⟩ ⟨_, hs, .inl rfl⟩
  ·exact (hs.2 b (Nat.ne_of_lt (Nat.lt_of_lt_of_le (Heap.lt_size e) I.ok.above))).trans (I.base.keep b o e n hb hx)
  ·obtain ⟨sl, e1⟩ := I.base.slot b o e n hb hx
   exact ⟨sl, (hs.2 b (Nat.ne_of_lt (Nat.lt_of_lt_of_le (Heap.lt_size e) I.ok.above))).trans e1⟩
  ·obtain ⟨o', e1⟩ := I.base.there b o e hx
   exact ⟨o', (hs.2 b (Nat.ne_of_lt (Nat.lt_of_lt_of_le (Heap.lt_size e) I.ok.above))).trans e1⟩
  ·by_cases hj : j = i
   ·subst hj
    rw [hi] at e1; cases e1
    rw [List.getElem?_set_self hiσ] at e2
    cases e2
    exact ⟨u, r, .inl ⟨hk, by simp⟩⟩
   ·rw [List.getElem?_set_ne (Ne.symm hj)] at e2
    obtain ⟨u', r', q⟩ := hl j y v' e1 e2 e3
    refine ⟨u', r', ?_⟩
    rcases q with ⟨k, e⟩ | ⟨k, c, e, z⟩
    ·refine .inl ⟨k, ?_⟩
     have : y ≠ x := fun e => hj (iL hN e1 (e ▸ hi))
     simp [this, e]
    ·exact .inr ⟨k, c, e, z.sameBut hs (cne y c e)⟩
  ·obtain ⟨w', z⟩ := I.cell y c e
   exact ⟨w', z.sameBut hs (cne y c e)⟩
  ·obtain ⟨e, n, ne, nf, d⟩ := I.pin p hp
   exact ⟨(hs.2 p.1 ne).trans e, n, ne, nf, d⟩
 ·have hfn : X.fn x = true := by
   rcases hf with z | z
   ·exact z
   ·rw [z] at hk; cases hk
  obtain ⟨c, hc⟩ := I.ok.has x (.inl hk)
  obtain ⟨w', z⟩ := I.cell x c hc
  refine wpAny_storeName_cell I.ok.kind hk hc z (fun h' hc' hs => ?_)
  obtain ⟨oc, hoc, hocd⟩ := id z
  refine h { s with heap := h' } ⟨I.ok, I.os, I.bare, ⟨fun b o e n hb hx => ?_, fun b o e n hb hx => ?_, I.base.free, fun b o e hx => ?_, I.base.tups, I.base.frzs, I.base.tbls⟩, ⟨m, hn.sameBut hs (Ne.symm (cne x c hc)), fun j y v' e1 e2 e3 => ?_⟩, fun y c' e => ?_, I.free, I.freeC, fun p hp => ?_, tracked ⟨oc, hoc, I.freeC x c hc⟩ hs, by simpa using I.len⟩ ⟨c, hs, .inr hc⟩
  ·exact (hs.2 b (Nat.ne_of_lt (Nat.lt_of_lt_of_le (Heap.lt_size e) (I.ok.cab x c hfn hc)))).trans (I.base.keep b o e n hb hx)
  ·obtain ⟨sl, e1⟩ := I.base.slot b o e n hb hx
   exact ⟨sl, (hs.2 b (Nat.ne_of_lt (Nat.lt_of_lt_of_le (Heap.lt_size e) (I.ok.cab x c hfn hc)))).trans e1⟩
  ·obtain ⟨o', e1⟩ := I.base.there b o e hx
   exact ⟨o', (hs.2 b (Nat.ne_of_lt (Nat.lt_of_lt_of_le (Heap.lt_size e) (I.ok.cab x c hfn hc)))).trans e1⟩
  ·by_cases hj : j = i
   ·subst hj
    rw [hi] at e1; cases e1
    rw [List.getElem?_set_self hiσ] at e2
    cases e2
    exact ⟨u, r, .inr ⟨.inl hk, c, hc, hc'⟩⟩
   ·rw [List.getElem?_set_ne (Ne.symm hj)] at e2
    obtain ⟨u', r', q⟩ := hl j y v' e1 e2 e3
    refine ⟨u', r', ?_⟩
    rcases q with q | ⟨k, c', e, z'⟩
    ·exact .inl q
    ·refine .inr ⟨k, c', e, z'.sameBut hs ?_⟩
     rintro rfl
     exact hj (iL hN e1 (I.ok.inj _ _ _ e hc ▸ hi))
  ·by_cases hcc : c' = c
   ·subst hcc; exact ⟨_, hc'⟩
   ·obtain ⟨w2, z2⟩ := I.cell y c' e
    exact ⟨w2, z2.sameBut hs hcc⟩
  ·obtain ⟨e, n, ne, nf, d⟩ := I.pin p hp
   refine ⟨(hs.2 p.1 ?_).trans e, n, ne, nf, d⟩
   intro q
   rw [q, hoc] at e
   have q' : oc = p.2 := Option.some.inj e
   exact d w' (by rw [<- q']; exact hocd)
theorem dR {M : Model} {A : Around} {E : Value -> Shared -> Prop} {i : Nat} {x : Str} {v : V} {u : Value} {Q : Unit -> Shared -> Prop} (I : Inv X pins σ H s) (hN : X.N.Nodup) (hi : X.N[i]? = some x) (hx : Loc X.env.scope x) (r : RelV v u)
  (h : ∀ s', Inv X pins (σ.set i (some v)) H s' -> Q () s') (hf : X.fn x = true \/ X.env.scope.names.lookup x = some .local := by first | exact .inl rfl | exact .inr rfl | assumption) : wpAny M A (storeName X.env x u) Q E s :=
 iu I hN hi hx r (fun s' I' _ => h s' I') hf
theorem Inv.call' {s' : Shared} {ch : List Addr} (I : Inv X pins σ H s) (ho : s'.os = s.os) (u : Un (frs X.stack) ch H H' s.heap s'.heap) (hok : HOk X.prog X.w H' s'.heap) (hg : AllBare s'.gens)
  (hch : ∀ b ∈ ch, (b ∈ X.ex \/ X.s₀.heap.objs.size <= b) /\ b ≠ X.env.locals /\ (∀ x c, X.env.cells.lookup x = some c -> c ≠ b) /\ ∀ p ∈ X.pn ++ pins, p.1 ≠ b) : Inv X pins σ H' s' := by
 obtain ⟨h', g', d', t', o'⟩ := s'
 have e : o' = s.os := ho
 subst e
 exact I.call (g' := g') (t' := t') (d' := d') u hok hg hch
end
noncomputable abbrev XK := Value -> Option Addr -> Hp -> Prop
noncomputable abbrev St := List (Option V)
noncomputable abbrev VK := V -> Hp -> Prop
noncomputable abbrev TE := St -> Hp -> VK -> Prop
noncomputable abbrev TT := St -> Hp -> (Bool -> Hp -> Prop) -> Prop
noncomputable abbrev TA := St -> Hp -> (List V -> Hp -> Prop) -> Prop
structure Ends where
 nx : St -> Hp -> Prop
 rt : VK
 bk : St -> Hp -> Prop := fun _ _ => False
 ct : St -> Hp -> Prop := fun _ _ => False
noncomputable abbrev TS := Ends -> St -> Hp -> Prop
noncomputable def EP (X : Cx) (pins : List (Addr × Obj)) (σ : St) (Q : VK) (u : Value) (s' : Shared) : Prop := ∃ v H', Inv X pins σ H' s' /\ RelV v u /\ Q v H'
noncomputable def TP (X : Cx) (pins : List (Addr × Obj)) (σ : St) (Q : Bool -> Hp -> Prop) (b : Bool) (s' : Shared) : Prop := ∃ H', Inv X pins σ H' s' /\ Q b H'
noncomputable def AP (X : Cx) (pins : List (Addr × Obj)) (σ : St) (Q : List V -> Hp -> Prop) (us : List Value) (s' : Shared) : Prop := ∃ vs H', Inv X pins σ H' s' /\ ao vs us /\ Q vs H'
noncomputable def SP (X : Cx) (pins : List (Addr × Obj)) (D : Ends) (f : Flow) (s' : Shared) : Prop :=
 match f with
 | .next => ∃ σ' H', Inv X pins σ' H' s' /\ D.nx σ' H'
 | .brk => ∃ σ' H', Inv X pins σ' H' s' /\ D.bk σ' H'
 | .cont => ∃ σ' H', Inv X pins σ' H' s' /\ D.ct σ' H'
 | .ret u => ∃ v σ' H', Inv X pins σ' H' s' /\ RelV v u /\ D.rt v H'
noncomputable def PE (X : Cx) (e : Expr) (t : TE) : Prop :=
 ∀ (pins : List (Addr × Obj)) (s : Shared) (σ : St) (H : Hp) (Q : VK), Inv X pins σ H s -> t σ H Q -> wpAny (model X.prog X.w) X.A (eval e X.env) (EP X pins σ Q) X.xe s
noncomputable def PT (X : Cx) (e : Expr) (t : TT) : Prop :=
 ∀ (pins : List (Addr × Obj)) (s : Shared) (σ : St) (H : Hp) (Q : Bool -> Hp -> Prop), Inv X pins σ H s -> t σ H Q -> wpAny (model X.prog X.w) X.A (isTrue e X.env (eval e X.env)) (TP X pins σ Q) X.xe s
noncomputable def PW (X : Cx) (e : Expr) (t : TT) : Prop :=
 ∀ (whole : Sem Value) (pins : List (Addr × Obj)) (s : Shared) (σ : St) (H : Hp) (Q : Bool -> Hp -> Prop), Inv X pins σ H s -> t σ H Q -> wpAny (model X.prog X.w) X.A (isTrue e X.env whole) (TP X pins σ Q) X.xe s
theorem PW.pt {X : Cx} {e : Expr} {t : TT} (h : PW X e t) : PT X e t := h _
noncomputable def PA (X : Cx) (es : List Expr) (t : TA) : Prop :=
 ∀ (pos : Pos) (pins : List (Addr × Obj)) (s : Shared) (σ : St) (H : Hp) (Q : List V -> Hp -> Prop), Inv X pins σ H s -> t σ H Q -> wpAny (model X.prog X.w) X.A (spliced (backTo pos (starEach es X.env))) (AP X pins σ Q) X.xe s
noncomputable def PS (X : Cx) (st : Stmt) (t : TS) : Prop :=
 ∀ (pins : List (Addr × Obj)) (s : Shared) (σ : St) (H : Hp) (D : Ends), Inv X pins σ H s -> t D σ H -> wpAny (model X.prog X.w) X.A (exec st X.env) (SP X pins D) X.xe s
noncomputable def PSs (X : Cx) (st : List Stmt) (t : TS) : Prop :=
 ∀ (pins : List (Addr × Obj)) (s : Shared) (σ : St) (H : Hp) (D : Ends), Inv X pins σ H s -> t D σ H -> wpAny (model X.prog X.w) X.A (execs st X.env) (SP X pins D) X.xe s
theorem thn {α : Type} {t : Sem α} {Q Q' : α -> Shared -> Prop} {M : Model} {A : Around} {E : Value -> Shared -> Prop} {s : Shared} (h : wpAny M A t Q E s) (hQ : ∀ a s, Q a s -> Q' a s) : wpAny M A t Q' E s := wpAny_mono h hQ fun _ _ x => x
section
variable {X : Cx}
noncomputable def nO (i : Nat) : TE := fun σ H Q => ∃ v, σ[i]? = some (some v) /\ Q v H
noncomputable def tC (v : V) : TE := fun _ H Q => Q v H
theorem uL {i : Nat} {x : Str} {pos : Pos} (hN : X.N[i]? = some x) (hv : Vis X.env.scope x) (hd : (x == ("__debug__" : Str)) = false := by decide) (hcd : (x == ("__classdict__" : Str)) = false := by decide) : PE X (.Name x pos) (nO i) := by
 intro pins s σ H Q I h
 obtain ⟨v, e, h⟩ := h
 obtain ⟨m, hn, hl⟩ := I.loc
 obtain ⟨u, r, l⟩ := hl i x v hN e hv
 have fin : EP X pins σ Q u s := ⟨v, H, I, r, h⟩
 rcases l with ⟨hk, hm⟩ | ⟨hk, c, hc, hcell⟩
 ·exact wpAny_Name (wpAny_loadName_local I.ok.kind hk hn hm fin) hd
 ·rcases hk with hk | hk
  ·exact wpAny_Name (wpAny_loadName_cell I.ok.kind hk hc hcell fin) hd
  ·exact wpAny_Name (wpAny_loadName_free I.ok.kind hk hc hcell fin hcd) hd
theorem ak {i j pos} : PE X (.Constant (.int i) j pos) (tC (.int i)) := fun _ _ _ H _ I h => wpAny_Constant_int ⟨.int i, H, I.tok _, ⟨_, rfl⟩, h⟩
theorem fc {b j pos} : PE X (.Constant (.bool b) j pos) (tC (.bl b)) := fun _ _ _ H _ I h => Constant_bool ⟨.bl b, H, I, rfl, h⟩
theorem gs {j pos} : PE X (.Constant .none j pos) (tC .non) := fun _ _ _ H _ I h => Constant_none ⟨.non, H, I, rfl, h⟩
theorem eV {x j pos} : PE X (.Constant (.str x) j pos) (tC (.str x)) := fun _ _ _ H _ I h => Calls.Constant_str ⟨.str x, H, I.tok _, ⟨_, rfl⟩, h⟩
noncomputable def Gl (X : Cx) (x : Str) : Prop := X.env.kindOf x = some .globalImplicit
theorem dY {E : Value -> Shared -> Prop} {pins : List (Addr × Obj)} {s : Shared} {σ : St} {H : Hp} {x : Str} {u : Value} {pos : Pos} {Q : Value -> Shared -> Prop} (I : Inv X pins σ H s) (hg : Gl X x) (hm : X.mg x = some u) (h : Q u s)
  (hd : (x == ("__debug__" : Str)) = false := by decide) : wpAny (model X.prog X.w) X.A (eval (.Name x pos) X.env) Q E s :=
 Calls.Name_function_global I.ok.kind hg (Calls.loadGlobal_global (by rw [I.ok.glob]; exact I.mod.glob.keeps I.bk) hm h) hd
theorem dA {E : Value -> Shared -> Prop} {pins : List (Addr × Obj)} {s : Shared} {σ : St} {H : Hp} {x : Str} {u : Value} {pos : Pos} {Q : Value -> Shared -> Prop} (I : Inv X pins σ H s) (hg : Gl X x) (hm : X.mg x = none) (hv : bootBuiltins x = some u) (h : Q u s)
  (hn : x ≠ "__name__" := by decide) (hd : (x == ("__debug__" : Str)) = false := by decide) : wpAny (model X.prog X.w) X.A (eval (.Name x pos) X.env) Q E s := by
 obtain ⟨mb, h1, h2⟩ := I.mod.blt
 exact Calls.Name_function_global I.ok.kind hg (Calls.loadGlobal_builtin (by rw [I.ok.glob]; exact I.mod.glob.keeps I.bk) hm (by rw [I.ok.blt]; exact h1.keeps I.bk) ((h2 x hn).trans hv) h) hd
theorem cm {x : Str} {v : V} {u : Value} {pos : Pos} (hg : Gl X x) (hm : X.mg x = some u) (r : RelV v u) (hd : (x == ("__debug__" : Str)) = false := by decide) : PE X (.Name x pos) (tC v) :=
 fun _ _ _ H _ I h => dY I hg hm ⟨v, H, I, r, h⟩ hd
theorem cT {x : Str} {v : V} {u : Value} {pos : Pos} (hg : Gl X x) (hm : X.mg x = none) (hv : bootBuiltins x = some u) (r : RelV v u) (hn : x ≠ "__name__" := by decide) (hd : (x == ("__debug__" : Str)) = false := by decide) : PE X (.Name x pos) (tC v) :=
 fun _ _ _ H _ I h => dA I hg hm hv ⟨v, H, I, r, h⟩ hn hd
variable {a b : Expr} {ta tb : TE} {pos : Pos}
noncomputable def tB (t : TE) : TT := fun σ H Q => t σ H fun x H1 => ∃ c, x = .bl c /\ Q c H1
theorem bA {e : Expr} {t : TE} (h : PE X e t) (he : ∀ whole, isTrue e X.env whole = (do let v <- whole; standAt e.pos; holding [v] (truthy v)) := by intro _; rfl) : PT X e (tB t) := by
 intro pins s σ H Q I hw
 refine isTrue_plain (thn (h pins s σ H _ I hw) fun v s1 ⟨x, H1, I1, r1, q1⟩ => ?_) (he _)
 obtain ⟨d, rfl, q⟩ := q1
 cases r1
 exact wpAny_truthy_bool ⟨H1, I1, q⟩
variable {tA tB' : TT} {rest : List Expr}
noncomputable def wG (t u : TT) : TT := fun σ H Q => t σ H fun c H1 => if c = true then u σ H1 Q else Q false H1
noncomputable def tOr (t u : TT) : TT := fun σ H Q => t σ H fun c H1 => if c = true then Q true H1 else u σ H1 Q
noncomputable def wn (t : TT) : TT := fun σ H Q => t σ H fun c H1 => Q (!c) H1
theorem eP (ha : PT X a tA) : PW X (.BoolOp .And [a] pos) tA := by
 intro wh pins s σ H Q I h
 refine isTrue_and (thn (ha pins s σ H Q I h) fun c s1 e => ?_)
 cases c with
 | true => exact isTrue_and_nil e
 | false => exact e
theorem dD (ha : PT X a tA) : PW X (.BoolOp .Or [a] pos) tA := by
 intro wh pins s σ H Q I h
 refine isTrue_or (thn (ha pins s σ H Q I h) fun c s1 e => ?_)
 cases c with
 | false => exact isTrue_or_nil e
 | true => exact e
theorem dZ (ha : PT X a tA) (hb : PW X (.BoolOp .And (b :: rest) pos) tB') : PW X (.BoolOp .And (a :: b :: rest) pos) (wG tA tB') := by
 intro wh pins s σ H Q I h
 refine isTrue_and (thn (ha pins s σ H _ I h) fun c s1 ⟨H1, I1, q1⟩ => ?_)
 cases c with
 | true => exact hb wh pins s1 σ H1 Q I1 q1
 | false => exact ⟨H1, I1, q1⟩
theorem di (ha : PT X a tA) (hb : PW X (.BoolOp .Or (b :: rest) pos) tB') : PW X (.BoolOp .Or (a :: b :: rest) pos) (tOr tA tB') := by
 intro wh pins s σ H Q I h
 refine isTrue_or (thn (ha pins s σ H _ I h) fun c s1 ⟨H1, I1, q1⟩ => ?_)
 cases c with
 | true => exact ⟨H1, I1, q1⟩
 | false => exact hb wh pins s1 σ H1 Q I1 q1
theorem bP (ha : PT X a tA) : PT X (.UnaryOp .Not a pos) (wn tA) := by
 intro pins s σ H Q I h
 exact isTrue_not (ha pins s σ H (fun c H1 => Q (!c) H1) I h)
noncomputable def vJ (ta tb : TE) : TE := fun σ H Q => ta σ H fun x H1 => ∃ c, x = .bl c /\ if c = true then tb σ H1 Q else Q (.bl false) H1
theorem eS {op} {t : TE} (h : PE X a t) : PE X (.BoolOp op [a] pos) t := fun pins s σ H Q I hw => BoolOp_one (h pins s σ H Q I hw)
theorem dE (ha : PE X a ta) (hb : PE X (.BoolOp .And (b :: rest) pos) tb) : PE X (.BoolOp .And (a :: b :: rest) pos) (vJ ta tb) := by
 intro pins s σ H Q I h
 refine BoolOp_and (thn (ha pins s σ H _ I h) fun v s1 ⟨x, H1, I1, r1, q1⟩ => ?_)
 obtain ⟨c, rfl, q1⟩ := q1
 cases r1
 refine wpAny_truthy_bool ?_
 cases c with
 | true => exact hb pins s1 σ H1 Q I1 q1
 | false => exact ⟨.bl false, H1, I1, rfl, q1⟩
noncomputable def tIf (t : TT) (ta tb : TE) : TE := fun σ H Q => t σ H fun c H1 => if c = true then ta σ H1 Q else tb σ H1 Q
theorem kT {c : Expr} (hc : PT X c tA) (ha : PE X a ta) (hb : PE X b tb) : PE X (.IfExp c a b pos) (tIf tA ta tb) := by
 intro pins s σ H Q I h
 refine wpAny_IfExp (thn (hc pins s σ H _ I h) fun d s1 ⟨H1, I1, q1⟩ => ?_)
 cases d with
 | true => exact ha pins s1 σ H1 Q I1 q1
 | false => exact hb pins s1 σ H1 Q I1 q1
end
noncomputable def SqL (K : PySem.W.Frag) (H : Hp) (a : Addr) (xs : List V) : Prop :=
 Rd H a (.lst xs) \/
  ∃ (o : Obj) (its : Array Value) (n : Nat), K.lookup a = some o /\ o.cls = .type "list" /\ o.dict = none /\ o.data = .seq its n /\ its.size <= sizeLine /\ ao xs its.toList
noncomputable def SqT (K : PySem.W.Frag) (H : Hp) (a : Addr) (xs : List V) : Prop :=
 Rd H a (.tup xs) \/
  ∃ (o : Obj) (its : Array Value) (n : Nat), K.lookup a = some o /\ o.cls = .type "tuple" /\ o.data = .seq its n /\ its.size <= sizeLine /\ ao xs its.toList
noncomputable def wg : Value -> Option V
 | .none => some .non
 | .bool b => some (.bl b)
 | .int i _ => some (.int i)
 | .str x _ => some (.str x)
 | .bytes b _ => some (.byt b)
 | .float b _ => some (.flt b)
 | .ref a => some (.ref a)
 | .type n => some (.ty n)
 | _ => none
theorem RelV.abs {x : V} {u : Value} (r : RelV x u) : wg u = some x := by
 cases x with
 | non => cases r; rfl
 | bl _ => cases r; rfl
 | int _ => obtain ⟨t, rfl⟩ := r; rfl
 | str _ => obtain ⟨t, rfl⟩ := r; rfl
 | byt _ => obtain ⟨t, rfl⟩ := r; rfl
 | flt _ => obtain ⟨t, rfl⟩ := r; rfl
 | ref _ => cases r; rfl
 | ty _ => cases r; rfl
theorem RelV.inj {x y : V} {u : Value} (r : RelV x u) (q : RelV y u) : x = y := Option.some.inj (r.abs.symm.trans q.abs)
theorem ao.inj : ∀ {xs ys : List V} {us : List Value}, ao xs us -> ao ys us -> xs = ys
 | _, _, _, .nil, .nil => rfl
 | _, _, _, .cons r t, .cons r' t' => by rw [r.inj r', ao.inj t t']
section
variable {X : Cx} {pins : List (Addr × Obj)} {σ : St} {H : Hp} {s : Shared} {a : Addr} {xs ys : List V}
theorem SqL.of {K : PySem.W.Frag} (h : H a = some (.lst xs)) : SqL K H a xs := .inl (.inl h)
theorem SqT.of {K : PySem.W.Frag} (h : H a = some (.tup xs)) : SqT K H a xs := .inl (.inl h)
theorem Inv.list (I : Inv X pins σ H s) (h : SqL X.K H a xs) : ∃ its : List Value, ao xs its /\ PlainL s.heap a its.toArray /\ xs.length <= sizeLine := by
 rcases h with h | ⟨o, its, n, hk, hc, hd, hs, hz, r⟩
 ·obtain ⟨z, its, n, r, e⟩ := h.ok I.hok
  exact ⟨its, r, ⟨_, n, e, rfl, rfl, rfl⟩, z⟩
 ·refine ⟨its.toList, r, ⟨o, n, I.kIn a o hk, hc, hd, by simpa using hs⟩, ?_⟩
  have e := r.length
  simp only [Array.length_toList] at e
  omega
theorem Inv.tuple (I : Inv X pins σ H s) (h : SqT X.K H a xs) : ∃ its : List Value, ao xs its /\ IsTup s.heap a its.toArray /\ xs.length <= sizeLine := by
 rcases h with h | ⟨o, its, n, hk, hc, hs, hz, r⟩
 ·obtain ⟨z, its, r, p⟩ := h.ok I.hok
  exact ⟨its, r, p, z⟩
 ·refine ⟨its.toList, r, ⟨o, I.kIn a o hk, hc, n, by simpa using hs⟩, ?_⟩
  have e := r.length
  simp only [Array.length_toList] at e
  omega
theorem Inv.list_inj (I : Inv X pins σ H s) (h : SqL X.K H a xs) (h' : SqL X.K H a ys) : xs = ys := by
 obtain ⟨its, r, ⟨o, n, e, _, _, d⟩, _⟩ := I.list h
 obtain ⟨its', r', ⟨o', n', e', _, _, d'⟩, _⟩ := I.list h'
 rw [e] at e'; cases e'
 rw [d] at d'
 injection d' with d1 _
 have : its = its' := by simpa using congrArg Array.toList d1
 subst this
 exact r.inj r'
theorem Inv.tuple_inj (I : Inv X pins σ H s) (h : SqT X.K H a xs) (h' : SqT X.K H a ys) : xs = ys := by
 obtain ⟨its, r, ⟨o, e, _, n, d⟩, _⟩ := I.tuple h
 obtain ⟨its', r', ⟨o', e', _, n', d'⟩, _⟩ := I.tuple h'
 rw [e] at e'; cases e'
 rw [d] at d'
 injection d' with d1 _
 have : its = its' := by simpa using congrArg Array.toList d1
 subst this
 exact r.inj r'
end
noncomputable abbrev Cx.wish (X : Cx) (E : Value -> Shared -> Prop) : Cx := { X with xe := E }
noncomputable abbrev Cx.nox (X : Cx) : Cx := X.wish fun _ _ => False
theorem Cx.Ok.wish {X : Cx} (ok : X.Ok) (E : Value -> Shared -> Prop) : (X.wish E).Ok :=
 ⟨ok.mod, ok.kind, ok.glob, ok.blt, ok.above, ok.inj, ok.has, ok.cab, ok.hd, ok.frames, ok.stk, ok.exf, ok.bs, ok.bsz, ok.noex, ok.exfs, ok.funs, ok.frf⟩
theorem Cx.Ok.unwish {X : Cx} {E : Value -> Shared -> Prop} (ok : (X.wish E).Ok) : X.Ok :=
 ⟨ok.mod, ok.kind, ok.glob, ok.blt, ok.above, ok.inj, ok.has, ok.cab, ok.hd, ok.frames, ok.stk, ok.exf, ok.bs, ok.bsz, ok.noex, ok.exfs, ok.funs, ok.frf⟩
section
variable {X : Cx} {pins : List (Addr × Obj)} {σ : St} {H : Hp} {s : Shared} {E : Value -> Shared -> Prop}
theorem Inv.wish (I : Inv X pins σ H s) (E : Value -> Shared -> Prop) : Inv (X.wish E) pins σ H s := ⟨I.ok.wish E, I.os, I.bare, I.base, I.loc, I.cell, I.free, I.freeC, I.pin, I.hok, I.len⟩
theorem Inv.unwish (I : Inv (X.wish E) pins σ H s) : Inv X pins σ H s := ⟨I.ok.unwish, I.os, I.bare, I.base, I.loc, I.cell, I.free, I.freeC, I.pin, I.hok, I.len⟩
theorem SP.unwish {D : Ends} {f : Flow} {s' : Shared} (h : SP (X.wish E) pins D f s') : SP X pins D f s' := by
 cases f with
 | next => obtain ⟨σ', H', I, q⟩ := h; exact ⟨σ', H', I.unwish, q⟩
 | brk => obtain ⟨σ', H', I, q⟩ := h; exact ⟨σ', H', I.unwish, q⟩
 | cont => obtain ⟨σ', H', I, q⟩ := h; exact ⟨σ', H', I.unwish, q⟩
 | ret u => obtain ⟨v, σ', H', I, r, q⟩ := h; exact ⟨v, σ', H', I.unwish, r, q⟩
theorem PE.nox {e : Expr} {t : TE} (h : PE X.nox e t) : PE X e t := fun pins s σ H Q I hw =>
 wpAny_mono (h pins s σ H Q (I.wish _) hw) (fun _ _ ⟨v, H', I', r, q⟩ => ⟨v, H', I'.unwish, r, q⟩) fun _ _ z => False.elim z
theorem PSs.nox {st : List Stmt} {t : TS} (h : PSs X.nox st t) : PSs X st t := fun pins s σ H D I hw =>
 wpAny_mono (h pins s σ H D (I.wish _) hw) (fun _ _ q => q.unwish) fun _ _ z => False.elim z
end
section
variable {X : Cx} {st : Stmt} {rest : List Stmt} {t u : TS} {e : Expr} {te : TE} {pos : Pos}
noncomputable def vE : TS := fun D σ H => D.nx σ H
noncomputable def jD (t u : TS) : TS := fun D σ H => t { D with nx := u D } σ H
theorem be : PSs X [] vE := fun _ _ σ H _ I h => wpAny_execs_nil ⟨σ, H, I, h⟩
theorem am (h1 : PS X st t) (h2 : PSs X rest u) : PSs X (st :: rest) (jD t u) := by
 intro pins s σ H D I h
 refine wpAny_execs_cons (thn (h1 pins s σ H { D with nx := u D } I h) fun f s1 q => ?_)
 cases f with
 | next =>
  obtain ⟨σ', H', I', q⟩ := q
  exact h2 pins s1 σ' H' D I' q
 | ret v => exact q
 | brk => exact q
 | cont => exact q
theorem aw (h1 : PS X st t) : PSs X [st] t := by
 intro pins s σ H D I h
 refine wpAny_execs_cons (thn (h1 pins s σ H D I h) fun f s1 q => ?_)
 cases f with
 | next => exact wpAny_execs_nil q
 | ret v => exact q
 | brk => exact q
 | cont => exact q
theorem Inv.quiet {pins : List (Addr × Obj)} {σ : St} {H : Hp} {s : Shared} (I : Inv X pins σ H s) : interactive X.env = false := by simp [interactive, I.ok.kind]
noncomputable def vY (te : TE) : TS := fun D σ H => te σ H fun _ H1 => D.nx σ H1
theorem cD (he : PE X e te) (hs : swapsWith e none pos.line X.env = pure false := by rfl) : PS X (.Expr e pos) (vY te) := by
 intro pins s σ H D I h
 exact wpAny_Expr_any (thn (he pins s σ H _ I h) fun v s1 ⟨x, H1, I1, r1, q1⟩ => ⟨σ, H1, I1, q1⟩) I.quiet hs
noncomputable def wR (te : TE) : TS := fun D σ H => te σ H D.rt
theorem aN (he : PE X e te) : PS X (.Return (some e) pos) (wR te) := by
 intro pins s σ H D I h
 exact wpAny_Return_some (thn (he pins s σ H _ I h) fun v s1 ⟨x, H1, I1, r1, q1⟩ => ⟨x, σ, H1, I1, r1, q1⟩)
noncomputable def jv (c : TT) (t u : TS) : TS := fun D σ H => c σ H fun b H1 => if b = true then t D σ H1 else u D σ H1
theorem bj {c : Expr} {a b : List Stmt} {tc : TT} (hc : PT X c tc) (ha : PSs X a t) (hb : PSs X b u) : PS X (.If c a b pos) (jv tc t u) := by
 intro pins s σ H D I h
 refine wpAny_If (thn (hc pins s σ H _ I h) fun d s1 ⟨H1, I1, q1⟩ => ?_)
 cases d with
 | true => exact ha pins s1 σ H1 D I1 q1
 | false => exact hb pins s1 σ H1 D I1 q1
noncomputable def uX : TS := fun _ _ _ => False
theorem cP {sts : List Stmt} : PSs X sts uX := fun _ _ _ _ _ _ h => h.elim
end
noncomputable abbrev TG := V -> St -> Hp -> (St -> Hp -> Prop) -> Prop
noncomputable abbrev TGs := List V -> St -> Hp -> (St -> Hp -> Prop) -> Prop
noncomputable def PG (X : Cx) (target : Expr) (t : TG) : Prop :=
 ∀ (pins : List (Addr × Obj)) (s : Shared) (σ : St) (H : Hp) (v : V) (u : Value) (Q : St -> Hp -> Prop), Inv X pins σ H s -> RelV v u -> t v σ H Q ->
  wpAny (model X.prog X.w) X.A (assign target X.env u) (fun _ s' => ∃ σ' H', Inv X pins σ' H' s' /\ Q σ' H') X.xe s
noncomputable def PGs (X : Cx) (ts : List Expr) (t : TGs) : Prop :=
 ∀ (pins : List (Addr × Obj)) (s : Shared) (σ : St) (H : Hp) (vs : List V) (us : List Value) (Q : St -> Hp -> Prop), Inv X pins σ H s -> ao vs us -> t vs σ H Q ->
  wpAny (model X.prog X.w) X.A (assignInOrder ((assignEach ts X.env).map (·.2)) us) (fun _ s' => ∃ σ' H', Inv X pins σ' H' s' /\ Q σ' H') X.xe s
noncomputable abbrev ju := V -> V -> V -> Hp -> (Hp -> Prop) -> Prop
noncomputable def nQ (X : Cx) (t : ju) : Prop :=
 ∀ (pins : List (Addr × Obj)) (s : Shared) (σ : St) (H : Hp) (o i v : V) (ov iv u : Value) (Q : Hp -> Prop), Inv X pins σ H s -> RelV o ov -> RelV i iv -> RelV v u -> t o i v H Q ->
  wpAny (model X.prog X.w) X.A (setItem ov iv u) (fun _ s' => ∃ H', Inv X pins σ H' s' /\ Q H') X.xe s
section
variable {X : Cx} {pos : Pos}
noncomputable def bS (i : Nat) : TG := fun v σ H Q => Q (σ.set i (some v)) H
theorem aW {i : Nat} {x : Str} (hN : X.N.Nodup) (hi : X.N[i]? = some x) (hx : Loc X.env.scope x) (hf : X.fn x = true \/ X.env.scope.names.lookup x = some .local := by first | exact .inl rfl | exact .inr rfl | assumption) : PG X (.Name x pos) (bS i) := by
 intro pins s σ H v u Q I r h
 exact wpAny_assign_Name (dR I hN hi hx r (fun s' I' => ⟨_, H, I', h⟩) hf)
noncomputable def wj : TGs := fun vs σ H Q => vs = [] /\ Q σ H
noncomputable def vD (t : TG) (u : TGs) : TGs := fun vs σ H Q => ∃ v r, vs = v :: r /\ t v σ H fun σ' H' => u r σ' H' Q
theorem cV : PGs X [] wj := by
 intro pins s σ H vs us Q I r h
 obtain ⟨e, h⟩ := h
 subst e
 cases r
 exact assignInOrder_nil ⟨σ, H, I, h⟩
theorem bv {e : Expr} {es : List Expr} {t : TG} {u : TGs} (h1 : PG X e t) (h2 : PGs X es u)
  (hs : (assignEach (e :: es) X.env).map (·.2) = assign e X.env :: (assignEach es X.env).map (·.2) := by rfl) : PGs X (e :: es) (vD t u) := by
 intro pins s σ H vs us Q I r h
 obtain ⟨v, vr, e1, h⟩ := h
 subst e1
 cases r with
 | cons r rr =>
  rw [hs]
  refine assignInOrder_cons (thn (h1 pins s σ H _ _ _ I r h) fun _ s1 ⟨σ1, H1, I1, q1⟩ => ?_)
  exact h2 pins s1 σ1 H1 _ _ Q I1 rr q1
noncomputable def nC (K : PySem.W.Frag) (n : Nat) (t : TGs) : TG := fun v σ H Q => ∃ a xs, v = .ref a /\ SqT K H a xs /\ xs.length = n /\ t xs σ H Q
theorem dz {es : List Expr} {k : Nat} {t : TGs} {n : Nat} (hc : X.calm = true) (h : PGs X es t)
  (hn : (assignEach es X.env).length = n := by rfl) (hst : (assignEach es X.env).findIdx? (·.1) = none := by rfl) : PG X (.Tuple es k pos) (nC X.K n t) := by
 intro pins s σ H v u Q I r hw
 obtain ⟨a, xs, e1, hq, hl, hw⟩ := hw
 subst e1
 cases r
 obtain ⟨its, rv, ht, hz⟩ := I.tuple hq
 refine assign_Tuple_tuple (I.ok.hd hc) ht (by simp [hn, <- hl, rv.length]) hst fun h' hx => ?_
 have I1 : Inv X pins σ H { s with heap := h' } := I.kept (t' := s.toks) fun b o e => hx b o (Nat.ne_of_lt (Heap.lt_size e)) e
 exact h pins _ σ H xs _ Q I1 (by simpa using rv) hw
noncomputable def wB (to ti : TE) (t : ju) : TG := fun v σ H Q => to σ H fun o H1 => ti σ H1 fun i H2 => t o i v H2 fun H3 => Q σ H3
theorem i9 {o i : Expr} {to ti : TE} {t : ju} (ho : PE X o to) (hi : PE X i ti) (hs : nQ X t)
  (ha : ∀ v, assign (.Subscript o i pos) X.env v = (do
   let ov <- holding [v] (eval o X.env)
   let iv <- holding [v, ov] (eval i X.env)
   standAt pos
   holding [v, ov, iv] (setItem ov iv v)
   release [v, ov, iv] []) := by intro _; rfl) : PG X (.Subscript o i pos) (wB to ti t) := by
 intro pins s σ H v u Q I r h
 rw [ha]
 refine wpAny_bind (wpAny_holding (thn (ho pins s σ H _ I h) fun ov s1 ⟨x, H1, I1, r1, q1⟩ => ?_))
 refine wpAny_bind (wpAny_holding (thn (hi pins s1 σ H1 _ I1 q1) fun iv s2 ⟨y, H2, I2, r2, q2⟩ => ?_))
 refine wpAny_bind (wpAny_standAt (wpAny_bind (wpAny_holding (thn (hs pins s2 σ H2 x y v ov iv u _ I2 r1 r2 r q2) fun _ s3 ⟨H3, I3, q3⟩ => ?_))))
 exact wpAny_release ⟨σ, H3, I3, q3⟩
noncomputable def nH (te : TE) (g : TG) : TS := fun D σ H => te σ H fun x H1 => g x σ H1 D.nx
theorem dC {tg e : Expr} {te : TE} {g : TG} (he : PE X e te) (hg : PG X tg g) (hs : swapsWithSole [tg] e pos.line X.env = pure false := by rfl) (hw : swappedStores [tg] e X.env = pure none := by rfl)
  (h1 : (assignEach [tg] X.env).map (·.2) = [assign tg X.env] := by rfl) : PS X (.Assign [tg] e pos) (nH te g) := by
 intro pins s σ H D I h
 refine wpAny_Assign_stores (thn (he pins s σ H _ I h) fun v s1 ⟨x, H1, I1, r1, q1⟩ => ?_) hs hw
 rw [h1]
 exact thn (hg pins s1 σ H1 x v _ I1 r1 q1) fun _ s2 q => q
theorem aM {i : Nat} {x : Str} {e : Expr} {te : TE} {pos' : Pos} (hN : X.N.Nodup) (hi : X.N[i]? = some x) (hx : Loc X.env.scope x) (he : PE X e te) (hs : swapsWith e (some (.Name x pos')) pos.line X.env = pure false := by rfl) (hf : X.fn x = true \/ X.env.scope.names.lookup x = some .local := by first | exact .inl rfl | exact .inr rfl | assumption) :
  PS X (.Assign [.Name x pos'] e pos) (nH te (bS i)) := by
 intro pins s σ H D I h
 refine wpAny_Assign_Name (thn (he pins s σ H _ I h) fun v s1 ⟨y, H1, I1, r1, q1⟩ => ?_) hs
 exact dR I1 hN hi hx r1 (fun s2 I2 => ⟨_, H1, I2, q1⟩) hf
noncomputable def wM (i j : Nat) (ta : TA) : TS := fun D σ H => ta σ H fun vs H1 => ∃ v w, vs = [v, w] /\ D.nx ((σ.set i (some v)).set j (some w)) H1
theorem vv {i j : Nat} {x y : Str} {a b : Expr} {ta : TA} {px py pt : Pos} {kt k2 pt2} (hc : X.calm = true) (hN : X.N.Nodup) (hi : X.N[i]? = some x) (hj : X.N[j]? = some y) (hij : i ≠ j)
  (hx : X.env.scope.names.lookup x = some .local) (hy : X.env.scope.names.lookup y = some .local) (ha : PA X [a, b] ta)
  (hw : swappedStores [.Tuple [.Name x px, .Name y py] kt pt] (.Tuple [a, b] k2 pt2) X.env = pure (some [x, y]))
  (hs : swapsWithSole [.Tuple [.Name x px, .Name y py] kt pt] (.Tuple [a, b] k2 pt2) pos.line X.env = pure false := by rfl) :
  PS X (.Assign [.Tuple [.Name x px, .Name y py] kt pt] (.Tuple [a, b] k2 pt2) pos) (wM i j ta) := by
 intro pins s σ H D I h
 rw [exec_Assign_arm]
 refine wpAny_bind (wpAny_standAt ?_)
 rw [hs]
 refine wpAny_bind (wpAny_pure ?_)
 rw [if_neg (by decide)]
 refine wpAny_bind (Tuple_ (thn (ha _ pins s σ H _ I h) fun us s1 ⟨vs, H1, I1, r1, q1⟩ => ?_))
 obtain ⟨v, w, e1, q1⟩ := q1
 subst e1
 obtain ⟨u1, u2, rfl, rv, rw'⟩ : ∃ u1 u2, us = [u1, u2] /\ RelV v u1 /\ RelV w u2 := by
  cases r1 with
  | cons p q =>
   cases q with
   | cons p' q' =>
    cases q'
    exact ⟨_, _, rfl, p, p'⟩
 refine wpAny_newObj_type ?_ (by show 2 <= sizeLine; decide)
 have I2 : Inv X pins σ H1 { s1 with heap := s1.heap.push { cls := .type "tuple", data := .seq [u1, u2].toArray } } := I1.kept (t' := s1.toks) fun b o e => Heap.get?_push_of_some _ e
 rw [hw]
 refine wpAny_bind (wpAny_pure ?_)
 show wpAny (model X.prog X.w) X.A (do rule "assign.swapped-stores"; let items <- unpackItems (.ref s1.heap.objs.size) 2 none; assignInOrder [fun v => bindName X.env y v, fun v => bindName X.env x v] items.reverse; pure Flow.next) _ _ _
 refine wpAny_bind (wpAny_rule (wpAny_bind (unpackItems_tuple (items := #[u1, u2]) (I.ok.hd hc) (IsTup.new s1.heap _) fun h' hx' => ?_)))
 have I3 := I2.kept (h' := h') (t' := s1.toks) fun b o e => hx' b o (Nat.ne_of_lt (Heap.lt_size e)) e
 show wpAny _ _ (assignInOrder [fun v => bindName X.env y v, fun v => bindName X.env x v] [u2, u1] >>= fun _ => pure Flow.next) _ _ _
 refine wpAny_bind (assignInOrder_cons (wpAny_bindName (dR I3 hN hj (.inl hy) rw' (fun s2 I4 => ?_) (.inr hy))))
 refine assignInOrder_cons (wpAny_bindName (dR I4 hN hi (.inl hx) rv (fun s3 I5 => assignInOrder_nil (wpAny_pure ?_)) (.inr hx)))
 rw [List.set_comm _ _ (Ne.symm hij)] at I5
 exact ⟨_, H1, I5, q1⟩
end
section
variable {X : Cx} {pos : Pos}
noncomputable def u5 (c : TT) (tb : TS) : TS := fun D σ H => ∃ W : Nat -> St -> Hp -> Prop, (∃ m, W m σ H) /\ ∀ m σ H, W m σ H ->
 c σ H fun b H1 => if b = true then ∃ N : St -> Hp -> Prop, (∀ σ' H', N σ' H' -> ∃ m', m' < m /\ W m' σ' H') /\ tb { D with nx := N, ct := N, bk := D.nx } σ H1 else D.nx σ H1
theorem rP {c : Expr} {body : List Stmt} {tc : TT} {tb : TS} (hp : PassesOwn (model X.prog X.w) X.A X.env X.xe) (hc : PT X c tc) (hb : PSs X body tb) : PS X (.While c body [] pos) (u5 tc tb) := by
 intro pins s σ H D I h
 obtain ⟨W, ⟨m0, w0⟩, turn⟩ := h
 refine wpAny_While (codeAny_whileLoop (fun n s' => ∃ σ' H', Inv X pins σ' H' s' /\ W n σ' H') ?_ m0 ⟨σ, H, I, w0⟩)
 rintro n s1 ⟨σ1, H1, I1, w1⟩
 refine wpAny_passesOwn hp (thn (hc pins s1 σ1 H1 _ I1 (turn n σ1 H1 w1)) fun b s2 ⟨H2, I2, q2⟩ => ?_)
 cases b with
 | true =>
  obtain ⟨N, hN, q2⟩ := q2
  rw [if_pos rfl]
  refine wpAny_passesOwn hp (thn (hb pins s2 σ1 H2 _ I2 q2) fun f s3 q3 => ?_)
  cases f with
  | next =>
   obtain ⟨σ3, H3, I3, n3⟩ := q3
   obtain ⟨m', hm, w3⟩ := hN σ3 H3 n3
   exact ⟨m', hm, σ3, H3, I3, w3⟩
  | cont =>
   obtain ⟨σ3, H3, I3, n3⟩ := q3
   obtain ⟨m', hm, w3⟩ := hN σ3 H3 n3
   exact ⟨m', hm, σ3, H3, I3, w3⟩
  | brk => exact q3
  | ret v => exact q3
 | false =>
  rw [if_neg Bool.false_ne_true]
  exact wpAny_execs_nil ⟨σ1, H2, I2, q2⟩
end
structure It where
 go : Nat -> Hp -> Prop
 yld : Nat -> Hp -> V -> Hp -> Prop
 stop : Nat -> Hp -> Prop
noncomputable def bH (X : Cx) (pins : List (Addr × Obj)) (H : Hp) (b : Addr) : Prop :=
 H b = none /\ b ≠ X.env.locals /\ b ∉ X.fs /\ (b ∈ X.ex \/ X.s₀.heap.objs.size <= b) /\ (∀ x c, X.env.cells.lookup x = some c -> c ≠ b) /\ ∀ p ∈ X.pn ++ pins, p.1 ≠ b
theorem Inv.fpOk {X : Cx} {pins : List (Addr × Obj)} {σ : St} {H H' : Hp} {s : Shared} {b : Addr} (I : Inv X pins σ H s) (hb : s.heap.objs.size <= b) (hn : H' b = none) : bH X pins H' b := by
 refine ⟨hn, Nat.ne_of_gt (Nat.lt_of_lt_of_le I.lt hb), I.nofs hb, .inr (Nat.le_trans I.sz hb), fun x c e z => ?_, fun p hp z => ?_⟩
 ·obtain ⟨v, q⟩ := I.cell x c e
  exact absurd (Nat.lt_of_lt_of_le q.lt (by rw [z]; exact hb)) (Nat.lt_irrefl _)
 ·exact absurd (Nat.lt_of_lt_of_le (Heap.lt_size (I.pin p hp).1) (by rw [z]; exact hb)) (Nat.lt_irrefl _)
structure Turn (P : Program) (w : World) (K : PySem.W.Frag) (tg : Expr) (J : It) (fp : List Addr) (it : Addr) (tn : Nat -> Heap -> Prop) : Prop where
 mem : it ∈ fp
 obj : ∀ i h, tn i h -> ∀ b ∈ fp, ∃ o, h.get? b = some o /\ ∀ v, o.data ≠ .cell v
 keep : ∀ i h h', tn i h -> (∀ b ∈ fp, ∀ o, h.get? b = some o -> h'.get? b = some o) -> tn i h'
 item : ∀ (X : Cx), X.prog = P -> X.w = w -> X.K = K -> X.calm = true -> ∀ (i : Nat) (pins : List (Addr × Obj)) (s : Shared) (σ : St) (H : Hp) (E : Value -> Shared -> Prop), Inv X pins σ H s -> (∀ b ∈ fp, bH X pins H b) -> tn i s.heap -> J.go i H ->
  wpAny (model P w) X.A (pyNext (.ref it)) (fun r s1 => ∃ u, r = some u /\
   wpAny (model P w) X.A (letOwnedTupleGo tg (.ref it) u) (fun _ s2 => ∃ x H', Inv X pins σ H' s2 /\ RelV x u /\ J.yld i H x H' /\ tn (i + 1) s2.heap /\ ∀ b ∈ fp, H' b = none) E s1) E s
 done : ∀ (X : Cx), X.prog = P -> X.w = w -> X.K = K -> X.calm = true -> ∀ (i : Nat) (pins : List (Addr × Obj)) (s : Shared) (σ : St) (H : Hp) (E : Value -> Shared -> Prop), Inv X pins σ H s -> (∀ b ∈ fp, bH X pins H b) -> tn i s.heap -> J.stop i H ->
  wpAny (model P w) X.A (pyNext (.ref it)) (fun r s1 => r = none /\ Inv X pins σ H s1) E s
 self : ∀ (A : Around) (i : Nat) (s : Shared) (Q : Value -> Shared -> Prop) (E : Value -> Shared -> Prop), tn i s.heap -> Q (.ref it) s -> wpAny (model P w) A (pyIter (.ref it)) Q E s
noncomputable abbrev TI := St -> Hp -> (It -> Hp -> Prop) -> Prop
noncomputable def PIE (X : Cx) (pins : List (Addr × Obj)) (σ : St) (tg : Expr) (R : It -> Hp -> Prop) (itv : Value) (s2 : Shared) : Prop :=
 ∃ (it : Addr) (fp : List Addr) (tn : Nat -> Heap -> Prop) (J : It) (H' : Hp), itv = .ref it /\ Inv X pins σ H' s2 /\ Turn X.prog X.w X.K tg J fp it tn /\ tn 0 s2.heap /\ (∀ b ∈ fp, bH X pins H' b) /\ R J H'
noncomputable def PI (X : Cx) (tg iter : Expr) (wi : TI) : Prop :=
 ∀ (pins : List (Addr × Obj)) (s : Shared) (σ : St) (H : Hp) (R : It -> Hp -> Prop), Inv X pins σ H s -> wi σ H R ->
  wpAny (model X.prog X.w) X.A (eval iter X.env) (fun v s1 => wpAny (model X.prog X.w) X.A (pyIter v) (PIE X pins σ tg R) X.xe s1) X.xe s
theorem fJ {M : Model} {A : Around} {E : Value -> Shared -> Prop} {s : Shared} {tg : Expr} {it : Addr} {u : Value} {o : Obj} {n : String} {vs : Array Value} {Q : Unit -> Shared -> Prop} (ho : s.heap.get? it = some o) (hc : o.cls = .type n) (hd : o.data = .fields vs)
  (hn : ["enumerate", "zip", "dict_itemiterator", "dict_reverseitemiterator", "odict_iterator", "itertools.zip_longest", "itertools.pairwise"].contains n = false) (hQ : Q () s) : wpAny M A (letOwnedTupleGo tg (.ref it) u) Q E s := by
 unfold letOwnedTupleGo
 cases tg <;> first
  | exact wpAny_pure hQ
  | (cases u <;> first
    | exact wpAny_pure hQ
    | (refine wpAny_bind (wpAny_load ho ?_)
       rw [hc, hd]
       show wpAny M A (if (["enumerate", "zip", "dict_itemiterator", "dict_reverseitemiterator", "odict_iterator", "itertools.zip_longest", "itertools.pairwise"].contains n && vs[0]? == some (rawInt _)) = true then _ else _) Q E s
       rw [if_neg (by intro h; rw [hn, Bool.false_and] at h; cases h)]
       exact wpAny_pure hQ))
noncomputable def Itl (K : PySem.W.Frag) (a : Addr) : It :=
 ⟨fun i H => ∃ xs x, SqL K H a xs /\ xs[i]? = some x, fun i H x H' => H' = H /\ ∀ xs, SqL K H a xs -> xs[i]? = some x, fun i H => ∃ xs, SqL K H a xs /\ xs.length <= i⟩
noncomputable def Itt (K : PySem.W.Frag) (a : Addr) : It :=
 ⟨fun i H => ∃ xs x, SqT K H a xs /\ xs[i]? = some x, fun i H x H' => H' = H /\ ∀ xs, SqT K H a xs -> xs[i]? = some x, fun i H => ∃ xs, SqT K H a xs /\ xs.length <= i⟩
noncomputable def Itr (lo : Int) (n : Nat) : It := ⟨fun i _ => i < n, fun i H x H' => H' = H /\ x = .int (lo + i), fun i _ => n <= i⟩
theorem qw {P : Program} {w : World} {K : PySem.W.Frag} {tg : Expr} (a it : Addr) : Turn P w K tg (Itl K a) [it] it (fun i h => h.IsListIter it a i) where
 mem := by simp
 obj := fun i h st b hb => by
  have e : b = it := by simpa using hb
  subst e
  obtain ⟨o, e, c, d⟩ := st
  exact ⟨o, e, fun v z => by rw [d] at z; cases z⟩
 keep := fun i h h' st k => st.at fun o e => k it (by simp) o e
 item := by
  intro X hP hw hK hc i pins s σ H E I hf st hg
  subst hP hw hK
  obtain ⟨xs, x, hq, hx⟩ := hg
  obtain ⟨its, rv, p, hz⟩ := I.list hq
  obtain ⟨u, hu, ru⟩ := rv.get hx
  obtain ⟨f0, f1, f2, f3, f4, f5⟩ := hf it (by simp)
  refine wpAny_pyNext_list_item st p.isList (x := u) (by simpa using hu) fun h' st' sb => ?_
  have I1 : Inv X pins σ H { s with heap := h' } := I.turned (t' := s.toks) (fun b o hb e => (sb.2 b hb).trans e) f0 f1 f3 f4 f5
  obtain ⟨o, e, c, d⟩ := id st'
  exact ⟨u, rfl, fJ (s := { s with heap := h' }) e c d (by decide) ⟨x, H, I1, ru, ⟨rfl, fun ys hy => by rw [I.list_inj hy hq]; exact hx⟩, st', fun b hb => (hf b hb).1⟩⟩
 done := by
  intro X hP hw hK hc i pins s σ H E I hf st hg
  subst hP hw hK
  obtain ⟨xs, hq, hx⟩ := hg
  obtain ⟨its, rv, p, hz⟩ := I.list hq
  obtain ⟨f0, f1, f2, f3, f4, f5⟩ := hf it (by simp)
  have hl := rv.length
  exact wpAny_pyNext_list_end (I.ok.hd hc) st p.isList (by simp; omega) fun h' eb => ⟨rfl, I.turned (t' := s.toks) (fun b o hb e => eb b o hb e) f0 f1 f3 f4 f5⟩
 self := fun _ _ _ _ _ st h => wpAny_pyIter_listiter st h
theorem pJ {P : Program} {w : World} {K : PySem.W.Frag} {tg : Expr} (a it : Addr) : Turn P w K tg (Itt K a) [it] it (fun i h => h.IsTupleIter it a i) where
 mem := by simp
 obj := fun i h st b hb => by
  have e : b = it := by simpa using hb
  subst e
  obtain ⟨o, e, c, d⟩ := st
  exact ⟨o, e, fun v z => by rw [d] at z; cases z⟩
 keep := fun i h h' st k => st.at fun o e => k it (by simp) o e
 item := by
  intro X hP hw hK hc i pins s σ H E I hf st hg
  subst hP hw hK
  obtain ⟨xs, x, hq, hx⟩ := hg
  obtain ⟨its, rv, p, hz⟩ := I.tuple hq
  obtain ⟨u, hu, ru⟩ := rv.get hx
  obtain ⟨f0, f1, f2, f3, f4, f5⟩ := hf it (by simp)
  refine wpAny_pyNext_tuple_item st (show s.heap.IsTuple a its.toArray from p) (x := u) (by simpa using hu) fun h' st' sb => ?_
  have I1 : Inv X pins σ H { s with heap := h' } := I.turned (t' := s.toks) (fun b o hb e => (sb.2 b hb).trans e) f0 f1 f3 f4 f5
  obtain ⟨o, e, c, d⟩ := id st'
  exact ⟨u, rfl, fJ (s := { s with heap := h' }) e c d (by decide) ⟨x, H, I1, ru, ⟨rfl, fun ys hy => by rw [I.tuple_inj hy hq]; exact hx⟩, st', fun b hb => (hf b hb).1⟩⟩
 done := by
  intro X hP hw hK hc i pins s σ H E I hf st hg
  subst hP hw hK
  obtain ⟨xs, hq, hx⟩ := hg
  obtain ⟨its, rv, p, hz⟩ := I.tuple hq
  obtain ⟨f0, f1, f2, f3, f4, f5⟩ := hf it (by simp)
  have hl := rv.length
  exact wpAny_pyNext_tuple_end (I.ok.hd hc) st (show s.heap.IsTuple a its.toArray from p) (by simp; omega) fun h' eb => ⟨rfl, I.turned (t' := s.toks) (fun b o hb e => eb b o hb e) f0 f1 f3 f4 f5⟩
 self := fun _ _ _ _ _ st h => wpAny_pyIter_tupleiter st h
theorem pR {P : Program} {w : World} {K : PySem.W.Frag} {tg : Expr} (it : Addr) (lo : Int) (n : Nat) : Turn P w K tg (Itr lo n) [it] it (fun i h => IsRangeIter h it (lo + (i : Nat) * 1) ((n : Int) - (i : Nat)) 1) where
 mem := by simp
 obj := fun i h st b hb => by
  have e : b = it := by simpa using hb
  subst e
  exact ⟨_, st, fun v z => by
   have z' : Data.fields _ = Data.cell v := z
   cases z'⟩
 keep := fun i h h' st k => k it (by simp) _ st
 item := by
  intro X hP hw hK hc i pins s σ H E I hf st hg
  subst hP hw hK
  obtain ⟨f0, f1, f2, f3, f4, f5⟩ := hf it (by simp)
  have W := Walks.range (prog := X.prog) (w := X.w) (I.ok.hd hc) it lo 1 n
  refine W.item i s _ _ hg st fun v h' tk hv st' kk => ?_
  obtain ⟨t, rfl⟩ := hv
  have I1 : Inv X pins σ H { s with heap := h', toks := tk } := I.turned (fun b o hb e => kk b o (by simpa using hb) e) f0 f1 f3 f4 f5
  refine ⟨_, rfl, fJ (s := { s with heap := h', toks := tk }) (n := "range_iterator") st' rfl rfl (by decide) ⟨.int (lo + i), H, I1, ⟨t, ?_⟩, ⟨rfl, rfl⟩, st', fun b hb => (hf b hb).1⟩⟩
  rw [Int.mul_one]
 done := by
  intro X hP hw hK hc i pins s σ H E I hf st hg
  subst hP hw hK
  obtain ⟨f0, f1, f2, f3, f4, f5⟩ := hf it (by simp)
  exact wpAny_pyNext_range_end (I.ok.hd hc) st (by have : n <= i := hg; omega) fun h' eb => ⟨rfl, I.turned (t' := s.toks) (fun b o hb e => eb b o hb e) f0 f1 f3 f4 f5⟩
 self := fun _ _ _ _ _ st h => wpAny_pyIter_rangeiter st h
section
variable {X : Cx} {tg : Expr}
noncomputable def jk (K : PySem.W.Frag) (tl : TE) : TI := fun σ H R => tl σ H fun x H1 => ∃ a, x = .ref a /\ (∃ xs, SqL K H1 a xs) /\ R (Itl K a) H1
noncomputable def jA (K : PySem.W.Frag) (tl : TE) : TI := fun σ H R => tl σ H fun x H1 => ∃ a, x = .ref a /\ (∃ xs, SqT K H1 a xs) /\ R (Itt K a) H1
theorem bB {l : Expr} {tl : TE} (hl : PE X l tl) : PI X tg l (jk X.K tl) := by
 intro pins s σ H R I h
 refine thn (hl pins s σ H _ I h) fun v s1 ⟨x, H1, I1, r1, q1⟩ => ?_
 obtain ⟨a, e, ⟨xs, hq⟩, q⟩ := q1
 subst e
 cases r1
 obtain ⟨its, rv, p, hz⟩ := I1.list hq
 refine wpAny_pyIter_list p.isList ?_
 refine ⟨s1.heap.objs.size, [s1.heap.objs.size], _, _, H1, rfl, I1.kept (t' := s1.toks) fun b o e => Heap.get?_push_of_some _ e, qw a _, ⟨_, Heap.get?_push_size _ rfl, rfl, rfl⟩, fun b hb => ?_, q⟩
 have e : b = s1.heap.objs.size := by simpa using hb
 subst e
 exact I1.fpOk (Nat.le_refl _) (I1.hok.fresh (Nat.le_refl _))
theorem b7 {l : Expr} {tl : TE} (hl : PE X l tl) : PI X tg l (jA X.K tl) := by
 intro pins s σ H R I h
 refine thn (hl pins s σ H _ I h) fun v s1 ⟨x, H1, I1, r1, q1⟩ => ?_
 obtain ⟨a, e, ⟨xs, hq⟩, q⟩ := q1
 subst e
 cases r1
 obtain ⟨its, rv, p, hz⟩ := I1.tuple hq
 refine wpAny_pyIter_tuple (show s1.heap.IsTuple a its.toArray from p) ?_
 refine ⟨s1.heap.objs.size, [s1.heap.objs.size], _, _, H1, rfl, I1.kept (t' := s1.toks) fun b o e => Heap.get?_push_of_some _ e, pJ a _, ⟨_, Heap.get?_push_size _ rfl, rfl, rfl⟩, fun b hb => ?_, q⟩
 have e : b = s1.heap.objs.size := by simpa using hb
 subst e
 exact I1.fpOk (Nat.le_refl _) (I1.hok.fresh (Nat.le_refl _))
theorem k9 {pins : List (Addr × Obj)} {σ : St} {H : Hp} {s : Shared} {R : It -> Hp -> Prop} {E : Value -> Shared -> Prop} {lo hi : Int} {t u v : Tok} {tk : Nat} (I : Inv X pins σ H s) (h1 : -(2 ^ 62) <= lo) (h2 : lo < 2 ^ 62) (h3 : -(2 ^ 62) <= hi) (h4 : hi < 2 ^ 62)
  (q : R (Itr lo (hi - lo).toNat) H) : wpAny (model X.prog X.w) X.A (pyIter (.ref s.heap.objs.size)) (PIE X pins σ tg R) E { s with heap := s.heap.push { cls := .type "range", data := .fields #[.int lo t, .int hi u, .int 1 v] }, toks := tk } := by
 refine wpAny_pyIter_range (IsRange.new ..) (small_one h1 h2 h3 h4) ?_
 have I1 : Inv X pins σ H { s with heap := s.heap.push { cls := .type "range", data := .fields #[.int lo t, .int hi u, .int 1 v] }, toks := tk } := I.kept fun b o e => Heap.get?_push_of_some _ e
 refine ⟨(s.heap.push { cls := .type "range", data := .fields #[.int lo t, .int hi u, .int 1 v] }).objs.size, [(s.heap.push { cls := .type "range", data := .fields #[.int lo t, .int hi u, .int 1 v] }).objs.size], _, _, H, rfl,
  I1.kept (t' := tk) fun b o e => Heap.get?_push_of_some _ e, pR _ lo (hi - lo).toNat, ?_, fun b hb => ?_, q⟩
 ·have e1 : lo + ((0 : Nat) : Int) * 1 = lo := by simp
  have e2 : (((hi - lo).toNat : Nat) : Int) - ((0 : Nat) : Int) = Builtin.Range.rangeSize lo hi 1 := by rw [rangeSize_one]; split <;> omega
  show IsRangeIter _ _ (lo + ((0 : Nat) : Int) * 1) ((((hi - lo).toNat : Nat) : Int) - ((0 : Nat) : Int)) 1
  rw [e1, e2]
  exact Heap.get?_push_size _ rfl
 ·have e : b = (s.heap.push { cls := .type "range", data := .fields #[.int lo t, .int hi u, .int 1 v] }).objs.size := by simpa using hb
  subst e
  exact I1.fpOk (Nat.le_refl _) (I1.hok.fresh (Nat.le_refl _))
noncomputable def vN (ta : TA) : TI := fun σ H R => ta σ H fun vs H1 => ∃ j : Int, vs = [.int j] /\ -(2 ^ 62) <= j /\ j < 2 ^ 62 /\ R (Itr 0 j.toNat) H1
noncomputable def vM (ta : TA) : TI := fun σ H R => ta σ H fun vs H1 => ∃ i j : Int, vs = [.int i, .int j] /\ (-(2 ^ 62) <= i /\ i < 2 ^ 62 /\ -(2 ^ 62) <= j /\ j < 2 ^ 62) /\ R (Itr i (j - i).toNat) H1
theorem df {a : Expr} {ta : TA} {p pos : Pos} (hg : Gl X "range") (hm : X.mg "range" = none) (ha : PA X [a] ta) (hs : starEach [a] X.env = [(false, eval a X.env)] := by rfl) : PI X tg (.Call (.Name "range" p) [a] [] pos) (vN ta) := by
 intro pins s σ H R I h
 refine Call_ (dA I hg hm boot_range (PyProof.Rows.callWith_type1 (thn (ha pos pins s σ H _ I h) fun us s1 ⟨vs, H1, I1, r1, q1⟩ => ?_) hs rfl))
 obtain ⟨j, e, q1, q2, q⟩ := q1
 subst e
 cases r1 with
 | cons r rr =>
  cases rr
  obtain ⟨t, rfl⟩ := r
  exact call_range_1 (k9 I1 (by omega) (by omega) q1 q2 (by simpa using q))
theorem km {a b : Expr} {ta : TA} {p pos : Pos} (hg : Gl X "range") (hm : X.mg "range" = none) (ha : PA X [a, b] ta) (hs : starEach [a, b] X.env = [(false, eval a X.env), (false, eval b X.env)] := by rfl) (hs2 : starEach [b] X.env = [(false, eval b X.env)] := by rfl) :
  PI X tg (.Call (.Name "range" p) [a, b] [] pos) (vM ta) := by
 intro pins s σ H R I h
 refine Call_ (dA I hg hm boot_range (PyProof.Rows.callWith_type1 (thn (ha pos pins s σ H _ I h) fun us s1 ⟨vs, H1, I1, r1, q1⟩ => ?_) (by rw [hs, hs2]) (by rw [hs2]; rfl)))
 obtain ⟨i, j, e, ⟨q1, q2, q3, q4⟩, q⟩ := q1
 subst e
 cases r1 with
 | cons r rr =>
  cases rr with
  | cons r' rr =>
   cases rr
   obtain ⟨t, rfl⟩ := r
   obtain ⟨t', rfl⟩ := r'
   exact call_range_2 (k9 I1 q1 q2 q3 q4 q)
noncomputable def nB (wi : TI) (g : TG) (tb : TS) : TS := fun D σ H => wi σ H fun J H1 => ∃ W : Nat -> Nat -> St -> Hp -> Prop, (∃ m, W 0 m σ H1) /\ ∀ i m σ H, W i m σ H ->
 (J.stop i H /\ D.nx σ H) \/ (J.go i H /\ ∃ N : St -> Hp -> Prop, (∀ σ' H', N σ' H' -> ∃ m', m' < m /\ W (i + 1) m' σ' H') /\ ∀ x H', J.yld i H x H' -> g x σ H' fun σ2 H2 => tb { D with nx := N, ct := N, bk := D.nx } σ2 H2)
noncomputable def eU (fp : List Addr) (h : Heap) : List (Addr × Obj) := fp.filterMap fun b => (h.get? b).map fun o => (b, o)
theorem eF {fp : List Addr} {h : Heap} {b : Addr} {o : Obj} (hb : b ∈ fp) (e : h.get? b = some o) : (b, o) ∈ eU fp h := List.mem_filterMap.mpr ⟨b, hb, by rw [e]; rfl⟩
theorem ql {fp : List Addr} {h : Heap} {p : Addr × Obj} (hp : p ∈ eU fp h) : p.1 ∈ fp /\ h.get? p.1 = some p.2 := by
 obtain ⟨b, hb, e⟩ := List.mem_filterMap.mp hp
 cases q : h.get? b with
 | none => rw [q] at e; cases e
 | some o =>
  rw [q] at e
  have e' : (b, o) = p := Option.some.inj e
  subst e'
  exact ⟨hb, q⟩
theorem Inv.pinned {pins : List (Addr × Obj)} {σ : St} {H : Hp} {s : Shared} {fp : List Addr} (I : Inv X pins σ H s) (hf : ∀ b ∈ fp, bH X pins H b) (ho : ∀ b ∈ fp, ∃ o, s.heap.get? b = some o /\ ∀ v, o.data ≠ .cell v) : Inv X (pins ++ eU fp s.heap) σ H s :=
 I.pins_of fun p hp => (List.mem_append.mp hp).elim (fun z => I.pin p (List.mem_append_right _ z)) fun z => by
  obtain ⟨hb, e⟩ := ql z
  obtain ⟨f0, f1, f2, _⟩ := hf p.1 hb
  obtain ⟨o, e', d⟩ := ho p.1 hb
  rw [e] at e'; cases e'
  exact ⟨e, f0, f1, f2, d⟩
theorem Inv.unpinned {pins pl : List (Addr × Obj)} {σ : St} {H : Hp} {s : Shared} (I : Inv X (pins ++ pl) σ H s) : Inv X pins σ H s := I.pins_of fun p hp => I.pin p (List.mem_append_right _ (List.mem_append_left _ hp))
theorem bO {iter : Expr} {body : List Stmt} {wi : TI} {g : TG} {tb : TS} {pos : Pos} (hp : PassesOwn (model X.prog X.w) X.A X.env X.xe) (hc : X.calm = true) (hi : PI X tg iter wi) (hg : PG X tg g) (hb : PSs X body tb)
  (hs : ∀ x, foldedSetIterable iter X.env x = pure x := by intro _; rfl) : PS X (.For tg iter body [] pos) (nB wi g tb) := by
 intro pins s σ H D I h
 refine wpAny_For (thn (hi pins s σ H _ I h) fun v s1 h1 => thn h1 fun itv s2 h2 => ?_) hs
 obtain ⟨it, fp, tn, J, H2, e, I2, T, st2, f2, W, ⟨m0, w0⟩, turn⟩ := h2
 subst e
 have stat : ∀ {H' : Hp}, (∀ b ∈ fp, H' b = none) -> ∀ b ∈ fp, bH X pins H' b := fun hn b hb => ⟨hn b hb, (f2 b hb).2⟩
 refine codeAny_forLoop_any (fun n s' => ∃ i σ' H', Inv X pins σ' H' s' /\ tn i s'.heap /\ (∀ b ∈ fp, H' b = none) /\ W i n σ' H') ?_ m0 ⟨0, σ, H2, I2, st2, fun b hb => (f2 b hb).1, w0⟩
 rintro n s3 ⟨i, σ3, H3, I3, st3, fr3, w3⟩
 rcases turn i n σ3 H3 w3 with ⟨stop, qn⟩ | ⟨go, N, hN, step⟩
 ·refine wpAny_passesOwn hp (thn (T.done X rfl rfl rfl hc i pins s3 σ3 H3 X.xe I3 (stat fr3) st3 stop) fun r s4 ⟨hr, I4⟩ => ?_)
  subst hr
  exact wpAny_execs_nil ⟨σ3, H3, I4, qn⟩
 ·refine wpAny_passesOwn hp (thn (T.item X rfl rfl rfl hc i pins s3 σ3 H3 X.xe I3 (stat fr3) st3 go) fun r s4 ⟨u, hr, h4⟩ => ?_)
  subst hr
  refine wpAny_passesOwn hp (thn h4 fun _ s5 ⟨x, H5, I5, r5, y5, st5, fr5⟩ => ?_)
  have I5' := I5.pinned (stat fr5) (T.obj _ _ st5)
  refine wpAny_passesOwn hp (thn (hg _ s5 σ3 H5 x u _ I5' r5 (step x H5 y5)) fun _ s6 ⟨σ6, H6, I6, q6⟩ => ?_)
  refine wpAny_passesOwn hp (thn (hb _ s6 σ6 H6 _ I6 q6) fun f s7 q7 => ?_)
  have again : ∀ {σ7 : St} {H7 : Hp}, Inv X (pins ++ eU fp s5.heap) σ7 H7 s7 -> N σ7 H7 -> ∃ m, m < n /\ ∃ i σ' H', Inv X pins σ' H' s7 /\ tn i s7.heap /\ (∀ b ∈ fp, H' b = none) /\ W i m σ' H' := fun {σ7 H7} I7 n7 => by
   obtain ⟨m', hm, w7⟩ := hN σ7 H7 n7
   refine ⟨m', hm, i + 1, σ7, H7, I7.unpinned, T.keep _ _ _ st5 fun b hb o e => (I7.pin (b, o) (List.mem_append_right _ (List.mem_append_right _ (eF hb e)))).1, fun b hb => ?_, w7⟩
   obtain ⟨o, e, d⟩ := T.obj _ _ st5 b hb
   exact (I7.pin (b, o) (List.mem_append_right _ (List.mem_append_right _ (eF hb e)))).2.1
  cases f with
  | next => obtain ⟨σ7, H7, I7, n7⟩ := q7; exact again I7 n7
  | cont => obtain ⟨σ7, H7, I7, n7⟩ := q7; exact again I7 n7
  | brk => obtain ⟨σ7, H7, I7, q7⟩ := q7; exact ⟨σ7, H7, I7.unpinned, q7⟩
  | ret v => obtain ⟨x7, σ7, H7, I7, r7, q7⟩ := q7; exact ⟨x7, σ7, H7, I7.unpinned, r7, q7⟩
end
theorem eK {K : PySem.W.Frag} {a : Addr} {xs : List V} {g : TG} {tb : TS} {D : Ends} {σ : St} {H : Hp} (Pv : Nat -> St -> Hp -> Prop) (h0 : Pv 0 σ H) (hl : ∀ i σ H, i <= xs.length -> Pv i σ H -> SqL K H a xs)
  (hs : ∀ i x σ H, xs[i]? = some x -> Pv i σ H -> g x σ H fun σ2 H2 => tb { D with nx := Pv (i + 1), ct := Pv (i + 1), bk := D.nx } σ2 H2) (hd : ∀ σ H, Pv xs.length σ H -> D.nx σ H) :
  ∃ W : Nat -> Nat -> St -> Hp -> Prop, (∃ m, W 0 m σ H) /\ ∀ i m σ H, W i m σ H ->
   ((Itl K a).stop i H /\ D.nx σ H) \/ ((Itl K a).go i H /\ ∃ N : St -> Hp -> Prop, (∀ σ' H', N σ' H' -> ∃ m', m' < m /\ W (i + 1) m' σ' H') /\ ∀ x H', (Itl K a).yld i H x H' -> g x σ H' fun σ2 H2 => tb { D with nx := N, ct := N, bk := D.nx } σ2 H2) := by
 refine ⟨fun i m σ H => m = xs.length - i /\ i <= xs.length /\ Pv i σ H, ⟨xs.length, by simp, Nat.zero_le _, h0⟩, ?_⟩
 rintro i m σ H ⟨rfl, hi, p⟩
 have q := hl i σ H hi p
 by_cases hlt : i < xs.length
 ·refine .inr ⟨⟨xs, xs[i], q, by simp [hlt]⟩, Pv (i + 1), fun σ' H' p' => ⟨xs.length - (i + 1), by omega, rfl, hlt, p'⟩, fun x H' y => ?_⟩
  obtain ⟨e, y⟩ := y
  subst e
  exact hs i x σ _ (y xs q) p
 ·have e : i = xs.length := by omega
  subst e
  exact .inl ⟨⟨xs, q, Nat.le_refl _⟩, hd σ H p⟩
theorem lX {K : PySem.W.Frag} {a : Addr} {xs : List V} {g : TG} {tb : TS} {D : Ends} {σ : St} {H : Hp} (Pv : Nat -> St -> Hp -> Prop) (h0 : Pv 0 σ H) (hl : ∀ i σ H, i <= xs.length -> Pv i σ H -> SqT K H a xs)
  (hs : ∀ i x σ H, xs[i]? = some x -> Pv i σ H -> g x σ H fun σ2 H2 => tb { D with nx := Pv (i + 1), ct := Pv (i + 1), bk := D.nx } σ2 H2) (hd : ∀ σ H, Pv xs.length σ H -> D.nx σ H) :
  ∃ W : Nat -> Nat -> St -> Hp -> Prop, (∃ m, W 0 m σ H) /\ ∀ i m σ H, W i m σ H ->
   ((Itt K a).stop i H /\ D.nx σ H) \/ ((Itt K a).go i H /\ ∃ N : St -> Hp -> Prop, (∀ σ' H', N σ' H' -> ∃ m', m' < m /\ W (i + 1) m' σ' H') /\ ∀ x H', (Itt K a).yld i H x H' -> g x σ H' fun σ2 H2 => tb { D with nx := N, ct := N, bk := D.nx } σ2 H2) := by
 refine ⟨fun i m σ H => m = xs.length - i /\ i <= xs.length /\ Pv i σ H, ⟨xs.length, by simp, Nat.zero_le _, h0⟩, ?_⟩
 rintro i m σ H ⟨rfl, hi, p⟩
 have q := hl i σ H hi p
 by_cases hlt : i < xs.length
 ·refine .inr ⟨⟨xs, xs[i], q, by simp [hlt]⟩, Pv (i + 1), fun σ' H' p' => ⟨xs.length - (i + 1), by omega, rfl, hlt, p'⟩, fun x H' y => ?_⟩
  obtain ⟨e, y⟩ := y
  subst e
  exact hs i x σ _ (y xs q) p
 ·have e : i = xs.length := by omega
  subst e
  exact .inl ⟨⟨xs, q, Nat.le_refl _⟩, hd σ H p⟩
theorem fj {lo : Int} {n : Nat} {g : TG} {tb : TS} {D : Ends} {σ : St} {H : Hp} (Pv : Nat -> St -> Hp -> Prop) (h0 : Pv 0 σ H)
  (hs : ∀ i σ H, i < n -> Pv i σ H -> g (.int (lo + i)) σ H fun σ2 H2 => tb { D with nx := Pv (i + 1), ct := Pv (i + 1), bk := D.nx } σ2 H2) (hd : ∀ σ H, Pv n σ H -> D.nx σ H) :
  ∃ W : Nat -> Nat -> St -> Hp -> Prop, (∃ m, W 0 m σ H) /\ ∀ i m σ H, W i m σ H ->
   ((Itr lo n).stop i H /\ D.nx σ H) \/ ((Itr lo n).go i H /\ ∃ N : St -> Hp -> Prop, (∀ σ' H', N σ' H' -> ∃ m', m' < m /\ W (i + 1) m' σ' H') /\ ∀ x H', (Itr lo n).yld i H x H' -> g x σ H' fun σ2 H2 => tb { D with nx := N, ct := N, bk := D.nx } σ2 H2) := by
 refine ⟨fun i m σ H => m = n - i /\ i <= n /\ Pv i σ H, ⟨n, by simp, Nat.zero_le _, h0⟩, ?_⟩
 rintro i m σ H ⟨rfl, hi, p⟩
 by_cases hlt : i < n
 ·refine .inr ⟨hlt, Pv (i + 1), fun σ' H' p' => ⟨n - (i + 1), by omega, rfl, hlt, p'⟩, fun x H' y => ?_⟩
  obtain ⟨e, y⟩ := y
  subst e y
  exact hs i σ _ hlt p
 ·have e : i = n := by omega
  subst e
  exact .inl ⟨Nat.le_refl _, hd σ H p⟩
noncomputable abbrev R2 := V -> V -> Hp -> VK -> Prop
noncomputable def OpR (X : Cx) (f : Value -> Value -> Sem Value) (r : R2) : Prop :=
 ∀ (pins : List (Addr × Obj)) (s : Shared) (σ : St) (H : Hp) (x y : V) (v u : Value) (Q : VK), Inv X pins σ H s -> RelV x v -> RelV y u -> r x y H Q ->
  wpAny (model X.prog X.w) X.A (f v u) (EP X pins σ Q) X.xe s
noncomputable def UnR (X : Cx) (f : Value -> Sem Value) (r : V -> Hp -> VK -> Prop) : Prop :=
 ∀ (pins : List (Addr × Obj)) (s : Shared) (σ : St) (H : Hp) (x : V) (v : Value) (Q : VK), Inv X pins σ H s -> RelV x v -> r x H Q ->
  wpAny (model X.prog X.w) X.A (f v) (EP X pins σ Q) X.xe s
noncomputable def bp (X : Cx) (f : Value) (r : List V -> Hp -> VK -> Prop) : Prop :=
 ∀ (pins : List (Addr × Obj)) (s : Shared) (σ : St) (H : Hp) (xs : List V) (us : List Value) (Q : VK), Inv X pins σ H s -> ao xs us -> r xs H Q ->
  wpAny (model X.prog X.w) X.A (call f us) (EP X pins σ Q) X.xe s
noncomputable def tOp (r : R2) (ta tb : TE) : TE := fun σ H Q => ta σ H fun x H1 => tb σ H1 fun y H2 => r x y H2 Q
noncomputable def tUn (r : V -> Hp -> VK -> Prop) (ta : TE) : TE := fun σ H Q => ta σ H fun x H1 => r x H1 Q
noncomputable def rI (C : Int -> Int -> Prop) (g : Int -> Int -> V) : R2 := fun x y H Q => ∃ i j, x = .int i /\ y = .int j /\ C i j /\ Q (g i j) H
noncomputable def rI0 (g : Int -> Int -> V) : R2 := fun x y H Q => ∃ i j, x = .int i /\ y = .int j /\ Q (g i j) H
noncomputable def rU (g : Int -> V) : V -> Hp -> VK -> Prop := fun x H Q => ∃ i, x = .int i /\ Q (g i) H
section
variable {X : Cx} {a b c : Expr} {ta tb tc : TE} {pos : Pos}
theorem jF (ha : PE X a ta) (hb : PE X b tb) {pins : List (Addr × Obj)} {s : Shared} {σ : St} {H : Hp} {R : V -> V -> Hp -> Prop} (I : Inv X pins σ H s)
  (h : ta σ H fun x H1 => tb σ H1 fun y H2 => R x y H2) {Q : Value -> Shared -> Prop} {f : Value -> Value -> Sem Value}
  (hf : ∀ v u s2 x y H2, Inv X pins σ H2 s2 -> RelV x v -> RelV y u -> R x y H2 -> wpAny (model X.prog X.w) X.A (f v u) Q X.xe s2) :
  wpAny (model X.prog X.w) X.A (eval a X.env) (fun v s₁ => wpAny (model X.prog X.w) X.A (eval b X.env) (fun u s₂ => wpAny (model X.prog X.w) X.A (f v u) Q X.xe s₂) X.xe s₁) X.xe s := by
 refine thn (ha pins s σ H _ I h) fun v s1 ⟨x, H1, I1, r1, q1⟩ => ?_
 refine thn (hb pins s1 σ H1 _ I1 q1) fun u s2 ⟨y, H2, I2, r2, q2⟩ => ?_
 exact hf v u s2 x y H2 I2 r1 r2 q2
theorem aD {op : Operator} {r : R2} (ho : OpR X (binaryOp op) r) (ha : PE X a ta) (hb : PE X b tb) : PE X (.BinOp a op b pos) (tOp r ta tb) := by
 intro pins s σ H Q I h
 exact wpAny_BinOp (jF ha hb I h fun v u s2 x y H2 I2 rx ry q => ho pins s2 σ H2 x y v u Q I2 rx ry q)
theorem vF {op : UnaryOp} {r : V -> Hp -> VK -> Prop} (ho : UnR X (unaryOp op) r) (ha : PE X a ta) : PE X (.UnaryOp op a pos) (tUn r ta) := by
 intro pins s σ H Q I h
 exact UnaryOp_ (thn (ha pins s σ H _ I h) fun v s1 ⟨x, H1, I1, r1, q1⟩ => ho pins s1 σ H1 x v Q I1 r1 q1)
theorem opI {f : Value -> Value -> Sem Value} {C : Int -> Int -> Prop} {g : Int -> Int -> Int}
  (rule : ∀ (i j : Int) (t u : Tok) (s : Shared) (Q : Value -> Shared -> Prop) (E : Value -> Shared -> Prop), C i j -> Q (.int (g i j) s.toks) { s with toks := s.toks + 1 } -> wpAny (model X.prog X.w) X.A (f (.int i t) (.int j u)) Q E s) :
  OpR X f (rI C fun i j => .int (g i j)) := by
 intro pins s σ H x y v u Q I rx ry h
 obtain ⟨i, j, rfl, rfl, hc, q⟩ := h
 obtain ⟨t, rfl⟩ := rx
 obtain ⟨t', rfl⟩ := ry
 exact rule i j t t' s _ _ hc ⟨.int (g i j), H, I.tok _, ⟨_, rfl⟩, q⟩
theorem nK {f : Value -> Value -> Sem Value} {g : Int -> Int -> Int}
  (rule : ∀ (i j : Int) (t u : Tok) (s : Shared) (Q : Value -> Shared -> Prop) (E : Value -> Shared -> Prop), Q (.int (g i j) s.toks) { s with toks := s.toks + 1 } -> wpAny (model X.prog X.w) X.A (f (.int i t) (.int j u)) Q E s) :
  OpR X f (rI0 fun i j => .int (g i j)) := by
 intro pins s σ H x y v u Q I rx ry h
 obtain ⟨i, j, rfl, rfl, q⟩ := h
 obtain ⟨t, rfl⟩ := rx
 obtain ⟨t', rfl⟩ := ry
 exact rule i j t t' s _ _ ⟨.int (g i j), H, I.tok _, ⟨_, rfl⟩, q⟩
theorem jw {f : Value -> Value -> Sem Value} {g : Int -> Int -> Bool}
  (rule : ∀ (i j : Int) (t u : Tok) (s : Shared) (Q : Value -> Shared -> Prop) (E : Value -> Shared -> Prop), Q (.bool (g i j)) s -> wpAny (model X.prog X.w) X.A (f (.int i t) (.int j u)) Q E s) :
  OpR X f (rI0 fun i j => .bl (g i j)) := by
 intro pins s σ H x y v u Q I rx ry h
 obtain ⟨i, j, rfl, rfl, q⟩ := h
 obtain ⟨t, rfl⟩ := rx
 obtain ⟨t', rfl⟩ := ry
 exact rule i j t t' s _ _ ⟨.bl (g i j), H, I, rfl, q⟩
noncomputable def nN (i j : Int) : Prop := 0 < j /\ j < 1073741824
noncomputable def wN (i j : Int) : Prop := 0 <= j /\ j <= 1000000 /\ i.natAbs < 2 ^ 64
noncomputable def jx (i j : Int) : Prop := (-(2 ^ 64) < i /\ i < 2 ^ 64) \/ (-(2 ^ 64) < j /\ j < 2 ^ 64)
theorem jx.ok {i j : Int} (h : jx i j) : IntMulOk i j := by
 rcases h with ⟨h1, h2⟩ | ⟨h1, h2⟩
 ·exact .of_left (intBits_le_64 h1 h2)
 ·exact .of_right (intBits_le_64 h1 h2)
theorem b8 : OpR X (binaryOp .Add) (rI0 fun i j => .int (i + j)) := nK fun _ _ _ _ _ _ _ q => add_int q
theorem eW : OpR X (binaryOp .Sub) (rI0 fun i j => .int (i - j)) := nK fun _ _ _ _ _ _ _ q => sub_int q
theorem eZ : OpR X (binaryOp .Mult) (rI jx fun i j => .int (i * j)) := opI fun _ _ _ _ _ _ _ hc q => mul_int q hc.ok
theorem iO : OpR X (binaryOp .FloorDiv) (rI nN fun i j => .int (i / j)) := opI fun i j _ _ _ _ _ hc q => by
 have h1 : (0 : Int) < j := hc.1
 have h2 : j < 1073741824 := hc.2
 exact floordiv_int (by omega) (by rw [Int.fdiv_eq_ediv_of_nonneg i (by omega)]; exact q) (.inl (PyProof.noPylong_small (by omega)))
theorem dB : OpR X (binaryOp .Mod) (rI (fun _ j => 0 < j) fun i j => .int (i % j)) := opI fun i j _ _ _ _ _ hc q => by
 have h1 : (0 : Int) < j := hc
 exact mod_int' (by omega) (by rw [Int.fmod_eq_emod_of_nonneg i (by omega)]; exact q)
theorem vf : OpR X (binaryOp .Pow) (rI wN fun i j => .int (i ^ j.toNat)) := opI fun _ _ _ _ _ _ _ hc q => pow_int_small hc.1 hc.2.1 hc.2.2 q
theorem unI {f : Value -> Sem Value} {g : Int -> Int}
  (rule : ∀ (i : Int) (t : Tok) (s : Shared) (Q : Value -> Shared -> Prop) (E : Value -> Shared -> Prop), Q (.int (g i) s.toks) { s with toks := s.toks + 1 } -> wpAny (model X.prog X.w) X.A (f (.int i t)) Q E s) :
  UnR X f (rU fun i => .int (g i)) := by
 intro pins s σ H x v Q I rx h
 obtain ⟨i, rfl, q⟩ := h
 obtain ⟨t, rfl⟩ := rx
 exact rule i t s _ _ ⟨.int (g i), H, I.tok _, ⟨_, rfl⟩, q⟩
theorem vB : UnR X (unaryOp .USub) (rU fun i => .int (-i)) := unI fun _ _ _ _ _ q => neg_int q
end
noncomputable def nJ : V -> V -> Bool
 | .non, .non => true | .non, .int _ => true | .int _, .non => true | .non, .bl _ => true | .bl _, .non => true | .non, .str _ => true | .str _, .non => true
 | .int _, .int _ => true | .bl _, .bl _ => true | .str _, .str _ => true | .byt _, .byt _ => true
 | .int _, .str _ => true | .str _, .int _ => true | .bl _, .str _ => true | .str _, .bl _ => true
 | _, _ => false
noncomputable def rEq : R2 := fun x y H Q => nJ x y = true /\ Q (.bl (decide (x = y))) H
noncomputable def rNe : R2 := fun x y H Q => nJ x y = true /\ Q (.bl (!decide (x = y))) H
theorem me {i j : Int} : decide (V.int i = V.int j) = (i == j) := by
 rw [Bool.eq_iff_iff]
 simp
theorem mq {i j : Bool} : decide (V.bl i = V.bl j) = (i == j) := by
 rw [Bool.eq_iff_iff]
 simp
theorem lE {i j : Str} : decide (V.str i = V.str j) = (i == j) := by
 rw [Bool.eq_iff_iff]
 simp
theorem mi {i j : Array UInt8} : decide (V.byt i = V.byt j) = (i.toList == j.toList) := by
 rw [Bool.eq_iff_iff]
 cases i
 cases j
 simp
section
variable {X : Cx} {a b c : Expr} {ta tb tc : TE} {pos : Pos}
theorem aX {pins : List (Addr × Obj)} {σ : St} {H : Hp} {s : Shared} {Q : VK} {k k' : Bool} (I : Inv X pins σ H s) (q : Q (.bl k) H) (e : k = k') : EP X pins σ Q (.bool k') s := by
 subst e
 exact ⟨.bl k, H, I, rfl, q⟩
theorem e9 : OpR X (compareOp .Eq) rEq := by
 intro pins s σ H x y v u Q I rx ry h
 obtain ⟨hs, q⟩ := h
 cases x with
 | non =>
  cases rx
  cases y with
  | non => cases ry; exact PySem.EqNone.eq_none_none (aX I q (by simp))
  | bl j => cases ry; exact PySem.EqNone.eq_none_bool (aX I q (by simp))
  | int j => obtain ⟨t', rfl⟩ := ry; exact PySem.EqNone.eq_none_int (aX I q (by simp))
  | str j => obtain ⟨t', rfl⟩ := ry; exact PySem.EqNone.eq_none_str (aX I q (by simp))
  | _ => exact absurd (show false = true from hs) Bool.false_ne_true
 | bl i =>
  cases rx
  cases y with
  | non => cases ry; exact PySem.EqNone.eq_bool_none (aX I q (by simp))
  | bl j => cases ry; exact eq_bool (aX I q mq)
  | str j => obtain ⟨t', rfl⟩ := ry; exact PySem.EqMixed.eq_bool_str (aX I q (by simp))
  | _ => exact absurd (show false = true from hs) Bool.false_ne_true
 | int i =>
  obtain ⟨t, rfl⟩ := rx
  cases y with
  | non => cases ry; exact PySem.EqNone.eq_int_none (aX I q (by simp))
  | int j => obtain ⟨t', rfl⟩ := ry; exact eq_int (aX I q me)
  | str j => obtain ⟨t', rfl⟩ := ry; exact PySem.EqMixed.eq_int_str (aX I q (by simp))
  | _ => exact absurd (show false = true from hs) Bool.false_ne_true
 | str i =>
  obtain ⟨t, rfl⟩ := rx
  cases y with
  | non => cases ry; exact PySem.EqNone.eq_str_none (aX I q (by simp))
  | bl j => cases ry; exact PySem.EqMixed.eq_str_bool (aX I q (by simp))
  | int j => obtain ⟨t', rfl⟩ := ry; exact PySem.EqMixed.eq_str_int (aX I q (by simp))
  | str j => obtain ⟨t', rfl⟩ := ry; exact eq_str (aX I q lE)
  | _ => exact absurd (show false = true from hs) Bool.false_ne_true
 | byt i =>
  obtain ⟨t, rfl⟩ := rx
  cases y with
  | byt j => obtain ⟨t', rfl⟩ := ry; exact PySem.W.eq_bytes (aX I q mi)
  | _ => exact absurd (show false = true from hs) Bool.false_ne_true
 | _ => cases y <;> exact absurd (show false = true from hs) Bool.false_ne_true
theorem eB : OpR X (compareOp .NotEq) rNe := by
 intro pins s σ H x y v u Q I rx ry h
 obtain ⟨hs, q⟩ := h
 cases x with
 | non =>
  cases rx
  cases y with
  | non => cases ry; exact PySem.EqNone.ne_none_none (aX I q (by simp))
  | bl j => cases ry; exact PySem.EqNone.ne_none_bool (aX I q (by simp))
  | int j => obtain ⟨t', rfl⟩ := ry; exact PySem.EqNone.ne_none_int (aX I q (by simp))
  | str j => obtain ⟨t', rfl⟩ := ry; exact PySem.EqNone.ne_none_str (aX I q (by simp))
  | _ => exact absurd (show false = true from hs) Bool.false_ne_true
 | bl i =>
  cases rx
  cases y with
  | non => cases ry; exact PySem.EqNone.ne_bool_none (aX I q (by simp))
  | bl j => cases ry; exact ne_bool (aX I q (congrArg not mq))
  | str j => obtain ⟨t', rfl⟩ := ry; exact PySem.EqMixed.ne_bool_str (aX I q (by simp))
  | _ => exact absurd (show false = true from hs) Bool.false_ne_true
 | int i =>
  obtain ⟨t, rfl⟩ := rx
  cases y with
  | non => cases ry; exact PySem.EqNone.ne_int_none (aX I q (by simp))
  | int j => obtain ⟨t', rfl⟩ := ry; exact ne_int (aX I q (congrArg not me))
  | str j => obtain ⟨t', rfl⟩ := ry; exact PySem.EqMixed.ne_int_str (aX I q (by simp))
  | _ => exact absurd (show false = true from hs) Bool.false_ne_true
 | str i =>
  obtain ⟨t, rfl⟩ := rx
  cases y with
  | non => cases ry; exact PySem.EqNone.ne_str_none (aX I q (by simp))
  | bl j => cases ry; exact PySem.EqMixed.ne_str_bool (aX I q (by simp))
  | int j => obtain ⟨t', rfl⟩ := ry; exact PySem.EqMixed.ne_str_int (aX I q (by simp))
  | str j => obtain ⟨t', rfl⟩ := ry; exact ne_str (aX I q (congrArg not lE))
  | _ => exact absurd (show false = true from hs) Bool.false_ne_true
 | byt i =>
  obtain ⟨t, rfl⟩ := rx
  cases y with
  | byt j => obtain ⟨t', rfl⟩ := ry; exact PySem.W.ne_bytes (aX I q (congrArg not mi))
  | _ => exact absurd (show false = true from hs) Bool.false_ne_true
 | _ => cases y <;> exact absurd (show false = true from hs) Bool.false_ne_true
theorem gw : OpR X (compareOp .Lt) (rI0 fun i j => .bl (decide (i < j))) := jw fun _ _ _ _ _ _ _ q => lt_int q
theorem mU : OpR X (compareOp .LtE) (rI0 fun i j => .bl (decide (i <= j))) := jw fun _ _ _ _ _ _ _ q => le_int q
theorem cX : OpR X (compareOp .Gt) (rI0 fun i j => .bl (decide (j < i))) := jw fun _ _ _ _ _ _ _ q => gt_int q
theorem qo : OpR X (compareOp .Lt) (fun x y H Q => ∃ i j, x = .str i /\ y = .str j /\ Q (.bl (decide (i.cps.toList < j.cps.toList))) H) := by
 intro pins s σ H x y v u Q I rx ry h
 obtain ⟨i, j, rfl, rfl, q⟩ := h
 obtain ⟨t, rfl⟩ := rx
 obtain ⟨t', rfl⟩ := ry
 exact lt_str (aX I q rfl)
theorem aT (b : Expr) {op : CmpOp} (h : op ≠ .In := by decide) (h2 : op ≠ .NotIn := by decide) : behindInMarks op b = false := by
 have e1 : (op == CmpOp.In) = false := by cases op <;> first | rfl | exact absurd rfl h
 have e2 : (op == CmpOp.NotIn) = false := by cases op <;> first | rfl | exact absurd rfl h2
 cases b <;> simp [behindInMarks, e1, e2]
theorem b5 {op : CmpOp} {r : R2} (ho : OpR X (compareOp op) r) (ha : PE X a ta) (hb : PE X b tb) (hm : behindInMarks op b = false) : PE X (.Compare a [op] [b] pos) (tOp r ta tb) := by
 intro pins s σ H Q I h
 exact wpAny_Compare1 (jF ha hb I h fun v u s2 x y H2 I2 rx ry q => ho pins s2 σ H2 x y v u Q I2 rx ry q) hm
noncomputable def mV (t : TE) : TT := fun σ H Q => t σ H fun x H' => ∃ k, x = .bl k /\ Q k H'
theorem aR {op : CmpOp} {r : R2} (ho : OpR X (compareOp op) r) (ha : PE X a ta) (hb : PE X b tb) (hm : behindInMarks op b = false) : PT X (.Compare a [op] [b] pos) (mV (tOp r ta tb)) := by
 intro pins s σ H Q I h
 refine wpAny_isTrue_Compare1 (thn (ha pins s σ H _ I h) fun v s1 ⟨x, H1, I1, r1, q1⟩ => thn (hb pins s1 σ H1 _ I1 q1) fun u s2 ⟨y, H2, I2, r2, q2⟩ =>
  thn (ho pins s2 σ H2 x y v u _ I2 r1 r2 q2) fun c s3 ⟨z, H3, I3, r3, k, e, q3⟩ => ?_) hm
 subst e
 cases r3
 exact wpAny_truthy_bool ⟨H3, I3, q3⟩
noncomputable def mM (r r' : R2) (ta tb tc : TE) : TE := fun σ H Q => ta σ H fun x H1 => tb σ H1 fun y H2 => r x y H2 fun z H3 => ∃ k, z = .bl k /\
 (if k = true then tc σ H3 fun w' H4 => r' y w' H4 Q else Q (.bl false) H3)
theorem qY {op op' : CmpOp} {r r' : R2} (ho : OpR X (compareOp op) r) (ho' : OpR X (compareOp op') r') (ha : PE X a ta) (hb : PE X b tb) (hc : PE X c tc)
  (hm : lastMarks [op, op'] [b, c] = false := by with_unfolding_all rfl) : PE X (.Compare a [op, op'] [b, c] pos) (mM r r' ta tb tc) := by
 intro pins s σ H Q I h
 refine Compare_chain (thn (ha pins s σ H _ I h) fun v s1 ⟨x, H1, I1, r1, q1⟩ => chain_link (thn (hb pins s1 σ H1 _ I1 q1) fun u s2 ⟨y, H2, I2, r2, q2⟩ =>
  thn (ho pins s2 σ H2 x y v u _ I2 r1 r2 q2) fun d s3 ⟨z, H3, I3, r3, k, e, q3⟩ => ?_)) hm
 subst e
 cases r3
 refine wpAny_truthy_bool ?_
 cases k with
 | false => exact ite_ff ⟨.bl false, H3, I3, rfl, q3⟩
 | true => exact ite_tt (chain_last (thn (hc pins s3 σ H3 _ I3 q3) fun w' s4 ⟨z', H4, I4, r4, q4⟩ => ho' pins s4 σ H4 y z' u w' Q I4 r2 r4 q4))
theorem rg {op op' : CmpOp} {r r' : R2} (ho : OpR X (compareOp op) r) (ho' : OpR X (compareOp op') r') (ha : PE X a ta) (hb : PE X b tb) (hc : PE X c tc)
  (hm : lastMarks [op, op'] [b, c] = false := by with_unfolding_all rfl) : PT X (.Compare a [op, op'] [b, c] pos) (mV (mM r r' ta tb tc)) := by
 intro pins s σ H Q I h
 refine isTrue_chain (thn (ha pins s σ H _ I h) fun v s1 ⟨x, H1, I1, r1, q1⟩ => test_link (thn (hb pins s1 σ H1 _ I1 q1) fun u s2 ⟨y, H2, I2, r2, q2⟩ =>
  thn (ho pins s2 σ H2 x y v u _ I2 r1 r2 q2) fun d s3 ⟨z, H3, I3, r3, k, e, q3⟩ => ?_)) hm
 subst e
 cases r3
 refine wpAny_truthy_bool ?_
 cases k with
 | false =>
  obtain ⟨k', e', q'⟩ := q3
  cases e'
  exact ite_ff ⟨H3, I3, q'⟩
 | true =>
  refine ite_tt (test_last (thn (hc pins s3 σ H3 _ I3 q3) fun w' s4 ⟨z', H4, I4, r4, q4⟩ => thn (ho' pins s4 σ H4 y z' u w' _ I4 r2 r4 q4) fun d' s5 ⟨z2, H5, I5, r5, k2, e2, q5⟩ => ?_))
  subst e2
  cases r5
  exact wpAny_truthy_bool ⟨H5, I5, q5⟩
theorem e7 : (sizeLine : Nat) < 2 ^ 63 := by rw [sizeLine_eq]; decide
theorem jQ : OpR X (binaryOp .Add) (fun x y H Q => ∃ i j, x = .str i /\ y = .str j /\ i.length + j.length <= sizeLine /\ Q (.str (i ++ j)) H) := by
 intro pins s σ H x y v u Q I rx ry h
 obtain ⟨i, j, rfl, rfl, hz, q⟩ := h
 obtain ⟨t, rfl⟩ := rx
 obtain ⟨t', rfl⟩ := ry
 exact add_str (fun t' tk => ⟨.str (i ++ j), H, I.tok _, ⟨_, rfl⟩, q⟩) hz
theorem vals1 {x : V} {us : List Value} (r : ao [x] us) : ∃ u, us = [u] /\ RelV x u := by
 cases r with
 | cons r1 r2 => cases r2; exact ⟨_, rfl, r1⟩
theorem vals2 {x y : V} {us : List Value} (r : ao [x, y] us) : ∃ u w', us = [u, w'] /\ RelV x u /\ RelV y w' := by
 cases r with
 | cons r1 r2 =>
  cases r2 with
  | cons r3 r4 => cases r4; exact ⟨_, _, rfl, r1, r3⟩
theorem iA (hc : X.calm = true) : bp X (.builtin "max") (fun xs H Q => ∃ i j, xs = [.int i, .int j] /\ Q (.int (if j > i then j else i)) H) := by
 intro pins s σ H xs us Q I r h
 obtain ⟨i, j, rfl, q⟩ := h
 obtain ⟨u, w', rfl, ⟨t, rfl⟩, ⟨t', rfl⟩⟩ := vals2 r
 refine max_two_ints (I.ok.hd hc) fun h' tk k => ⟨_, H, I.kept k, ?_, q⟩
 by_cases hj : j > i
 ·rw [if_pos hj, if_pos hj]; exact ⟨_, rfl⟩
 ·rw [if_neg hj, if_neg hj]; exact ⟨_, rfl⟩
theorem ij (hc : X.calm = true) : bp X (.builtin "min") (fun xs H Q => ∃ i j, xs = [.int i, .int j] /\ Q (.int (if j < i then j else i)) H) := by
 intro pins s σ H xs us Q I r h
 obtain ⟨i, j, rfl, q⟩ := h
 obtain ⟨u, w', rfl, ⟨t, rfl⟩, ⟨t', rfl⟩⟩ := vals2 r
 refine min_two_ints (I.ok.hd hc) fun h' tk k => ⟨_, H, I.kept k, ?_, q⟩
 by_cases hj : j < i
 ·rw [if_pos hj, if_pos hj]; exact ⟨_, rfl⟩
 ·rw [if_neg hj, if_neg hj]; exact ⟨_, rfl⟩
theorem ik : bp X (.type "int") (fun xs H Q => (∃ i, xs = [.int i] /\ Q (.int i) H) \/ ∃ k, xs = [.bl k] /\ Q (.int (if k then 1 else 0)) H) := by
 intro pins s σ H xs us Q I r h
 rcases h with ⟨i, rfl, q⟩ | ⟨k, rfl, q⟩
 ·obtain ⟨u, rfl, t, rfl⟩ := vals1 r
  exact call_int_int ⟨.int i, H, I, ⟨_, rfl⟩, q⟩
 ·obtain ⟨u, rfl, r1⟩ := vals1 r
  cases r1
  exact call_int_bool ⟨.int (if k then 1 else 0), H, I.tok _, ⟨_, rfl⟩, q⟩
theorem oY : bp X (.builtin "divmod") (fun xs H Q => ∃ i j, xs = [.int i, .int j] /\ nN i j /\ ∀ p, H p = none -> Q (.ref p) (upd H p (.tup [.int (i / j), .int (i % j)]))) := by
 intro pins s σ H xs us Q I r h
 obtain ⟨i, j, rfl, ⟨h1, h2⟩, q⟩ := h
 obtain ⟨u, w', rfl, ⟨t, rfl⟩, ⟨t', rfl⟩⟩ := vals2 r
 refine divmod_int (by omega) ?_ (.inl (PyProof.noPylong_small (by omega)))
 rw [Int.fdiv_eq_ediv_of_nonneg i (by omega), Int.fmod_eq_emod_of_nonneg i (by omega)]
 have hn : H s.heap.objs.size = none := I.hok.fresh (Nat.le_refl _)
 refine ⟨.ref s.heap.objs.size, _, ?_, rfl, q _ hn⟩
 refine I.laid (fun b o e => Heap.get?_push_of_some _ e) (Nat.le_refl _) ⟨by simp only [List.length_cons, List.length_nil]; rw [sizeLine_eq]; decide, [.int (i / j) s.toks, .int (i % j) (s.toks + 1)], .cons ⟨_, rfl⟩ (.cons ⟨_, rfl⟩ .nil), ?_⟩
 exact ⟨_, Heap.get?_push_size s.heap rfl, rfl, 0, rfl⟩
end
structure jz (h : Heap) (x dx C : Addr) (mA : Str -> Option Value) : Prop where
 obj : h.get? x = some (PySem.W.instObj C dx)
 ns : h.Ns1 dx mA
 ne : dx ≠ x
theorem p5 {h : Heap} {dx : Addr} {mA : Str -> Option Value} (n : h.Ns1 dx mA) : ∃ od, h.get? dx = some od /\ ∀ name, PySem.W.lookIn name od = some (mA name) := by
 obtain ⟨o, es, ep, ho, hd, hk, _, hm⟩ := n
 refine ⟨o, ho, fun name => ?_⟩
 have e := hm name
 unfold nsFind findBy at e
 rw [<- Array.find?_toList] at e
 unfold PySem.W.lookIn
 rw [hd]
 dsimp only
 split
 ·rename_i y q
  rw [q] at e
  exact congrArg some e
 ·rename_i q
  rw [q] at e
  have a : es.toList.any (·.refKey) = false := by
   rw [List.any_eq_false]
   intro y hy
   obtain ⟨z, t, hkey⟩ := hk y (Array.mem_toList_iff.mp hy)
   simp [DictEntry.refKey, hkey]
  have a' : ¬ es.toList.any (·.refKey) = true := by rw [a]; exact Bool.false_ne_true
  rw [if_neg a']
  exact congrArg some e
theorem jz.look {h : Heap} {x dx C : Addr} {mA : Str -> Option Value} (I : jz h x dx C mA) : ∃ od, PySem.W.InstAt h x (PySem.W.instObj C dx) C (some od) /\ ∀ name, PySem.W.lookIn name od = some (mA name) :=
 let ⟨od, ho, hl⟩ := p5 I.ns
 ⟨od, ⟨I.obj, rfl, rfl, ho⟩, hl⟩
section
variable {prog : Program} {w : World} {A : Around} {E : Value -> Shared -> Prop} {s : Shared} {K : PySem.W.Frag} {x dx C f : Addr} {mA : Str -> Option Value} {name : Str} {v : Value}
end
theorem cy.some_of {v : V} {o : Option Value} (r : cy (some v) o) : ∃ u, o = some u /\ RelV v u := by
 cases o with
 | none => exact (show False from r).elim
 | some u => exact ⟨u, rfl, r⟩
theorem qv {v : V} {u : Value} (r : RelV v u) : PySem.W.handedIn u = true := by
 cases v with
 | non => cases (show u = Value.none from r); rfl
 | bl b => cases (show u = Value.bool b from r); rfl
 | int i => obtain ⟨t, e⟩ := (show ∃ t, u = Value.int i t from r); cases e; rfl
 | str x => obtain ⟨t, e⟩ := (show ∃ t, u = Value.str x t from r); cases e; rfl
 | byt b => obtain ⟨t, e⟩ := (show ∃ t, u = Value.bytes b t from r); cases e; rfl
 | flt b => obtain ⟨t, e⟩ := (show ∃ t, u = Value.float b t from r); cases e; rfl
 | ref a => cases (show u = Value.ref a from r); rfl
 | ty n => cases (show u = Value.type n from r); rfl
section
variable {P : Program} {w : World} {H H' : Hp} {h h' : Heap} {a C dx : Addr} {fs fs' : List (Str × V)}
theorem ur (hok : HOk P w H h) (e : H a = some (.ins C dx fs)) : ∃ mA, jz h a dx C mA /\ (∀ f, cy (fs.lookup f) (mA f)) /\ PySem.Within mA (fs.map (·.1)) /\ fs.length <= 1000 /\ H dx = some (.own a) := by
 obtain ⟨d, z, ne, ob, mA, n, r, q⟩ := (show aC P w H h a (.ins C dx fs) from hok a _ e)
 exact ⟨mA, ⟨ob, n, ne⟩, r, q, z, d⟩
end
structure Cls (K : PySem.W.Frag) (C : Addr) : Prop where
 pg : PySem.W.plainGet K C Str.empty = true
 hd : PySem.W.hasDictIn K C = true
 po : PySem.W.plainOver K C = true
 sa : PySem.W.findIn K (.ref C) "__setattr__" = some (some (.builtin "object.__setattr__"))
theorem Cls.get {K : PySem.W.Frag} {C : Addr} (c : Cls K C) (f : Str) : PySem.W.plainGet K C f = true := c.pg
structure Con (K : PySem.W.Frag) (C : Addr) (f : Str) (v : V) (u : Value) : Prop where
 at_ : PySem.W.findIn K (.ref C) f = some (some u)
 rel : RelV v u
 get : PySem.W.specialIn K u "__get__" = some none
 cp : PySem.W.copiedNames.contains f = false
structure xl (K : PySem.W.Frag) (C : Addr) (m : Str) (f : Addr) : Prop where
 at_ : PySem.W.findIn K (.ref C) m = some (some (.ref f))
 fn : PySem.W.isFn K (.ref f) = true
 kp : PySem.W.keepIn K (.ref f) = true
section
variable {X : Cx} {pins : List (Addr × Obj)} {σ : St} {H : Hp} {s : Shared} {a C dx : Addr} {fs : List (Str × V)} {f : Str} {v : V} {A : Around} {E : Value -> Shared -> Prop}
theorem sP {prog : Program} {w : World} {env : Env} {e : Expr} {f : Str} {pos : Pos} {s : Shared} {Q : Value -> Shared -> Prop} (hb : attributeBase e f env (eval e env) = eval e env)
  (h : wpAny (model prog w) A (eval e env) (fun o s₁ => wpAny (model prog w) A (getAttr o f true) Q E s₁) E s) : wpAny (model prog w) A (eval (.Attribute e f pos) env) Q E s :=
 Attribute_any_ h (by rw [arm_eval_Attribute, hb])
end
noncomputable def jy (X : Cx) (op : Operator) (rd : V -> V -> Hp -> VK -> Prop) : Prop :=
 ∀ (pins : List (Addr × Obj)) (s : Shared) (σ : St) (H : Hp) (x y : V) (u v : Value) (Q : VK), Inv X pins σ H s -> RelV x u -> RelV y v -> rd x y H Q -> wpAny (model X.prog X.w) X.A (inplaceOp op u v) (EP X pins σ Q) X.xe s
section
variable {X : Cx} {o e value : Expr} {f : Str} {pos pos' tpos : Pos} {ta tv : TE}
noncomputable def wV : V -> V -> Hp -> VK -> Prop := fun x y H Q => ∃ i j, x = .int i /\ y = .int j /\ Q (.int (i + j)) H
noncomputable def wt : V -> V -> Hp -> VK -> Prop := fun x y H Q => ∃ i j, x = .int i /\ y = .int j /\ Q (.int (i - j)) H
theorem vc : jy X .Add wV := by
 rintro pins s σ H x y u v Q I rx ry ⟨i, j, rfl, rfl, q⟩
 obtain ⟨t, rfl⟩ := (show ∃ t, u = Value.int i t from rx)
 obtain ⟨t', rfl⟩ := (show ∃ t', v = Value.int j t' from ry)
 exact PyProof.Rows.iadd_int ⟨.int (i + j), H, I.tok _, ⟨_, rfl⟩, q⟩
theorem vo : jy X .Sub wt := by
 rintro pins s σ H x y u v Q I rx ry ⟨i, j, rfl, rfl, q⟩
 obtain ⟨t, rfl⟩ := (show ∃ t, u = Value.int i t from rx)
 obtain ⟨t', rfl⟩ := (show ∃ t', v = Value.int j t' from ry)
 exact PyProof.Rows.isub_int ⟨.int (i - j), H, I.tok _, ⟨_, rfl⟩, q⟩
end
section
variable {X : Cx} {pins : List (Addr × Obj)} {σ : St} {H : Hp} {s : Shared} {A : Around} {E : Value -> Shared -> Prop} {Q : Value -> Shared -> Prop} {c : Value} {b : Bool}
inductive cu (K : PySem.W.Frag) (H : Hp) : V -> Value -> Prop where
 | non : cu K H .non (.type "NoneType")
 | bl (x : Bool) : cu K H (.bl x) (.type "bool")
 | int (i : Int) : cu K H (.int i) (.type "int")
 | str (x : Str) : cu K H (.str x) (.type "str")
 | flt (x : UInt64) : cu K H (.flt x) (.type "float")
 | lst {a : Addr} {xs : List V} (e : H a = some (.lst xs)) : cu K H (.ref a) (.type "list")
 | frz {a : Addr} {o : Obj} {xs : List V} (e : H a = some (.frz o (.lst xs))) : cu K H (.ref a) (.type "list")
 | tup {a : Addr} {xs : List V} (e : H a = some (.tup xs)) : cu K H (.ref a) (.type "tuple")
 | dK {a : Addr} {kvs : List (Key × V)} (e : H a = some (.dK kvs)) : cu K H (.ref a) (.type "dict")
 | dT {a : Addr} {kvs : List (List Key × V)} (e : H a = some (.dT kvs)) : cu K H (.ref a) (.type "dict")
 | ins {a C dx : Addr} {fs : List (Str × V)} (e : H a = some (.ins C dx fs)) (cl : Cls K C) (ha : PySem.W.findIn K (.ref C) "__class__" = some (some (.builtin "object.__class__")))
   (hn : PySem.W.specialIn K (.builtin "object.__class__") "__get__" = some (some (.builtin "getset_descriptor.__get__"))) (htk : PySem.W.takesIn K (.builtin "object.__class__") = some true)
   (hm : PySem.W.mroIn K C (.type "object") = some true) : cu K H (.ref a) (.ref C)
theorem qu {x : V} {u t : Value} (I : Inv X pins σ H s) (rx : RelV x u) (ty : cu X.K H x t) (e : PySem.W.kitOne X.K t c = some b) (h : ∀ tk, Q (.bool b) { s with toks := tk }) :
  wpAny (model X.prog X.w) A (call (.builtin "isinstance") [u, c]) Q E s := by
 cases ty with
 | non => cases (show u = Value.none from rx); exact PySem.W.kia_one PySem.W.kitx_none I.kIn True.intro e (fun z => nomatch z) h
 | bl y => cases (show u = Value.bool y from rx); exact PySem.W.kia_one PySem.W.kitx_bool I.kIn True.intro e (fun z => nomatch z) h
 | int i => obtain ⟨t, q⟩ := (show ∃ t, u = Value.int i t from rx); cases q; exact PySem.W.kia_one PySem.W.kitx_int I.kIn True.intro e (fun z => nomatch z) h
 | str y => obtain ⟨t, q⟩ := (show ∃ t, u = Value.str y t from rx); cases q; exact PySem.W.kia_one PySem.W.kitx_str I.kIn True.intro e (fun z => nomatch z) h
 | flt y => obtain ⟨t, q⟩ := (show ∃ t, u = Value.float y t from rx); cases q; exact PySem.W.kia_one PySem.W.kitx_float I.kIn True.intro e (fun z => nomatch z) h
 | @lst a xs ea =>
  cases (show u = Value.ref a from rx)
  obtain ⟨_, _, n, _, h1⟩ := (show aC X.prog X.w H s.heap a (.lst xs) from I.hok a _ ea)
  exact PySem.W.kia_one PySem.W.kitx_list I.kIn ⟨_, h1, rfl⟩ e (fun z => nomatch z) h
 | @frz a ob xs ea =>
  cases (show u = Value.ref a from rx)
  obtain ⟨_, _, _, n, _, h1⟩ := (show aC X.prog X.w H s.heap a (.frz ob (.lst xs)) from I.hok a _ ea)
  exact PySem.W.kia_one PySem.W.kitx_list I.kIn ⟨_, h1, rfl⟩ e (fun z => nomatch z) h
 | @tup a xs ea =>
  cases (show u = Value.ref a from rx)
  obtain ⟨_, _, _, p⟩ := (show aC X.prog X.w H s.heap a (.tup xs) from I.hok a _ ea)
  obtain ⟨o, h1, h2, _⟩ := p
  exact PySem.W.kia_one PySem.W.kitx_tuple I.kIn ⟨o, h1, h2⟩ e (fun z => nomatch z) h
 | @dK a kvs ea =>
  cases (show u = Value.ref a from rx)
  obtain ⟨_, _, vs, _, p⟩ := (show aC X.prog X.w H s.heap a (.dK kvs) from I.hok a _ ea)
  obtain ⟨o, es, ep, h1, h2, _⟩ := p
  exact PySem.W.kia_one PySem.W.kitx_dict I.kIn ⟨o, h1, h2.1⟩ e (fun z => nomatch z) h
 | @dT a kvs ea =>
  cases (show u = Value.ref a from rx)
  obtain ⟨_, _, xs, _, o, es, ep, h1, h2, _⟩ := (show aC X.prog X.w H s.heap a (.dT kvs) from I.hok a _ ea)
  exact PySem.W.kia_one PySem.W.kitx_dict I.kIn ⟨o, h1, h2.1⟩ e (fun z => nomatch z) h
 | @ins a C dx fs ea cl ha hn htk hm =>
  cases (show u = Value.ref a from rx)
  obtain ⟨mA, O, _⟩ := ur I.hok ea
  obtain ⟨od, J, _⟩ := O.look
  exact PySem.W.kia_one (PySem.W.kitx_own (cl.get _) cl.hd ha hn htk hm) I.kIn J e (fun z => nomatch z) h
end
structure aI (k : Nat) (A : Around) : Prop where
 hd : A.handled = none
 dp : A.depth + 3 * k + 5 < recursionLimit
 un : A.units + 16 * k + 200 < cLine
 gd : A.guards = some []
theorem aI.mono {j k : Nat} {A : Around} (r : aI k A) (h : j <= k) : aI j A := ⟨r.hd, by have := r.dp; omega, by have := r.un; omega, r.gd⟩
theorem aI.deeper {k : Nat} {A : Around} (r : aI (k + 1) A) (env : Env) : aI k (A.deeper env) :=
 ⟨r.hd, by have := r.dp; show A.depth + 1 + 3 * k + 5 < _; omega, by have := r.un; show A.units + 3 + 16 * k + 200 < _; omega, r.gd⟩
theorem pY {A : Around} {C : Addr} {us : List Value} {kw : List (Str × Value)} : (A.under (.builtin "type.__call__" ⟨.ref C :: us, kw⟩)).depth = A.depth + 1 := by
 first | rfl | simp [Around.under, Code.weight, Code.isCreation, Code.isGuard, Code.isCaller, Code.frames, Code.isFrame, guardIds]
theorem pq {A : Around} {C : Addr} {us : List Value} {kw : List (Str × Value)} : (A.under (.builtin "type.__call__" ⟨.ref C :: us, kw⟩)).units = A.units + 1 := by
 first | rfl | simp [Around.under, Code.cUnits, Code.frames, Code.isFrame]
theorem aI.make {k : Nat} {A : Around} (r : aI (k + 1) A) (C : Addr) (us : List Value) (kw : List (Str × Value)) : aI k (A.under (.builtin "type.__call__" ⟨.ref C :: us, kw⟩)) :=
 ⟨r.hd, by have := r.dp; rw [pY]; omega, by have := r.un; rw [pq]; omega, by first | exact r.gd | simpa [Around.under, Code.isGuard, guardIds] using r.gd⟩
theorem aI.depth {k : Nat} {A : Around} (r : aI k A) : A.depth < recursionLimit := by have := r.dp; omega
theorem aI.units {k : Nat} {A : Around} (r : aI k A) : A.units + 64 < cLine := by have := r.un; omega
noncomputable def wI : TA := fun _ H Q => Q [] H
noncomputable def nr (ta : TE) (tr : TA) : TA := fun σ H Q => ta σ H fun x H1 => tr σ H1 fun xs H2 => Q (x :: xs) H2
section
variable {X : Cx} {e : Expr} {es : List Expr} {te : TE} {t : TA} {pos : Pos}
theorem ae : PA X [] wI := fun _ _ _ _ H Q I h => Calls.spliced_nil ⟨[], H, I, .nil, h⟩
theorem aa (ha : PE X e te) (hr : PA X es t) (hs : starEach (e :: es) X.env = (false, eval e X.env) :: starEach es X.env := by rfl) : PA X (e :: es) (nr te t) := by
 intro pos pins s σ H Q I h
 rw [hs]
 show wpAny _ _ (spliced ((false, eval e X.env) :: backTo pos (starEach es X.env))) _ _ s
 refine Calls.spliced_cons (thn (ha pins s σ H _ I h) fun u s1 ⟨x, H1, I1, r1, q1⟩ => ?_)
 exact thn (hr pos pins s1 σ H1 _ I1 q1) fun us s2 ⟨xs, H2, I2, r2, q2⟩ => ⟨x :: xs, H2, I2, .cons r1 r2, q2⟩
noncomputable def wK (t : TA) : TE := fun σ H Q => t σ H fun xs H1 => xs.length <= sizeLine /\ ∀ p, H1 p = none -> Q (.ref p) (upd H1 p (.tup xs))
noncomputable def wa (t : TA) : TE := fun σ H Q => t σ H fun xs H1 => xs.length <= sizeLine /\ ∀ p, H1 p = none -> Q (.ref p) (upd H1 p (.lst xs))
theorem cq {x1} (h : PA X es t) : PE X (.Tuple es x1 pos) (wK t) := by
 intro pins s σ H Q I hq
 refine wpAny_Tuple_spliced (thn (h pos pins s σ H _ I hq) fun us s1 ⟨xs, H1, I1, r, z, q⟩ => ⟨by rw [<- r.length]; exact z, ?_⟩)
 have hf : H1 s1.heap.objs.size = none := I1.hok.fresh (Nat.le_refl _)
 refine ⟨.ref s1.heap.objs.size, upd H1 s1.heap.objs.size (.tup xs), I1.laid (t' := s1.toks) (fun b u e => Heap.get?_push_of_some _ e) (Nat.le_refl _) ?_, rfl, q _ hf⟩
 exact ⟨z, us, r, ⟨_, Heap.get?_push_size _ rfl, rfl, _, rfl⟩⟩
theorem bC (h : PA X es t) : PE X (.List es pos) (wa t) := by
 intro pins s σ H Q I hq
 refine wpAny_List_spliced (thn (h pos pins s σ H _ I hq) fun us s1 ⟨xs, H1, I1, r, z, q⟩ => ⟨by rw [<- r.length]; exact z, ?_⟩)
 have hf : H1 s1.heap.objs.size = none := I1.hok.fresh (Nat.le_refl _)
 refine ⟨.ref s1.heap.objs.size, upd H1 s1.heap.objs.size (.lst xs), I1.laid (t' := s1.toks) (fun b u e => Heap.get?_push_of_some _ e) (Nat.le_refl _) ?_, rfl, q _ hf⟩
 exact ⟨z, us, 0, r, Heap.get?_push_size _ rfl⟩
end
noncomputable abbrev Sp := List V -> Hp -> VK -> XK -> Prop
noncomputable abbrev CXT := List Env -> Hp -> Shared -> XK -> Value -> Shared -> Prop
structure dn (P : Program) (w : World) (K : PySem.W.Frag) (mg : Str -> Option Value) (base : Heap) (A : Around) (outer : List Env) (s : Shared) (H : Hp) : Prop where
 frames : A.frames = some outer
 mod : Mod K mg base
 bs : ∀ b o, base.get? b = some o -> s.heap.get? b = some o /\ H b = none
 bsz : base.objs.size <= s.heap.objs.size
 funs : s.heap.FunFrames base outer
 frf : ∀ b ∈ frs outer, H b = none
 hok : HOk P w H s.heap
 bare : AllBare s.gens
noncomputable def CE (outer : List Env) (P : Program) (w : World) (H : Hp) (s : Shared) (Q : VK) (u : Value) (s' : Shared) : Prop :=
 ∃ v H', s'.os = s.os /\ AllBare s'.gens /\ Un (frs outer) [] H H' s.heap s'.heap /\ HOk P w H' s'.heap /\ RelV v u /\ Q v H'
noncomputable def CR (CX : CXT) (outer : List Env) (P : Program) (w : World) (H : Hp) (s : Shared) (Q : VK) (E : XK) (r : Result) (s' : Shared) : Prop :=
 match r with
 | .ok (.ret u) => CE outer P w H s Q u s'
 | .ok _ => False
 | .error e => CX outer H s E e s'
structure aE (P : Program) (w : World) (K : PySem.W.Frag) (mg : Str -> Option Value) (base : Heap) (CX : CXT) (k : Nat) (f : Addr) (fd : FuncData) (ps : List Str) (sp : Sp) : Prop where
 len : ∀ vs H Q E, sp vs H Q E -> vs.length = ps.length
 run : ∀ (A : Around) (outer : List Env) (s : Shared) (H : Hp) (args : Args) (us : List Value) (vs : List V) (Q : VK) (E : XK), aI k A -> dn P w K mg base A outer s H -> BindsTo s fd args (ps.zip us) -> ao vs us -> sp vs H Q E ->
  codeAny (model P w) A (.call (.ref f) args) (CR CX outer P w H s Q E) s
theorem dn.make {P : Program} {w : World} {K : PySem.W.Frag} {mg : Str -> Option Value} {base : Heap} {A : Around} {outer : List Env} {s : Shared} {H : Hp} (e : dn P w K mg base A outer s H) (C : Addr) (us : List Value) (kw : List (Str × Value)) :
  dn P w K mg base (A.under (.builtin "type.__call__" ⟨.ref C :: us, kw⟩)) outer s H := ⟨by first | exact e.frames | (simpa [Around.under, Code.envs, Code.isFrame, pushEnvs] using e.frames), e.mod, e.bs, e.bsz, e.funs, e.frf, e.hok, e.bare⟩
section
variable {X : Cx} {pins : List (Addr × Obj)} {σ : St} {H : Hp} {s s' : Shared}
theorem Inv.env0 (I : Inv X pins σ H s) : dn X.prog X.w X.K X.mg X.base X.A X.stack s H :=
 ⟨I.ok.frames, I.ok.mod, I.bs, Nat.le_trans I.ok.bsz I.sz, I.stack, I.stkFree, I.hok, I.bare⟩
theorem Inv.after {Q : VK} {u : Value} (I : Inv X pins σ H s) (h : CE X.stack X.prog X.w H s Q u s') : EP X pins σ Q u s' := by
 obtain ⟨v, H', os, bare, un, hok, r, q⟩ := h
 obtain ⟨hh, g, d, t, os'⟩ := s'
 obtain rfl : os' = s.os := os
 exact ⟨v, H', I.call (h' := hh) (g' := g) (d' := d) (t' := t) (ch := []) un hok bare (fun b z => absurd z (by simp)), r, q⟩
end
noncomputable def fK (sp : Sp) (dvs : List V) (E : XK) (t : TA) : TE := fun σ H Q => t σ H fun vs H1 => sp (vs ++ dvs) H1 Q E
noncomputable def Binds (K : PySem.W.Frag) (fd : FuncData) (ps : List Str) (ds : List Value) : Prop :=
 ∀ (s : Shared) (us : List Value), K.In s.heap -> (us ++ ds).length = ps.length -> BindsTo s fd ⟨us, []⟩ (ps.zip (us ++ ds))
theorem Binds.all {K : PySem.W.Frag} {fd : FuncData} {ps : List Str} (h : ∀ us : List Value, us.length = ps.length -> bindArgs fd ⟨us, []⟩ = pure (ps.zip us)) : Binds K fd ps [] := fun s us _ hl => by
 rw [List.append_nil] at hl ⊢
 exact .of_eq (h us hl)
noncomputable def eg (CX : CXT) (X : Cx) (E : XK) : Prop := ∀ (pins : List (Addr × Obj)) (σ : St) (H : Hp) (s : Shared) (e : Value) (s' : Shared), Inv X pins σ H s -> CX X.stack H s E e s' -> X.xe e s'
section
variable {X : Cx} {CX : CXT} {k : Nat} {f C : Addr} {fd : FuncData} {ps : List Str} {sp : Sp} {dvs : List V} {ds : List Value} {E : XK} {x m : Str} {p pos apos : Pos} {e o : Expr} {es : List Expr} {ta : TE} {t : TA}
theorem vz {pins : List (Addr × Obj)} {σ : St} {H : Hp} {s : Shared} {Q : VK} {us : List Value} {vs : List V} (F : aE X.prog X.w X.K X.mg X.base CX k f fd ps sp) (hr : aI k X.A) (hb : Binds X.K fd ps ds) (hd : ao dvs ds) (hx : eg CX X E)
  (I : Inv X pins σ H s) (r : ao vs us) (h : sp (vs ++ dvs) H Q E) : wpAny (model X.prog X.w) X.A (call (.ref f) us) (EP X pins σ Q) X.xe s := by
 have r2 : ao (vs ++ dvs) (us ++ ds) := r.append hd
 have hl : (us ++ ds).length = ps.length := by rw [<- r2.length]; exact F.len _ _ _ _ h
 refine wpAny_call (codeAny_mono (F.run X.A X.stack s H ⟨us, []⟩ (us ++ ds) (vs ++ dvs) Q E hr I.env0 (hb s us I.kIn hl) r2 h) fun r s' hq => ?_)
 cases r with
 | error e => exact hx pins σ H s e s' I hq
 | ok fl =>
  cases fl with
  | ret u => exact I.after hq
  | next => exact False.elim hq
  | brk => exact False.elim hq
  | cont => exact False.elim hq
theorem lU (F : aE X.prog X.w X.K X.mg X.base CX k f fd ps sp) (hr : aI k X.A) (hg : Gl X x) (hm : X.mg x = some (.ref f)) (hk : PySem.W.keepIn X.K (.ref f) = true) (hb : Binds X.K fd ps ds) (hd : ao dvs ds) (hx : eg CX X E)
  (ha : PA X (e :: es) t) (hdb : (x == ("__debug__" : Str)) = false := by decide) (he : starEach (e :: es) X.env = (false, eval e X.env) :: starEach es X.env := by rfl) (hpl : (backTo pos (starEach es X.env)).any (·.1) = false := by rfl) :
  PE X (.Call (.Name x p) (e :: es) [] pos) (fK sp dvs E t) := by
 intro pins s σ H Q I h
 refine wpAny_Call_Name_kw (dY I hg hm ?_ hdb)
 refine PySem.W.callWith_K (h₀ := X.base) I.ok.mod.kin hk (thn (ha pos pins s σ H _ I h) fun us s1 ⟨vs, H1, I1, r, q⟩ => ⟨I1.kIn, ?_⟩) he hpl
 exact vz F hr hb hd hx I1 r q
structure Mk (K : PySem.W.Frag) (C f : Addr) : Prop where
 makes : PySem.W.makesIn K C = true
 init : PySem.W.findIn K (.ref C) "__init__" = some (some (.ref f))
 fn : PySem.W.isFn K (.ref f) = true
 kp : PySem.W.keepIn K (.ref C) = true
end
section
variable {X : Cx} {CX : CXT} {k : Nat} {f C : Addr} {fd : FuncData} {ps ks : List Str} {sp : Sp} {E : XK} {x m : Str} {p pos apos kpos : Pos} {e o : Expr} {es : List Expr} {kws : List Keyword} {te ta : TE} {t tk : TA} {nm : Option Str}
structure xf (K : PySem.W.Frag) (fd : FuncData) (ps ks : List Str) (g : List Value -> List Value -> List Value) (gV : List V -> List V -> List V) : Prop where
 to : ∀ (s : Shared) (us ws : List Value), K.In s.heap -> (g us ws).length = ps.length -> BindsTo s fd ⟨us, ks.zip ws⟩ (ps.zip (g us ws))
 rel : ∀ {vs : List V} {us : List Value} {zs : List V} {ws : List Value}, ao vs us -> ao zs ws -> ao (gV vs zs) (g us ws)
variable {g : List Value -> List Value -> List Value} {gV : List V -> List V -> List V}
end
structure aL (N P : List Str) (sc : Scope) : Prop where
 kind : sc.kind = .function
 co : sc.isCoroutine = false
 gen : sc.isGenerator = false
 nd : N.Nodup
 pre : N.take P.length = P
 par : ∀ x ∈ P, sc.names.lookup x = some .local \/ sc.names.lookup x = some .cell
 nofree : ∀ y ∈ sc.names, y.2 ≠ .free
theorem ku {kindOf : Str -> Option NameKind} {x : Str} : ∀ {binds : List (Str × Value)} {m : Str -> Option Value}, (∀ v, (x, v) ∉ binds) -> bindL kindOf binds m x = m x
 | [], _, _ => rfl
 | (n, v) :: r, m, h => by
  unfold bindL
  rw [ku fun w hw => h w (List.mem_cons_of_mem _ hw)]
  split
  ·have : x ≠ n := by rintro rfl; exact h v List.mem_cons_self
   simp [this]
  ·rfl
theorem kn {kindOf : Str -> Option NameKind} {x : Str} : ∀ {binds : List (Str × Value)} {m : Str -> Option Value}, (∀ v, (x, v) ∉ binds) -> bindC kindOf binds m x = m x
 | [], _, _ => rfl
 | (n, v) :: r, m, h => by
  unfold bindC
  rw [kn fun w hw => h w (List.mem_cons_of_mem _ hw)]
  split
  ·rfl
  ·have : x ≠ n := by rintro rfl; exact h v List.mem_cons_self
   simp [this]
theorem iq {kindOf : Str -> Option NameKind} {x : Str} {v : Value} : ∀ {P : List Str} {vs : List Value} {i : Nat} {m : Str -> Option Value}, P.Nodup -> P[i]? = some x -> vs[i]? = some v -> kindOf x = some .local ->
  bindL kindOf (P.zip vs) m x = some v
 | [], _, _, _, _, h, _, _ => by simp at h
 | _ :: _, [], _, _, _, _, h, _ => by simp at h
 | p :: P, w :: vs, 0, m, nd, h1, h2, hk => by
  simp at h1 h2; subst h1; subst h2
  show bindL kindOf ((p, w) :: P.zip vs) m p = _
  unfold bindL
  rw [ku fun v hv => (List.nodup_cons.mp nd).1 (List.of_mem_zip hv).1, if_pos hk]
  simp
 | p :: P, w :: vs, i + 1, m, nd, h1, h2, hk => by
  show bindL kindOf ((p, w) :: P.zip vs) m x = _
  unfold bindL
  exact iq (i := i) (List.nodup_cons.mp nd).2 (by simpa using h1) (by simpa using h2) hk
theorem ip {kindOf : Str -> Option NameKind} {x : Str} {v : Value} : ∀ {P : List Str} {vs : List Value} {i : Nat} {m : Str -> Option Value}, P.Nodup -> P[i]? = some x -> vs[i]? = some v -> kindOf x ≠ some .local ->
  bindC kindOf (P.zip vs) m x = some v
 | [], _, _, _, _, h, _, _ => by simp at h
 | _ :: _, [], _, _, _, _, h, _ => by simp at h
 | p :: P, w :: vs, 0, m, nd, h1, h2, hk => by
  simp at h1 h2; subst h1; subst h2
  show bindC kindOf ((p, w) :: P.zip vs) m p = _
  unfold bindC
  rw [kn fun v hv => (List.nodup_cons.mp nd).1 (List.of_mem_zip hv).1, if_neg hk]
  simp
 | p :: P, w :: vs, i + 1, m, nd, h1, h2, hk => by
  show bindC kindOf ((p, w) :: P.zip vs) m x = _
  unfold bindC
  exact ip (i := i) (List.nodup_cons.mp nd).2 (by simpa using h1) (by simpa using h2) hk
noncomputable def start (N : List Str) (vs : List V) : St := vs.map some ++ List.replicate (N.length - vs.length) none
noncomputable def cw (CX : CXT) (P : Program) (w : World) (K : PySem.W.Frag) (mg : Str -> Option Value) (base : Heap) (N : List Str) (qual : Str) (scope : Scope) (f : Addr) (cd : Value) (A : Around) (outer : List Env) (s : Shared) (H : Hp) (E : XK) : Cx where
 prog := P
 w := w
 K := K
 mg := mg
 base := base
 A := A.deeper (envOfC qual scope s.heap.objs.size f cd)
 N := N
 s₀ := s
 H₀ := H
 env := envOfC qual scope s.heap.objs.size f cd
 outer := outer
 stack := envOfC qual scope s.heap.objs.size f cd :: outer
 ex := []
 calm := true
 fn := fun _ => true
 pn := []
 xe := fun e s' => wpAny (model P w) (A.deeper (envOfC qual scope s.heap.objs.size f cd)) (leaving (envOfC qual scope s.heap.objs.size f cd) e) (fun _ s'' => CX outer H s E e s'') (fun e' s'' => CX outer H s E e' s'') s'
theorem gj {sc : Scope} {n : Nat} {x : Str} (h : sc.names.lookup x = some .cell) : ∃ c, (cellsFrom n sc.names []).lookup x = some c := by
 have q := PySem.W.cellsFrom_some sc.names n [] (.inl h)
 exact Option.isSome_iff_exists.mp q
theorem qD {CX : CXT} {P : Program} {w : World} {K : PySem.W.Frag} {mg : Str -> Option Value} {base : Heap} {N ps : List Str} {qual : Str} {scope : Scope} {f : Addr} {cd : Value} {A : Around} {outer : List Env} {s s1 : Shared} {H : Hp} {E : XK} {us : List Value} {vs : List V}
  (S : aL N ps scope) (hd : A.handled = none) (e0 : dn P w K mg base A outer s H) (hl : vs.length = ps.length) (r : ao vs us)
  (x : InCallC s s.heap.objs.size (bindL (envOfC qual scope s.heap.objs.size f cd).kindOf (ps.zip us) fun _ => none) (cellsFrom (s.heap.objs.size + 1) scope.names []) (bindC (envOfC qual scope s.heap.objs.size f cd).kindOf (ps.zip us) fun _ => none) s1) :
  Inv (cw CX P w K mg base N qual scope f cd A outer s H E) [] (start N vs) H s1 := by
 have hpl : ps.length <= N.length := by have := congrArg List.length S.pre; rw [List.length_take] at this; omega
 obtain ⟨h1, tk, rfl, hk⟩ := x.done
 have noA : ∀ b : Addr, b ∉ (cw CX P w K mg base N qual scope f cd A outer s H E).ex := fun b z => absurd (show b ∈ ([] : List Addr) from z) (by simp)
 refine ⟨⟨e0.mod, S.kind, rfl, rfl, Nat.le_refl _, fun y z c h1 h2 => ?_, fun y hy => ?_, fun y c _ h => ?_, fun _ => hd, Around.frames_deeper e0.frames, .inr ⟨rfl, rfl⟩, fun b z => absurd z (noA b), e0.bs, e0.bsz, fun b _ _ => noA b, fun b z => absurd z (noA b), e0.funs, e0.frf⟩,
  rfl, e0.bare, Un.kept hk, ⟨_, x.toInCall.ns, fun i y v h1 h2 h3 => ?_⟩, fun y c h => ⟨_, x.cell y c h⟩, e0.hok.fresh (Nat.le_refl _), fun y c h => ?_, fun p hp => absurd (show p ∈ ([] : List (Addr × Obj)) from hp) (by simp), e0.hok.kept hk, ?_⟩
 ·exact name_of_addr x.apart (PySem.mem_of_lookup h1) (PySem.mem_of_lookup h2)
 ·have hy : scope.names.lookup y = some .cell \/ scope.names.lookup y = some .free := hy
  rcases hy with hy | hy
  ·exact gj hy
  ·exact absurd rfl (S.nofree _ (PySem.mem_of_lookup hy))
 ·exact Nat.le_of_lt (x.above y c (PySem.mem_of_lookup h))
 ·have hi : i < vs.length := by
   unfold start at h2
   by_cases hi : i < vs.length
   ·exact hi
   ·rw [List.getElem?_append_right (by simpa using hi)] at h2
    rw [List.getElem?_replicate] at h2
    split at h2 <;> cases h2
  have ha : vs[i]? = some v := by
   unfold start at h2
   rw [List.getElem?_append_left (by simpa using hi), List.getElem?_map] at h2
   cases e : vs[i]? with
   | none => rw [e] at h2; cases h2
   | some a => rw [e] at h2; cases h2; rfl
  obtain ⟨u, hu, rv⟩ := r.get ha
  have hp : ps[i]? = some y := by
   rw [<- S.pre, List.getElem?_take_of_lt (by omega)]; exact h1
  have ndP : ps.Nodup := by rw [<- S.pre]; exact S.nd.sublist (List.take_sublist _ _)
  refine ⟨u, rv, ?_⟩
  rcases S.par y (List.mem_of_getElem? hp) with k | k
  ·exact .inl ⟨k, iq ndP hp hu k⟩
  ·obtain ⟨c, e⟩ := gj (n := s.heap.objs.size + 1) k
   refine .inr ⟨.inl k, c, e, ?_⟩
   have q := x.cell y c e
   rw [ip ndP hp hu (by show scope.names.lookup y ≠ _; rw [k]; decide)] at q
   exact q
 ·exact e0.hok.fresh (Nat.le_of_lt (x.above y c (PySem.mem_of_lookup h)))
 ·unfold start
  show _ = N.length
  rw [List.length_append, List.length_map, List.length_replicate]
  omega
theorem ny {CX : CXT} {P : Program} {w : World} {K : PySem.W.Frag} {mg : Str -> Option Value} {base : Heap} {k : Nat} {f : Addr} {name qual : Str} {params : Arguments} {body : List Stmt} {scope : Scope} {dV kV doc pm cdv ct oc : Value} {an od : Option Addr}
  {osl : Array (Option Value)} {N ps : List Str} {sp : Sp} (lk : K.lookup f = some ⟨oc, od, .func (PySem.W.fnOf name qual params body scope dV kV doc pm an cdv ct), osl⟩) (hcd : PySem.W.codeIn K cdv qual = true) (S : aL N ps scope)
  (len : ∀ vs H Q E, sp vs H Q E -> vs.length = ps.length)
  (hbody : ∀ (A : Around) (outer : List Env) (s : Shared) (H : Hp) (vs : List V) (Q : VK) (E : XK), aI k (A.deeper (envOfC qual scope s.heap.objs.size f cdv)) -> sp vs H Q E ->
   ∃ t, PSs (cw CX P w K mg base N qual scope f cdv A outer s H E) body t /\ t { nx := fun _ H' => Q .non H', rt := Q } (start N vs) H) :
  aE P w K mg base CX (k + 1) f (PySem.W.fnOf name qual params body scope dV kV doc pm an cdv ct) ps sp := by
 refine ⟨len, fun A outer s H args us vs Q E hr e0 hb r hsp => ?_⟩
 have hl := len _ _ _ _ hsp
 have KX : K.In s.heap := e0.mod.kin.keeps fun b o e => (e0.bs b o e).1
 have lim : s.heap.NoLimit := e0.mod.nolimit.keeps fun b o e => (e0.bs b o e).1
 have hkind : ∀ y ∈ ps.zip us, scope.names.lookup y.1 = some .local \/ (scope.names.lookup y.1 = some .cell /\ ((cellsFrom (s.heap.objs.size + 1) scope.names []).lookup y.1).isSome = true) := fun ⟨n, v⟩ hy => by
  rcases S.par n (List.of_mem_zip hy).1 with q | q
  ·exact .inl q
  ·exact .inr ⟨q, PySem.W.cellsFrom_some _ _ _ (.inl q)⟩
 refine codeAny_call_function hr.depth (KX _ _ lk) rfl S.co S.gen rfl (PySem.W.codeRec_of KX hcd) (hb _ _ _ _ ?_)
 refine wpAny_newFunctionEnv_cells S.kind hkind fun env he s1 x => ?_
 subst he
 refine ⟨lim.keeps x.toInCall.keep, codeAny_func ?_⟩
 obtain ⟨t, ht, hq⟩ := hbody A outer s H vs Q E (hr.deeper _) hsp
 have I : Inv (cw CX P w K mg base N qual scope f cdv A outer s H E) [] (start N vs) H s1 := qD S hr.hd e0 hl r x
 refine wpAny_mono (ht [] s1 (start N vs) H _ I hq) (fun fl s' hs => ?_) fun e s' hs => hs
 have fin : ∀ {σ' : St} {H' : Hp} {v : V} {u : Value}, Inv (cw CX P w K mg base N qual scope f cdv A outer s H E) [] σ' H' s' -> RelV v u -> Q v H' -> CE outer P w H s Q u s' :=
  fun {σ' H' v u} J rv q => ⟨v, H', J.os, J.bare, J.base, J.hok, rv, q⟩
 cases fl with
 | ret u =>
  obtain ⟨v, σ', H', J, rv, q⟩ := hs
  exact fin J rv q
 | next =>
  obtain ⟨σ', H', J, q⟩ := hs
  exact fin (v := V.non) (u := Value.none) J rfl q
 | brk =>
  obtain ⟨_, _, _, q⟩ := hs
  exact False.elim q
 | cont =>
  obtain ⟨_, _, _, q⟩ := hs
  exact False.elim q
section
variable {X : Cx} {x : Str} {p pos : Pos} {e : Expr} {es : List Expr} {t : TA} {id T : String} {r : List V -> Hp -> VK -> Prop}
noncomputable def tCB (r : List V -> Hp -> VK -> Prop) (t : TA) : TE := fun σ H Q => t σ H fun vs H1 => r vs H1 Q
theorem ay (hc : bp X (.builtin id) r) (hg : Gl X x) (hm : X.mg x = none) (hv : bootBuiltins x = some (.builtin id)) (ha : PA X (e :: es) t) (hn : x ≠ "__name__" := by decide) (hdb : (x == ("__debug__" : Str)) = false := by decide)
  (he : starEach (e :: es) X.env = (false, eval e X.env) :: starEach es X.env := by rfl) (hpl : (backTo pos (starEach es X.env)).any (·.1) = false := by rfl) : PE X (.Call (.Name x p) (e :: es) [] pos) (tCB r t) := by
 intro pins s σ H Q I h
 refine wpAny_Call_Name_kw (dA I hg hm hv ?_ hn hdb)
 exact PyProof.Rows.callWith_builtin1 (thn (ha pos pins s σ H _ I h) fun us s1 ⟨vs, H1, I1, r1, q1⟩ => hc pins s1 σ H1 vs us Q I1 r1 q1) he hpl
theorem cj (hc : bp X (.type T) r) (hg : Gl X x) (hm : X.mg x = none) (hv : bootBuiltins x = some (.type T)) (ha : PA X (e :: es) t) (hn : x ≠ "__name__" := by decide) (hdb : (x == ("__debug__" : Str)) = false := by decide)
  (he : starEach (e :: es) X.env = (false, eval e X.env) :: starEach es X.env := by rfl) (hpl : (backTo pos (starEach es X.env)).any (·.1) = false := by rfl) : PE X (.Call (.Name x p) (e :: es) [] pos) (tCB r t) := by
 intro pins s σ H Q I h
 refine wpAny_Call_Name_kw (dA I hg hm hv ?_ hn hdb)
 exact PyProof.Rows.callWith_type1 (thn (ha pos pins s σ H _ I h) fun us s1 ⟨vs, H1, I1, r1, q1⟩ => hc pins s1 σ H1 vs us Q I1 r1 q1) he hpl
end
end L2
namespace HT
open PySem PyProof.Rows
section
open PySem.SeqAt
open PySem.AutoSeq1 (wpAny_loadPart')
open PySem.MeetsSeq PySem.MeetsSeq2 PySem.MeetsSeq3
end
section
variable {prog : Program} {w : World} {A : Around} {E : Value -> Shared -> Prop} {s : Shared}
theorem xb {t b : Addr} {vs ws : List Value} {Q : Value -> Shared -> Prop} (ht : IsTup s.heap t vs.toArray) (hb : IsTup s.heap b ws.toArray) (hv : vs ≠ [])
  (h1 : ws = [] -> Q (.ref t) s) (h2 : ws ≠ [] -> Q (.ref s.heap.objs.size) { s with heap := s.heap.push { cls := .type "tuple", data := .seq (vs ++ ws).toArray } })
  (hsz : vs.length + ws.length <= sizeLine) : wpAny (model prog w) A (binaryOp .Add (.ref t) (.ref b)) Q E s := by
 obtain ⟨⟨cls, dd, data, sl⟩, ho, hc, n, hd⟩ := id ht
 obtain ⟨⟨cls2, dd2, data2, sl2⟩, ho2, hc2, n2, hd2⟩ := id hb
 simp only at hc hd hc2 hd2
 subst hc hd hc2 hd2
 have e : vs.toArray ++ ws.toArray = (vs ++ ws).toArray := by simp
 by_cases hw : ws = []
 ·exact concat_meets ⟨_, ho, rfl⟩ ⟨_, ho2, rfl⟩ noFill_tuple_add seq_tuple_add PySem.F.slot_tuple_add PySem.F.entry_tuple_add (PySem.F.args_tuple_add_2 _ _)
   (tuple_addW1 t b vs.toArray ws.toArray n n2 dd dd2 sl sl2 (by simpa using hv) (by simp [hw])) ⟨ho, ho2, h1 hw⟩
 ·refine concat_meets ⟨_, ho, rfl⟩ ⟨_, ho2, rfl⟩ noFill_tuple_add seq_tuple_add PySem.F.slot_tuple_add PySem.F.entry_tuple_add (PySem.F.args_tuple_add_2 _ _)
   (tuple_addW2 t b vs.toArray ws.toArray n n2 dd dd2 sl sl2 (by simpa using hv) (by simpa using hw) (by rw [List.size_toArray, List.size_toArray]; exact hsz)) ⟨ho, ho2, ?_⟩
  rw [e]
  exact h2 hw
noncomputable def sIx (n d : Nat) : Option Int -> Nat
 | none => d
 | some v => if v < 0 then (v + (n : Int)).toNat else min v.toNat n
theorem uN (n d : Nat) (hd : d <= n) (o : Option Int) : sIx n d o <= n := by
 cases o with
 | none => exact hd
 | some v =>
  show (if v < 0 then (v + (n : Int)).toNat else min v.toNat n) <= n
  by_cases hv : v < 0
  ·rw [if_pos hv]; omega
  ·rw [if_neg hv]; exact Nat.min_le_right _ _
theorem lM (v : Int) (n d : Nat) : (if v < 0 then max (v + (n : Int)) 0 else min v (n : Int)) = ((sIx n d (some v) : Nat) : Int) := by
 show (if v < 0 then max (v + (n : Int)) 0 else min v (n : Int)) = (((if v < 0 then (v + (n : Int)).toNat else min v.toNat n) : Nat) : Int)
 by_cases hv : v < 0
 ·simp only [if_pos hv]; omega
 ·simp only [if_neg hv]; omega
theorem pI (lo hi : Option Int) (n : Nat) : Builtin.Slice.sliceAdjust lo hi 1 (n : Int) = (((sIx n 0 lo : Nat) : Int), ((sIx n n hi : Nat) : Int)) := by
 have h1 : ¬ ((1 : Int) < 0) := by omega
 unfold Builtin.Slice.sliceAdjust
 simp only [h1, if_false]
 refine Prod.ext ?_ ?_
 ·cases lo with
  | none => rfl
  | some v => exact lM v n 0
 ·cases hi with
  | none => rfl
  | some v => exact lM v n n
theorem p3 (i j : Nat) : Builtin.Slice.slicePlaces (i : Int) (j : Int) 1 = j - i := by
 unfold Builtin.Slice.slicePlaces
 have h1 : (1 : Int) > 0 := by omega
 simp only [h1, if_true, Int.ediv_one]
 split <;> omega
theorem jW {v : Value} {o : Option Int} {Q : Option Int -> Shared -> Prop} (p : IsPart v o) (h : Q o s) : wpAny (model prog w) A (Builtin.Slice.slicePartIndex v) Q E s := by
 cases p with
 | none => exact slicePart_none h
 | int i t => exact slicePart_int h
theorem nW {sl : Addr} {vl vu : Value} {lo hi : Option Int} {n : Nat} {Q : Int × Int × Nat -> Shared -> Prop} (hs : s.heap.IsSliceOf sl vl vu .none) (pl : IsPart vl lo) (pu : IsPart vu hi)
  (h : Q (((sIx n 0 lo : Nat) : Int), 1, sIx n n hi - sIx n 0 lo) s) : wpAny (model prog w) A (Builtin.Slice.sliceApplied (.ref sl) (pure (n : Int))) Q E s := by
 obtain ⟨os, hos, hcs, hds⟩ := id hs
 unfold Builtin.Slice.sliceApplied Builtin.Slice.sliceFields
 refine wpAny_bind (wpAny_bind (wpAny_field hos hds (x := vl) rfl (wpAny_bind (wpAny_field hos hds (x := vu) rfl (wpAny_bind (wpAny_field hos hds (x := .none) rfl (wpAny_pure ?_)))))))
 refine wpAny_bind (slicePart_none ?_)
 show wpAny _ _ (if ((1 : Int) == 0) = true then _ else _) _ _ s
 rw [if_neg (by decide)]
 refine wpAny_bind (jW pl (wpAny_bind (jW pu (wpAny_bind (wpAny_pure ?_)))))
 show wpAny _ _ (match Builtin.Slice.sliceAdjust lo hi 1 (n : Int) with | (lo, hi) => pure (lo, (1 : Int), Builtin.Slice.slicePlaces lo hi 1)) _ _ s
 rw [pI lo hi n]
 show wpAny _ _ (pure (((sIx n 0 lo : Nat) : Int), (1 : Int), Builtin.Slice.slicePlaces ((sIx n 0 lo : Nat) : Int) ((sIx n n hi : Nat) : Int) 1)) _ _ s
 rw [p3]
 exact wpAny_pure h
theorem rB (xs : Array Value) (i k : Nat) : ((List.range k).filterMap fun (m : Nat) => xs[((i : Int) + (m : Int) * 1).toNat]?).toArray = ((xs.toList.drop i).take k).toArray := by
 have e : (fun (m : Nat) => xs[((i : Int) + (m : Int) * 1).toNat]?) = fun m => xs[i + m]? := by
  funext m
  have : ((i : Int) + (m : Int) * 1).toNat = i + m := by omega
  rw [this]
 rw [e]
 have := pick_run xs i k
 rw [List.filterMap_map] at this
 have e2 : ((fun x => xs[x]?) ∘ fun x => i + x) = fun m => xs[i + m]? := rfl
 rw [e2] at this
 rw [this]
theorem w5 {t sl : Addr} {items : Array Value} {vl vu : Value} {lo hi : Option Int} {Q : Value -> Shared -> Prop} (ht : IsTup s.heap t items) (hs : s.heap.IsSliceOf sl vl vu .none) (pl : IsPart vl lo) (pu : IsPart vu hi)
  (hw : ¬ (sIx items.size 0 lo = 0 /\ sIx items.size items.size hi = items.size))
  (h : Q (.ref s.heap.objs.size) { s with heap := s.heap.push { cls := .type "tuple", data := .seq ((items.toList.drop (sIx items.size 0 lo)).take (sIx items.size items.size hi - sIx items.size 0 lo)).toArray } })
  (hsz : items.size <= sizeLine) : wpAny (model prog w) A (getItem (.ref t) (.ref sl)) Q E s := by
 have htake : sizeOk (.seq ((items.toList.drop (sIx items.size 0 lo)).take (sIx items.size items.size hi - sIx items.size 0 lo)).toArray) := by
  show ((items.toList.drop (sIx items.size 0 lo)).take (sIx items.size items.size hi - sIx items.size 0 lo)).toArray.size <= sizeLine
  rw [List.size_toArray, List.length_take, List.length_drop, Array.length_toList]
  omega
 have hj : sIx items.size items.size hi <= items.size := uN _ _ (Nat.le_refl _) hi
 obtain ⟨os, hos, hcs, hds⟩ := id hs
 have hTs : s.TypeIs (.ref sl) "slice" := ⟨os, hos, hcs⟩
 unfold getItem
 try with_reducible refine wpAny_holding ?_
 first | refine wpAny_bind (wpAny_pure ?_) | skip
 refine wpAny_bind (wpAny_sequenceKey ht.typeIs (by decide) ?_)
 refine wpAny_bind (wpAny_callSpecial?_slot (name := Str.ofString "__getitem__") ht.typeIs PyProof.Rows.slot_tuple_getitem
  (wpAny_call_entry PyProof.Rows.slot_tuple_getitem ht.typeIs entry_tuple_getitem ?_ (args_tuple_getitem _ _)))
 show wpAny _ _ (Builtin.Tuple.tupleItemsOf (.ref t) >>= _) _ _ s
 refine wpAny_bind (tupleItemsOf_ ht ?_)
 refine wpAny_bind (wpAny_typeOf hTs ?_)
 rw [if_pos (by decide)]
 refine wpAny_bind (nW hs pl pu ?_)
 have hno : ¬ ((((sIx items.size 0 lo : Nat) : Int) == 0 && (1 : Int) == 1 && (sIx items.size items.size hi - sIx items.size 0 lo) == items.size) = true) := by
  intro q
  rw [Bool.and_eq_true, Bool.and_eq_true] at q
  have q1 : ((sIx items.size 0 lo : Nat) : Int) = 0 := eq_of_beq q.1.1
  have q2 : sIx items.size items.size hi - sIx items.size 0 lo = items.size := eq_of_beq q.2
  exact hw ⟨by omega, by omega⟩
 show wpAny _ _ (if (((sIx items.size 0 lo : Nat) : Int) == 0 && (1 : Int) == 1 && (sIx items.size items.size hi - sIx items.size 0 lo) == items.size) = true then _ else _) _ _ s
 rw [if_neg hno, rB]
 first
  | exact wpAny_bind (m := Builtin.Tuple.tupleExact _) (wpAny_newObj_type (wpAny_pure ⟨_, rfl, wpAny_pure h⟩) htake)
  | exact wpAny_bind (m := Builtin.Tuple.tupleExact _) (wpAny_newObj_type (wpAny_bind (wpAny_pure (wpAny_pure ⟨_, rfl, wpAny_pure h⟩))) htake)
  | exact wpAny_bind (wpAny_bind (m := Builtin.Tuple.tupleExact _) (wpAny_newObj_type (wpAny_pure (wpAny_pure ⟨_, rfl, wpAny_pure h⟩)) htake))
  | exact wpAny_bind (wpAny_bind (m := Builtin.Tuple.tupleExact _) (wpAny_newObj_type (wpAny_pure ⟨_, rfl, wpAny_pure h⟩) htake))
end
end HT
namespace L2
open PySem PySem.Spec PyProof.Rows
noncomputable abbrev TO := St -> Hp -> (Option Int -> Hp -> Prop) -> Prop
noncomputable def PO (X : Cx) (e : Option Expr) (t : TO) : Prop :=
 ∀ (pins : List (Addr × Obj)) (s : Shared) (σ : St) (H : Hp) (Q : Option Int -> Hp -> Prop), Inv X pins σ H s -> t σ H Q ->
  wpAny (model X.prog X.w) X.A (evalPart e X.env) (fun u s' => ∃ o H', Inv X pins σ H' s' /\ IsPart u o /\ Q o H') X.xe s
noncomputable def tw : TO := fun _ H Q => Q none H
noncomputable def vI (t : TE) : TO := fun σ H Q => t σ H fun x H1 => ∃ i, x = .int i /\ Q (some i) H1
section
variable {X : Cx} {e : Expr} {te : TE} {lo hi : Option Expr} {tl th : TO} {pos p2 : Pos}
theorem dX : PO X none tw := by
 intro pins s σ H Q I h
 rw [evalPart_none]
 exact wpAny_pure ⟨none, H, I, .none, h⟩
theorem dW (h : PE X e te) : PO X (some e) (vI te) := by
 intro pins s σ H Q I hw
 rw [evalPart_some]
 refine thn (h pins s σ H _ I hw) fun u s1 ⟨x, H1, I1, r1, q1⟩ => ?_
 obtain ⟨i, rfl, q⟩ := q1
 obtain ⟨t, rfl⟩ := r1
 exact ⟨some i, H1, I1, .int i t, q⟩
noncomputable def SlR (X : Cx) (r : V -> Option Int -> Option Int -> Hp -> VK -> Prop) : Prop :=
 ∀ (pins : List (Addr × Obj)) (s : Shared) (σ : St) (H : Hp) (x : V) (v vl vu : Value) (lo hi : Option Int) (sl : Addr) (Q : VK), Inv X pins σ H s -> RelV x v -> s.heap.IsSliceOf sl vl vu .none -> IsPart vl lo -> IsPart vu hi -> r x lo hi H Q ->
  ∃ T id, typeLookup (.type T) "__getitem__" = pure (some (.builtin id)) /\ s.TypeIs v T /\ wpAny (model X.prog X.w) X.A (getItem v (.ref sl)) (EP X pins σ Q) X.xe s
noncomputable def tSl (r : V -> Option Int -> Option Int -> Hp -> VK -> Prop) (te : TE) (tl th : TO) : TE := fun σ H Q => te σ H fun x H1 => tl σ H1 fun l H2 => th σ H2 fun u H3 => r x l u H3 Q
theorem dQ {r : V -> Option Int -> Option Int -> Hp -> VK -> Prop} (hr : SlR X r) (he : PE X e te) (hl : PO X lo tl) (hu : PO X hi th) : PE X (.Subscript e (.Slice lo hi none p2) pos) (tSl r te tl th) := by
 intro pins s σ H Q I h
 refine Subscript_ (thn (he pins s σ H _ I h) fun v s1 ⟨x, H1, I1, r1, q1⟩ => ?_)
 refine wpAny_Slice (thn (hl pins s1 σ H1 _ I1 q1) fun vl s2 ⟨l, H2, I2, pl, q2⟩ => thn (hu pins s2 σ H2 _ I2 q2) fun vu s3 ⟨u, H3, I3, pu, q3⟩ => ?_)
 rw [evalPart_none]
 refine wpAny_pure ?_
 have I4 : Inv X pins σ H3 { s3 with heap := s3.heap.push { cls := .type "slice", data := .fields #[vl, vu, .none] } } := I3.kept (t' := s3.toks) fun b ob q => Heap.get?_push_of_some _ q
 obtain ⟨T, id, hT, ht, hg⟩ := hr pins { s3 with heap := s3.heap.push { cls := .type "slice", data := .fields #[vl, vu, .none] } } σ H3 x v vl vu l u s3.heap.objs.size Q I4 r1 (Heap.IsSliceOf.new ..) pl pu q3
 show wpAny (model X.prog X.w) X.A (subscriptTail e (.Slice lo hi none p2) v (.ref s3.heap.objs.size)) (EP X pins σ Q) X.xe { s3 with heap := s3.heap.push { cls := .type "slice", data := .fields #[vl, vu, .none] } }
 exact tail_any (ops := [.ref s3.heap.objs.size, v]) ht hT hg (by with_unfolding_all rfl)
noncomputable def bF (xs : List V) (lo hi : Option Int) : List V := (xs.drop (HT.sIx xs.length 0 lo)).take (HT.sIx xs.length xs.length hi - HT.sIx xs.length 0 lo)
theorem jO (xs : List V) (lo hi : Option Int) : (bF xs lo hi).length <= xs.length := by
 unfold bF
 rw [List.length_take, List.length_drop]
 omega
noncomputable def wz (K : PySem.W.Frag) : V -> Option Int -> Option Int -> Hp -> VK -> Prop := fun x lo hi H Q => ∃ a xs, x = .ref a /\ SqT K H a xs /\
 ¬ (HT.sIx xs.length 0 lo = 0 /\ HT.sIx xs.length xs.length hi = xs.length) /\ ∀ p, H p = none -> Q (.ref p) (upd H p (.tup (bF xs lo hi)))
theorem uM : SlR X (wz X.K) := by
 intro pins s σ H x v vl vu lo hi sl Q I rx hs pl pu h
 obtain ⟨a, xs, rfl, hx, hw, q⟩ := h
 cases rx
 obtain ⟨its, r, ht, hz⟩ := I.tuple hx
 have hlen : its.toArray.size = xs.length := by rw [List.size_toArray]; exact r.length.symm
 refine ⟨"tuple", _, PyProof.Rows.slot_tuple_getitem.lookup, ht.typeIs, ?_⟩
 refine HT.w5 ht hs pl pu (by rw [hlen]; exact hw) ?_ (by rw [hlen]; exact hz)
 rw [hlen]
 refine ⟨.ref s.heap.objs.size, _, I.laid (t' := s.toks) (o := .tup (bF xs lo hi)) (fun b ob q => Heap.get?_push_of_some _ q) (Nat.le_refl _) ?_, rfl, q _ (I.hok.fresh (Nat.le_refl _))⟩
 exact ⟨Nat.le_trans (jO xs lo hi) hz, _, (r.drop (HT.sIx xs.length 0 lo)).take (HT.sIx xs.length xs.length hi - HT.sIx xs.length 0 lo), IsTup.new _ _⟩
noncomputable def vT (K : PySem.W.Frag) : R2 := fun x y H Q => ∃ a b xs ys, x = .ref a /\ y = .ref b /\ SqT K H a xs /\ SqT K H b ys /\ xs ≠ [] /\ xs.length + ys.length <= sizeLine /\
 (ys = [] -> Q (.ref a) H) /\ (ys ≠ [] -> ∀ p, H p = none -> Q (.ref p) (upd H p (.tup (xs ++ ys))))
theorem ao.nil_iff {xs : List V} {us : List Value} (r : ao xs us) : us = [] ↔ xs = [] := by
 cases r with
 | nil => simp
 | cons _ _ => simp
theorem tW : OpR X (binaryOp .Add) (vT X.K) := by
 intro pins s σ H x y v u Q I rx ry h
 obtain ⟨a, b, xs, ys, rfl, rfl, ha, hb, hx, hz, q1, q2⟩ := h
 cases rx
 cases ry
 obtain ⟨its, r1, p1, _⟩ := I.tuple ha
 obtain ⟨its2, r2, p2, _⟩ := I.tuple hb
 refine HT.xb p1 p2 (fun z => hx (r1.nil_iff.mp z)) (fun z => ⟨.ref a, H, I, rfl, q1 (r2.nil_iff.mp z)⟩) (fun z => ?_) (by rw [<- r1.length, <- r2.length]; exact hz)
 refine ⟨.ref s.heap.objs.size, _, I.laid (t' := s.toks) (o := .tup (xs ++ ys)) (fun b ob q => Heap.get?_push_of_some _ q) (Nat.le_refl _) ?_, rfl, q2 (fun w => z (r2.nil_iff.mpr w)) _ (I.hok.fresh (Nat.le_refl _))⟩
 exact ⟨by rw [List.length_append]; exact hz, _, r1.append r2, IsTup.new _ _⟩
end
noncomputable def ixN (n : Nat) (i : Int) : Option Nat := if 0 <= i then (if i < n then some i.toNat else none) else if -(n : Int) <= i then some (i + n).toNat else none
noncomputable def atI {α : Type} (xs : List α) (i : Int) : Option α := (ixN xs.length i).bind fun j => xs[j]?
theorem lH {n : Nat} {i : Int} {j : Nat} (h : ixN n i = some j) : seqIndex? i n = some j /\ j < n /\ -(n : Int) <= i /\ i < n := by
 unfold ixN at h
 by_cases h0 : 0 <= i
 ·rw [if_pos h0] at h
  by_cases h1 : i < n
  ·rw [if_pos h1] at h
   have e : i.toNat = j := Option.some.inj h
   exact ⟨by rw [seqIndex_of h0 h1, e], by omega, by omega, h1⟩
  ·rw [if_neg h1] at h; cases h
 ·rw [if_neg h0] at h
  by_cases h1 : -(n : Int) <= i
  ·rw [if_pos h1] at h
   have e : (i + n).toNat = j := Option.some.inj h
   exact ⟨by rw [seqIndex_neg (by omega) h1, e], by omega, h1, by omega⟩
  ·rw [if_neg h1] at h; cases h
theorem iU {α : Type} {xs : List α} {i : Int} {v : α} (h : atI xs i = some v) : ∃ j, seqIndex? i xs.length = some j /\ xs[j]? = some v /\ j < xs.length /\ -(xs.length : Int) <= i /\ i < xs.length := by
 unfold atI at h
 cases e : ixN xs.length i with
 | none => rw [e] at h; cases h
 | some j =>
  rw [e] at h
  obtain ⟨h1, h2, h3, h4⟩ := lH e
  exact ⟨j, h1, h, h2, h3, h4⟩
theorem uk {α : Type} {xs : List α} {j : Nat} {v : α} (h : xs[j]? = some v) : atI xs (j : Int) = some v := by
 have hj : j < xs.length := (List.getElem?_eq_some_iff.mp h).1
 have e : ixN xs.length (j : Int) = some j := by
  unfold ixN
  rw [if_pos (by omega), if_pos (by omega)]; simp
 unfold atI; rw [e]; exact h
noncomputable def uz (b : Expr) : Prop := ∀ o i, subscripted b false o i = operate [o, i] (getItem o i)
noncomputable def IxR (X : Cx) (r : R2) : Prop :=
 ∀ (value slice : Expr) (pins : List (Addr × Obj)) (s : Shared) (σ : St) (H : Hp) (x y : V) (v u : Value) (Q : VK), Inv X pins σ H s -> RelV x v -> RelV y u -> r x y H Q ->
  subscripted slice false v u = operate [v, u] (getItem v u) -> wpAny (model X.prog X.w) X.A (subscriptTail value slice v u) (EP X pins σ Q) X.xe s
noncomputable def MtR (X : Cx) (id : String) (r : V -> List V -> Hp -> VK -> Prop) : Prop :=
 ∀ (pins : List (Addr × Obj)) (s : Shared) (σ : St) (H : Hp) (x : V) (xs : List V) (v : Value) (us : List Value) (Q : VK), Inv X pins σ H s -> RelV x v -> ao xs us -> r x xs H Q ->
  wpAny (model X.prog X.w) X.A (call (.builtin id) (v :: us)) (EP X pins σ Q) X.xe s
section
variable {X : Cx} {a b : Expr} {ta tb : TE} {pos : Pos}
theorem IxR.or {r r' : R2} (h : IxR X r) (h' : IxR X r') : IxR X (fun x y H Q => r x y H Q \/ r' x y H Q) := by
 intro value slice pins s σ H x y v u Q I rx ry q hs
 rcases q with q | q
 ·exact h value slice pins s σ H x y v u Q I rx ry q hs
 ·exact h' value slice pins s σ H x y v u Q I rx ry q hs
theorem aG {r : R2} (hr : IxR X r) (ha : PE X a ta) (hb : PE X b tb) (hs : uz b) : PE X (.Subscript a b pos) (tOp r ta tb) := by
 intro pins s σ H Q I h
 exact Subscript_ (jF ha hb I h fun v u s2 x y H2 I2 rx ry q => hr a b pins s2 σ H2 x y v u Q I2 rx ry q (hs _ _))
noncomputable def nR (K : PySem.W.Frag) : R2 := fun x y H Q => ∃ p xs i v, x = .ref p /\ y = .int i /\ SqL K H p xs /\ atI xs i = some v /\ Q v H
noncomputable def nF (K : PySem.W.Frag) : R2 := fun x y H Q => ∃ p xs i v, x = .ref p /\ y = .int i /\ SqT K H p xs /\ atI xs i = some v /\ Q v H
noncomputable def nP : R2 := fun x y H Q => ∃ z i c, x = .str z /\ y = .int i /\ z.length <= sizeLine /\ atI z.cps.toList i = some c /\ Q (.str ⟨#[c]⟩) H
theorem sL : IxR X (nR X.K) := by
 intro value slice pins s σ H x y v u Q I rx ry h hs
 obtain ⟨p, xs, i, z, rfl, rfl, hq, he, q⟩ := h
 cases rx
 obtain ⟨t, rfl⟩ := ry
 obtain ⟨its, r, pl, hz⟩ := I.list hq
 obtain ⟨j, h1, h2, h3, h4, h5⟩ := iU he
 obtain ⟨w, ew, rw'⟩ := r.get h2
 have hl := r.length
 have hn := e7
 have fin : EP X pins σ Q w s := ⟨z, H, I, rw', q⟩
 by_cases h0 : 0 <= i
 ·have hj : i.toNat = j := by
   rw [seqIndex_of h0 h5] at h1
   exact Option.some.inj h1
  exact item_listR pl.isList h0 (by omega) (by rw [hj]; simpa using ew) fin hs
 ·have hj : (i + (its.toArray.size : Int)).toNat = j := by
   rw [seqIndex_neg (by omega) h4] at h1
   rw [List.size_toArray, <- hl]
   exact Option.some.inj h1
  exact subscriptTail_builtinR (x := w) pl.isList.typeIs slot_list_getitem.lookup
   (wpAny_getItem_list_neg (Q := fun r s' => r = w /\ EP X pins σ Q r s') pl.isList (by omega) (by rw [List.size_toArray] <;> omega) (by omega) (by rw [hj]; simpa using ew) ⟨rfl, fin⟩) hs
theorem uQ : IxR X (nF X.K) := by
 intro value slice pins s σ H x y v u Q I rx ry h hs
 obtain ⟨p, xs, i, z, rfl, rfl, hq, he, q⟩ := h
 cases rx
 obtain ⟨t, rfl⟩ := ry
 obtain ⟨its, r, pl, hz⟩ := I.tuple hq
 obtain ⟨j, h1, h2, h3, h4, h5⟩ := iU he
 obtain ⟨w, ew, rw'⟩ := r.get h2
 have hl := r.length
 have hn := e7
 have fin : EP X pins σ Q w s := ⟨z, H, I, rw', q⟩
 exact subscriptTail_builtinR (x := w) pl.typeIs slot_tuple_getitem.lookup
  (getItem_tuple (j := j) (Q := fun r s' => r = w /\ EP X pins σ Q r s') pl (by omega) (by omega) (by rw [List.size_toArray, <- hl]; exact h1) (by simpa using ew) ⟨rfl, fin⟩) hs
theorem uR : IxR X nP := by
 intro value slice pins s σ H x y v u Q I rx ry h hs
 obtain ⟨z, i, c, rfl, rfl, hz, he, q⟩ := h
 obtain ⟨t, rfl⟩ := rx
 obtain ⟨t', rfl⟩ := ry
 obtain ⟨j, h1, h2, h3, h4, h5⟩ := iU he
 have hl : z.cps.toList.length = z.length := by simp [Str.length]
 rw [hl] at h1 h4 h5
 have hn := e7
 exact tail_any (typeIs_str s z t) slot_str_getitem.lookup (getItem_str (c := c) (by
  have e1 : decide (i < -(2 ^ 63 : Int)) = false := decide_eq_false (by omega)
  have e2 : decide (i ≥ 2 ^ 63) = false := decide_eq_false (by omega)
  rw [e1, e2, Bool.or_false]) (by rw [h1]; simpa using h2) ⟨.str ⟨#[c]⟩, H, I.tok _, ⟨_, rfl⟩, q⟩) hs
noncomputable def rIx (K : PySem.W.Frag) : R2 := fun x y H Q => nR K x y H Q \/ nF K x y H Q \/ nP x y H Q
theorem bh : IxR X (rIx X.K) := sL.or (uQ.or uR)
theorem pO (its : List Value) (n j : Nat) (u : Value) : Obj.mapSeq (·.setIfInBounds j u) { cls := .type "list", data := .seq its.toArray n } = { cls := .type "list", data := .seq (its.set j u).toArray n } := by
 simp [Obj.mapSeq]
theorem Inv.lst {pins : List (Addr × Obj)} {σ : St} {H : Hp} {s : Shared} {p : Addr} {xs : List V} (I : Inv X pins σ H s) (h : H p = some (.lst xs)) :
  ∃ (its : List Value) (n : Nat), ao xs its /\ s.heap.get? p = some { cls := .type "list", data := .seq its.toArray n } /\ xs.length <= sizeLine := by
 obtain ⟨z, its, n, r, e⟩ := I.hok p _ h
 exact ⟨its, n, r, e, z⟩
theorem Inv.lstUpd {pins : List (Addr × Obj)} {σ : St} {H : Hp} {s : Shared} {p : Addr} {xs ys : List V} {its its' : List Value} {n n' : Nat} {f : Obj -> Obj} (I : Inv X pins σ H s) (h : H p = some (.lst xs))
  (ho : s.heap.get? p = some { cls := .type "list", data := .seq its.toArray n }) (hf : f { cls := .type "list", data := .seq its.toArray n } = { cls := .type "list", data := .seq its'.toArray n' }) (r : ao ys its') (hz : ys.length <= sizeLine) (t : Nat) :
  Inv X pins σ (upd H p (.lst ys)) { s with heap := s.heap.update p f, toks := t } := by
 have e : (s.heap.update p f).get? p = some { cls := .type "list", data := .seq its'.toArray n' } := by
  rw [Heap.get?_update_self f ho (by rw [hf] <;> rfl), hf]
 refine I.write (x := p) (e := p) (by rw [h]; trivial) (.inl rfl) (fun b u hb q => (Heap.get?_update_other _ _ (Ne.symm hb)).trans q) ⟨_, e⟩ ?_
 exact ⟨hz, its', n', r, e⟩
noncomputable def vQ : V -> V -> V -> Hp -> (Hp -> Prop) -> Prop := fun o i v H Q => ∃ p xs k j, o = .ref p /\ i = .int k /\ H p = some (.lst xs) /\ ixN xs.length k = some j /\ Q (upd H p (.lst (xs.set j v)))
theorem set_list : nQ X vQ := by
 intro pins s σ H o i v ov iv u Q I ro ri rv h
 obtain ⟨p, xs, k, j, rfl, rfl, hp, hj, q⟩ := h
 cases ro
 obtain ⟨t, rfl⟩ := ri
 obtain ⟨its, n, r, ho, hz⟩ := I.lst hp
 obtain ⟨h1, h2, h3, h4⟩ := lH hj
 have hl := r.length
 have hn := e7
 have I' : Inv X pins σ (upd H p (.lst (xs.set j v))) { s with heap := s.heap.update p (Obj.mapSeq (·.setIfInBounds j u)) } :=
  I.lstUpd hp ho (pO its n j u) (r.set rv j) (by rw [List.length_set]; exact hz) s.toks
 by_cases h0 : 0 <= k
 ·have hk : k.toNat = j := by
   rw [seqIndex_of h0 h4] at h1
   exact Option.some.inj h1
  exact PySem.W.ki_setAt ho h0 (by omega) (by rw [List.size_toArray, <- hl]; exact h4) (by rw [hk]; exact ⟨_, I', q⟩)
 ·have hk : (k + (its.toArray.size : Int)).toNat = j := by
   rw [seqIndex_neg (by omega) h3] at h1
   rw [List.size_toArray, <- hl]
   exact Option.some.inj h1
  exact PySem.W.ki_setBack ho (by omega) (by rw [List.size_toArray, <- hl]; exact h3) (by omega) (by rw [hk]; exact ⟨_, I', q⟩)
theorem oN (lo hi : Option Int) (n : Nat) : (sliceBounds lo hi none n).1 = ((HT.sIx n 0 lo : Nat) : Int) /\ (sliceBounds lo hi none n).2.1 = ((HT.sIx n n hi : Nat) : Int) /\ (sliceBounds lo hi none n).2.2 = 1 := by
 refine ⟨?_, ?_, rfl⟩
 ·cases lo with
  | none => simp [sliceBounds, HT.sIx]
  | some i =>
   simp only [sliceBounds, HT.sIx, Option.getD_none, show (1 : Int) > 0 by decide, if_true]
   by_cases h : i < 0
   ·simp only [h, if_true] <;> omega
   ·simp only [h, if_false] <;> omega
 ·cases hi with
  | none => simp [sliceBounds, HT.sIx]
  | some i =>
   simp only [sliceBounds, HT.sIx, Option.getD_none, show (1 : Int) > 0 by decide, if_true]
   by_cases h : i < 0
   ·simp only [h, if_true] <;> omega
   ·simp only [h, if_false] <;> omega
theorem oC (its : List Value) (lo hi : Option Int) : slicePick its.toArray lo hi none = ((its.drop (HT.sIx its.length 0 lo)).take (HT.sIx its.length its.length hi - HT.sIx its.length 0 lo)).toArray := by
 obtain ⟨h1, h2, h3⟩ := oN lo hi its.toArray.size
 unfold slicePick
 rw [h1, h2, h3]
 simp only [sliceRange_one, pick_run, List.size_toArray] <;> rfl
noncomputable def v7 (K : PySem.W.Frag) : V -> Option Int -> Option Int -> Hp -> VK -> Prop := fun x lo hi H Q => ∃ a xs, x = .ref a /\ SqL K H a xs /\ ∀ p, H p = none -> Q (.ref p) (upd H p (.lst (bF xs lo hi)))
theorem fA : SlR X (v7 X.K) := by
 intro pins s σ H x v vl vu lo hi sl Q I rx hs pl pu h
 obtain ⟨a, xs, rfl, hx, q⟩ := h
 cases rx
 obtain ⟨its, r, ht, hz⟩ := I.list hx
 have hlen := r.length
 refine ⟨"list", _, slot_list_getitem.lookup, ht.isList.typeIs, ?_⟩
 refine wpAny_getItem_list_slice ht.isList hs pl pu .none (by simp) ?_ (by rw [List.size_toArray] <;> omega)
 rw [oC, <- hlen]
 refine ⟨.ref s.heap.objs.size, _, I.laid (t' := s.toks) (o := .lst (bF xs lo hi)) (fun b ob q => Heap.get?_push_of_some _ q) (Nat.le_refl _) ?_, rfl, q _ (I.hok.fresh (Nat.le_refl _))⟩
 exact ⟨Nat.le_trans (jO xs lo hi) hz, _, 0, (r.drop (HT.sIx xs.length 0 lo)).take (HT.sIx xs.length xs.length hi - HT.sIx xs.length 0 lo), Heap.get?_push_size _ rfl⟩
noncomputable def dk : V -> Bool
 | .non => true
 | .bl _ => true
 | .int _ => true
 | .str _ => true
 | _ => false
noncomputable def eqV : V -> V -> Bool
 | .non, .non => true
 | .bl a, .bl b => a == b
 | .bl a, .int b => (if a then 1 else 0) == b
 | .int a, .bl b => a == (if b then 1 else 0)
 | .int a, .int b => a == b
 | .str a, .str b => a == b
 | _, _ => false
theorem vp {A : Around} {s : Shared} {y x : V} {u v : Value} (ry : RelV y u) (rx : RelV x v) (fy : dk y = true) (fx : dk x = true) : SeqAt.EqAt A s u v (eqV y x) := by
 cases y with
 | non =>
  cases ry
  cases x with
  | non => cases rx; exact SeqAt.EqAt.same _
  | bl b => cases rx; exact SeqAt.EqAt.none_bool b
  | int b => obtain ⟨t, rfl⟩ := rx; exact SeqAt.EqAt.none_int b t
  | str b => obtain ⟨t, rfl⟩ := rx; exact SeqAt.EqAt.none_str b t
  | _ => exact absurd (show false = true from fx) Bool.false_ne_true
 | bl a =>
  cases ry
  cases x with
  | non => cases rx; exact SeqAt.EqAt.bool_none a
  | bl b => cases rx; exact SeqAt.EqAt.bool_bool a b
  | int b => obtain ⟨t, rfl⟩ := rx; exact SeqAt.EqAt.bool_int a b t
  | str b => obtain ⟨t, rfl⟩ := rx; exact SeqAt.EqAt.bool_str a b t
  | _ => exact absurd (show false = true from fx) Bool.false_ne_true
 | int a =>
  obtain ⟨t', rfl⟩ := ry
  cases x with
  | non => cases rx; exact SeqAt.EqAt.int_none a t'
  | bl b => cases rx; exact SeqAt.EqAt.int_bool a t' b
  | int b => obtain ⟨t, rfl⟩ := rx; exact SeqAt.EqAt.int_int a t' b t
  | str b => obtain ⟨t, rfl⟩ := rx; exact SeqAt.EqAt.int_str a t' b t
  | _ => exact absurd (show false = true from fx) Bool.false_ne_true
 | str a =>
  obtain ⟨t', rfl⟩ := ry
  cases x with
  | non => cases rx; exact SeqAt.EqAt.str_none a t'
  | bl b => cases rx; exact SeqAt.EqAt.str_bool a t' b
  | int b => obtain ⟨t, rfl⟩ := rx; exact SeqAt.EqAt.str_int a t' b t
  | str b => obtain ⟨t, rfl⟩ := rx; exact SeqAt.EqAt.str_str a t' b t
  | _ => exact absurd (show false = true from fx) Bool.false_ne_true
 | _ => exact absurd (show false = true from fy) Bool.false_ne_true
noncomputable def eqU (x : V) (u : Value) : Bool := match u with
 | .none => eqV .non x
 | .bool b => eqV (.bl b) x
 | .int i _ => eqV (.int i) x
 | .str z _ => eqV (.str z) x
 | _ => false
theorem mn {x y : V} {u : Value} (r : RelV y u) (f : dk y = true) : eqU x u = eqV y x := by
 cases y with
 | non => cases r; rfl
 | bl b => cases r; rfl
 | int i => obtain ⟨t, rfl⟩ := r; rfl
 | str z => obtain ⟨t, rfl⟩ := r; rfl
 | _ => exact absurd (show false = true from f) Bool.false_ne_true
theorem fB {x : V} : ∀ {xs : List V} {us : List Value}, ao xs us -> xs.all dk = true -> us.any (eqU x) = xs.any fun y => eqV y x
 | _, _, .nil, _ => rfl
 | y :: xs, u :: us, .cons r t, f => by
  rw [List.all_cons, Bool.and_eq_true] at f
  rw [List.any_cons, List.any_cons, mn r f.1, fB t f.2]
theorem fm {A : Around} {s : Shared} {x : V} {v : Value} (rx : RelV x v) (fx : dk x = true) : ∀ {xs : List V} {us : List Value}, ao xs us -> xs.all dk = true -> ∀ u ∈ us, SeqAt.EqAt A s u v (eqU x u)
 | _, _, .nil, _ => fun u hu => by cases hu
 | y :: xs, u :: us, .cons r t, f => fun u' hu => by
  rw [List.all_cons, Bool.and_eq_true] at f
  rcases List.mem_cons.mp hu with rfl | hu
  ·rw [mn r f.1]; exact vp r rx f.1 fx
  ·exact fm rx fx t f.2 u' hu
noncomputable def inV (x : V) (xs : List V) : Bool := xs.any fun y => eqV y x
noncomputable def rIn (K : PySem.W.Frag) (neg : Bool) : R2 := fun x y H Q => ∃ p xs, y = .ref p /\ (SqL K H p xs \/ SqT K H p xs) /\ dk x = true /\ xs.all dk = true /\ Q (.bl (if neg then !inV x xs else inV x xs)) H
theorem fW : OpR X (compareOp .In) (rIn X.K false) := by
 intro pins s σ H x y v u Q I rx ry h
 obtain ⟨p, xs, rfl, hq, fx, fs, q⟩ := h
 cases ry
 rcases hq with hq | hq
 ·obtain ⟨its, r, pl, hz⟩ := I.list hq
  refine SeqAt.in_listAt (eqU x) pl.isList (fun w hw => fm rx fx r fs w (by simpa using hw)) ⟨.bl _, H, I, rfl, ?_⟩
  rw [show its.toArray.any (eqU x) = its.any (eqU x) by simp, fB r fs]
  exact q
 ·obtain ⟨its, r, pl, hz⟩ := I.tuple hq
  refine SeqAt.in_tupleAt (eqU x) pl (fun w hw => fm rx fx r fs w (by simpa using hw)) ⟨.bl _, H, I, rfl, ?_⟩
  rw [show its.toArray.any (eqU x) = its.any (eqU x) by simp, fB r fs]
  exact q
theorem gS : OpR X (compareOp .NotIn) (rIn X.K true) := by
 intro pins s σ H x y v u Q I rx ry h
 obtain ⟨p, xs, rfl, hq, fx, fs, q⟩ := h
 cases ry
 rcases hq with hq | hq
 ·obtain ⟨its, r, pl, hz⟩ := I.list hq
  refine SeqAt.notIn_listAt (eqU x) pl.isList (fun w hw => fm rx fx r fs w (by simpa using hw)) ⟨.bl _, H, I, rfl, ?_⟩
  rw [show its.toArray.any (eqU x) = its.any (eqU x) by simp, fB r fs]
  exact q
 ·obtain ⟨its, r, pl, hz⟩ := I.tuple hq
  refine SeqAt.notIn_tupleAt (eqU x) pl (fun w hw => fm rx fx r fs w (by simpa using hw)) ⟨.bl _, H, I, rfl, ?_⟩
  rw [show its.toArray.any (eqU x) = its.any (eqU x) by simp, fB r fs]
  exact q
theorem bo : bp X (.builtin "len") (fun xs H Q => ∃ p ys, xs = [.ref p] /\ (SqL X.K H p ys \/ SqT X.K H p ys) /\ Q (.int ys.length) H) := by
 intro pins s σ H xs us Q I r h
 obtain ⟨p, ys, rfl, hq, q⟩ := h
 obtain ⟨u, rfl, rx⟩ := vals1 r
 cases rx
 have hn := e7
 rcases hq with hq | hq
 ·obtain ⟨its, r', pl, hz⟩ := I.list hq
  have hlen := r'.length
  exact Calls.call_len_list pl.isList (by simp only [List.size_toArray] <;> omega) ⟨.int ys.length, H, I.tok _, ⟨s.toks + 1, by rw [List.size_toArray, hlen]⟩, q⟩
 ·obtain ⟨its, r', pl, hz⟩ := I.tuple hq
  have hlen := r'.length
  exact len_tuple pl (by simp only [List.size_toArray] <;> omega) ⟨.int ys.length, H, I.tok _, ⟨s.toks + 1, by rw [List.size_toArray, hlen]⟩, q⟩
theorem jK : bp X (.builtin "len") (fun xs H Q => ∃ z, xs = [.str z] /\ z.length <= sizeLine /\ Q (.int z.length) H) := by
 intro pins s σ H xs us Q I r h
 obtain ⟨z, rfl, hz, q⟩ := h
 obtain ⟨u, rfl, t, rfl⟩ := vals1 r
 have hn := e7
 exact len_str (by omega) ⟨.int z.length, H, I.tok _, ⟨_, rfl⟩, q⟩
theorem fT : bp X (.type "list") (fun xs H Q => ∃ p ys, xs = [.ref p] /\ (SqL X.K H p ys \/ SqT X.K H p ys) /\ ∀ l, H l = none -> Q (.ref l) (upd H l (.lst ys))) := by
 intro pins s σ H xs us Q I r h
 obtain ⟨p, ys, rfl, hq, q⟩ := h
 obtain ⟨u, rfl, rx⟩ := vals1 r
 cases rx
 have fin : ∀ (its : List Value), ao ys its -> ys.length <= sizeLine -> ∀ (h' : Heap) (c' : Nat), (∀ b o', s.heap.get? b = some o' -> h'.get? b = some o') ->
   h'.get? s.heap.objs.size = some { cls := .type "list", dict := none, data := .seq its.toArray c', slots := #[] } -> EP X pins σ Q (.ref s.heap.objs.size) { s with heap := h' } := fun its r' hz h' c' kp e =>
  ⟨.ref s.heap.objs.size, _, I.laid (t' := s.toks) kp (Nat.le_refl _) (show aC X.prog X.w _ h' _ (.lst ys) from ⟨hz, its, c', r', e⟩), rfl, q _ (I.hok.fresh (Nat.le_refl _))⟩
 rcases hq with hq | hq
 ·obtain ⟨its, r', pl, hz⟩ := I.list hq
  have hlen := r'.length
  obtain ⟨o, ho, hc, n, hd⟩ := pl.isList
  exact call_list_seq p (.inl rfl) ho hc hd (fun h' c' kp e => fin its r' hz h' c' kp e) (by simp only [List.size_toArray] <;> omega)
 ·obtain ⟨its, r', pl, hz⟩ := I.tuple hq
  have hlen := r'.length
  obtain ⟨o, ho, hc, n, hd⟩ := pl
  exact call_list_seq p (.inr rfl) ho hc hd (fun h' c' kp e => fin its r' hz h' c' kp e) (by simp only [List.size_toArray] <;> omega)
theorem fS : bp X (.type "tuple") (fun xs H Q => ∃ p ys, xs = [.ref p] /\ ((SqL X.K H p ys /\ ∀ l, H l = none -> Q (.ref l) (upd H l (.tup ys))) \/ (SqT X.K H p ys /\ Q (.ref p) H))) := by
 intro pins s σ H xs us Q I r h
 obtain ⟨p, ys, rfl, h⟩ := h
 obtain ⟨u, rfl, rx⟩ := vals1 r
 cases rx
 rcases h with ⟨hq, q⟩ | ⟨hq, q⟩
 ·obtain ⟨its, r', pl, hz⟩ := I.list hq
  have hlen := r'.length
  refine call_tuple_list pl.isList (fun h' kp => ?_) (by simp only [List.size_toArray] <;> omega)
  have I1 : Inv X pins σ H { s with heap := h' } := I.kept (t' := s.toks) kp
  have I2 : Inv X pins σ (upd H h'.objs.size (.tup ys)) { s with heap := h'.push { cls := .type "tuple", data := .seq its.toArray } } :=
   I1.laid (t' := s.toks) (fun b o e => Heap.get?_push_of_some _ e) (Nat.le_refl _) (show aC X.prog X.w _ _ _ (.tup ys) from ⟨hz, its, r', IsTup.new _ _⟩)
  exact ⟨.ref h'.objs.size, _, I2, rfl, q _ (I1.hok.fresh (Nat.le_refl _))⟩
 ·obtain ⟨its, r', pl, hz⟩ := I.tuple hq
  exact call_tuple_same pl ⟨.ref p, H, I, rfl, q⟩
noncomputable def tyV (K : PySem.W.Frag) (T : String) (x : V) (H : Hp) : Prop := match x with
 | .str _ => T = "str"
 | .int _ => T = "int"
 | .ref p => (T = "list" /\ ∃ xs, SqL K H p xs) \/ (T = "tuple" /\ ∃ o, K.lookup p = some o /\ o.cls = .type "tuple" /\ o.dict = none) \/
   (T = "dict" /\ ((∃ kvs, H p = some (.dK kvs)) \/ ∃ kvs, H p = some (.dT kvs))) \/ (T = "set" /\ ∃ S n, H p = some (.set S n))
 | _ => False
theorem uJ {pins : List (Addr × Obj)} {σ : St} {H : Hp} {s : Shared} {T : String} {x : V} {v : Value} (I : Inv X pins σ H s) (r : RelV x v) (ty : tyV X.K T x H) :
  s.TypeIs v T /\ ∀ a, v = .ref a -> ∃ ob, s.heap.get? a = some ob /\ ob.dict = none := by
 cases x with
 | str z =>
  obtain ⟨t, rfl⟩ := r
  cases (show T = "str" from ty)
  exact ⟨typeIs_str s z t, fun _ e => nomatch e⟩
 | int i =>
  obtain ⟨t, rfl⟩ := r
  cases (show T = "int" from ty)
  exact ⟨typeIs_int s i t, fun _ e => nomatch e⟩
 | ref p =>
  cases r
  rcases ty with ⟨rfl, xs, hq⟩ | ⟨rfl, o, hk, hc, hd⟩ | ⟨rfl, hk⟩ | ⟨rfl, S, n, hk⟩
  ·obtain ⟨its, _, pl, _⟩ := I.list hq
   refine ⟨pl.isList.typeIs, fun a e => ?_⟩
   cases e
   obtain ⟨o, n, e, c, hd, _⟩ := pl
   exact ⟨o, e, hd⟩
  ·refine ⟨⟨o, I.kIn p o hk, hc⟩, fun a e => ?_⟩
   cases e
   exact ⟨o, I.kIn _ o hk, hd⟩
  ·have z : ∃ o, s.heap.get? p = some o /\ o.ExactDict := by
    rcases hk with ⟨kvs, hk⟩ | ⟨kvs, hk⟩
    ·obtain ⟨_, _, _, _, o, _, _, e, ex, _⟩ := I.hok p _ hk
     exact ⟨o, e, ex⟩
    ·obtain ⟨_, _, _, _, o, _, _, e, ex, _⟩ := I.hok p _ hk
     exact ⟨o, e, ex⟩
   obtain ⟨o, e, ex⟩ := z
   refine ⟨⟨o, e, ex.1⟩, fun a e2 => ?_⟩
   cases e2
   exact ⟨o, e, ex.2.1⟩
  ·obtain ⟨o, _, _, _, e, ex, _⟩ := I.hok p _ hk
   refine ⟨⟨o, e, ex.1⟩, fun a e2 => ?_⟩
   cases e2
   exact ⟨o, e, ex.2.1⟩
 | _ => exact False.elim ty
noncomputable def tBM (K : PySem.W.Frag) (T : String) (r : V -> List V -> Hp -> VK -> Prop) (to : TE) (t : TA) : TE := fun σ H Q => to σ H fun x H1 => tyV K T x H1 /\ t σ H1 fun xs H2 => r x xs H2 Q
variable {o e : Expr} {es : List Expr} {to : TE} {t : TA} {name : Str} {apos cpos : Pos} {T id : String} {r : V -> List V -> Hp -> VK -> Prop}
theorem cY (pa : PlainAttrs T) (slot : Slot T name id) (hty : typeOf (.builtin id) = pure (.type "method_descriptor")) (hm : MtR X id r) (ho : PE X o to) (ha : PA X (e :: es) t)
  (hbase : attributeBase o name X.env (eval o X.env) = eval o X.env := by rfl)
  (hfew : ((backTo cpos (starEach (e :: es) X.env)).all (fun x => !x.1) && (backToKw cpos (keywordEach [] X.env)).all (fun x => x.1.isSome)
   && decide ((e :: es).length + ([] : List Keyword).length + (if ([] : List Keyword).isEmpty then 0 else 1) < 30)) = true := by rfl)
  (hline : (apos.endLine == cpos.line) = true := by rfl) (hs : starEach (e :: es) X.env = (false, eval e X.env) :: starEach es X.env := by rfl) (hplain : (backTo cpos (starEach es X.env)).any (·.1) = false := by rfl) :
  PE X (.Call (.Attribute o name apos) (e :: es) [] cpos) (tBM X.K T r to t) := by
 intro pins s σ H Q I h
 refine wpAny_Call_method_late hbase hfew hline rfl (thn (ho pins s σ H _ I h) fun v s1 ⟨x, H1, I1, r1, ty, q1⟩ => ?_)
 obtain ⟨h1, h2⟩ := uJ I1 r1 ty
 refine ⟨T, id, pa, slot, hty, h1, h2, ?_⟩
 have hA := ha cpos pins s1 σ H1 _ I1 q1
 rw [hs] at hA ⊢
 refine Calls.callWith_builtin (by show (false || (backTo cpos (starEach es X.env)).any (·.1)) = false; rw [hplain] <;> rfl) (Calls.evalArgs_plain ?_)
 exact thn hA fun us s2 ⟨vs, H2, I2, r2, q2⟩ => hm pins s2 σ H2 x vs v us Q I2 r1 r2 q2
/- xs.append(e), list.index on a module's tuple .. are MtR facts of 06m -/
end
noncomputable def MtM (X : Cx) (id : String) (r : V -> List V -> Hp -> VK -> Prop) : Prop :=
 ∀ (pins : List (Addr × Obj)) (s : Shared) (σ : St) (H : Hp) (x : V) (xs : List V) (v : Value) (us : List Value) (Q : VK), Inv X pins σ H s -> RelV x v -> ao xs us -> r x xs H Q ->
  wpAny (model X.prog X.w) X.A (call (.builtin id) (v :: us)) (EP X pins σ Q) X.xe s
theorem ao.one : ∀ {x : V} {us : List Value}, ao [x] us -> ∃ u, us = [u] /\ RelV x u
 | _, _, .cons r .nil => ⟨_, rfl, r⟩
theorem ao.rep {xs : List V} {us : List Value} (h : ao xs us) : ∀ k : Nat, ao (List.replicate k xs).flatten (List.replicate k us).flatten
 | 0 => .nil
 | k + 1 => by
  rw [List.replicate_succ, List.replicate_succ, List.flatten_cons, List.flatten_cons]
  exact ao.append h (ao.rep h k)
theorem foldl_rep (its : List Value) : ∀ (k : Nat) (acc : List Value),
  List.foldl (fun x1 x2 => x1 ++ x2) acc.toArray (List.replicate k its.toArray) = (acc ++ (List.replicate k its).flatten).toArray
 | 0, acc => by simp
 | k + 1, acc => by
  have e : acc.toArray ++ its.toArray = (acc ++ its).toArray := by simp
  have e2 : (acc ++ its) ++ (List.replicate k its).flatten = acc ++ (List.replicate (k + 1) its).flatten := by
   rw [List.replicate_succ, List.flatten_cons, List.append_assoc]
  rw [<- e2, <- foldl_rep its k (acc ++ its), <- e, List.replicate_succ, List.foldl_cons]
section
variable {X : Cx} {pins : List (Addr × Obj)} {σ : St} {H : Hp} {s : Shared} {l b : Addr} {xs ys zs : List V}
theorem Inv.lset {its its' : List Value} {n : Nat} {f : Array Value -> Array Value} {t' : Nat} (I : Inv X pins σ H s) (hH : H l = some (.lst xs))
  (e : s.heap.get? l = some { cls := .type "list", data := .seq its.toArray n }) (hf : f its.toArray = its'.toArray) (hv : ao ys its') (hz : ys.length <= sizeLine) :
  Inv X pins σ (upd H l (.lst ys)) { s with heap := s.heap.update l (Obj.mapSeq f), toks := t' } := by
 have q := PySem.IsL.update e f
 rw [hf] at q
 refine I.write (x := l) (e := l) (by rw [hH]; exact trivial) (.inl rfl) (fun b' u hb hu => (Heap.get?_update_other s.heap (Obj.mapSeq f) (Ne.symm hb)).trans hu) ⟨_, q⟩ ?_
 exact ⟨hz, its', _, hv, q⟩
theorem Inv.lnew {its : List Value} {t' : Nat} (I : Inv X pins σ H s) (hv : ao ys its) (hz : ys.length <= sizeLine) :
  Inv X pins σ (upd H s.heap.objs.size (.lst ys)) { s with heap := s.heap.push { cls := .type "list", data := .seq its.toArray }, toks := t' } :=
 I.laid (fun _ _ q => Heap.get?_push_of_some _ q) (Nat.le_refl _) ⟨hz, its, 0, hv, Heap.get?_push_size _ rfl⟩
theorem Inv.fresh (I : Inv X pins σ H s) : H s.heap.objs.size = none := I.hok.fresh (Nat.le_refl _)
theorem Inv.lstM (I : Inv X pins σ H s) (hH : H l = some (.lst xs)) : xs.length <= sizeLine /\ ∃ (its : List Value) (n : Nat), ao xs its /\ xs.length = its.length /\ s.heap.get? l = some { cls := .type "list", data := .seq its.toArray n } := by
 obtain ⟨z, its, n, r, e⟩ := I.hok l _ hH
 exact ⟨z, its, n, r, r.length, e⟩
theorem kM {n : Nat} (h : n <= sizeLine) : Builtin.List.listTooLong n = false := by
 unfold Builtin.List.listTooLong
 exact decide_eq_false (by omega)
end
section
variable {X : Cx}
noncomputable def tq : V -> List V -> Hp -> VK -> Prop := fun x vs H Q => ∃ l xs y, x = .ref l /\ vs = [y] /\ H l = some (.lst xs) /\ xs.length < sizeLine /\ Q .non (upd H l (.lst (xs ++ [y])))
theorem dN : MtM X "list.append" tq := by
 intro pins s σ H x vs v us Q I rx rv h
 obtain ⟨l, xs, y, rfl, rfl, hH, hz, q⟩ := h
 cases rx
 obtain ⟨u, rfl, ru⟩ := rv.one
 obtain ⟨z, its, n, r, hl, e⟩ := I.lstM hH
 refine call_meets F.slot_list_append ⟨_, e, rfl⟩ F.entry_list_append (F.args_list_append_2 _ _) (PySem.list_append l its.toArray n u (by rw [List.size_toArray]; omega)) ⟨e, ?_⟩
 refine ⟨.non, _, I.lset (its' := its ++ [u]) hH e (by simp) (r.append (.cons ru .nil)) ?_, rfl, q⟩
 rw [List.length_append, List.length_singleton]
 omega
noncomputable def ut : V -> List V -> Hp -> VK -> Prop := fun x vs H Q => ∃ l b xs zs, x = .ref l /\ vs = [.ref b] /\ H l = some (.lst xs) /\ H b = some (.lst zs) /\ xs.length + zs.length <= sizeLine /\ Q .non (upd H l (.lst (xs ++ zs)))
theorem qa : MtM X "list.extend" ut := by
 intro pins s σ H x vs v us Q I rx rv h
 obtain ⟨l, b, xs, zs, rfl, rfl, hH, hB, hz, q⟩ := h
 cases rx
 obtain ⟨u, rfl, ru⟩ := rv.one
 cases ru
 obtain ⟨z, its, n, r, hl, e⟩ := I.lstM hH
 obtain ⟨z2, its2, n2, r2, hl2, e2⟩ := I.lstM hB
 have hsz : its.toArray.size + its2.toArray.size <= sizeLine := by rw [List.size_toArray, List.size_toArray]; omega
 have hlong : ¬ (!its.toArray.isEmpty && Builtin.List.listTooLong (its.toArray.size + its2.toArray.size)) = true := by
  rw [kM hsz, Bool.and_false]
  exact Bool.false_ne_true
 refine call_meets F.slot_list_extend ⟨_, e, rfl⟩ F.entry_list_extend (F.args_list_extend_2 _ _)
  (AutoSeq1.list_extend_list_list_0 l its.toArray n b its2.toArray n2 hlong (by rw [List.size_toArray]; omega) (by omega)) ⟨e, e2, ?_⟩
 refine ⟨.non, _, I.lset (its' := its ++ its2) hH e (by simp) (r.append r2) ?_, rfl, q⟩
 rw [List.length_append]
 omega
noncomputable def wU : R2 := fun x y H Q => ∃ l b xs zs, x = .ref l /\ y = .ref b /\ H l = some (.lst xs) /\ H b = some (.lst zs) /\ xs.length + zs.length <= sizeLine /\ ∀ p, H p = none -> Q (.ref p) (upd H p (.lst (xs ++ zs)))
theorem ef : OpR X (binaryOp .Add) wU := by
 intro pins s σ H x y v u Q I rx ry h
 obtain ⟨l, b, xs, zs, rfl, rfl, hH, hB, hz, q⟩ := h
 cases rx
 cases ry
 obtain ⟨z, its, n, r, hl, e⟩ := I.lstM hH
 obtain ⟨z2, its2, n2, r2, hl2, e2⟩ := I.lstM hB
 refine PySem.P.add_list e e2 ?_ (by rw [List.size_toArray, List.size_toArray]; omega)
 have ea : its.toArray ++ its2.toArray = (its ++ its2).toArray := by simp
 rw [ea]
 exact ⟨.ref _, _, I.lnew (t' := s.toks) (r.append r2) (by rw [List.length_append]; omega), rfl, q _ I.fresh⟩
noncomputable def wm : R2 := fun x y H Q => ∃ l k xs, x = .ref l /\ y = .int k /\ H l = some (.lst xs) /\ -(2 ^ 63) <= k /\ k < 2 ^ 63 /\ xs.length * k.toNat <= sizeLine /\
 ∀ p, H p = none -> Q (.ref p) (upd H p (.lst (List.replicate k.toNat xs).flatten))
theorem len_rep {α : Type} (xs : List α) (k : Nat) : (List.replicate k xs).flatten.length = k * xs.length := by
 induction k with
 | zero => simp
 | succ k ih => rw [List.replicate_succ, List.flatten_cons, List.length_append, ih, Nat.succ_mul, Nat.add_comm]
theorem vg : OpR X (binaryOp .Mult) wm := by
 intro pins s σ H x y v u Q I rx ry h
 obtain ⟨l, k, xs, rfl, rfl, hH, h1, h2, hz, q⟩ := h
 cases rx
 obtain ⟨t, rfl⟩ := ry
 obtain ⟨z, its, n, r, hl, e⟩ := I.lstM hH
 have hlen : its.toArray.size * k.toNat <= sizeLine := by rw [List.size_toArray, <- hl]; exact hz
 have hcap : ¬ its.toArray.size * k.toNat > (2 ^ 63 - 1) / 8 := by
  have : (sizeLine : Nat) <= (2 ^ 63 - 1) / 8 := by decide
  omega
 have hfit : ¬ (!Builtin.List.listFitsIndex k) = true := by
  rw [fitsIndex_both h1 h2]
  exact Bool.false_ne_true
 have hlong : ¬ Builtin.List.listTooLong (its.toArray.size * k.toNat) = true := by
  rw [kM hlen]
  exact Bool.false_ne_true
 have hnew : List.foldl (fun x1 x2 => x1 ++ x2) #[] (List.replicate (if its.toArray.isEmpty = true then 0 else k.toNat) its.toArray) = (List.replicate k.toNat its).flatten.toArray := by
  have f0 : ∀ m : Nat, List.foldl (fun x1 x2 => x1 ++ x2) #[] (List.replicate m its.toArray) = (List.replicate m its).flatten.toArray := fun m => by
   have := foldl_rep its m []
   rw [List.nil_append] at this
   exact this
  rw [f0]
  cases its with
  | nil => simp
  | cons a r' => rw [if_neg (by simp)]
 refine wpAny_binaryOp_repeat_ref (T := "list") (U := "int") (by decide) ⟨_, e, rfl⟩ (fun s' => typeIs_int s' k t) noFill_list_mul F.fills_int_mul F.slot_int_rmul repeat_list F.slot_int_index.lookup
  (call_meets F.slot_int_rmul (typeIs_int s k t) F.entry_int_rmul (F.args_int_rmul_2 _ _) (int___rmul___int_list k t l its.toArray n)
   ⟨e, rfl, ⟨_, e, rfl⟩, call_meets F.slot_list_mul ⟨_, e, rfl⟩ F.entry_list_mul (F.args_list_mul_2 _ _) (AutoListH.list___mul___list_int_3 l its.toArray n k t hfit hcap hlong) ⟨e, ?_⟩⟩)
 rw [hnew]
 exact ⟨.ref _, _, I.lnew (t' := s.toks) (r.rep k.toNat) (by rw [len_rep, Nat.mul_comm]; exact hz), rfl, q _ I.fresh⟩
end
section
variable {prog : Program} {w : World} {A : Around} {E : Value -> Shared -> Prop} {s : Shared}
end
section
variable {X : Cx}
end
end L2
namespace Att
open PySem PySem.W PySem.Calls PyProof.Rows
theorem nX {P : Params} {h : Heap} : ∀ (ns : List Int) (vs : List Value), WellAll P h vs (ns.map WData.int) -> IntsAre vs ns := by
 intro ns
 induction ns with
 | nil =>
  intro vs w
  rw [List.map_nil] at w
  cases w
  exact .nil
 | cons n ns ih =>
  intro vs w
  rw [List.map_cons] at w
  cases w with
  | cons a b =>
   cases a
   exact .cons _ _ (ih _ b)
theorem qG {l : OpenLaw} {n : Nat} (hn : l.most = some n) {P : Params} {h : Heap} {args : List WData} {vals : List Value}
  (hpre : l.row.toRowW.claim.pre args = true) (hwl : WellAll P h vals args) :
  ∃ a vs ns, vals = [Value.ref a] /\ args = [WData.list (ns.map WData.int)] /\ h.get? a = some { cls := .type "list", data := .seq vs.toArray } /\ IntsAre vs ns /\ ns.length <= n := by
 have hsh : WShape.hasAll [] args [.list .int] = true := (pre_splitW hpre).1
 have hc : l.pre.holds [] { args := args } = true := (pre_splitW hpre).2
 obtain ⟨d, r, rfl, h1, h2⟩ := hasAllW_cons hsh
 obtain rfl := hasAllW_nil h2
 obtain ⟨xs, rfl, h3⟩ := hasW_list h1
 obtain ⟨ns, rfl⟩ := items_int h3
 have hlen : ns.length <= n := by
  unfold OpenLaw.pre at hc
  have h4 : (WTm.not (.lt (.lit (.int (n : Int))) (.len (.arg 0)))).holds [] { args := [.list (ns.map .int)] } = true := by
   have h4 := (holds_andW hc).1
   rw [hn] at h4
   exact h4
  have h5 := condW_of h4 (w_not (w_lt w_lit (w_len_list (w_arg rfl))))
  rw [List.length_map] at h5
  refine Nat.le_of_not_lt fun q => ?_
  have q' : (n : Int) < ((ns.length : Nat) : Int) := by omega
  first
   | (rw [decide_eq_true q'] at h5; exact absurd h5 (by decide))
   | (simp at h5; omega)
 cases hwl with
 | cons w1 w2 =>
  cases w2
  cases w1 with
  | list ho hall => exact ⟨_, _, ns, rfl, rfl, ho, nX ns _ hall, hlen⟩
theorem qF (l : OpenLaw) (args : List WData) : l.row.toRowW.claim.post args (.bool true) args = true :=
 postW_of (r := l.row.toRowW) (X := (true == true))
  (show WShape.has [] (.bool true) .bool = true by first | rfl | decide | simp [WShape.has, WShape.arms, WShape.armsAll])
  (show (WTm.eq .res (.lit (.bool true))).value [] { args := args, res := some (.bool true), after := args } = some (.bool (true == true)) from w_eq_bool (w_res rfl) w_lit) rfl
theorem w6 {l : OpenLaw} {n : Nat} {q : Program} {loose : List Str} {XP : (Str -> Option Value) -> Heap -> Prop} {YP : World -> Heap -> Prop} {d : DefRec}
  (hn : l.most = some n) (hdf : d.params.defaults = [])
  (call : ∀ (w : World) (s₀ s₁ : Shared) (mg mb : Str -> Option Value) (fa : Addr) (o : Obj) (pm cd doc : Value) (a : Addr) (vs : List Value) (ns : List Int),
   Ground q loose [] XP w s₀ mg mb s₁.heap -> YP w s₁.heap ->
   s₁.heap.get? fa = some o -> o.data = .func (docDef d.name d.params d.body d.scope pm cd doc) -> s₁.heap.CodeRec cd d.name -> mg d.name = some (.ref fa) ->
   s₁.heap.get? a = some { cls := .type "list", data := .seq vs.toArray } -> IntsAre vs ns -> ns.length <= n -> s₁.gens = #[] ->
   codeAny (model l.prog w) callerA (.call (.ref fa) ⟨[.ref a], []⟩) (fun r s' => r = .ok (.ret (.bool true)) /\ OldK s₁.heap s'.heap /\ s'.os = s₁.os /\ AllBare s'.gens) s₁) :
  WalkO q loose XP YP l.row.toRowW d [] (fun f vs => PySem.call f vs) := by
 intro w s₀ s₁ mg mb G Y fa o pm cd doc dV kV ho hd hcd hD hmg hg args vals as hpre hlay hrd hwl hlo
 obtain rfl : dV = .none := Dflts.none hD hdf
 obtain rfl : kV = .none := Dflts.noKw hD
 obtain ⟨a, vs, ns, rfl, rfl, hobj, hints, hlen⟩ := qG hn hpre hwl
 refine enter_call (codeAny_mono (call w s₀ s₁ mg mb fa o pm cd doc a vs ns G Y ho (fd_plain hd) hcd hmg hobj hints hlen hg) fun r s' hq => ?_)
 obtain ⟨rfl, h2, h3, h4⟩ := hq
 exact ⟨.inl ⟨.bool true, .bool true, [], rfl, fun _ => rfl, .bool true, qF l _, fun _ => ⟨List.Pairwise.nil, fun _ hm => (nomatch hm)⟩⟩, h2, h3, h4⟩
section
variable {prog : Program} {w : World} {A : Around} {E : Value -> Shared -> Prop} {s : Shared} {K : Frag}
end
end Att
namespace L2
open PySem PySem.Spec PyProof.Rows
theorem ko : ∀ {vs : List Value} {ns : List Int}, IntsAre vs ns -> ao (ns.map V.int) vs
 | _, _, .nil => .nil
 | _, _, .cons n t h => .cons ⟨t, rfl⟩ (ko h)
noncomputable def jt (H : Hp) : Prop := ∀ b, H b = none \/ ∃ o xs, H b = some (.frz o (.lst xs))
theorem qV {P : Program} {w : World} {K : PySem.W.Frag} {mg mb : Str -> Option Value} {CX : CXT} {k : Nat} {fa a : Addr} {fd : FuncData} {x : Str} {sp : Sp} {s₁ : Shared} {vs : List Value} {ns : List Int}
  (KX : K.In s₁.heap) (hns : s₁.heap.Ns mainGlobals mg) (hb : s₁.heap.Ns builtinsNs mb) (hbb : ∀ x : Str, x ≠ "__name__" -> mb x = bootBuiltins x) (hlim : s₁.heap.NoLimit) (hg : s₁.gens = #[])
  (ha : s₁.heap.get? a = some { cls := .type "list", data := .seq vs.toArray }) (hi : IntsAre vs ns) (hl : ns.length <= sizeLine) (hr : aI k callerA)
  (F : ∀ base : Heap, K.In base -> base.Ns mainGlobals mg -> aE P w K mg base CX k fa fd [x] sp) (hbind : ∀ (s : Shared) (u : Value), BindsTo s fd ⟨[u], []⟩ [(x, u)])
  (hsp : ∀ H : Hp, jt H -> SqL K H a (ns.map V.int) -> sp [.ref a] H (fun v _ => v = .bl true) fun _ _ _ => False)
  (hCX : ∀ H e s', CX [] H s₁ (fun _ _ _ => False) e s' -> False) :
  codeAny (model P w) callerA (.call (.ref fa) ⟨[.ref a], []⟩) (fun r s' => r = .ok (.ret (.bool true)) /\ OldK s₁.heap s'.heap /\ s'.os = s₁.os /\ AllBare s'.gens) s₁ := by
 have rv := ko hi
 have lenV := hi.length
 have core : ∀ H : Hp, jt H -> SqL K H a (ns.map V.int) -> HOk P w H s₁.heap -> (∀ b, H b ≠ none -> b = a) -> (H a ≠ none -> K.lookup a = none) ->
   codeAny (model P w) callerA (.call (.ref fa) ⟨[.ref a], []⟩) (fun r s' => r = .ok (.ret (.bool true)) /\ OldK s₁.heap s'.heap /\ s'.os = s₁.os /\ AllBare s'.gens) s₁ := by
  intro H hO hS hok hA hK
  have base_of : ∀ {b : Addr} {o : Obj}, s₁.heap.get? b = some o -> H b = none -> (dr s₁.heap H).get? b = some o := fun e n => rE e n
  have noA : ∀ {b : Addr} {o : Obj} {es : Array DictEntry} {ep : Nat}, s₁.heap.get? b = some o -> o.data = .dict es ep -> H b = none := fun {b o es ep} e d => by
   cases q : H b with
   | none => rfl
   | some u =>
    have e' : b = a := hA b (by rw [q]; simp)
    subst e'
    rw [ha] at e; cases e
    have d' : Data.seq vs.toArray _ = Data.dict es ep := d
    cases d'
  have nsK : ∀ {b : Addr} {m : Str -> Option Value}, s₁.heap.Ns b m -> (dr s₁.heap H).Ns b m := fun {b m} ⟨o, es, ep, e, d, r⟩ => ⟨o, es, ep, base_of e (noA e d), d, r⟩
  have hKb : K.In (dr s₁.heap H) := fun b o e => base_of (KX b o e) (by
   cases q : H b with
   | none => rfl
   | some u =>
    have e' : b = a := hA b (by rw [q]; simp)
    subst e'
    rw [hK (by rw [q]; simp)] at e; cases e)
  have hM : Mod K mg (dr s₁.heap H) := ⟨hKb, nsK hns, ⟨mb, nsK hb, hbb⟩, let ⟨mc, h1, h2⟩ := hlim; ⟨mc, nsK h1, h2⟩⟩
  have e0 : dn P w K mg (dr s₁.heap H) callerA [] s₁ H := ⟨rfl, hM, fun b o e => tI e, Nat.le_of_eq (qP _ _), trivial, fun b hb => absurd (show b ∈ ([] : List Addr) from hb) (by simp), hok, .of_eq hg⟩
  refine codeAny_mono ((F _ hKb (nsK hns)).run callerA [] s₁ H ⟨[.ref a], []⟩ [.ref a] [.ref a] _ _ hr e0 (hbind s₁ (.ref a)) (.cons rfl .nil) (hsp H hO hS)) fun r s' h => ?_
  cases r with
  | error e => exact (hCX H e s' h).elim
  | ok fl =>
   cases fl with
   | next => exact False.elim h
   | brk => exact False.elim h
   | cont => exact False.elim h
   | ret u =>
    obtain ⟨v, H', os, bare, un, hok', r', q⟩ := h
    have q' : v = .bl true := q
    subst q'
    obtain rfl : u = Value.bool true := r'
    refine ⟨rfl, OldK.of_keep fun b o e => ?_, os, bare⟩
    cases q : H b with
    | none => exact un.keep b o e q (by intro z; exact absurd (show b ∈ ([] : List Addr) from z) (by simp)) (by simp)
    | some u =>
     rcases hO b with z | ⟨ob, xs, z⟩
     ·rw [q] at z; cases z
     ·have z2 := un.frzs b ob _ z
      obtain ⟨e1, _⟩ := hok b _ z
      obtain ⟨e2, _⟩ := hok' b _ z2
      rw [e] at e1; cases e1
      exact e2
 cases hk : K.lookup a with
 | some o =>
  have e := KX a o hk
  rw [ha] at e
  cases e
  refine core (fun _ => none) (fun _ => .inl rfl) (.inr ⟨_, vs.toArray, _, hk, rfl, rfl, rfl, by rw [List.size_toArray, lenV]; exact hl, by simpa using rv⟩) (fun b u z => by have z' : (none : Option HO) = some u := z; cases z') (fun b z => absurd rfl z) fun z => absurd rfl z
 | none =>
  refine core (fun b => if b = a then some (.frz { cls := .type "list", data := .seq vs.toArray } (.lst (ns.map V.int))) else none) (fun b => ?_) (.inl (.inr ⟨{ cls := .type "list", data := .seq vs.toArray }, if_pos rfl⟩)) (fun b u z => ?_) (fun b z => ?_) fun _ => hk
  ·by_cases hb : b = a
   ·exact .inr ⟨_, _, if_pos hb⟩
   ·exact .inl (if_neg hb)
  ·by_cases hb : b = a
   ·have z' := (if_pos hb).symm.trans z
    cases z'
    subst hb
    exact ⟨ha, by rw [List.length_map]; exact hl, vs, _, rv, ha⟩
   ·have z' := (if_neg hb).symm.trans z
    cases z'
  ·by_cases hb : b = a
   ·exact hb
   ·exact absurd (if_neg hb) z
theorem xa {l : PySem.W.OpenLaw} {n k : Nat} {q : Program} {loose : List Str} {XP : (Str -> Option Value) -> Heap -> Prop} {YP : World -> Heap -> Prop} {d : DefRec} {K : Params -> PySem.W.Frag} {CX : World -> CXT} {sp : World -> Sp} {x : Str}
  (hn : l.most = some n) (hn2 : n <= sizeLine) (hdf : d.params.defaults = []) (hr : aI k callerA)
  (hY : ∀ (w : World) (h : Heap), YP w h -> (K w.params).In h)
  (F : ∀ (w : World) (mg : Str -> Option Value) (fa : Addr) (h : Heap), (K w.params).In h -> h.Ns mainGlobals mg -> mg d.name = some (.ref fa) ->
   ∃ fd : FuncData, (∀ (s : Shared) (u : Value), BindsTo s fd ⟨[u], []⟩ [(x, u)]) /\
    ∀ base : Heap, (K w.params).In base -> base.Ns mainGlobals mg -> aE l.prog w (K w.params) mg base (CX w) k fa fd [x] (sp w))
  (hsp : ∀ (w : World) (H : Hp) (a : Addr) (ns : List Int), ns.length <= n -> jt H -> SqL (K w.params) H a (ns.map V.int) -> sp w [.ref a] H (fun v _ => v = .bl true) fun _ _ _ => False)
  (hCX : ∀ (w : World) (H : Hp) (s : Shared) (e : Value) (s' : Shared), CX w [] H s (fun _ _ _ => False) e s' -> False) :
  PySem.W.WalkO q loose XP YP l.row.toRowW d [] (fun f vs => PySem.call f vs) := by
 refine Att.w6 hn hdf fun w s₀ s₁ mg mb fa o pm cd doc a vs ns G Y ho hd hcd hmg hobj hints hlen hg => ?_
 have KX := hY w _ Y
 obtain ⟨fd, hb, hF⟩ := F w mg fa _ KX G.T.g hmg
 exact qV KX G.T.g G.T.b G.T.builtins G.T.nolimit hg hobj hints (Nat.le_trans hlen hn2) hr hF hb (fun H hO hS => hsp w H a ns hlen hO hS) fun H e s' => hCX w H s₁ e s'
end L2
/- THE LAST THEOREM (shape; LID, My.* are yours):
  My.Adr: a structure of the addresses that your layer names (classes, functions); My.Txt K t: a structure (Prop) of the equations over K;
  My.txt_mk : {K} {implicit addresses ..} (e1 : nsIn K mainGlobals "law" = some (some (.ref f))) (e2 : K.lookup f = some ⟨oc, od, .func (fnOf "law" "law" params body scope dV kV doc pm an cdv ct), sl⟩) (e3 : codeIn K cdv "law" = true) .. : ∃ t, My.Txt K t
set_option maxRecDepth 100000 in
set_option maxHeartbeats 0 in
theorem PySem.Challenge.cw_LID_holds : PySem.Challenge.rw_LID.Holds := by
 w_on; o_law; k_head; (case hw => w_witness2)
 k_fill
 refine L2.xa (l := PySem.Challenge.rw_LID) (n := 63) (k := 40) (x := "script") (CX := fun w => ..) (sp := fun _ => My.sp_law) rfl (by decide) rfl ⟨rfl, by decide, by decide⟩ (fun w h Y => PySem.W.kIn_of Y) ?F ?S ?C
 case F =>
  intro w mg fa h KX G hmg
  have T : ∃ t, My.Txt (L2.KOf KX) t := by
   dsimp only [L2.KOf]
   refine' My.txt_mk ?e1 ?e2 ?e3 ..
   (case e1 => PySem.W.k_is)
   (case e2 => PySem.W.k_is)
   ..
  obtain ⟨t, T⟩ := T
  have e0 := hmg.symm.trans (PySem.W.mg_of KX G T.law)
  cases e0
  exact ⟨_, fun s u => .of_eq rfl, fun base kb nb => My.law_fn T kb nb⟩
 case S => exact fun w H a ns hl hO hS => ..
 case C => exact ..
(the tactic k_is has no namespace: write k_is) -/
namespace L2
open PySem PySem.Spec PyProof.Rows
noncomputable def cA (s : Stmt) : Arguments := match s with
 | .FunctionDef _ a _ _ _ _ _ _ _ _ => a
 | _ => { posonlyargs := [], args := [], vararg := none, kwonlyargs := [], kw_defaults := [], kwarg := none, defaults := [] }
noncomputable def bR (s : Stmt) : List Stmt := match s with
 | .FunctionDef _ _ b _ _ _ _ _ _ _ => b
 | _ => []
noncomputable def aB (s : Stmt) : Scope := match s with
 | .FunctionDef _ _ _ _ _ _ sc _ _ _ => sc
 | _ => { kind := .function, names := [], isGenerator := false, isCoroutine := false }
noncomputable abbrev CX0 : CXT := fun _ _ _ _ _ _ => False
noncomputable abbrev E0 : XK := fun _ _ _ => False
theorem mP {X : Cx} : eg CX0 X E0 := fun _ _ _ _ _ _ _ h => h.elim
structure Fun (K : PySem.W.Frag) (x qual : Str) (st : Stmt) (f : Addr) (fd : FuncData) : Prop where
 ex : ∃ (oc : Value) (od : Option Addr) (kV doc pm : Value) (an : Option Addr) (cdv ct : Value) (osl : Array (Option Value)),
  fd = PySem.W.fnOf x qual (cA st) (bR st) (aB st) .none kV doc pm an cdv ct /\ K.lookup f = some ⟨oc, od, .func fd, osl⟩ /\ PySem.W.codeIn K cdv qual = true
 kp : PySem.W.keepIn K (.ref f) = true
section
variable {P : Program} {w : World} {K : PySem.W.Frag} {mg : Str -> Option Value} {base : Heap}
theorem Fun.ok {x qual : Str} {st : Stmt} {f : Addr} {fd : FuncData} {N ps : List Str} {k : Nat} {sp : Sp} (F : Fun K x qual st f fd) (S : aL N ps (aB st)) (len : ∀ vs H Q E, sp vs H Q E -> vs.length = ps.length)
  (hbody : ∀ (cdv : Value) (A : Around) (outer : List Env) (s : Shared) (H : Hp) (vs : List V) (Q : VK) (E : XK), aI k (A.deeper (envOfC qual (aB st) s.heap.objs.size f cdv)) -> sp vs H Q E ->
   ∃ t, PSs (cw CX0 P w K mg base N qual (aB st) f cdv A outer s H E).nox (bR st) t /\ t { nx := fun _ H' => Q .non H', rt := Q } (start N vs) H) : aE P w K mg base CX0 (k + 1) f fd ps sp := by
 obtain ⟨oc, od, kV, doc, pm, an, cdv, ct, osl, rfl, lk, hcd⟩ := F.ex
 refine ny lk hcd S len fun A outer s H vs Q E hr hsp => ?_
 obtain ⟨t, h, q⟩ := hbody cdv A outer s H vs Q E hr hsp
 exact ⟨t, h.nox, q⟩
theorem Fun.binds {x qual : Str} {st : Stmt} {f : Addr} {fd : FuncData} {ps : List Str} (F : Fun K x qual st f fd)
  (h : ∀ (kV doc pm : Value) (an : Option Addr) (cdv ct : Value) (us : List Value), us.length = ps.length -> bindArgs (PySem.W.fnOf x qual (cA st) (bR st) (aB st) .none kV doc pm an cdv ct) ⟨us, []⟩ = pure (ps.zip us)) : Binds K fd ps [] := by
 obtain ⟨oc, od, kV, doc, pm, an, cdv, ct, osl, rfl, lk, hcd⟩ := F.ex
 exact .all (h kV doc pm an cdv ct)
theorem fE {x qual : Str} {st : Stmt} {f : Addr} {oc : Value} {od an : Option Addr} {osl : Array (Option Value)} {kV doc pm cdv ct : Value} (l : K.lookup f = some ⟨oc, od, .func (PySem.W.fnOf x qual (cA st) (bR st) (aB st) .none kV doc pm an cdv ct), osl⟩)
  (c : PySem.W.codeIn K cdv qual = true) (k : PySem.W.keepIn K (.ref f) = true) : Fun K x qual st f (PySem.W.fnOf x qual (cA st) (bR st) (aB st) .none kV doc pm an cdv ct) := ⟨⟨oc, od, kV, doc, pm, an, cdv, ct, osl, rfl, l, c⟩, k⟩
end
theorem qi {n : Nat} (h : n <= 1000) : n < sizeLine := Nat.lt_of_le_of_lt h (by decide)
section
variable {X : Cx}
theorem pv (i : Nat) {x : Str} {pos : Pos} (hN : X.N[i]? = some x := by rfl) (hv : Vis X.env.scope x := by first | exact Or.inl rfl | exact Or.inr (Or.inl rfl) | exact Or.inr (Or.inr rfl)) (hd : (x == ("__debug__" : Str)) = false := by decide)
  (hcd : (x == ("__classdict__" : Str)) = false := by decide) : PE X (.Name x pos) (nO i) := uL hN hv hd hcd
end
theorem bc {A B : Prop} (h : B) : if false = true then A else B := by
 rw [if_neg Bool.false_ne_true]
 exact h
theorem bG {A B : Prop} (h : A) : if true = true then A else B := by
 rw [if_pos rfl]
 exact h
theorem bb {c A B : Prop} [Decidable c] (h1 : c -> A) (h2 : ¬ c -> B) : if c then A else B := by
 by_cases h : c
 ·rw [if_pos h]
  exact h1 h
 ·rw [if_neg h]
  exact h2 h
theorem js {c A B : Prop} [Decidable c] (hc : c) (h : B) : if (!decide c) = true then A else B := by
 rw [decide_eq_true hc]
 exact bc h
noncomputable def aj (H H' : Hp) : Prop := ∀ b o, H b = some o -> H' b = some o
theorem aj.refl (H : Hp) : aj H H := fun _ _ h => h
theorem aj.trans {H H1 H2 : Hp} (a : aj H H1) (b : aj H1 H2) : aj H H2 := fun c o h => b c o (a c o h)
theorem aj.free {H H' : Hp} (e : aj H H') {l : Addr} (h : H' l = Option.none) : H l = Option.none := by
 cases q : H l with
 | none => rfl
 | some o =>
  rw [e l o q] at h
  cases h
theorem aj.seq {K : PySem.W.Frag} {H H' : Hp} {a : Addr} {xs : List V} (e : aj H H') (h : SqL K H a xs) : SqL K H' a xs := by
 rcases h with (h | ⟨o, h⟩) | h
 ·exact .inl (.inl (e _ _ h))
 ·exact .inl (.inr ⟨o, e _ _ h⟩)
 ·exact .inr h
noncomputable def bJ (env : Env) : List (Str × NameKind) -> List (Str × Addr) -> List (Str × Addr)
 | [], acc => acc
 | (x, k) :: r, acc => if (k == NameKind.free) = true then (match env.cells.lookup x with | some c => bJ env r ((x, c) :: acc) | none => bJ env r acc) else bJ env r acc
theorem fX (env : Env) : ∀ (ns : List (Str × NameKind)) (acc : List (Str × Addr)) (x : Str) (c : Addr), (x, c) ∈ bJ env ns acc -> (x, c) ∈ acc \/ env.cells.lookup x = some c
 | [], acc, x, c, h => .inl h
 | (y, k) :: r, acc, x, c, h => by
  unfold bJ at h
  split at h
  ·split at h
   ·next d e =>
    rcases fX env r _ x c h with z | z
    ·rcases List.mem_cons.mp z with q | q
     ·cases q; exact .inr e
     ·exact .inl q
    ·exact .inr z
   ·exact fX env r acc x c h
  ·exact fX env r acc x c h
theorem gg (env : Env) : ∀ (ns : List (Str × NameKind)) (acc : List (Str × Addr)) (p : Str × Addr), p ∈ acc -> p ∈ bJ env ns acc
 | [], acc, p, h => h
 | (y, k) :: r, acc, p, h => by
  unfold bJ
  split
  ·split
   ·exact gg env r _ p (List.mem_cons_of_mem _ h)
   ·exact gg env r _ p h
  ·exact gg env r _ p h
theorem gi (env : Env) : ∀ (ns : List (Str × NameKind)) (acc : List (Str × Addr)) (x : Str) (c : Addr), (x, NameKind.free) ∈ ns -> env.cells.lookup x = some c -> (x, c) ∈ bJ env ns acc
 | [], acc, x, c, h, _ => nomatch h
 | (y, k) :: r, acc, x, c, h, e => by
  unfold bJ
  rcases List.mem_cons.mp h with q | q
  ·cases q
   rw [if_pos (show (NameKind.free == NameKind.free) = true from rfl), e]
   exact gg env r _ _ List.mem_cons_self
  ·split
   ·split
    ·exact gi env r _ x c q e
    ·exact gi env r _ x c q e
   ·exact gi env r _ x c q e
theorem rT {l : List (Str × Addr)} {x : Str} {c : Addr} (h : (x, c) ∈ l) : ∃ d, l.lookup x = some d := by
 induction l with
 | nil => cases h
 | cons p r ih =>
  obtain ⟨y, d⟩ := p
  rw [List.lookup_cons]
  cases hx : x == y with
  | true => exact ⟨d, rfl⟩
  | false =>
   rcases List.mem_cons.mp h with q | q
   ·cases q
    rw [beq_self_eq_true] at hx
    cases hx
   ·exact ih q
theorem dg {env : Env} {ns : List (Str × NameKind)} {x : Str} {c : Addr} (h : (bJ env ns []).lookup x = some c) : env.cells.lookup x = some c := by
 rcases fX env ns [] x c (PySem.mem_of_lookup h) with z | z
 ·cases z
 ·exact z
theorem lb {env : Env} {ns : List (Str × NameKind)} {x : Str} {c : Addr} (h : (x, NameKind.free) ∈ ns) (e : env.cells.lookup x = some c) : (bJ env ns []).lookup x = some c := by
 obtain ⟨d, q⟩ := rT (gi env ns [] x c h e)
 rw [q, <- dg q, e]
theorem pU {env : Env} {scope : Scope} (h : ∀ x ∈ scope.names, x.2 = NameKind.free -> ∃ c, env.cells.lookup x.1 = some c) : closureFor scope env = pure (bJ env scope.names []) := by
 have go : ∀ (ns : List (Str × NameKind)) (acc : List (Str × Addr)), (∀ x ∈ ns, x.2 = NameKind.free -> ∃ c, env.cells.lookup x.1 = some c) ->
   (forIn ns acc (fun x cs => match x with | (name, kind) => if (kind == NameKind.free) = true then (do let c <- cellOf env name; pure (ForInStep.yield ((name, c) :: cs))) else pure (ForInStep.yield cs)) : Sem (List (Str × Addr))) = pure (bJ env ns acc) := by
  intro ns
  induction ns with
  | nil => intro acc _; rfl
  | cons p r ih =>
   intro acc hh
   obtain ⟨y, k⟩ := p
   rw [List.forIn_cons]
   unfold bJ
   by_cases hk : (k == NameKind.free) = true
   ·rw [if_pos hk]
    obtain ⟨c, e⟩ := hh (y, k) List.mem_cons_self (by cases k <;> first | rfl | cases hk)
    dsimp only at e ⊢
    rw [if_pos hk]
    unfold cellOf
    rw [e]
    exact ih _ fun x hx => hh x (List.mem_cons_of_mem _ hx)
   ·rw [if_neg hk]
    dsimp only
    rw [if_neg hk]
    exact ih _ fun x hx => hh x (List.mem_cons_of_mem _ hx)
 unfold closureFor
 have q := go scope.names [] h
 simp only [bind_pure]
 exact q
noncomputable def aF (X : Cx) (scope : Scope) (N : List Str) (C : Addr) (s0 : Shared) (H0 : Hp) (fp : List Addr) : Cx :=
 { X with N := N, s₀ := s0, H₀ := H0, env := compEnvC scope (bJ X.env scope.names []) C X.env, outer := X.stack, stack := X.stack, ex := fp, fn := fun _ => false, pn := [], xe := fun _ _ => False }
noncomputable def emb (ix : List (Option Nat)) (σ : St) : St := ix.map fun o => match o with | none => none | some j => (σ[j]?).join
noncomputable def jm (No : List Str) (out : Str -> Option NameKind) (scope : Scope) (N : List Str) (ix : List (Option Nat)) : Bool :=
 (N.length == ix.length) && (N.zip ix).all fun p => match p.2 with | none => true | some j => (No[j]? == some p.1) && (scope.names.lookup p.1 == some NameKind.free) && ((out p.1 == some .cell) || (out p.1 == some .free))
structure bD (X : Cx) (scope : Scope) (N : List Str) (ix : List (Option Nat)) : Prop where
 kind : scope.kind = .function
 names : scope.names.all (fun x => (x.2 != .cell) && ((x.2 != .local) || (scope.names.lookup x.1 == some .local)) && ((x.2 != .free) || (X.env.kindOf x.1 == some .cell) || (X.env.kindOf x.1 == some .free))) = true
 em : jm X.N X.env.kindOf scope N ix = true
 nd : N.Nodup
theorem jj {scope : Scope} {env : Env} {x : Str} {k : NameKind} : ∀ {ns : List (Str × NameKind)}, (ns.map fun (n, k) => if (k == NameKind.free && env.scope.kind == .function && env.kindOf n == some .cell) = true then (n, NameKind.cell) else (n, k)).lookup x = some k ->
  (k = .cell \/ k = .free) -> (∀ y ∈ ns, y.2 ≠ .cell) -> (x, NameKind.free) ∈ ns
 | [], h, _, _ => by cases h
 | (n, k') :: r, h, hk, hc => by
  have ih := fun h' => jj (scope := scope) (env := env) (x := x) (k := k) (ns := r) h' hk fun y hy => hc y (List.mem_cons_of_mem _ hy)
  have key : ∀ k'' : NameKind, List.lookup x ((n, k'') :: (r.map fun (n, k) => if (k == NameKind.free && env.scope.kind == .function && env.kindOf n == some .cell) = true then (n, NameKind.cell) else (n, k))) = some k ->
    (k'' = k' \/ (k'' = .cell /\ k' = .free)) -> (x, NameKind.free) ∈ (n, k') :: r := fun k'' h hq => by
   rw [List.lookup_cons] at h
   cases hx : x == n with
   | true =>
    rw [hx] at h
    cases h
    have e : x = n := eq_of_beq hx
    subst e
    rcases hq with q | ⟨_, q⟩
    ·rcases hk with z | z
     ·exact absurd (q.symm.trans z) (hc (x, k') List.mem_cons_self)
     ·rw [<- q, z]; exact List.mem_cons_self
    ·rw [q]; exact List.mem_cons_self
   | false =>
    rw [hx] at h
    exact List.mem_cons_of_mem _ (ih h)
  rw [List.map_cons] at h
  dsimp only at h
  split at h
  ·next hh =>
   refine key _ h (.inr ⟨rfl, ?_⟩)
   cases k' <;> first | rfl | (simp at hh)
  ·exact key _ h (.inl rfl)
theorem mw {env : Env} {x : Str} : ∀ {ns : List (Str × NameKind)}, ns.lookup x = some NameKind.free -> ∃ k, (k = NameKind.cell \/ k = NameKind.free) /\
  (ns.map fun (n, k) => if (k == NameKind.free && env.scope.kind == .function && env.kindOf n == some .cell) = true then (n, NameKind.cell) else (n, k)).lookup x = some k
 | [], h => by cases h
 | (n, k') :: r, h => by
  rw [List.lookup_cons] at h
  rw [List.map_cons]
  dsimp only
  cases hx : x == n with
  | true =>
   rw [hx] at h
   cases h
   split
   ·exact ⟨_, .inl rfl, by rw [List.lookup_cons, hx]⟩
   ·exact ⟨_, .inr rfl, by rw [List.lookup_cons, hx]⟩
  | false =>
   rw [hx] at h
   obtain ⟨k, hk, e⟩ := mw (env := env) (ns := r) h
   refine ⟨k, hk, ?_⟩
   split <;> (rw [List.lookup_cons, hx]; exact e)
section
variable {X : Cx} {scope : Scope} {N : List Str} {ix : List (Option Nat)}
theorem bD.nocell (L : bD X scope N ix) : ∀ x ∈ scope.names, x.2 ≠ .cell := fun x hx z => by
 have q := List.all_eq_true.mp L.names x hx
 rw [z] at q
 simp at q
theorem bD.locals (L : bD X scope N ix) : ∀ x ∈ scope.names, x.2 = .local -> scope.names.lookup x.1 = some .local := fun x hx z => by
 have q := List.all_eq_true.mp L.names x hx
 rw [z] at q
 simpa using q
theorem bD.frees (L : bD X scope N ix) : ∀ x ∈ scope.names, x.2 = .free -> X.env.kindOf x.1 = some .cell \/ X.env.kindOf x.1 = some .free := fun x hx z => by
 have q := List.all_eq_true.mp L.names x hx
 rw [z] at q
 simpa using q
theorem bD.clos (L : bD X scope N ix) (ok : X.Ok) : closureFor scope X.env = pure (bJ X.env scope.names []) :=
 pU fun x hx z => ok.has _ (L.frees x hx z)
theorem bD.len (L : bD X scope N ix) : N.length = ix.length := by
 have q := L.em
 unfold jm at q
 rw [Bool.and_eq_true] at q
 exact eq_of_beq q.1
theorem bD.out (L : bD X scope N ix) {i j : Nat} {x : Str} (h1 : N[i]? = some x) (h2 : ix[i]? = some (some j)) : X.N[j]? = some x /\ scope.names.lookup x = some NameKind.free /\ (X.env.kindOf x = some .cell \/ X.env.kindOf x = some .free) := by
 have q := L.em
 unfold jm at q
 rw [Bool.and_eq_true] at q
 have hz : (N.zip ix)[i]? = some (x, some j) := by
  rw [List.getElem?_zip_eq_some]
  exact ⟨h1, h2⟩
 have r := List.all_eq_true.mp q.2 _ (List.mem_of_getElem? hz)
 simp only [Bool.and_eq_true, Bool.or_eq_true, beq_iff_eq] at r
 exact ⟨r.1.1, r.1.2, r.2⟩
theorem vZ (L : bD X scope N ix) {pins : List (Addr × Obj)} {σ : St} {H2 : Hp} {s2 : Shared} {C : Addr} {fp : List Addr} (I2 : Inv X pins σ H2 s2) (hC : s2.heap.objs.size <= C) (hf : ∀ b ∈ fp, bH X pins H2 b) (hb : ∀ b ∈ fp, b < s2.heap.objs.size) :
  (aF X scope N C s2 H2 fp).Ok where
 mod := I2.ok.mod
 kind := L.kind
 glob := I2.ok.glob
 blt := I2.ok.blt
 above := hC
 inj := fun x y c h1 h2 => I2.ok.inj x y c (dg h1) (dg h2)
 has := fun x hx => by
  have hm : (x, NameKind.free) ∈ scope.names := by
   rcases hx with hx | hx
   ·exact jj (scope := scope) (env := X.env) hx (.inl rfl) L.nocell
   ·exact jj (scope := scope) (env := X.env) hx (.inr rfl) L.nocell
  obtain ⟨c, e⟩ := I2.ok.has x (L.frees _ hm rfl)
  exact ⟨c, lb hm e⟩
 cab := fun x c h _ => Bool.noConfusion h
 hd := I2.ok.hd
 frames := I2.ok.frames
 stk := .inl rfl
 exf := fun b h => ⟨Nat.ne_of_lt (Nat.lt_of_lt_of_le (hb b h) hC), fun x c e => (hf b h).2.2.2.2.1 x c (dg e)⟩
 bs := fun b o e => I2.bs b o e
 bsz := Nat.le_trans I2.ok.bsz I2.sz
 noex := fun b o e h => by
  rcases (hf b h).2.2.2.1 with z | z
  ·exact I2.ok.noex b o e z
  ·exact absurd (Nat.lt_of_lt_of_le (Heap.lt_size e) (Nat.le_trans I2.ok.bsz z)) (Nat.lt_irrefl _)
 exfs := fun b h z => (List.mem_cons.mp (I2.stkSub b z)).elim (hf b h).2.1 (hf b h).2.2.1
 funs := I2.stack
 frf := fun b h => I2.stkFree b h
end
noncomputable def PTs (X : Cx) (ifs : List Expr) (t : TT) : Prop :=
 ∀ (pins : List (Addr × Obj)) (s : Shared) (σ : St) (H : Hp) (Q : Bool -> Hp -> Prop), Inv X pins σ H s -> t σ H Q ->
  wpAny (model X.prog X.w) X.A (forIn ifs true fun c r => if r = true then do let ok <- isTrue c X.env (eval c X.env); pure (ForInStep.yield ok) else pure (ForInStep.yield r)) (TP X pins σ Q) X.xe s
noncomputable def bU : TT := fun _ H Q => Q true H
theorem bz {X : Cx} : PTs X [] bU := fun _ _ _ H _ I h => wpAny_tests_nil ⟨H, I, h⟩
theorem cK {X : Cx} {c : Expr} {t : TT} (h : PT X c t) : PTs X [c] t := fun pins s σ H Q I q => wpAny_tests_one (h pins s σ H Q I q)
section
variable {prog : Program} {w : World} {A : Around} {R : Result -> Shared -> Prop} {s : Shared}
theorem tK {elt tg iter : Expr} {ifs : List Expr} {scope : Scope} {pos : Pos} {it acc : Value} {env : Env} (J : Nat -> Shared -> Prop)
  (turn : ∀ n s, J n s -> wpAny (model prog w) A (pyNext it) (fun r s1 => match r with
   | none => R (.ok .next) s1
   | some v => wpAny (model prog w) A (letOwnedTupleGo tg it v) (fun _ s2 => wpAny (model prog w) A (assign tg env v) (fun _ s3 =>
     wpAny (model prog w) A (forIn ifs true fun c r => if r = true then do let ok <- isTrue c env (eval c env); pure (ForInStep.yield ok) else pure (ForInStep.yield r)) (fun ok s4 =>
      if ok = true then wpAny (model prog w) A (eval elt env) (fun x s5 => wpAny (model prog w) A (call (.builtin "list.append") [acc, x]) (fun _ s6 => ∃ m, m < n /\ J m s6) (fun _ _ => False) s5) (fun _ _ => False) s4
      else ∃ m, m < n /\ J m s4) (fun _ _ => False) s3) (fun _ _ => False) s2) (fun _ _ => False) s1) (fun _ _ => False) s)
  (n : Nat) (h : J n s) : codeAny (model prog w) A (.compLoop (.ListComp elt [⟨tg, iter, ifs, 0⟩] scope pos) 0 it acc env) R s := by
 refine codeAny_loop rfl J (fun k t hJ => ?_) n h
 show wpAny _ A ((compTurn (.ListComp elt [⟨tg, iter, ifs, 0⟩] scope pos) 0 it acc env).onRaise (fun x => do noteFrame x env; theTreesLotGoes x)) _ _ t
 refine wpAny_noted (wpAny_mono (E := fun _ _ => False) ?_ (fun _ _ q => q) fun _ _ f => f.elim)
 rw [compTurn_list]
 refine wpAny_bind (wpAny_standAt (wpAny_bind (thn (turn k t hJ) fun r s1 h1 => ?_)))
 cases r with
 | none => exact wpAny_pure h1
 | some v =>
  refine wpAny_bind (thn h1 fun _ s2 h2 => wpAny_bind (thn h2 fun _ s3 h3 => wpAny_bind (thn h3 fun ok s4 h4 => ?_)))
  cases ok with
  | false => exact wpAny_pure ⟨rfl, h4⟩
  | true => exact wpAny_bind (wpAny_bind (thn h4 fun x s5 h5 => wpAny_bind (thn h5 fun _ s6 h6 => wpAny_pure (wpAny_pure ⟨rfl, h6⟩))))
end
noncomputable def LcW (J : It) (g : TG) (tt : TT) (te : TE) (σ' : St) (fin : List V -> Hp -> Prop) (H1 : Hp) : Prop :=
 ∃ W : Nat -> Nat -> List V -> St -> Hp -> Prop, (∃ m, W 0 m [] σ' H1) /\ ∀ i m ys σ H, W i m ys σ H ->
  (J.stop i H /\ ys.length <= sizeLine /\ fin ys H) \/ (J.go i H /\ ys.length < sizeLine /\ ∃ Nx : List V -> St -> Hp -> Prop, (∀ ys' σ' H', Nx ys' σ' H' -> ∃ m', m' < m /\ W (i + 1) m' ys' σ' H') /\
   ∀ x H', J.yld i H x H' -> g x σ H' fun σ2 H2 => tt σ2 H2 fun b H3 => if b = true then te σ2 H3 (fun v H4 => Nx (ys ++ [v]) σ2 H4) else Nx ys σ2 H3)
noncomputable def tLc (wi : TI) (g : TG) (tt : TT) (te : TE) (ix : List (Option Nat)) : TE := fun σ H Q => wi σ H fun J H1 => LcW J g tt te (emb ix σ) (fun ys H' => ∀ p, H' p = none -> Q (.ref p) (upd H' p (.lst ys))) H1
section
variable {X : Cx} {scope : Scope} {N : List Str} {ix : List (Option Nat)}
theorem u7 {pins pins' : List (Addr × Obj)} {σ σ' : St} {H2 H' : Hp} {s2 s' : Shared} {C D : Addr} {fp : List Addr} {ys : List V} {its : List Value} {k : Nat} {h' : Heap} (I2 : Inv X pins σ H2 s2) (hf : ∀ b ∈ fp, bH X pins H2 b)
  (I' : Inv (aF X scope N C s2 H2 fp) pins' σ' H' s') (hC : s2.heap.objs.size <= C) (hD : s2.heap.objs.size <= D) (hDC : D ≠ C) (hn : H' D = none) (ho : s'.heap.get? D = some { cls := .type "list", data := .seq its.toArray k }) (rv : ao ys its) (hz : ys.length <= sizeLine)
  (hs : ∀ b o, b ≠ C -> s'.heap.get? b = some o -> h'.get? b = some o) : Inv X pins σ (upd H' D (.lst ys)) { s' with heap := h' } := by
 have B : Un (frs X.stack) fp H2 H' s2.heap s'.heap := I'.base
 have neC : ∀ b o, s2.heap.get? b = some o -> b ≠ C := fun b o e => Nat.ne_of_lt (Nat.lt_of_lt_of_le (Heap.lt_size e) hC)
 have neD : ∀ b o, s2.heap.get? b = some o -> b ≠ D := fun b o e => Nat.ne_of_lt (Nat.lt_of_lt_of_le (Heap.lt_size e) hD)
 have hCn : H' C = none := I'.free
 have tD : ∀ b u, H' b = some u -> b ≠ D := fun b u e => av e hn
 have tC : ∀ b u, H' b = some u -> b ≠ C := fun b u e => av e hCn
 refine I2.call' (s' := { s' with heap := h' }) (ch := fp) I'.os ⟨fun b o e n hb hx => ?_, fun b o e n hb hx => ?_, fun b o e n hx => ?_, fun b o e hx => ?_, fun b xs e => ?_, fun b o u e => ?_, fun b ps e => ?_⟩ (fun b u e => ?_) I'.bare fun b hb => ⟨(hf b hb).2.2.2.1, (hf b hb).2.1, (hf b hb).2.2.2.2.1, (hf b hb).2.2.2.2.2⟩
 ·exact hs b o (neC b o e) (B.keep b o e n hb hx)
 ·obtain ⟨sl, q⟩ := B.slot b o e n hb hx
  exact ⟨sl, hs b _ (neC b o e) q⟩
 ·rw [ag (neD b o e)]; exact B.free b o e n hx
 ·obtain ⟨o', q⟩ := B.there b o e hx
  exact ⟨o', hs b o' (neC b o e) q⟩
 ·rw [ag (tD b _ (B.tups b xs e))]; exact B.tups b xs e
 ·rw [ag (tD b _ (B.frzs b o u e))]; exact B.frzs b o u e
 ·obtain ⟨m, q⟩ := B.tbls b ps e
  exact ⟨m, by rw [ag (tD b _ q)]; exact q⟩
 ·by_cases hb : b = D
  ·subst hb
   rw [ai] at e
   cases e
   exact ⟨hz, its, k, rv, hs b _ hDC ho⟩
  ·rw [ag hb] at e
   refine (I'.hok b u e).stay (fun c v hc q => hs c v ?_ q) (fun c q => by rw [ag (tD c _ q)]; exact q) fun c xs q => by rw [ag (tD c _ q)]; exact q
   rcases hc with z | z
   ·rw [z]; exact tC b u e
   ·exact tC c _ z
theorem mZ (L : bD X scope N ix) {pins : List (Addr × Obj)} {σ : St} {H2 : Hp} {s2 : Shared} {C : Addr} {fp : List Addr} {h1 : Heap} {tk : Nat} {m : Str -> Option Value} (I2 : Inv X pins σ H2 s2) (hC : s2.heap.objs.size <= C) (hf : ∀ b ∈ fp, bH X pins H2 b) (hb : ∀ b ∈ fp, b < s2.heap.objs.size)
  (kp : ∀ b o, s2.heap.get? b = some o -> h1.get? b = some o) (hn : h1.Ns C m) : Inv (aF X scope N C s2 H2 fp) [] (emb ix σ) H2 { s2 with heap := h1, toks := tk } := by
 refine ⟨vZ L I2 hC hf hb, rfl, I2.bare, Un.kept kp, ⟨m, hn, fun i x v e1 e2 e3 => ?_⟩, fun x c e => ?_, I2.hok.fresh hC, fun x c e => I2.freeC x c (dg e), fun p hp => absurd (show p ∈ ([] : List (Addr × Obj)) from hp) (by simp), I2.hok.kept kp, ?_⟩
 ·unfold emb at e2
  rw [List.getElem?_map] at e2
  cases q : ix[i]? with
  | none => rw [q] at e2; cases e2
  | some o =>
   rw [q] at e2
   cases o with
   | none => cases e2
   | some j =>
    have e2' : (σ[j]?).join = some v := Option.some.inj e2
    have e4 : σ[j]? = some (some v) := by
     cases z : σ[j]? with
     | none => rw [z] at e2'; cases e2'
     | some y => rw [z] at e2'; exact congrArg some e2'
    obtain ⟨a1, a2, a3⟩ := L.out e1 q
    obtain ⟨mo, _, hl⟩ := I2.loc
    obtain ⟨u, r, lk⟩ := hl j x v a1 e4 (.inr a3)
    refine ⟨u, r, ?_⟩
    rcases lk with ⟨k, _⟩ | ⟨k, c, e, o, ho, hd⟩
    ·rcases a3 with z | z
     ·rw [z] at k; cases k
     ·rw [z] at k; cases k
    ·obtain ⟨k', hk', e'⟩ := mw (env := X.env) a2
     refine .inr ⟨?_, c, lb (PySem.mem_of_lookup a2) e, o, kp _ _ ho, hd⟩
     rcases hk' with z | z
     ·subst z; exact .inl e'
     ·subst z; exact .inr e'
 ·obtain ⟨v, o, ho, hd⟩ := I2.cell x c (dg e)
  exact ⟨v, o, kp _ _ ho, hd⟩
 ·unfold emb
  rw [List.length_map]
  exact L.len.symm
variable {tg iter elt : Expr} {ifs : List Expr} {pos : Pos} {g : TG} {tt : TT} {te : TE}
theorem mK (L : bD X scope N ix) (hc : X.calm = true) (hg : ∀ C s0 H0 fp, PG (aF X scope N C s0 H0 fp) tg g) (ht : ∀ C s0 H0 fp, PTs (aF X scope N C s0 H0 fp) ifs tt) (he : ∀ C s0 H0 fp, PE (aF X scope N C s0 H0 fp) elt te)
  {pins : List (Addr × Obj)} {σ : St} {H2 : Hp} {s2 : Shared} {it : Addr} {fp : List Addr} {tn : Nat -> Heap -> Prop} {J : It} {fin : List V -> Hp -> Prop} {E : Value -> Shared -> Prop} {RR : Value -> Addr -> Result -> Shared -> Prop}
  (I2 : Inv X pins σ H2 s2) (T : Turn X.prog X.w X.K tg J fp it tn) (st : tn 0 s2.heap) (f2 : ∀ b ∈ fp, bH X pins H2 b) (hW : LcW J g tt te (emb ix σ) fin H2)
  (hRR : ∀ D C s' m ys H', s'.heap.Ns C m -> s'.os = s2.os -> D ≠ C -> bH X pins (upd H' D (.lst ys)) C -> (∀ h', Heap.SameBut C s'.heap h' -> Inv X pins σ (upd H' D (.lst ys)) { s' with heap := h' }) -> H' D = none -> fin ys H' -> RR (.ref D) C (.ok .next) s') :
  wpAny (model X.prog X.w) X.A (newList []) (fun acc s3 => wpAny (model X.prog X.w) X.A (newFunctionEnv scope X.env.globals (bJ X.env scope.names []) [] X.env.qual none .none (some X.env)) (fun cenv s4 =>
   codeAny (model X.prog X.w) X.A (.compStart (.ListComp elt [⟨tg, iter, ifs, 0⟩] scope pos) 0 (.ref it) acc { cenv with scope := relabel scope X.env }) (RR acc cenv.locals) s4) E s3) E s2 := by
 obtain ⟨W, ⟨m0, w0⟩, turn⟩ := hW
 have hb2 : ∀ b ∈ fp, b < s2.heap.objs.size := fun b hb => by
  obtain ⟨o, e, _⟩ := T.obj _ _ st b hb
  exact Heap.lt_size e
 refine wpAny_newObj_type (wpAny_newFunctionEnv L.nocell (by intro y hy; simp at hy) (fun h1 hns hsb => ?_) L.kind)
 dsimp only at hns hsb ⊢
 generalize hG : s2.heap.push { cls := .type "list", dict := none, data := .seq ([] : List Value).toArray } = G at hns hsb ⊢
 have hGs : G.objs.size = s2.heap.objs.size + 1 := by rw [<- hG, Heap.size_push]
 generalize hDe : s2.heap.objs.size = D at hGs hb2
 generalize hCe : G.objs.size = C at hGs hns hsb ⊢
 have hDC : D ≠ C := by omega
 have nq : ∀ b : Nat, b < s2.heap.objs.size -> b ≠ C /\ b ≠ D := fun b h => ⟨by omega, by omega⟩
 have nq2 : ∀ b ∈ fp, b ≠ C /\ b ≠ D := fun b hb => nq b (by rw [hDe]; exact hb2 b hb)
 have kG : ∀ b o, s2.heap.get? b = some o -> G.get? b = some o := fun b o e => by rw [<- hG]; exact Heap.get?_push_of_some _ e
 have kp : ∀ b o, s2.heap.get? b = some o -> h1.get? b = some o := fun b o e => hsb.extBut b o (nq b (Heap.lt_size e)).1 (Heap.get?_push_of_some _ (kG b o e))
 have oD : ∃ n, h1.get? D = some { cls := .type "list", data := .seq ([] : List Value).toArray n } := ⟨_, hsb.extBut _ _ hDC (Heap.get?_push_of_some _ (by rw [<- hG, <- hDe]; exact Heap.get?_push_size _ rfl))⟩
 have I4 := mZ L (tk := s2.toks + ([] : List (Str × Value)).length) I2 (C := C) (by omega) f2 (by rw [hDe]; exact hb2) kp hns
 have st4 : tn 0 h1 := T.keep _ _ _ st fun b _ o e => kp b o e
 have hDf : D ∉ (aF X scope N C s2 H2 fp).fs := fun z => by
  have z' : D ∈ frs X.stack := z
  rcases List.mem_cons.mp (I2.stkSub D z') with q | q
  ·exact (nq _ I2.lt).2 q.symm
  ·exact I2.nofs (a := D) (by omega) q
 have cellD : ∀ x c, (aF X scope N C s2 H2 fp).env.cells.lookup x = some c -> c ≠ D := fun x c e z => by
  obtain ⟨v, o, ho, _⟩ := I2.cell x c (dg e)
  exact (nq c (Heap.lt_size ho)).2 z
 have stat : ∀ {H' : Hp} {pl : List (Addr × Obj)}, (∀ b ∈ fp, H' b = none) -> (∀ p ∈ pl, p.1 = D) -> ∀ b ∈ fp, bH (aF X scope N C s2 H2 fp) pl H' b := fun {H' pl} hn hp b hb => by
  have hlt := hb2 b hb
  refine ⟨hn b hb, (nq2 b hb).1, fun z => ?_, .inl hb, fun x c e => (f2 b hb).2.2.2.2.1 x c (dg e), fun p hq z => ?_⟩
  ·exact (List.mem_cons.mp (I2.stkSub b z)).elim (f2 b hb).2.1 (f2 b hb).2.2.1
  ·have hq' : p ∈ pl := by simpa [aF] using hq
   exact (nq2 b hb).2 (z.symm.trans (hp p hq'))
 have pinD : ∀ {pl : List (Addr × Obj)} {σ' : St} {H' : Hp} {s' : Shared} {o : Obj}, Inv (aF X scope N C s2 H2 fp) pl σ' H' s' -> s'.heap.get? D = some o -> H' D = none -> (∀ v, o.data ≠ .cell v) -> Inv (aF X scope N C s2 H2 fp) [(D, o)] σ' H' s' :=
  fun {pl σ' H' s' o} I' ho hn hd => I'.pins_of fun p hp => by
   have e : p = (D, o) := by simpa using hp
   subst e
   exact ⟨ho, hn, hDC, hDf, hd⟩
 have loop : ∀ s4 : Shared, s4 = { s2 with heap := h1, toks := s2.toks + ([] : List (Str × Value)).length } ->
   codeAny (model X.prog X.w) X.A (.compLoop (.ListComp elt [⟨tg, iter, ifs, 0⟩] scope pos) 0 (.ref it) (.ref D) (aF X scope N C s2 H2 fp).env) (RR (.ref D) C) s4 := by
  rintro s4 rfl
  refine tK (fun n s' => ∃ i σ' H' ys its k, Inv (aF X scope N C s2 H2 fp) [(D, { cls := .type "list", data := .seq its.toArray k })] σ' H' s' /\ tn i s'.heap /\ (∀ b ∈ fp, H' b = none) /\ ao ys its /\ W i n ys σ' H') ?_ m0 ?_
  ·rintro n s' ⟨i, σ', H', ys, its, k, I', st', fr', rv, w'⟩
   have hD' := I'.pin _ (List.mem_append_right _ List.mem_cons_self)
   rcases turn i n ys σ' H' w' with ⟨stop, hz, qf⟩ | ⟨go, hz, Nx, hN, step⟩
   ·refine thn (T.done (aF X scope N C s2 H2 fp) rfl rfl rfl hc i _ s' σ' H' _ I' (stat fr' (by simp)) st' stop) fun r s5 ⟨hr, I5⟩ => ?_
    subst hr
    have hD5 := I5.pin _ (List.mem_append_right _ List.mem_cons_self)
    obtain ⟨m5, hn5, _⟩ := I5.loc
    refine hRR D C s5 m5 ys H' hn5 I5.os hDC (I2.fpOk (by omega) (by rw [ag (Ne.symm hDC)]; exact I5.free)) (fun h' hs' => ?_) hD5.2.1 qf
    exact u7 I2 f2 I5 (by omega) (by omega) hDC hD5.2.1 hD5.1 rv hz fun b o hb e => hs'.extBut b o hb e
   ·refine thn (T.item (aF X scope N C s2 H2 fp) rfl rfl rfl hc i _ s' σ' H' _ I' (stat fr' (by simp)) st' go) fun r s5 ⟨u, hr, h5⟩ => ?_
    subst hr
    refine thn h5 fun _ s6 ⟨x, H6, I6, r6, y6, st6, fr6⟩ => ?_
    have I6' := I6.pinned (stat fr6 (by simp)) (T.obj _ _ st6)
    refine thn (hg C s2 H2 fp _ s6 σ' H6 x u _ I6' r6 (step x H6 y6)) fun _ s7 ⟨σ7, H7, I7, q7⟩ => ?_
    refine thn (ht C s2 H2 fp _ s7 σ7 H7 _ I7 q7) fun ok s8 ⟨H8, I8, q8⟩ => ?_
    have back : ∀ {H9 : Hp} {s9 : Shared}, Inv (aF X scope N C s2 H2 fp) ([(D, { cls := .type "list", data := .seq its.toArray k })] ++ eU fp s6.heap) σ7 H9 s9 -> tn (i + 1) s9.heap /\ ∀ b ∈ fp, H9 b = none := fun {H9 s9} I9 => by
     refine ⟨T.keep _ _ _ st6 fun b hb o e => (I9.pin (b, o) (List.mem_append_right _ (List.mem_append_right _ (eF hb e)))).1, fun b hb => ?_⟩
     obtain ⟨o, e, d⟩ := T.obj _ _ st6 b hb
     exact (I9.pin (b, o) (List.mem_append_right _ (List.mem_append_right _ (eF hb e)))).2.1
    cases ok with
    | false =>
     rw [if_neg Bool.false_ne_true] at q8 ⊢
     obtain ⟨m', hm, w8⟩ := hN _ _ _ q8
     obtain ⟨st8, fr8⟩ := back I8
     exact ⟨m', hm, i + 1, σ7, H8, ys, its, k, I8.unpinned, st8, fr8, rv, w8⟩
    | true =>
     rw [if_pos rfl] at q8 ⊢
     refine thn (he C s2 H2 fp _ s8 σ7 H8 _ I8 q8) fun y s9 ⟨v, H9, I9, r9, q9⟩ => ?_
     have hD9 := I9.pin _ (List.mem_append_right _ (List.mem_append_left _ List.mem_cons_self))
     obtain ⟨st9, fr9⟩ := back I9
     refine wpAny_list_append_plain (hsz := by have := rv.length; rw [List.size_toArray]; omega) ⟨k, hD9.1⟩ fun h' hl' hs' => ?_
     obtain ⟨m', hm, w9⟩ := hN _ _ _ q9
     obtain ⟨k', ho'⟩ := hl'
     have I10 : Inv (aF X scope N C s2 H2 fp) [] σ7 H9 { s9 with heap := h' } := (I9.pins_of (pins' := []) fun p hp => absurd hp (by simp)).turned (t' := s9.toks) (it := D) (fun b o hb e => hs'.extBut b o hb e) hD9.2.1 hDC (.inr (by show s2.heap.objs.size <= D; omega)) cellD (fun p hp => absurd hp (by simp [aF]))
     refine ⟨m', hm, i + 1, σ7, H9, ys ++ [v], its ++ [y], k', pinD I10 (by rw [ho']; simp) hD9.2.1 (fun v z => by cases z), ?_, fr9, rv.append (.cons r9 .nil), w9⟩
     exact T.keep _ _ _ st9 fun b hb o e => hs'.extBut b o (nq2 b hb).2 e
  ·obtain ⟨n, e⟩ := oD
   exact ⟨0, emb ix σ, H2, [], [], n, pinD I4 e (I2.hok.fresh (by omega)) (fun v z => by cases z), st4, fun b hb => (f2 b hb).1, .nil, w0⟩
 have q := loop _ rfl
 exact codeAny_compStart_list q (T.self _ 0 _ _ _ st4 q)
end
theorem jV {ss : List Str} : ∀ {us : List Value}, ao (ss.map V.str) us -> StrsAre us ss := by
 induction ss with
 | nil => intro us r; rw [List.map_nil] at r; cases r; exact .nil
 | cons n ns ih =>
  intro us r
  rw [List.map_cons] at r
  cases r with
  | cons r1 r2 =>
   obtain ⟨t, e⟩ := r1
   subst e
   exact .cons n t (ih r2)
theorem ir : ∀ {vs : List Value} {ss : List Str}, StrsAre vs ss -> ao (ss.map V.str) vs
 | _, _, .nil => .nil
 | _, _, .cons n t h => .cons ⟨t, rfl⟩ (ir h)
section
variable {X : Cx}
variable {scope : Scope} {N : List Str} {ix : List (Option Nat)} {tg iter elt : Expr} {ifs : List Expr} {pos : Pos} {g : TG} {tt : TT} {te : TE} {wi : TI}
theorem bq (L : bD X scope N ix) (hc : X.calm = true) (hi : PI X tg iter wi) (hg : ∀ C s0 H0 fp, PG (aF X scope N C s0 H0 fp) tg g) (ht : ∀ C s0 H0 fp, PTs (aF X scope N C s0 H0 fp) ifs tt) (he : ∀ C s0 H0 fp, PE (aF X scope N C s0 H0 fp) elt te)
  (hs : ∀ x, foldedSetIterable iter X.env x = pure x := by intro _; rfl) : PE X (.ListComp elt [⟨tg, iter, ifs, 0⟩] scope pos) (tLc wi g tt te ix) := by
 intro pins s σ H Q I h
 rw [eval_ListComp]
 refine wpAny_comprehension_free (use := none) rfl hs (L.clos I.ok) L.kind L.locals (thn (hi pins s σ H _ I h) fun v s1 h1 => thn h1 fun itv s2 h2 => ?_)
 obtain ⟨it, fp, tn, J, H2, rfl, I2, T, st2, f2, hW⟩ := h2
 refine mK (RR := fun acc C => compPost (model X.prog X.w) X.A X.xe none (EP X pins σ Q) acc C) L hc hg ht he I2 T st2 f2 hW ?_
 intro D C s' m ys H' hn ho hDC hC hI hD fin
 exact ⟨m, hn, fun h' hs' => ⟨.ref D, _, hI h' hs', rfl, fin D hD⟩⟩
noncomputable def mx (i : Nat) (wi : TI) (g : TG) (tt : TT) (te : TE) (ix : List (Option Nat)) : TS := fun D σ H => wi σ H fun J H1 => LcW J g tt te (emb ix σ) (fun ys H' => ∀ p, H' p = none -> D.nx (σ.set i (some (.ref p))) (upd H' p (.lst ys))) H1
theorem dS {i : Nat} {y : Str} {py spos : Pos} (hN : X.N.Nodup) (hi' : X.N[i]? = some y) (hx : Loc X.env.scope y) (L : bD X scope N ix) (hc : X.calm = true) (hi : PI X tg iter wi) (hg : ∀ C s0 H0 fp, PG (aF X scope N C s0 H0 fp) tg g)
  (ht : ∀ C s0 H0 fp, PTs (aF X scope N C s0 H0 fp) ifs tt) (he : ∀ C s0 H0 fp, PE (aF X scope N C s0 H0 fp) elt te)
  (hsw : swapsWith (.ListComp elt [⟨tg, iter, ifs, 0⟩] scope pos) (some (.Name y py)) spos.line X.env = pure true := by rfl) (hs : ∀ x, foldedSetIterable iter X.env x = pure x := by intro _; rfl)
  (hf : X.fn y = true \/ X.env.scope.names.lookup y = some .local := by first | exact .inl rfl | exact .inr rfl | assumption) :
  PS X (.Assign [.Name y py] (.ListComp elt [⟨tg, iter, ifs, 0⟩] scope pos) spos) (mx i wi g tt te ix) := by
 intro pins s σ H D I h
 rw [exec_Assign_Name_used _ _ _ _ hsw]
 refine wpAny_bind (wpAny_standAt (wpAny_bind ?_))
 show wpAny _ X.A (do let _ <- comprehension (.ListComp elt [⟨tg, iter, ifs, 0⟩] scope pos) scope X.env _ (newList []) false (eval iter X.env) (some (assign (.Name y py) X.env))) _ _ s
 refine wpAny_bind (thn (wpAny_comprehension_free (use := some (assign (.Name y py) X.env)) (Q := fun _ s' => SP X pins D .next s') rfl hs (L.clos I.ok) L.kind L.locals
  (thn (hi pins s σ H _ I h) fun v s1 h1 => thn h1 fun itv s2 h2 => ?_)) fun _ s' hq => wpAny_pure (wpAny_pure hq))
 obtain ⟨it, fp, tn, J, H2, rfl, I2, T, st2, f2, hW⟩ := h2
 refine mK (RR := fun acc C => compPost (model X.prog X.w) X.A X.xe (some (assign (.Name y py) X.env)) (fun _ s' => SP X pins D .next s') acc C) L hc hg ht he I2 T st2 f2 hW ?_
 intro Da C s' m ys H' hn ho hDC hC hI hD fin
 have I' := hI s'.heap (Heap.SameBut.refl _ _)
 show wpAny _ X.A (assign (.Name y py) X.env (.ref Da)) _ _ s'
 refine wpAny_assign_Name (iu (v := .ref Da) I' hN hi' hx rfl (fun s'' I'' ch => ?_) hf)
 obtain ⟨a, hsa, hwa⟩ := ch
 obtain ⟨c1, c2, c3, c4, c5, c6⟩ := hC
 have hCa : C ≠ a := by
  rcases hwa with z | z
  ·rw [z]; exact c2
  ·exact fun w => c5 y a z w.symm
 refine ⟨m, hn.sameBut hsa hCa, fun h' hs' => ⟨_, _, I''.turned (t' := s''.toks) (it := C) (fun b o hb e => hs'.extBut b o hb e) c1 c2 c4 c5 c6, fin Da hD⟩⟩
end
mutual
inductive DV (H : Hp) : V -> PyData -> Prop
 | non : DV H .non .none
 | bl (b : Bool) : DV H (.bl b) (.bool b)
 | int (i : Int) : DV H (.int i) (.int i)
 | str (x : Str) : DV H (.str x) (.str x)
 | tup {a : Addr} {xs : List V} {ds : List PyData} : H a = some (.tup xs) -> DVs H xs ds -> DV H (.ref a) (.tuple ds)
 | lst {a : Addr} {xs : List V} {ds : List PyData} : H a = some (.lst xs) -> DVs H xs ds -> DV H (.ref a) (.list ds)
inductive DVs (H : Hp) : List V -> List PyData -> Prop
 | nil : DVs H [] []
 | cons {x : V} {d : PyData} {xs : List V} {ds : List PyData} : DV H x d -> DVs H xs ds -> DVs H (x :: xs) (d :: ds)
end
section
variable {P : Program} {w : World} {H : Hp} {h : Heap}
mutual
theorem DV.reads (ok : HOk P w H h) : ∀ {x : V} {d : PyData} {u : Value}, DV H x d -> RelV x u -> ∃ as, Reads h u d as
 | _, _, u, .non, r => by cases (show u = Value.none from r); exact ⟨_, Reads.none⟩
 | _, _, u, .bl b, r => by cases (show u = Value.bool b from r); exact ⟨_, Reads.bool b⟩
 | _, _, u, .int i, r => by obtain ⟨t, e⟩ := (show ∃ t, u = Value.int i t from r); cases e; exact ⟨_, Reads.int i t⟩
 | _, _, u, .str x, r => by obtain ⟨t, e⟩ := (show ∃ t, u = Value.str x t from r); cases e; exact ⟨_, Reads.str x t⟩
 | _, _, u, .tup (a := a) (xs := xs) e q, r => by
  cases (show u = Value.ref a from r)
  obtain ⟨_, its, rv, o, ho, hc, n, hd⟩ := (show aC P w H h a (.tup xs) from ok a _ e)
  obtain ⟨as, z⟩ := DVs.reads ok q rv
  exact ⟨as, Reads.tuple ho hc hd (by simpa using z)⟩
 | _, _, u, .lst (a := a) (xs := xs) e q, r => by
  cases (show u = Value.ref a from r)
  obtain ⟨_, its, n, rv, ho⟩ := (show aC P w H h a (.lst xs) from ok a _ e)
  obtain ⟨as, z⟩ := DVs.reads ok q rv
  exact ⟨_, Reads.list ho rfl rfl (by simpa using z)⟩
theorem DVs.reads (ok : HOk P w H h) : ∀ {xs : List V} {ds : List PyData} {us : List Value}, DVs H xs ds -> ao xs us -> ∃ as, ReadsAll h us ds as
 | _, _, _, .nil, .nil => ⟨_, ReadsAll.nil⟩
 | _, _, _, .cons a b, .cons r rs => by
  obtain ⟨as, p⟩ := DV.reads ok a r
  obtain ⟨bs, q⟩ := DVs.reads ok b rs
  exact ⟨_, ReadsAll.cons p q⟩
end
end
theorem DVs.strs {H : Hp} : ∀ ss : List Str, DVs H (ss.map V.str) (ss.map PyData.str)
 | [] => .nil
 | x :: r => .cons (.str x) (DVs.strs r)
section
variable {X : Cx}
open SeqAt in
theorem mL {k : Nat} (hr : aI k X.A) : OpR X (compareOp .Eq) (fun x y H Q => ∃ d e, DV H x d /\ DV H y e /\ shaped d = true /\ shaped e = true /\ Q (.bl (PyData.eqv d e)) H) := by
 intro pins s σ H x y v u Q I rx ry h
 obtain ⟨d, e, dx, dy, sd, se, q⟩ := h
 obtain ⟨as, r1⟩ := dx.reads I.hok rx
 obtain ⟨bs, r2⟩ := dy.reads I.hok ry
 exact eq_dataH r1 r2 sd se hr.units ⟨.bl (PyData.eqv d e), H, I, rfl, q⟩
open SeqAt in
theorem gr {k : Nat} (hr : aI k X.A) : OpR X (compareOp .NotEq) (fun x y H Q => ∃ d e, DV H x d /\ DV H y e /\ shaped d = true /\ shaped e = true /\ Q (.bl (!PyData.eqv d e)) H) := by
 intro pins s σ H x y v u Q I rx ry h
 obtain ⟨d, e, dx, dy, sd, se, q⟩ := h
 obtain ⟨as, r1⟩ := dx.reads I.hok rx
 obtain ⟨bs, r2⟩ := dy.reads I.hok ry
 exact ne_dataH r1 r2 sd se hr.units ⟨.bl (!PyData.eqv d e), H, I, rfl, q⟩
theorem pA (bs : List Bool) : ((List.range bs.length).all fun i => (bs[i]?).getD true) = bs.all id := by
 rw [Bool.eq_iff_iff, List.all_eq_true, List.all_eq_true]
 constructor
 ·intro h b hb
  obtain ⟨i, hi, e⟩ := List.mem_iff_getElem.mp hb
  have := h i (List.mem_range.mpr hi)
  rw [List.getElem?_eq_getElem hi, e] at this
  simpa using this
 ·intro h i hi
  have hi := List.mem_range.mp hi
  rw [List.getElem?_eq_getElem hi]
  simpa using h _ (List.getElem_mem hi)
theorem dO (hc : X.calm = true) : bp X (.builtin "all") (fun xs H Q => ∃ (p : Addr) (bs : List Bool), xs = [.ref p] /\ SqL X.K H p (bs.map V.bl) /\ Q (.bl (bs.all id)) H) := by
 intro pins s σ H xs us Q I r h
 obtain ⟨p, bs, rfl, hq, q⟩ := h
 obtain ⟨u, rfl, rx⟩ := vals1 r
 cases rx
 obtain ⟨its, r', pl, hz⟩ := I.list hq
 have hlt : p < s.heap.objs.size := by obtain ⟨o, n, e, _⟩ := pl; exact Heap.lt_size e
 have hlen := r'.length
 rw [List.length_map] at hlen
 refine call_all_walk (wpAny_pyIter_list pl.isList ?_)
 refine ⟨s.heap.objs.size, [s.heap.objs.size, p], [s.heap.objs.size], its.toArray.size, _, _, fun i => (bs[i]?).getD true, rfl, Walks.list (A := X.A.in1) (I.ok.hd hc) _ p (Nat.ne_of_lt hlt) its.toArray,
  ⟨⟨_, Heap.get?_push_size _ rfl, rfl, rfl⟩, pl.isList.push _⟩, fun i v s' Q' E' hP hQ => ?_, fun h' tk hk => ?_⟩
 ·have hP' : its[i]? = some v := by simpa using hP
  have hb : ∃ b, bs[i]? = some b /\ v = Value.bool b := by
   have hi : i < bs.length := by rw [hlen]; exact (List.getElem?_eq_some_iff.mp hP').1
   have e1 : (bs.map V.bl)[i]? = some (V.bl bs[i]) := by rw [List.getElem?_map, List.getElem?_eq_getElem hi]; rfl
   obtain ⟨w', e2, rw'⟩ := r'.get e1
   rw [hP'] at e2
   cases e2
   exact ⟨bs[i], List.getElem?_eq_getElem hi, rw'⟩
  obtain ⟨b, e, rfl⟩ := hb
  simp only [e, Option.getD_some] at hQ
  exact wpAny_truthy_bool hQ
 ·have e : ((List.range its.toArray.size).all fun i => (bs[i]?).getD true) = bs.all id := by
   rw [List.size_toArray, <- hlen]; exact pA bs
  rw [e]
  refine ⟨.bl (bs.all id), H, I.kept (t' := tk) fun b x e => hk b x (fun hm => ?_) (Heap.get?_push_of_some _ e), rfl, q⟩
  rw [List.mem_singleton.mp hm] at e
  exact Nat.lt_irrefl _ (Heap.lt_size e)
theorem de {T : String} : bp X (.builtin "isinstance") (fun xs H Q => ∃ x t b, xs = [x, .ty T] /\ cu X.K H x t /\ PySem.W.kitOne X.K t (.type T) = some b /\ Q (.bl b) H) := by
 intro pins s σ H xs us Q I r h
 obtain ⟨x, t, b, rfl, ty, e, q⟩ := h
 obtain ⟨u, w', rfl, rx, ry⟩ := vals2 r
 cases (show w' = Value.type T from ry)
 exact qu I rx ty e fun tk => ⟨.bl b, H, I.tok tk, rfl, q⟩
theorem ky : OpR X (compareOp .LtE) (fun x y H Q => ∃ i j, x = .str i /\ y = .str j /\ Q (.bl (!decide (j.cps.toList < i.cps.toList))) H) := by
 intro pins s σ H x y v u Q I rx ry h
 obtain ⟨i, j, rfl, rfl, q⟩ := h
 obtain ⟨t, rfl⟩ := rx
 obtain ⟨t', rfl⟩ := ry
 exact PySem.P.le_str ⟨.bl (!decide (j.cps.toList < i.cps.toList)), H, I, rfl, q⟩
theorem uv : MtR X "str.join" (fun x xs H Q => ∃ (z : Str) (p : Addr) (ss : List Str), x = .str z /\ xs = [.ref p] /\ SqL X.K H p (ss.map V.str) /\ (ss.map (·.length)).sum + ss.length * z.length <= 16777216 /\ Q (.str (Txt.join z ss)) H) := by
 intro pins s σ H x xs v us Q I rx rs h
 obtain ⟨z, p, ss, rfl, rfl, hq, hz, q⟩ := h
 obtain ⟨t, rfl⟩ := rx
 obtain ⟨u, rfl, ru⟩ := vals1 rs
 cases ru
 obtain ⟨its, r', pl, _⟩ := I.list hq
 exact join_list pl.isList (jV r') hz fun t' k => ⟨.str (Txt.join z ss), H, I.tok k, ⟨_, rfl⟩, q⟩
theorem fU : bp X (.builtin "sorted") (fun xs H Q => ∃ (p : Addr) (ss : List Str), xs = [.ref p] /\ SqL X.K H p (ss.map V.str) /\ ss.length < 64 /\ ∀ (ss' : List Str) (q : Addr), ss'.Perm ss -> sortedS ss' = true -> H q = none -> Q (.ref q) (upd H q (.lst (ss'.map V.str)))) := by
 intro pins s σ H xs us Q I r h
 obtain ⟨p, ss, rfl, hq, h64, q⟩ := h
 obtain ⟨u, rfl, rx⟩ := vals1 r
 cases rx
 obtain ⟨its, r', pl, hz⟩ := I.list hq
 have hlen := r'.length
 rw [List.length_map] at hlen
 refine sorted_strs pl.isList (jV r') (by omega) fun out ss' a1 a2 a3 => ?_
 obtain ⟨e, he⟩ := sortedAll_at s.heap its out
 have hv : ao (ss'.map V.str) out.toList := ir a1
 have hfr : H (s.heap.objs.size + 1) = none := I.hok.fresh (Nat.le_succ _)
 refine ⟨.ref (s.heap.objs.size + 1), _, I.laid (t' := s.toks) (o := .lst (ss'.map V.str)) (fun b o z => sortedAll_old z) (Nat.le_succ _) ⟨?_, out.toList, e, hv, ?_⟩, rfl, q ss' _ a2 a3 hfr⟩
 ·rw [List.length_map, a2.length_eq, sizeLine_eq]; omega
 ·simpa [seqObj] using he
end
end L2
set_option maxHeartbeats 4000000
namespace L2
open PySem PySem.W PyProof.Rows
noncomputable abbrev gp (p : Array Nat) (i : Nat) : Nat := p.getD i 0
structure Ord (N : Nat) (lt : Nat -> Nat -> Bool) : Prop where
 tr : ∀ i j k, lt i j = true -> lt j k = true -> lt i k = true
 irr : ∀ i, lt i i = false
 tot : ∀ i j, i < N -> j < N -> i ≠ j -> lt i j = true \/ lt j i = true
noncomputable def Pm (N : Nat) (p : Array Nat) : Prop := p.Perm (List.toArray (List.range N))
theorem Pm.size {N : Nat} {p : Array Nat} (h : Pm N p) : p.size = N := by
 have := Array.Perm.size_eq h
 simpa using this
theorem fL {p : Array Nat} {i : Nat} (h : i < p.size) : gp p i = p[i] := by simp [gp, Array.getD, h]
theorem fZ {p q : Array Nat} {i j : Nat} (h : p[i]? = q[j]?) : gp p i = gp q j := by simp [gp, Array.getD_eq_getD_getElem?, h]
theorem Pm.lt {N : Nat} {p : Array Nat} (h : Pm N p) {i : Nat} (hi : i < N) : gp p i < N := by
 have hs : i < p.size := by rw [h.size]; exact hi
 rw [fL hs]
 have hm : p[i] ∈ (List.toArray (List.range N)) := h.mem_iff.mp (Array.getElem_mem hs)
 simpa using hm
theorem Pm.nd {N : Nat} {p : Array Nat} (h : Pm N p) : p.toList.Nodup := by
 have hp : p.toList.Perm (List.range N) := by simpa using Array.perm_iff_toList_perm.mp h
 exact hp.nodup_iff.mpr List.nodup_range
theorem Pm.inj {N : Nat} {p : Array Nat} (h : Pm N p) {i j : Nat} (hi : i < N) (hj : j < N) (hij : i ≠ j) : gp p i ≠ gp p j := by
 have hsi : i < p.size := by rw [h.size]; exact hi
 have hsj : j < p.size := by rw [h.size]; exact hj
 rw [fL hsi, fL hsj]
 intro e
 have nd := h.nd
 rcases Nat.lt_or_gt_of_ne hij with z | z
 ·exact List.pairwise_iff_getElem.mp nd i j (by simpa using hsi) (by simpa using hsj) z (by simpa using e)
 ·exact List.pairwise_iff_getElem.mp nd j i (by simpa using hsj) (by simpa using hsi) z (by simpa using e.symm)
section
variable {N : Nat} {lt : Nat -> Nat -> Bool} {cmp : Nat -> Nat -> (Bool -> Shared -> Prop) -> Shared -> Prop} {s : Shared}
noncomputable def Asc (lt : Nat -> Nat -> Bool) (p : Array Nat) (b : Nat) : Prop := ∀ i j, i < j -> j < b -> lt (gp p i) (gp p j) = true
noncomputable def Dsc (lt : Nat -> Nat -> Bool) (p : Array Nat) (b : Nat) : Prop := ∀ i j, i < j -> j < b -> lt (gp p j) (gp p i) = true
theorem Asc.more (O : Ord N lt) {p : Array Nat} {n : Nat} (h : Asc lt p n) (h1 : 1 <= n) (e : lt (gp p (n - 1)) (gp p n) = true) : Asc lt p (n + 1) := fun i j hij hj => by
 by_cases q : j < n
 ·exact h i j hij q
 ·have : j = n := by omega
  subst this
  by_cases z : i = j - 1
  ·rw [z]; exact e
  ·exact O.tr _ _ _ (h i (j - 1) (by omega) (by omega)) e
theorem Dsc.more (O : Ord N lt) {p : Array Nat} {n : Nat} (h : Dsc lt p n) (h1 : 1 <= n) (e : lt (gp p n) (gp p (n - 1)) = true) : Dsc lt p (n + 1) := fun i j hij hj => by
 by_cases q : j < n
 ·exact h i j hij q
 ·have : j = n := by omega
  subst this
  by_cases z : i = j - 1
  ·rw [z]; exact e
  ·exact O.tr _ _ _ e (h i (j - 1) (by omega) (by omega))
theorem Ord.other (O : Ord N lt) {p : Array Nat} (hp : Pm N p) {i j : Nat} (hi : i < N) (hj : j < N) (hij : i ≠ j) (e : lt (gp p i) (gp p j) ≠ true) : lt (gp p j) (gp p i) = true :=
 (O.tot _ _ (hp.lt hi) (hp.lt hj) (hp.inj hi hj hij)).resolve_left e
variable (O : Ord N lt) (hc : ∀ (i j : Nat) (C : Bool -> Shared -> Prop), i < N -> j < N -> i ≠ j -> C (lt i j) s -> cmp i j C s)
include O hc
theorem ja {p : Array Nat} (hp : Pm N p) {Q : Nat -> Shared -> Prop} : ∀ (f n : Nat), 1 <= n -> n + f <= N -> Asc lt p n -> (∀ m, n <= m -> m <= n + f -> Asc lt p m -> (m = n + f \/ lt (gp p m) (gp p (m - 1)) = true) -> Q m s) -> (kas_asc p f n).kasWp cmp Q s
 | 0, n, h1, hn, ha, k => k n (Nat.le_refl _) (Nat.le_refl _) ha (.inl rfl)
 | f + 1, n, h1, hn, ha, k => by
  unfold kas_asc
  refine hc _ _ _ (hp.lt (by omega)) (hp.lt (by omega)) (hp.inj (by omega) (by omega) (by omega)) ?_
  by_cases e : lt (gp p n) (gp p (n - 1)) = true
  ·show KasT.kasWp cmp (if lt (gp p n) (gp p (n - 1)) = true then _ else _) Q s
   rw [if_pos e]
   exact k n (Nat.le_refl _) (by omega) ha (.inr e)
  ·show KasT.kasWp cmp (if lt (gp p n) (gp p (n - 1)) = true then _ else _) Q s
   rw [if_neg e]
   exact ja hp f (n + 1) (by omega) (by omega) (ha.more O h1 (O.other hp (by omega) (by omega) (by omega) e)) fun m a b c d => k m (by omega) (by omega) c (d.imp (fun z => by omega) id)
theorem lQ {p : Array Nat} (hp : Pm N p) {Q : Array Nat × Nat × Nat -> Shared -> Prop} : ∀ (f n : Nat), 1 <= n -> n + f <= N -> Dsc lt p n -> (∀ m, n <= m -> m <= n + f -> Dsc lt p m -> Q (p, m, 0) s) -> (kas_desc f p n 0).kasWp cmp Q s
 | 0, n, h1, hn, ha, k => k n (Nat.le_refl _) (Nat.le_refl _) ha
 | f + 1, n, h1, hn, ha, k => by
  unfold kas_desc
  refine hc _ _ _ (hp.lt (by omega)) (hp.lt (by omega)) (hp.inj (by omega) (by omega) (by omega)) ?_
  by_cases e : lt (gp p n) (gp p (n - 1)) = true
  ·show KasT.kasWp cmp (if lt (gp p n) (gp p (n - 1)) = true then _ else _) Q s
   rw [if_pos e, if_neg (by omega)]
   exact lQ hp f (n + 1) (by omega) (by omega) (ha.more O h1 e) fun m a b c => k m (by omega) (by omega) c
  ·show KasT.kasWp cmp (if lt (gp p n) (gp p (n - 1)) = true then _ else _) Q s
   rw [if_neg e]
   refine hc _ _ _ (hp.lt (by omega)) (hp.lt (by omega)) (hp.inj (by omega) (by omega) (by omega)) ?_
   have e2 := O.other hp (show n < N by omega) (show n - 1 < N by omega) (by omega) e
   show KasT.kasWp cmp (if lt (gp p (n - 1)) (gp p n) = true then _ else _) Q s
   rw [if_pos e2]
   exact k n (Nat.le_refl _) (by omega) ha
theorem uB {p : Array Nat} (hp : Pm N p) {m : Nat} (hm : m <= N) (h : Dsc lt p m) : Pm N (kas_rev p 0 m) /\ Asc lt (kas_rev p 0 m) m := by
 have hz : m <= p.size := by rw [hp.size]; exact hm
 refine ⟨(mirror_perm p 0 m _).trans hp, fun i j hij hj => ?_⟩
 have g : ∀ k, k < m -> gp (kas_rev p 0 m) k = gp p (0 + m - 1 - k) := fun k hk => fZ (by
  unfold kas_rev
  rw [getElem?_mirror_all hz, if_pos ⟨Nat.zero_le _, hk⟩])
 rw [g i (by omega), g j hj]
 exact h _ _ (by omega) (by omega)
theorem qZ {p : Array Nat} (hp : Pm N p) (h2 : 2 <= N) {Q : Nat × Array Nat -> Shared -> Prop} (h0 : ∀ m q, 1 <= m -> m <= N -> Pm N q -> Asc lt q m -> Q (m, q) s) : (kas_count N p).kasWp cmp Q s := by
 unfold kas_count
 rw [KasT.kasWp_bind]
 refine ja O hc hp (N - 1) 1 (Nat.le_refl _) (by omega) (fun i j a b => by omega) fun m a b c d => ?_
 by_cases e : (m == N) = true
 ·rw [if_pos e]
  exact h0 m p a (by omega) hp c
 ·rw [if_neg e]
  have hm : m ≠ N := fun z => e (beq_iff_eq.mpr z)
  by_cases e1 : m > 1
  ·rw [if_pos e1]
   refine hc _ _ _ (hp.lt (by omega)) (hp.lt (by omega)) (hp.inj (by omega) (by omega) (by omega)) ?_
   show KasT.kasWp cmp (if lt (gp p 0) (gp p (m - 1)) = true then _ else _) Q s
   rw [if_pos (c 0 (m - 1) (by omega) (by omega))]
   exact h0 m p a (by omega) hp c
  ·rw [if_neg e1]
   have : m = 1 := by omega
   subst this
   have e2 : lt (gp p 1) (gp p (1 - 1)) = true := d.resolve_left (by omega)
   unfold kas_descPart
   rw [KasT.kasWp_bind]
   refine lQ O hc hp (N - (1 + 1)) (1 + 1) (by omega) (by omega) (fun i j x y => by
    have : i = 0 := by omega
    have : j = 1 := by omega
    subst i j
    exact e2) fun m' a' b' c' => ?_
   show KasT.kasWp cmp (if (0 : Nat) > 0 then _ else _) Q s
   rw [if_neg (by omega)]
   show KasT.kasWp cmp (kas_tail3 m' N p) Q s
   unfold kas_tail3
   rw [KasT.kasWp_bind]
   obtain ⟨r1, r2⟩ := uB O hc hp (show m' <= N by omega) c'
   exact ja O hc r1 (N - m') m' (by omega) (by omega) r2 fun m'' x y z w => h0 m'' _ (by omega) (by omega) r1 z
theorem iI {p : Array Nat} (hp : Pm N p) {k : Nat} (hk : k < N) (ha : Asc lt p k) {Q : Nat -> Shared -> Prop} : ∀ (f l r : Nat), l <= r -> r <= k -> r - l <= f -> (∀ i, i < l -> lt (gp p i) (gp p k) = true) -> (∀ i, r <= i -> i < k -> lt (gp p k) (gp p i) = true) ->
  (∀ l, l <= k -> (∀ i, i < l -> lt (gp p i) (gp p k) = true) -> (∀ i, l <= i -> i < k -> lt (gp p k) (gp p i) = true) -> Q l s) -> (kas_place p k f l r).kasWp cmp Q s
 | 0, l, r, h1, h2, h3, hl, hr, q => by
  have : l = r := by omega
  subst this
  exact q l h2 hl hr
 | f + 1, l, r, h1, h2, h3, hl, hr, q => by
  unfold kas_place
  by_cases e : l ≥ r
  ·rw [if_pos e]
   have : l = r := by omega
   subst this
   exact q l h2 hl hr
  ·rw [if_neg e]
   refine hc _ _ _ (hp.lt hk) (hp.lt (by omega)) (hp.inj hk (by omega) (by omega)) ?_
   by_cases c : lt (gp p k) (gp p ((l + r) / 2)) = true
   ·show KasT.kasWp cmp (if lt (gp p k) (gp p ((l + r) / 2)) = true then _ else _) Q s
    rw [if_pos c]
    refine iI hp hk ha f l ((l + r) / 2) (by omega) (by omega) (by omega) hl (fun i a b => ?_) q
    by_cases z : i = (l + r) / 2
    ·rw [z]; exact c
    ·exact O.tr _ _ _ c (ha _ _ (by omega) b)
   ·show KasT.kasWp cmp (if lt (gp p k) (gp p ((l + r) / 2)) = true then _ else _) Q s
    rw [if_neg c]
    have c' := O.other hp hk (show (l + r) / 2 < N by omega) (by omega) c
    refine iI hp hk ha f ((l + r) / 2 + 1) r (by omega) h2 (by omega) (fun i a => ?_) hr q
    by_cases z : i = (l + r) / 2
    ·rw [z]; exact c'
    ·exact O.tr _ _ _ (ha i ((l + r) / 2) (by omega) (by omega)) c'
theorem mD {Q : Array Nat -> Shared -> Prop} (h0 : ∀ q, Pm N q -> Asc lt q N -> Q q s) : ∀ (f : Nat) (p : Array Nat) (k : Nat), k + f = N -> Pm N p -> Asc lt p k -> (kas_bin f p k).kasWp cmp Q s
 | 0, p, k, hk, hp, ha => h0 p hp (by rw [<- hk]; exact ha)
 | f + 1, p, k, hk, hp, ha => by
  unfold kas_bin
  rw [KasT.kasWp_bind]
  refine iI O hc hp (show k < N by omega) ha k 0 k (by omega) (Nat.le_refl _) (by omega) (fun i z => by omega) (fun i a b => by omega) fun l hl h1 h2 => ?_
  refine mD h0 f _ (k + 1) (by omega) ((bubble_perm p k _).trans hp) fun i j hij hj => ?_
  have hs : k < p.size := by rw [hp.size]; omega
  have g : ∀ i, gp (bubble p k (k - l)) i = if i = l then gp p k else if l < i /\ i <= k then gp p (i - 1) else gp p i := fun i => by
   have e := getElem?_bubble hs (k - l) (by omega) i
   have e1 : k - (k - l) = l := by omega
   rw [e1] at e
   by_cases z1 : i = l
   ·rw [if_pos z1] at e ⊢; exact fZ e
   ·rw [if_neg z1] at e ⊢
    by_cases z2 : l < i /\ i <= k
    ·rw [if_pos z2] at e ⊢; exact fZ e
    ·rw [if_neg z2] at e ⊢; exact fZ e
  rw [g i, g j]
  by_cases a1 : i = l
  ·rw [if_pos a1, if_neg (by omega), if_pos (by omega)]
   exact h2 _ (by omega) (by omega)
  ·rw [if_neg a1]
   by_cases a2 : l < i /\ i <= k
   ·rw [if_pos a2, if_neg (by omega), if_pos (by omega)]
    exact ha _ _ (by omega) (by omega)
   ·rw [if_neg a2]
    by_cases b1 : j = l
    ·rw [if_pos b1]; exact h1 i (by omega)
    ·rw [if_neg b1]
     by_cases b2 : l < j /\ j <= k
     ·rw [if_pos b2]
      exact ha _ _ (by omega) (by omega)
     ·rw [if_neg b2]
      exact ha _ _ hij (by omega)
theorem tV (h2 : 2 <= N) {Q : Array Nat -> Shared -> Prop} (h0 : ∀ q, Pm N q -> Asc lt q N -> Q q s) : (kas_sort N).kasWp cmp Q s := by
 unfold kas_sort
 rw [KasT.kasWp_bind]
 refine qZ O hc (Array.Perm.refl _) h2 fun m q a b hp ha => ?_
 show KasT.kasWp cmp (if m < N then _ else _) Q s
 by_cases e : m < N
 ·rw [if_pos e]
  have em : max m 1 = m := by omega
  show KasT.kasWp cmp (kas_bin (N - max m 1) q (max m 1)) Q s
  rw [em]
  exact mD O hc h0 (N - m) q m (by omega) hp ha
 ·rw [if_neg e]
  have : m = N := by omega
  subst this
  exact h0 q hp ha
end
end L2
namespace L2
open PySem PySem.Spec PyProof.Rows PySem.W PySem.Calls
section
variable {prog : Program} {w : World} {A : Around} {E : Value -> Shared -> Prop} {s : Shared}
noncomputable def jo (prog : Program) (w : World) (A : Around) (vs : List Value) (lt : Nat -> Nat -> Bool) (s : Shared) : Prop :=
 ∃ κ : SortKind, (∀ Q : SortKind -> Shared -> Prop, Q κ s -> wpAny (model prog w) A (keyKind' vs.toArray) Q (fun _ _ => False) s) /\
  ∀ (i j : Nat) (C : Bool -> Shared -> Prop), i < vs.length -> j < vs.length -> i ≠ j -> C (lt i j) s -> kas_ask prog w A κ vs i j C s
noncomputable def eA (vs : List Value) (p : Array Nat) : List Value := p.toList.map fun i => vs.getD i Value.none
theorem pw {lt : Nat -> Nat -> Bool} {a : Addr} {vs : List Value} {n : Nat} {P : PySem.Fin -> Shared -> Prop} (ho : s.heap.get? a = some (seqObj "list" vs.toArray n)) (h64 : vs.length < 64) (O : Ord vs.length lt)
  (hk : 2 <= vs.length -> ∀ s' : Shared, (∀ b o, b ≠ a -> s.heap.get? b = some o -> s'.heap.get? b = some o) -> jo prog w A vs lt s')
  (h : ∀ p, Pm vs.length p -> Asc lt p vs.length -> P (.done (.ret .none)) { s with heap := sortedHeap s.heap a vs (eA vs p).toArray }) :
  wpAny (model prog w) A (Builtin.«list.sort» ⟨[.ref a], []⟩) P E s := by
 rw [list_sort_plain]
 have hlt : a < s.heap.objs.size := Heap.lt_size ho
 have hfit : vs.length <= sizeLine := by rw [sizeLine_eq]; omega
 refine wpAny_bind (listItems_at ho rfl (wpAny_bind (listUpdate_at ho rfl ?_ (by rw [List.size_toArray]; exact hfit) (Nat.zero_le _))))
 obtain ⟨e1, ho1⟩ : ∃ e1, (s.heap.update a (Obj.mapSeq fun _ => (#[] : Array Value))).get? a = some (seqObj "list" #[] e1) := ⟨_, get?_update_seq ho fun _ => #[]⟩
 refine wpAny_bind (seqEpoch_at ho1 rfl (wpAny_bind (wpAny_newTuple (wpAny_bind (wpAny_newList (wpAny_holding ?_) (Nat.zero_le _))) (by show vs.length <= _; exact hfit))))
 have ho2 : (((s.heap.update a (Obj.mapSeq fun _ => (#[] : Array Value))).push (seqObj "tuple" vs.toArray 0)).push (seqObj "list" #[] 0)).get? a = some (seqObj "list" #[] e1) := Heap.get?_push_of_some _ (Heap.get?_push_of_some _ ho1)
 show wpAny (model prog w) A _ P E { s with heap := ((s.heap.update a (Obj.mapSeq fun _ => (#[] : Array Value))).push (seqObj "tuple" vs.toArray 0)).push (seqObj "list" #[] 0) }
 dsimp only
 by_cases h2 : vs.toArray.size < 2
 ·rw [if_pos h2, if_pos h2]
  refine wpAny_bind (wpAny_pure ?_)
  rw [StateT.run_pure]
  refine wpAny_bind (wpAny_pure ?_)
  dsimp only
  have hz : ((vs.toArray.zip vs.toArray).map (·.2)) = (eA vs (List.toArray (List.range vs.length))).toArray := by
   unfold eA
   apply Array.ext
   ·simp
   ·intro i h1 h2
    simp only [Array.size_map, Array.size_zip, List.size_toArray, Nat.min_self] at h1
    simp [h1]
  have es : vs.toArray.size = vs.length := by simp
  refine wpAny_bind (seqEpoch_at ho2 rfl (wpAny_bind (listUpdate_at ho2 rfl ?_ (Nat.zero_le _) ?_)))
  ·simp only [bne_self_eq_false, Bool.false_eq_true, if_false]
   have q := h (List.toArray (List.range vs.length)) (Array.Perm.refl _) (fun i j hij hj => by omega)
   unfold sortedHeap at q
   rw [<- hz] at q
   exact wpAny_pure q
  ·show ((vs.toArray.zip vs.toArray).map (·.2)).size <= sizeLine + 1
   simp only [Array.size_map, Array.size_zip, List.size_toArray, Nat.min_self]
   omega
 ·have h2' : 2 <= vs.length := by rw [List.size_toArray] at h2; omega
  rw [if_neg h2, if_neg h2]
  obtain ⟨κ, kd, ask⟩ := hk h2' { s with heap := ((s.heap.update a (Obj.mapSeq fun _ => (#[] : Array Value))).push (seqObj "tuple" vs.toArray 0)).push (seqObj "list" #[] 0) } fun b o hb e =>
   Heap.get?_push_of_some _ (Heap.get?_push_of_some _ (by rw [Heap.get?_update_ne _ _ _ _ hb]; exact e))
  refine wpAny_bind (wpAny_mono (E := fun _ _ => False) (Q := fun k s' => k = κ /\ s' = { s with heap := ((s.heap.update a (Obj.mapSeq fun _ => (#[] : Array Value))).push (seqObj "tuple" vs.toArray 0)).push (seqObj "list" #[] 0) }) (kd _ ⟨rfl, rfl⟩) ?_ fun _ _ f => f.elim)
  rintro k s' ⟨rfl, rfl⟩
  refine wpAny_bind (wpAny_mono (kat_run (ks := vs) (G := fun p s' => (Pm vs.length p /\ Asc lt p vs.length) /\ s' = { s with heap := ((s.heap.update a (Obj.mapSeq fun _ => (#[] : Array Value))).push (seqObj "tuple" vs.toArray 0)).push (seqObj "list" #[] 0) })
   (Q := fun st' s' => ∃ p : Array Nat, arrOf st' = p.map (kas_item (vs.toArray.zip vs.toArray)) /\ failedOf st' = none /\ (Pm vs.length p /\ Asc lt p vs.length) /\ s' = { s with heap := ((s.heap.update a (Obj.mapSeq fun _ => (#[] : Array Value))).push (seqObj "tuple" vs.toArray 0)).push (seqObj "list" #[] 0) })
   rfl h2' h64 (fun p st' s' _ a2 a3 a4 => ⟨p, a2, a3, a4⟩) (tV O ask h2' fun q hq ha => ⟨⟨hq, ha⟩, rfl⟩)) ?_ fun _ _ e => e)
  rintro ⟨⟨⟩, st'⟩ s' ⟨p, har, hf, ⟨hp, ha⟩, rfl⟩
  dsimp only
  rw [kat_snds rfl har]
  have hsz : (List.toArray (p.toList.map fun i => vs.getD i Value.none)).size <= sizeLine + 1 := by
   rw [List.size_toArray, List.length_map, Array.length_toList, hp.size]; omega
  refine wpAny_bind (seqEpoch_at ho2 rfl (wpAny_bind (listUpdate_at ho2 rfl ?_ (Nat.zero_le _) hsz)))
  rw [hf]
  simp only [bne_self_eq_false, Bool.false_eq_true, if_false]
  exact wpAny_pure (h p hp ha)
theorem o8 {l : Addr} {o : Obj} {vs : List Value} {n : Nat} {T : String} {Q : List Value -> Shared -> Prop} (hT : T = "list" \/ T = "tuple") (ho : s.heap.get? l = some o) (hc : o.cls = .type T) (hd : o.data = .seq vs.toArray n)
  (h : Q vs { s with heap := (s.heap.push (seqObj "list" #[] 0)).update s.heap.objs.size (Obj.mapSeq (· ++ vs.toArray)) }) (hsz : vs.length <= sizeLine) : wpAny (model prog w) A (collect (.ref l)) Q E s := by
 rcases hT with rfl | rfl
 ·exact collect_list ⟨o, ho, hc, n, hd⟩ h hsz
 ·unfold collect
  refine wpAny_bind (wpAny_runValue (codeAny_builtin entry_proto_collect' ?_))
  show wpAny _ _ (do again (.builtin "list.__iadd__" ⟨[<- newList [], .ref l], []⟩)) _ _ s
  refine wpAny_bind (wpAny_newList (wpAny_pure ⟨Code.quiet_builtin _ (by decide +kernel), codeAny_builtin entry_list_iadd' ?_⟩))
  show wpAny _ _ (Builtin.List.listExtendWith (.ref s.heap.objs.size) (.ref l) (.ref s.heap.objs.size)) _ _ { s with heap := s.heap.push (seqObj "list" #[] 0) }
  unfold Builtin.List.listExtendWith
  have ho' : (s.heap.push (seqObj "list" #[] 0)).get? l = some o := Heap.get?_push_of_some _ ho
  refine wpAny_bind (wpAny_typeOf (T := "tuple") ⟨o, ho', hc⟩ ?_)
  rw [if_pos (by rw [show (Value.type "tuple" == Value.type "tuple") = true from rfl]; simp)]
  refine wpAny_bind (listItems_at ho' hd (wpAny_bind (listItems_at (xs := #[]) (n := 0) (Heap.get?_push_size _ rfl) rfl ?_)))
  rw [if_neg (by simp)]
  refine wpAny_bind (listUpdate_at (xs := #[]) (n := 0) (Heap.get?_push_size _ rfl) rfl (wpAny_pure ?_) (Nat.zero_le _) (by show (#[] ++ vs.toArray).size <= sizeLine + 1; simp only [Array.size_append, List.size_toArray, List.length_nil]; omega))
  show wpAny (model prog w) A (do
    let o <- load s.heap.objs.size
    match o.data with
    | .seq xs _ => pure xs.toList
    | _ => unsupported "internal:collect") Q E { s with heap := (s.heap.push (seqObj "list" #[] 0)).update s.heap.objs.size (Obj.mapSeq (· ++ vs.toArray)) }
  refine wpAny_bind (wpAny_load (get?_update_seq (Heap.get?_push_size _ rfl) _) ?_)
  show wpAny _ _ (pure ((#[] : Array Value) ++ vs.toArray).toList) Q E _
  rw [show ((#[] : Array Value) ++ vs.toArray).toList = vs by simp]
  exact wpAny_pure h
theorem tP {lt : Nat -> Nat -> Bool} {l : Addr} {o : Obj} {vs : List Value} {n : Nat} {T : String} {Q : Value -> Shared -> Prop} (hT : T = "list" \/ T = "tuple") (ho : s.heap.get? l = some o) (hc : o.cls = .type T) (hd : o.data = .seq vs.toArray n) (h64 : vs.length < 64) (O : Ord vs.length lt)
  (hk : 2 <= vs.length -> ∀ s' : Shared, (∀ b o, s.heap.get? b = some o -> s'.heap.get? b = some o) -> jo prog w A.in1.in1 vs lt s')
  (h : ∀ p, Pm vs.length p -> Asc lt p vs.length -> Q (.ref (s.heap.objs.size + 1)) { s with heap := sortedAll s.heap vs (eA vs p).toArray }) : wpAny (model prog w) A (call (.builtin "sorted") [.ref l]) Q E s := by
 refine Calls.call_function_entry kind_sorted plain_sorted entry_sorted (args_sorted1 _) ?_
 unfold Builtin.«sorted»
 refine wpAny_bind (m := checkCount "sorted" 1 1 _) (wpAny_pure (wpAny_bind (o8 hT ho hc hd (wpAny_bind (wpAny_newList ?_ (by rw [sizeLine_eq]; omega))) (by rw [sizeLine_eq]; omega))))
 have hsz : ((s.heap.push (seqObj "list" #[] 0)).update s.heap.objs.size (Obj.mapSeq (· ++ vs.toArray))).objs.size = s.heap.objs.size + 1 := by rw [Heap.size_update, size_push']
 have hoL : (((s.heap.push (seqObj "list" #[] 0)).update s.heap.objs.size (Obj.mapSeq (· ++ vs.toArray))).push (seqObj "list" vs.toArray 0)).get? (s.heap.objs.size + 1) = some (seqObj "list" vs.toArray 0) := by
  rw [<- hsz]
  exact Heap.get?_push_size _ rfl
 show wpAny _ _ _ _ _ { s with heap := ((s.heap.push (seqObj "list" #[] 0)).update s.heap.objs.size (Obj.mapSeq (· ++ vs.toArray))).push (seqObj "list" vs.toArray 0) }
 rw [hsz]
 have kp : ∀ b o, s.heap.get? b = some o -> (((s.heap.push (seqObj "list" #[] 0)).update s.heap.objs.size (Obj.mapSeq (· ++ vs.toArray))).push (seqObj "list" vs.toArray 0)).get? b = some o := fun b ob e => by
  have hb := Heap.lt_size e
  refine Heap.get?_push_of_some _ ?_
  rw [Heap.get?_update_ne _ _ _ _ (Nat.ne_of_lt hb)]
  exact Heap.get?_push_of_some _ e
 refine wpAny_bind (wpAny_holding (wpAny_call_entry slot_list_sort ⟨_, hoL, rfl⟩ entry_list_sort (pw hoL h64 O (fun z s' hs' => hk z s' fun b ob e => hs' b ob (by have := Heap.lt_size e; exact Nat.ne_of_lt (Nat.lt_succ_of_lt this)) (kp b ob e)) fun p hp ha => ⟨_, rfl, ?_⟩) (args_list_sort _)))
 exact wpAny_pure ⟨_, rfl, h p hp ha⟩
end
theorem i8 {h : Heap} : ∀ {vs fs : List Value}, KatTups h vs fs -> ∀ (i : Nat), i < vs.length -> ∃ a o xs n f, vs.getD i Value.none = .ref a /\ h.get? a = some o /\ o.data = .seq xs n /\ xs[0]? = some f /\ fs[i]? = some f
 | [], [], _, i, hi => absurd hi (Nat.not_lt_zero _)
 | [], _ :: _, t, _, _ => t.elim
 | _ :: _, [], t, _, _ => t.elim
 | v :: vs, f :: fs, t, 0, _ => by
  obtain ⟨⟨a, o, xs, n, rfl, ho, hc, hd, hf⟩, _⟩ := t
  exact ⟨a, o, xs, n, f, rfl, ho, hd, hf, rfl⟩
 | v :: vs, f :: fs, t, i + 1, hi => by
  obtain ⟨_, t⟩ := t
  obtain ⟨a, o, xs, n, g, e1, e2, e3, e4, e5⟩ := i8 t i (by simpa using hi)
  exact ⟨a, o, xs, n, g, by simpa using e1, e2, e3, e4, by simpa using e5⟩
theorem jd : ∀ {fs : List Value} {ss : List Str}, StrsAre fs ss -> ∀ (i : Nat) (f : Value), fs[i]? = some f -> ∃ t, f = .str (ss.getD i Str.empty) t /\ i < ss.length
 | _, _, .nil, i, f, h => by simp at h
 | _, _, .cons y t r, 0, f, h => by simp at h; exact ⟨t, h.symm, by simp⟩
 | _, _, .cons y t r, i + 1, f, h => by
  obtain ⟨t', e1, e2⟩ := jd r i f (by simpa using h)
  exact ⟨t', by simpa using e1, by simpa using e2⟩
theorem uE {prog : Program} {w : World} {A : Around} {s : Shared} {vs fs : List Value} {ss : List Str} (t : KatTups s.heap vs fs) (hS : StrsAre fs ss) (hne : 0 < fs.length) (hnd : ss.Nodup) :
  jo prog w A vs (fun i j => decide ((ss.getD i Str.empty).cps.toList < (ss.getD j Str.empty).cps.toList)) s := by
 refine ⟨tuples' (Value.type "str" != Value.type "tuple"), fun Q q => kat_kind (T := Value.type "str") t hne (fun v hv => ?_) (by decide) q, fun i j C hi hj hij q => ?_⟩
 ·obtain ⟨x, u, rfl⟩ := hS.all v hv
  exact Looks.now
 ·obtain ⟨a, o, xs, n, f, e1, e2, e3, e4, e5⟩ := i8 t i hi
  obtain ⟨b, o', ys, n', g, g1, g2, g3, g4, g5⟩ := i8 t j hj
  obtain ⟨tf, rfl, hil⟩ := jd hS i f e5
  obtain ⟨tg, rfl, hjl⟩ := jd hS j g g5
  unfold kas_ask
  rw [e1, g1]
  refine kat_lt e2 e3 g2 g3 ?_
  obtain ⟨xr, hx⟩ : ∃ xr, xs.toList = .str (ss.getD i Str.empty) tf :: xr := by
   cases hq : xs.toList with
   | nil => rw [<- Array.getElem?_toList, hq] at e4; simp at e4
   | cons z zr => rw [<- Array.getElem?_toList, hq] at e4; simp at e4; rw [e4]; exact ⟨zr, rfl⟩
  obtain ⟨yr, hy⟩ : ∃ yr, ys.toList = .str (ss.getD j Str.empty) tg :: yr := by
   cases hq : ys.toList with
   | nil => rw [<- Array.getElem?_toList, hq] at g4; simp at g4
   | cons z zr => rw [<- Array.getElem?_toList, hq] at g4; simp at g4; rw [g4]; exact ⟨zr, rfl⟩
  rw [hx, hy]
  have hnE : ss.getD i Str.empty ≠ ss.getD j Str.empty := by
   rw [List.getD_eq_getElem?_getD, List.getD_eq_getElem?_getD, List.getElem?_eq_getElem hil, List.getElem?_eq_getElem hjl]
   intro z
   have z' : ss[i] = ss[j] := z
   rcases Nat.lt_or_gt_of_ne hij with y | y
   ·exact List.pairwise_iff_getElem.mp hnd i j hil hjl y z'
   ·exact List.pairwise_iff_getElem.mp hnd j i hjl hil y z'.symm
  show KatLex prog w A _ _ C ((Value.str (ss.getD i Str.empty) tf, Value.str (ss.getD j Str.empty) tg) :: xr.zip yr) 0 s
  refine kat_cons (wpAny_eqBool_str ?_)
  rw [decide_eq_false hnE]
  refine kat_no ?_
  show wpAny _ A (oneLt' true _ _) C _ s
  exact strKind_oneLt prog w A _ s _ _ _ _ rfl rfl q
theorem lO {x y : Str} (h : x ≠ y) : x.cps.toList < y.cps.toList \/ y.cps.toList < x.cps.toList := by
 by_cases c : x.cps.toList < y.cps.toList
 ·exact .inl c
 ·rcases List.le_iff_lt_or_eq.mp (List.not_lt.mp c) with z | z
  ·exact .inr z
  ·refine absurd ?_ h
   obtain ⟨a⟩ := x
   obtain ⟨b⟩ := y
   have e : b = a := Array.toList_inj.mp z
   rw [e]
noncomputable def mH (H : Hp) (rs : List (Addr × Str)) : Prop := ∀ r ∈ rs, ∃ rest, H r.1 = some (.tup (.str r.2 :: rest))
noncomputable abbrev refs (rs : List (Addr × Str)) : List V := rs.map fun r => V.ref r.1
noncomputable def nlt (x y : Str) : Prop := x.cps.toList < y.cps.toList
theorem jX {P : Program} {w : World} {H : Hp} {h : Heap} (ok : HOk P w H h) : ∀ {rs : List (Addr × Str)} {us : List Value}, mH H rs -> ao (refs rs) us -> ∃ fs, KatTups h us fs /\ StrsAre fs (rs.map (·.2))
 | [], us, _, r => by cases r; exact ⟨[], trivial, .nil⟩
 | x :: rs, us, hr, r => by
  cases r with
  | @cons _ u _ us' r1 r2 =>
   obtain ⟨fs, t, q⟩ := jX ok (rs := rs) (fun y hy => hr y (List.mem_cons_of_mem _ hy)) r2
   obtain ⟨rest, e⟩ := hr x List.mem_cons_self
   cases (show u = Value.ref x.1 from r1)
   obtain ⟨_, its, rv, o, ho, hc, n, hd⟩ := (show aC P w H h x.1 (.tup (.str x.2 :: rest)) from ok x.1 _ e)
   cases rv with
   | @cons _ f _ its' rf _ =>
    obtain ⟨tk, rfl⟩ := rf
    exact ⟨.str x.2 tk :: fs, KatTups.cons ho hc hd (by simp) t, .cons _ _ q⟩
theorem kr {xs : List V} {us : List Value} (r : ao xs us) : ∀ {ps : List Nat}, (∀ i ∈ ps, i < xs.length) -> ao (ps.map fun i => xs.getD i .non) (ps.map fun i => us.getD i Value.none)
 | [], _ => .nil
 | i :: ps, h => by
  have hi := h i List.mem_cons_self
  obtain ⟨u, e, ru⟩ := r.get (List.getElem?_eq_getElem hi)
  refine .cons ?_ (kr r fun j hj => h j (List.mem_cons_of_mem _ hj))
  show RelV (xs.getD i .non) (us.getD i Value.none)
  rw [List.getD_eq_getElem?_getD, List.getD_eq_getElem?_getD, List.getElem?_eq_getElem hi, e]
  exact ru
theorem qe {α : Type} (d : α) (xs : List α) {p : Array Nat} (h : Pm xs.length p) : (p.toList.map fun i => xs.getD i d).Perm xs := by
 have hp : p.toList.Perm (List.range xs.length) := by simpa using Array.perm_iff_toList_perm.mp h
 have e : (List.range xs.length).map (fun i => xs.getD i d) = xs := by
  apply List.ext_getElem
  ·simp
  ·intro i h1 h2
   simp [h2]
 exact (hp.map _).trans (by rw [e])
section
variable {X : Cx}
theorem oS : bp X (.builtin "sorted") (fun xs H Q => ∃ (p : Addr) (rs : List (Addr × Str)), xs = [.ref p] /\ (SqL X.K H p (refs rs) \/ SqT X.K H p (refs rs)) /\ mH H rs /\ rs.length < 64 /\ (rs.map (·.2)).Nodup /\
  ∀ (rs' : List (Addr × Str)) (q : Addr), rs'.Perm rs -> (rs'.map (·.2)).Pairwise nlt -> H q = none -> Q (.ref q) (upd H q (.lst (refs rs')))) := by
 intro pins s σ H xs us Q I r h
 obtain ⟨p, rs, rfl, hq, hR, h64, hnd, q⟩ := h
 obtain ⟨u, rfl, rx⟩ := vals1 r
 cases rx
 have core : ∀ (T : String) (o : Obj) (its : List Value) (n : Nat), (T = "list" \/ T = "tuple") -> s.heap.get? p = some o -> o.cls = .type T -> o.data = .seq its.toArray n -> ao (refs rs) its ->
   wpAny (model X.prog X.w) X.A (call (.builtin "sorted") [.ref p]) (EP X pins σ Q) X.xe s := fun T o its n hT ho hc hd r' => by
  have hl := r'.length
  have hl' : its.length = rs.length := by rw [<- hl]; simp
  have O : Ord its.length (fun i j => decide (((rs.map (·.2)).getD i Str.empty).cps.toList < ((rs.map (·.2)).getD j Str.empty).cps.toList)) := by
   refine ⟨fun i j k h1 h2 => ?_, fun i => ?_, fun i j hi hj hij => ?_⟩
   ·exact decide_eq_true (List.lt_trans (of_decide_eq_true h1) (of_decide_eq_true h2))
   ·exact decide_eq_false (List.lt_irrefl _)
   ·have hil : i < (rs.map (·.2)).length := by simpa [<- hl'] using hi
    have hjl : j < (rs.map (·.2)).length := by simpa [<- hl'] using hj
    rw [List.getD_eq_getElem?_getD, List.getD_eq_getElem?_getD, List.getElem?_eq_getElem hil, List.getElem?_eq_getElem hjl]
    have ne : (rs.map (·.2))[i] ≠ (rs.map (·.2))[j] := by
     rcases Nat.lt_or_gt_of_ne hij with y | y
     ·exact List.pairwise_iff_getElem.mp hnd i j hil hjl y
     ·exact fun z => List.pairwise_iff_getElem.mp hnd j i hjl hil y z.symm
    exact (lO ne).imp decide_eq_true decide_eq_true
  refine tP hT ho hc hd (by omega) O (fun h2 s' hs' => ?_) fun pm hp ha => ?_
  ·obtain ⟨fs, t, hS⟩ := jX (I.hok.kept hs') hR r'
   have hfl : 0 < fs.length := by
    have := hS.length
    simp at this
    omega
   exact uE t hS hfl hnd
  ·obtain ⟨e, he⟩ := sortedAll_at s.heap its (eA its pm).toArray
   have hpm : Pm rs.length pm := by rw [<- hl']; exact hp
   have hlt : ∀ i ∈ pm.toList, i < rs.length := fun i hi => by
    have : i ∈ (List.toArray (List.range rs.length)) := hpm.mem_iff.mp (by simpa using hi)
    simpa using this
   have hv : ao ((pm.toList.map fun i => (refs rs).getD i .non)) (eA its pm) := kr r' fun i hi => by simpa using hlt i hi
   have he2 : (pm.toList.map fun i => (refs rs).getD i .non) = refs (pm.toList.map fun i => rs.getD i (0, Str.empty)) := by
    unfold refs
    rw [List.map_map]
    exact List.map_congr_left fun i hi => by simp [hlt i hi]
   rw [he2] at hv
   have hfr : H (s.heap.objs.size + 1) = none := I.hok.fresh (Nat.le_succ _)
   have hpe := qe (0, Str.empty) rs hpm
   refine ⟨.ref (s.heap.objs.size + 1), _, I.laid (t' := s.toks) (o := .lst (refs (pm.toList.map fun i => rs.getD i (0, Str.empty)))) (fun b o z => sortedAll_old z) (Nat.le_succ _) ⟨?_, eA its pm, e, hv, ?_⟩, rfl, q _ _ hpe ?_ hfr⟩
   ·unfold refs
    rw [List.length_map, hpe.length_eq, sizeLine_eq]; omega
   ·simpa [seqObj] using he
   ·rw [List.map_map, List.pairwise_map]
    refine List.pairwise_iff_getElem.mpr fun i j hi hj hij => ?_
    have hps := hp.size
    have hi' : i < pm.size := by simpa using hi
    have hj' : j < pm.size := by simpa using hj
    have z := of_decide_eq_true (ha i j hij (by omega))
    rw [fL hi', fL hj'] at z
    show ((rs.getD pm.toList[i] (0, Str.empty)).2).cps.toList < ((rs.getD pm.toList[j] (0, Str.empty)).2).cps.toList
    have b1 := hlt pm.toList[i] (List.getElem_mem _)
    have b2 := hlt pm.toList[j] (List.getElem_mem _)
    simp only [Array.getElem_toList] at b1 b2 ⊢
    simpa [b1, b2] using z
 rcases hq with hq | hq
 ·obtain ⟨its, r', pl, hz⟩ := I.list hq
  obtain ⟨o, ho, hc, n, hd⟩ := pl.isList
  exact core "list" o its n (.inl rfl) ho hc hd r'
 ·obtain ⟨its, r', pl, hz⟩ := I.tuple hq
  obtain ⟨o, ho, hc, n, hd⟩ := pl
  exact core "tuple" o its n (.inr rfl) ho hc hd r'
end
end L2
namespace L2
open PySem PySem.Spec PyProof.Rows
noncomputable def Its (x : Str) : It := ⟨fun i _ => i < x.length, fun i H v H' => H' = H /\ ∃ c, x.cps[i]? = some c /\ v = .str ⟨#[c]⟩, fun i _ => x.length <= i⟩
theorem qU {P : Program} {w : World} {K : PySem.W.Frag} {tg : Expr} (x : Str) (t : Tok) (it : Addr) : Turn P w K tg (Its x) [it] it (fun i h => h.IsStrIter it "str_ascii_iterator" x t i) where
 mem := by simp
 obj := fun i h st b hb => by
  have e : b = it := by simpa using hb
  subst e
  obtain ⟨o, e, c, d⟩ := st
  exact ⟨o, e, fun v z => by rw [d] at z; cases z⟩
 keep := fun i h h' st k => by
  obtain ⟨o, e, r⟩ := st
  exact ⟨o, k it (by simp) o e, r⟩
 item := by
  intro X hP hw hK hc i pins s σ H E I hf st hg
  subst hP hw hK
  have hg' : i < x.cps.size := hg
  obtain ⟨f0, f1, f2, f3, f4, f5⟩ := hf it (by simp)
  refine wpAny_pyNext_ascii_item st (Array.getElem?_eq_getElem hg') fun h' st' sb => ?_
  have I1 : Inv X pins σ H { s with heap := h', toks := s.toks + 1 } := I.turned (fun b o hb e => (sb.2 b hb).trans e) f0 f1 f3 f4 f5
  obtain ⟨o, e, c, d⟩ := id st'
  exact ⟨_, rfl, fJ (s := { s with heap := h', toks := s.toks + 1 }) e c d (by decide) ⟨.str ⟨#[x.cps[i]]⟩, H, I1, ⟨_, rfl⟩, ⟨rfl, _, Array.getElem?_eq_getElem hg', rfl⟩, st', fun b hb => (hf b hb).1⟩⟩
 done := by
  intro X hP hw hK hc i pins s σ H E I hf st hg
  subst hP hw hK
  have hg' : x.cps.size <= i := hg
  obtain ⟨f0, f1, f2, f3, f4, f5⟩ := hf it (by simp)
  exact wpAny_pyNext_ascii_end (I.ok.hd hc) st (Array.getElem?_eq_none hg') fun h' eb => ⟨rfl, I.turned (t' := s.toks) (fun b o hb e => eb b o hb e) f0 f1 f3 f4 f5⟩
 self := fun A i s Q E st h => wpAny_pyIter_striter_ascii st h
section
variable {X : Cx} {tg : Expr}
noncomputable def wD (tl : TE) : TI := fun σ H R => tl σ H fun v H1 => ∃ x : Str, v = .str x /\ x.cps.all (· < 128) = true /\ R (Its x) H1
theorem uF {l : Expr} {tl : TE} (hl : PE X l tl) : PI X tg l (wD tl) := by
 intro pins s σ H R I h
 refine thn (hl pins s σ H _ I h) fun v s1 ⟨x, H1, I1, r1, q1⟩ => ?_
 obtain ⟨y, rfl, ha, q⟩ := q1
 obtain ⟨t, rfl⟩ := r1
 refine wpAny_pyIter_ascii ha ?_
 refine ⟨s1.heap.objs.size, [s1.heap.objs.size], _, _, H1, rfl, I1.kept (t' := s1.toks) fun b o e => Heap.get?_push_of_some _ e, qU y t _, ⟨_, Heap.get?_push_size _ rfl, rfl, rfl⟩, fun b hb => ?_, q⟩
 have e : b = s1.heap.objs.size := by simpa using hb
 subst e
 exact I1.fpOk (Nat.le_refl _) (I1.hok.fresh (Nat.le_refl _))
theorem uG : SlR X (fun x lo hi H Q => ∃ z, x = .str z /\ z.length <= sizeLine /\ Q (.str (Txt.slice z lo hi)) H) := by
 intro pins s σ H x v vl vu lo hi sl Q I rx hs pl pu h
 obtain ⟨z, rfl, hz, q⟩ := h
 obtain ⟨t, rfl⟩ := rx
 have fin : ∀ (t' : Tok) (k : Nat), EP X pins σ Q (.str (Txt.slice z lo hi) t') { s with toks := k } := fun t' k => ⟨.str (Txt.slice z lo hi), H, I.tok k, ⟨_, rfl⟩, q⟩
 refine ⟨"str", _, F.slot_str_getitem.lookup, typeIs_str _ _ _, ?_⟩
 obtain ⟨o, ho, hc, hd⟩ := hs
 cases pl with
 | none =>
  cases pu with
  | none => exact wpAny_getItem_str_slice (l := none) (u := none) (st := none) ⟨o, ho, hc, hd⟩ rfl (post_val_or_str ⟨Nat.le_trans (Txt.slice_le z _ _) hz, fun t' k => fin t' k⟩)
  | int j uj => exact wpAny_getItem_str_slice (l := none) (u := some (j, uj)) (st := none) ⟨o, ho, hc, hd⟩ rfl (post_val_or_str ⟨Nat.le_trans (Txt.slice_le z _ _) hz, fun t' k => fin t' k⟩)
 | int i ui =>
  cases pu with
  | none => exact wpAny_getItem_str_slice (l := some (i, ui)) (u := none) (st := none) ⟨o, ho, hc, hd⟩ rfl (post_val_or_str ⟨Nat.le_trans (Txt.slice_le z _ _) hz, fun t' k => fin t' k⟩)
  | int j uj => exact wpAny_getItem_str_slice (l := some (i, ui)) (u := some (j, uj)) (st := none) ⟨o, ho, hc, hd⟩ rfl (post_val_or_str ⟨Nat.le_trans (Txt.slice_le z _ _) hz, fun t' k => fin t' k⟩)
theorem p6 {prog : Program} {w : World} {A : Around} {E : Value -> Shared -> Prop} {s : Shared} {t sl : Addr} {items : Array Value} {vl vu : Value} {lo hi : Option Int} {Q : Value -> Shared -> Prop} (ht : IsTup s.heap t items) (hs : s.heap.IsSliceOf sl vl vu .none) (pl : IsPart vl lo) (pu : IsPart vu hi)
  (h0 : HT.sIx items.size 0 lo = 0) (h1 : HT.sIx items.size items.size hi = items.size) (h : Q (.ref t) s) : wpAny (model prog w) A (getItem (.ref t) (.ref sl)) Q E s := by
 obtain ⟨os, hos, hcs, hds⟩ := id hs
 have hTs : s.TypeIs (.ref sl) "slice" := ⟨os, hos, hcs⟩
 unfold getItem
 try with_reducible refine wpAny_holding ?_
 first | refine wpAny_bind (wpAny_pure ?_) | skip
 refine wpAny_bind (wpAny_sequenceKey ht.typeIs (by decide) (wpAny_bind (wpAny_callSpecial?_slot (name := Str.ofString "__getitem__") ht.typeIs PyProof.Rows.slot_tuple_getitem
  (wpAny_call_entry PyProof.Rows.slot_tuple_getitem ht.typeIs entry_tuple_getitem ?_ (args_tuple_getitem _ _)))))
 show wpAny _ _ (Builtin.Tuple.tupleItemsOf (.ref t) >>= _) _ _ s
 refine wpAny_bind (tupleItemsOf_ ht (wpAny_bind (wpAny_typeOf hTs ?_)))
 rw [if_pos (by decide)]
 refine wpAny_bind (HT.nW hs pl pu ?_)
 show wpAny _ _ (if (((HT.sIx items.size 0 lo : Nat) : Int) == 0 && (1 : Int) == 1 && (HT.sIx items.size items.size hi - HT.sIx items.size 0 lo) == items.size) = true then _ else _) _ _ s
 rw [h0, h1, if_pos (by simp)]
 refine wpAny_bind (wpAny_bind (wpAny_typeOf ht.typeIs (wpAny_pure ?_)))
 rw [if_pos (by rfl)]
 exact wpAny_bind (wpAny_rule (wpAny_pure ⟨_, rfl, wpAny_pure h⟩))
noncomputable def wJ (K : PySem.W.Frag) : V -> Option Int -> Option Int -> Hp -> VK -> Prop := fun x lo hi H Q => ∃ a xs, x = .ref a /\ SqT K H a xs /\
 (bF xs lo hi = xs -> Q (.ref a) H) /\ ∀ p, H p = none -> Q (.ref p) (upd H p (.tup (bF xs lo hi)))
theorem uq : SlR X (wJ X.K) := by
 intro pins s σ H x v vl vu lo hi sl Q I rx hs pl pu h
 obtain ⟨a, xs, rfl, hx, q1, q2⟩ := h
 by_cases hw : HT.sIx xs.length 0 lo = 0 /\ HT.sIx xs.length xs.length hi = xs.length
 ·cases rx
  obtain ⟨its, r, ht, hz⟩ := I.tuple hx
  have hlen : its.toArray.size = xs.length := by rw [List.size_toArray]; exact r.length.symm
  refine ⟨"tuple", _, PyProof.Rows.slot_tuple_getitem.lookup, ht.typeIs, p6 ht hs pl pu (by rw [hlen]; exact hw.1) (by rw [hlen]; exact hw.2) ⟨.ref a, H, I, rfl, q1 ?_⟩⟩
  unfold bF
  rw [hw.1, hw.2]
  simp
 ·exact uM pins s σ H (.ref a) v vl vu lo hi sl Q I rx hs pl pu ⟨a, xs, rfl, hx, hw, q2⟩
noncomputable def ng (K : PySem.W.Frag) : R2 := fun x y H Q => ∃ a b xs ys, x = .ref a /\ y = .ref b /\ SqT K H a xs /\ SqT K H b ys /\ xs.length + ys.length <= sizeLine /\
 (xs = [] -> Q (.ref b) H) /\ (ys = [] -> Q (.ref a) H) /\ ∀ p, H p = none -> Q (.ref p) (upd H p (.tup (xs ++ ys)))
theorem tR : OpR X (binaryOp .Add) (ng X.K) := by
 intro pins s σ H x y v u Q I rx ry h
 obtain ⟨a, b, xs, ys, rfl, rfl, ha, hb, hz, q0, q1, q2⟩ := h
 by_cases hx : xs = []
 ·subst hx
  cases rx
  cases ry
  obtain ⟨its, r1, p1, _⟩ := I.tuple ha
  obtain ⟨its2, r2, p2, _⟩ := I.tuple hb
  cases r1
  obtain ⟨⟨cls, dd, data, sl⟩, ho, hc, n, hd⟩ := id p1
  obtain ⟨⟨cls2, dd2, data2, sl2⟩, ho2, hc2, n2, hd2⟩ := id p2
  simp only at hc hd hc2 hd2
  subst hc hd hc2 hd2
  exact concat_meets ⟨_, ho, rfl⟩ ⟨_, ho2, rfl⟩ noFill_tuple_add seq_tuple_add PySem.F.slot_tuple_add PySem.F.entry_tuple_add (PySem.F.args_tuple_add_2 _ _)
   (tuple_addW0 a b _ its2.toArray n n2 dd dd2 sl sl2 (by simp)) ⟨ho, ho2, ⟨.ref b, H, I, rfl, q0 rfl⟩⟩
 ·exact tW pins s σ H (.ref a) (.ref b) v u Q I rx ry ⟨a, b, xs, ys, rfl, rfl, ha, hb, hx, hz, q1, fun _ => q2⟩
end
section
variable {K : PySem.W.Frag} {g : TG} {tt : TT} {te : TE} {σ' : St} {fin : List V -> Hp -> Prop} {H1 : Hp}
theorem gk {J : It} {n : Nat} (hn : n < sizeLine) (Pv : Nat -> List V -> St -> Hp -> Prop) (Yd : Nat -> V -> Prop) (h0 : Pv 0 [] σ' H1) (hl : ∀ i ys σ H, i <= n -> Pv i ys σ H -> ys.length <= i)
  (hgo : ∀ i ys σ H, i < n -> Pv i ys σ H -> J.go i H) (hst : ∀ ys σ H, Pv n ys σ H -> J.stop n H) (hy : ∀ i ys σ H x H', i < n -> Pv i ys σ H -> J.yld i H x H' -> H' = H /\ Yd i x)
  (hs : ∀ i x ys σ H, i < n -> Yd i x -> Pv i ys σ H -> g x σ H fun σ2 H2 => tt σ2 H2 fun b H3 => if b = true then te σ2 H3 (fun v H4 => Pv (i + 1) (ys ++ [v]) σ2 H4) else Pv (i + 1) ys σ2 H3) (hd : ∀ ys σ H, Pv n ys σ H -> fin ys H) :
  LcW J g tt te σ' fin H1 := by
 refine ⟨fun i m ys σ H => m = n - i /\ i <= n /\ Pv i ys σ H, ⟨n, by simp, Nat.zero_le _, h0⟩, ?_⟩
 rintro i m ys σ H ⟨rfl, hi, p⟩
 have hly := hl i ys σ H hi p
 by_cases hlt : i < n
 ·refine .inr ⟨hgo i ys σ H hlt p, by omega, fun ys' σ2 H2 => Pv (i + 1) ys' σ2 H2, fun ys' σ2 H2 q => ⟨n - (i + 1), by omega, rfl, hlt, q⟩, fun x H' y => ?_⟩
  obtain ⟨e, yd⟩ := hy i ys σ H x H' hlt p y
  subst e
  exact hs i x ys σ H' hlt yd p
 ·have e : i = n := by omega
  subst e
  exact .inl ⟨hst ys σ H p, by omega, hd ys σ H p⟩
theorem i4 {a : Addr} {xs : List V} (hn : xs.length < sizeLine) (Pv : Nat -> List V -> St -> Hp -> Prop) (h0 : Pv 0 [] σ' H1) (hl : ∀ i ys σ H, i <= xs.length -> Pv i ys σ H -> ys.length <= i /\ SqT K H a xs)
  (hs : ∀ i x ys σ H, xs[i]? = some x -> Pv i ys σ H -> g x σ H fun σ2 H2 => tt σ2 H2 fun b H3 => if b = true then te σ2 H3 (fun v H4 => Pv (i + 1) (ys ++ [v]) σ2 H4) else Pv (i + 1) ys σ2 H3) (hd : ∀ ys σ H, Pv xs.length ys σ H -> fin ys H) :
  LcW (Itt K a) g tt te σ' fin H1 :=
 gk hn Pv (fun i x => xs[i]? = some x) h0 (fun i ys σ H hi p => (hl i ys σ H hi p).1) (fun i ys σ H hi p => ⟨xs, xs[i], (hl i ys σ H (Nat.le_of_lt hi) p).2, by simp [hi]⟩) (fun ys σ H p => ⟨xs, (hl _ ys σ H (Nat.le_refl _) p).2, Nat.le_refl _⟩)
  (fun i ys σ H x H' hi p y => ⟨y.1, y.2 xs (hl i ys σ H (Nat.le_of_lt hi) p).2⟩) (fun i x ys σ H _ yd p => hs i x ys σ H yd p) hd
theorem iK {a : Addr} {xs : List V} (hn : xs.length < sizeLine) (Pv : Nat -> List V -> St -> Hp -> Prop) (h0 : Pv 0 [] σ' H1) (hl : ∀ i ys σ H, i <= xs.length -> Pv i ys σ H -> ys.length <= i /\ SqL K H a xs)
  (hs : ∀ i x ys σ H, xs[i]? = some x -> Pv i ys σ H -> g x σ H fun σ2 H2 => tt σ2 H2 fun b H3 => if b = true then te σ2 H3 (fun v H4 => Pv (i + 1) (ys ++ [v]) σ2 H4) else Pv (i + 1) ys σ2 H3) (hd : ∀ ys σ H, Pv xs.length ys σ H -> fin ys H) :
  LcW (Itl K a) g tt te σ' fin H1 :=
 gk hn Pv (fun i x => xs[i]? = some x) h0 (fun i ys σ H hi p => (hl i ys σ H hi p).1) (fun i ys σ H hi p => ⟨xs, xs[i], (hl i ys σ H (Nat.le_of_lt hi) p).2, by simp [hi]⟩) (fun ys σ H p => ⟨xs, (hl _ ys σ H (Nat.le_refl _) p).2, Nat.le_refl _⟩)
  (fun i ys σ H x H' hi p y => ⟨y.1, y.2 xs (hl i ys σ H (Nat.le_of_lt hi) p).2⟩) (fun i x ys σ H _ yd p => hs i x ys σ H yd p) hd
theorem kh {lo : Int} {n : Nat} (hn : n < sizeLine) (Pv : Nat -> List V -> St -> Hp -> Prop) (h0 : Pv 0 [] σ' H1) (hl : ∀ i ys σ H, i <= n -> Pv i ys σ H -> ys.length <= i)
  (hs : ∀ i ys σ H, i < n -> Pv i ys σ H -> g (.int (lo + i)) σ H fun σ2 H2 => tt σ2 H2 fun b H3 => if b = true then te σ2 H3 (fun v H4 => Pv (i + 1) (ys ++ [v]) σ2 H4) else Pv (i + 1) ys σ2 H3) (hd : ∀ ys σ H, Pv n ys σ H -> fin ys H) :
  LcW (Itr lo n) g tt te σ' fin H1 :=
 gk hn Pv (fun i x => x = .int (lo + i)) h0 hl (fun i ys σ H hi p => hi) (fun ys σ H p => Nat.le_refl _) (fun i ys σ H x H' hi p y => y) (fun i x ys σ H hi yd p => by subst yd; exact hs i ys σ H hi p) hd
theorem uw {x : Str} (hn : x.length < sizeLine) (Pv : Nat -> List V -> St -> Hp -> Prop) (h0 : Pv 0 [] σ' H1) (hl : ∀ i ys σ H, i <= x.length -> Pv i ys σ H -> ys.length <= i)
  (hs : ∀ i c ys σ H, x.cps[i]? = some c -> Pv i ys σ H -> g (.str ⟨#[c]⟩) σ H fun σ2 H2 => tt σ2 H2 fun b H3 => if b = true then te σ2 H3 (fun v H4 => Pv (i + 1) (ys ++ [v]) σ2 H4) else Pv (i + 1) ys σ2 H3) (hd : ∀ ys σ H, Pv x.length ys σ H -> fin ys H) :
  LcW (Its x) g tt te σ' fin H1 :=
 gk hn Pv (fun i v => ∃ c, x.cps[i]? = some c /\ v = .str ⟨#[c]⟩) h0 hl (fun i ys σ H hi p => hi) (fun ys σ H p => Nat.le_refl _) (fun i ys σ H v H' hi p y => y) (fun i v ys σ H hi yd p => by obtain ⟨c, e, rfl⟩ := yd; exact hs i c ys σ H e p) hd
end
section
variable {K : PySem.W.Frag} {tt : TT} {te : TE} {σ' : St} {fin : List V -> Hp -> Prop} {H1 : Hp} {j : Nat}
theorem fY {a : Addr} {xs : List V} (hn : xs.length < sizeLine) (Pv : Nat -> List V -> St -> Hp -> Prop) (h0 : Pv 0 [] σ' H1) (hl : ∀ i ys σ H, i <= xs.length -> Pv i ys σ H -> ys.length <= i /\ SqT K H a xs)
  (hs : ∀ i x ys σ H, xs[i]? = some x -> Pv i ys σ H -> te (σ.set j (some x)) H fun v H4 => Pv (i + 1) (ys ++ [v]) (σ.set j (some x)) H4) (hd : ∀ ys σ H, Pv xs.length ys σ H -> fin ys H) : LcW (Itt K a) (bS j) bU te σ' fin H1 :=
 i4 hn Pv h0 hl (fun i x ys σ H hx p => by unfold bS bU; exact bG (hs i x ys σ H hx p)) hd
theorem eI {a : Addr} {xs : List V} (hn : xs.length < sizeLine) (Pv : Nat -> List V -> St -> Hp -> Prop) (h0 : Pv 0 [] σ' H1) (hl : ∀ i ys σ H, i <= xs.length -> Pv i ys σ H -> ys.length <= i /\ SqL K H a xs)
  (hs : ∀ i x ys σ H, xs[i]? = some x -> Pv i ys σ H -> te (σ.set j (some x)) H fun v H4 => Pv (i + 1) (ys ++ [v]) (σ.set j (some x)) H4) (hd : ∀ ys σ H, Pv xs.length ys σ H -> fin ys H) : LcW (Itl K a) (bS j) bU te σ' fin H1 :=
 iK hn Pv h0 hl (fun i x ys σ H hx p => by unfold bS bU; exact bG (hs i x ys σ H hx p)) hd
theorem fi {lo : Int} {n : Nat} (hn : n < sizeLine) (Pv : Nat -> List V -> St -> Hp -> Prop) (h0 : Pv 0 [] σ' H1) (hl : ∀ i ys σ H, i <= n -> Pv i ys σ H -> ys.length <= i)
  (hs : ∀ i ys σ H, i < n -> Pv i ys σ H -> te (σ.set j (some (.int (lo + i)))) H fun v H4 => Pv (i + 1) (ys ++ [v]) (σ.set j (some (.int (lo + i)))) H4) (hd : ∀ ys σ H, Pv n ys σ H -> fin ys H) : LcW (Itr lo n) (bS j) bU te σ' fin H1 :=
 kh hn Pv h0 hl (fun i ys σ H hx p => by unfold bS bU; exact bG (hs i ys σ H hx p)) hd
theorem rH {x : Str} (hn : x.length < sizeLine) (Pv : Nat -> List V -> St -> Hp -> Prop) (h0 : Pv 0 [] σ' H1) (hl : ∀ i ys σ H, i <= x.length -> Pv i ys σ H -> ys.length <= i)
  (hs : ∀ i c ys σ H, x.cps[i]? = some c -> Pv i ys σ H -> te (σ.set j (some (.str ⟨#[c]⟩))) H fun v H4 => Pv (i + 1) (ys ++ [v]) (σ.set j (some (.str ⟨#[c]⟩))) H4) (hd : ∀ ys σ H, Pv x.length ys σ H -> fin ys H) : LcW (Its x) (bS j) bU te σ' fin H1 :=
 uw hn Pv h0 hl (fun i c ys σ H hx p => by unfold bS bU; exact bG (hs i c ys σ H hx p)) hd
theorem fu {a : Addr} {xs : List V} (hn : xs.length < sizeLine) (Pv : Nat -> List V -> St -> Hp -> Prop) (h0 : Pv 0 [] σ' H1) (hl : ∀ i ys σ H, i <= xs.length -> Pv i ys σ H -> ys.length <= i /\ SqT K H a xs)
  (hs : ∀ i x ys σ H, xs[i]? = some x -> Pv i ys σ H -> tt (σ.set j (some x)) H fun b H3 => if b = true then te (σ.set j (some x)) H3 (fun v H4 => Pv (i + 1) (ys ++ [v]) (σ.set j (some x)) H4) else Pv (i + 1) ys (σ.set j (some x)) H3)
  (hd : ∀ ys σ H, Pv xs.length ys σ H -> fin ys H) : LcW (Itt K a) (bS j) tt te σ' fin H1 := i4 hn Pv h0 hl hs hd
theorem iy {a : Addr} {xs : List V} (hn : xs.length < sizeLine) (Pv : Nat -> List V -> St -> Hp -> Prop) (h0 : Pv 0 [] σ' H1) (hl : ∀ i ys σ H, i <= xs.length -> Pv i ys σ H -> ys.length <= i /\ SqL K H a xs)
  (hs : ∀ i x ys σ H, xs[i]? = some x -> Pv i ys σ H -> tt (σ.set j (some x)) H fun b H3 => if b = true then te (σ.set j (some x)) H3 (fun v H4 => Pv (i + 1) (ys ++ [v]) (σ.set j (some x)) H4) else Pv (i + 1) ys (σ.set j (some x)) H3)
  (hd : ∀ ys σ H, Pv xs.length ys σ H -> fin ys H) : LcW (Itl K a) (bS j) tt te σ' fin H1 := iK hn Pv h0 hl hs hd
end
section
variable {X : Cx} {pins : List (Addr × Obj)} {σ : St} {H : Hp} {s : Shared} {h' : Heap}
theorem Inv.turnedS {t' : Nat} {ch : List Addr} (I : Inv X pins σ H s) (k : ∀ b o, b ∉ ch -> s.heap.get? b = some o -> h'.get? b = some o) (hf : ∀ b ∈ ch, bH X pins H b) : Inv X pins σ H { s with heap := h', toks := t' } := by
 have nit : ∀ b u, H b = some u -> b ∉ ch := fun b u e z => by rw [(hf b z).1] at e; cases e
 have hL : X.env.locals ∉ ch := fun z => (hf _ z).2.1 rfl
 refine I.step (g' := s.gens) (d' := s.drawn) (ch := ch) (fun b hb => ⟨(hf b hb).2.2.2.1, (hf b hb).2.1, (hf b hb).2.2.2.2.1, (hf b hb).2.2.2.2.2⟩) (fun b o _ _ hc e _ => k b o hc e) (fun b o _ _ hc e _ => ⟨o.slots, k b o hc e⟩) (fun _ _ _ _ n => n)
  (fun b o hc e => ⟨o, k b o hc e⟩) (fun _ _ e => e) (fun _ _ _ e => e) (fun b ps e => ⟨#[], by rw [e]; simp⟩) (fun m hm => ?_) (fun b u e => ?_) I.bare
 ·obtain ⟨o, es, ep, ho, r⟩ := hm
  exact ⟨o, es, ep, k _ o hL ho, r⟩
 ·refine (I.hok b u e).stay (fun c v hc q => k c v ?_ q) (fun _ q => q) fun _ _ q => q
  rcases hc with z | z
  ·rw [z]; exact nit b u e
  ·exact nit c _ z
end
noncomputable def Itz (K : PySem.W.Frag) (a b : Addr) : It :=
 ⟨fun i H => ∃ xs ys x y, SqL K H a xs /\ SqL K H b ys /\ xs[i]? = some x /\ ys[i]? = some y,
  fun i H v H' => ∃ T x y, v = .ref T /\ H T = none /\ H' = upd H T (.tup [x, y]) /\ (∀ xs, SqL K H a xs -> xs[i]? = some x) /\ ∀ ys, SqL K H b ys -> ys[i]? = some y,
  fun i H => ∃ xs ys, SqL K H a xs /\ SqL K H b ys /\ (xs.length <= i \/ ys.length <= i)⟩
noncomputable def vP (z TI TO i1 i2 l1 l2 : Addr) (i : Nat) (h : Heap) : Prop := IsZip h z TI TO .none /\ IsPair h TI (.ref i1) (.ref i2) /\ (∃ a b, IsPair h TO a b) /\ h.IsListIter i1 l1 i /\ h.IsListIter i2 l2 i
theorem qS {P : Program} {w : World} {K : PySem.W.Frag} {elts : List Expr} {x1} {pos : Pos} (z TI TO i1 i2 l1 l2 : Addr) (D : ZipApart z TI TO i1 i2 l1 l2) :
  Turn P w K (.Tuple elts x1 pos) (Itz K l1 l2) [z, TI, TO, i1, i2] z (vP z TI TO i1 i2 l1 l2) where
 mem := by simp
 obj := fun i h st b hb => by
  obtain ⟨hz, hTI, ⟨a, c, hTO⟩, ⟨o1, e1, c1, d1⟩, ⟨o2, e2, c2, d2⟩⟩ := st
  simp only [List.mem_cons, List.not_mem_nil, or_false] at hb
  rcases hb with rfl | rfl | rfl | rfl | rfl
  ·exact ⟨_, hz, fun v q => by cases q⟩
  ·exact ⟨_, hTI, fun v q => by cases q⟩
  ·exact ⟨_, hTO, fun v q => by cases q⟩
  ·exact ⟨_, e1, fun v q => by rw [d1] at q; cases q⟩
  ·exact ⟨_, e2, fun v q => by rw [d2] at q; cases q⟩
 keep := fun i h h' st k => by
  obtain ⟨hz, hTI, ⟨a, c, hTO⟩, h1, h2⟩ := st
  exact ⟨k z (by simp) _ hz, k TI (by simp) _ hTI, ⟨a, c, k TO (by simp) _ hTO⟩, h1.at fun o e => k i1 (by simp) o e, h2.at fun o e => k i2 (by simp) o e⟩
 item := by
  intro X hP hw hK hc i pins s σ H E I hf st hg
  subst hP hw hK
  obtain ⟨xs, ys, x, y, hq1, hq2, hx, hy⟩ := hg
  obtain ⟨hz, hTI, ⟨a, c, hTO⟩, h1, h2⟩ := id st
  obtain ⟨its1, rv1, p1, hz1⟩ := I.list hq1
  obtain ⟨its2, rv2, p2, hz2⟩ := I.list hq2
  obtain ⟨u1, hu1, ru1⟩ := rv1.get hx
  obtain ⟨u2, hu2, ru2⟩ := rv2.get hy
  refine wpAny_pyNext_zip_item D hz hTI hTO h1 h2 p1.isList p2.isList (x := u1) (y := u2) (by simpa using hu1) (by simpa using hu2) fun h' a1 a2 a3 a4 a5 a6 a7 => ?_
  refine ⟨_, rfl, wpAny_letOwnedTupleGo_zip (s := { s with heap := h' }) a1 fun h'' z2 sb => ?_⟩
  have sb' := sb.extBut
  generalize hT : s.heap.objs.size = T at *
  have lt : ∀ {b : Addr} {o : Obj}, s.heap.get? b = some o -> b ≠ T := fun {b o} e => by rw [<- hT]; exact Nat.ne_of_lt (Heap.lt_size e)
  have fresh : H T = none := by rw [<- hT]; exact I.hok.fresh (Nat.le_refl _)
  have hne : ∀ b ∈ [z, TI, TO, i1, i2], b ≠ T := fun b hb => by
   obtain ⟨o1, e1, _⟩ := h1
   obtain ⟨o2, e2, _⟩ := h2
   simp only [List.mem_cons, List.not_mem_nil, or_false] at hb
   rcases hb with rfl | rfl | rfl | rfl | rfl
   ·exact lt hz
   ·exact lt hTI
   ·exact lt hTO
   ·exact lt e1
   ·exact lt e2
  have I0 : Inv X pins σ (upd H T (.tup [x, y])) { s with heap := s.heap.push { cls := .type "tuple", data := .seq #[u1, u2] }, toks := s.toks } := by
   subst hT
   exact I.laid (t' := s.toks) (fun b o q => Heap.get?_push_of_some _ q) (Nat.le_refl _) ⟨by show 2 <= sizeLine; decide, [u1, u2], .cons ru1 (.cons ru2 .nil), _, Heap.get?_push_size _ rfl, rfl, 0, rfl⟩
  have up : ∀ b o, b ∉ [z, TI, TO, i1, i2] -> (s.heap.push { cls := .type "tuple", data := .seq #[u1, u2] }).get? b = some o -> h''.get? b = some o := fun b o hb e => by
   simp only [List.mem_cons, List.not_mem_nil, or_false, not_or] at hb
   rcases Heap.get?_push_cases e with ⟨e1, e2⟩ | e1
   ·subst e2
    rw [e1, hT]
    exact sb' _ _ (hne z (by simp)).symm a5
   ·exact sb' _ _ hb.1 (a7 b o hb.1 hb.2.2.1 hb.2.2.2.1 hb.2.2.2.2 e1)
  have I2 : Inv X pins σ (upd H T (.tup [x, y])) { s with heap := h'', toks := s.toks } := Inv.turnedS (s := { s with heap := s.heap.push { cls := .type "tuple", data := .seq #[u1, u2] }, toks := s.toks }) (t' := s.toks) (ch := [z, TI, TO, i1, i2]) I0 up fun b hb => by
   obtain ⟨f0, f1⟩ := hf b hb
   exact ⟨by rw [ag (hne b hb)]; exact f0, f1⟩
  exact ⟨.ref T, upd H T (.tup [x, y]), I2, rfl, ⟨T, x, y, rfl, fresh, rfl, fun ws hw => by rw [I.list_inj hw hq1]; exact hx, fun ws hw => by rw [I.list_inj hw hq2]; exact hy⟩,
   ⟨z2, sb' _ _ D.TIz (a7 _ _ D.TIz D.TITO D.TIi1 D.TIi2 hTI), ⟨_, _, sb' _ _ D.TOz a2⟩, a3.at fun o e => sb' _ _ D.i1z e, a4.at fun o e => sb' _ _ D.i2z e⟩, fun b hb => by rw [ag (hne b hb)]; exact (hf b hb).1⟩
 done := by
  intro X hP hw hK hc i pins s σ H E I hf st hg
  subst hP hw hK
  obtain ⟨xs, ys, hq1, hq2, hx⟩ := hg
  obtain ⟨hz, hTI, ⟨a, c, hTO⟩, h1, h2⟩ := id st
  obtain ⟨its1, rv1, p1, hz1⟩ := I.list hq1
  obtain ⟨its2, rv2, p2, hz2⟩ := I.list hq2
  have hl1 := rv1.length
  have hl2 := rv2.length
  refine wpAny_pyNext_zip_end (I.ok.hd hc) D hz hTI hTO h1 h2 p1.isList p2.isList ?_ fun h' hk => ⟨rfl, I.turnedS (t' := s.toks) (ch := [z, TI, TO, i1, i2]) (fun b o hb e => ?_) hf⟩
  ·rcases hx with q | q
   ·exact .inl (by simp; omega)
   ·exact .inr (by simp; omega)
  ·simp only [List.mem_cons, List.not_mem_nil, or_false, not_or] at hb
   exact hk b o hb.1 hb.2.2.1 hb.2.2.2.1 hb.2.2.2.2 e
 self := fun _ _ _ _ _ st h => wpAny_pyIter_zip st.1 h
theorem boot_zip : bootBuiltins "zip" = some (.type "zip") := by decide +kernel
section
variable {X : Cx}
noncomputable def wf (K : PySem.W.Frag) (ta : TA) : TI := fun σ H R => ta σ H fun vs H1 => ∃ a b xs ys, vs = [.ref a, .ref b] /\ SqL K H1 a xs /\ SqL K H1 b ys /\ R (Itz K a b) H1
theorem mB {a b : Expr} {elts : List Expr} {x1} {tpos : Pos} {ta : TA} {p pos : Pos} (hg : Gl X "zip") (hm : X.mg "zip" = none) (ha : PA X [a, b] ta) (hs : starEach [a, b] X.env = [(false, eval a X.env), (false, eval b X.env)] := by rfl) (hs2 : starEach [b] X.env = [(false, eval b X.env)] := by rfl) :
  PI X (.Tuple elts x1 tpos) (.Call (.Name "zip" p) [a, b] [] pos) (wf X.K ta) := by
 intro pins s σ H R I h
 refine Call_ (dA I hg hm boot_zip (PyProof.Rows.callWith_type1 (thn (ha pos pins s σ H _ I h) fun us s1 ⟨vs, H1, I1, r1, q1⟩ => ?_) (by rw [hs, hs2]) (by rw [hs2]; rfl)))
 obtain ⟨a', b', xs, ys, rfl, hq1, hq2, q⟩ := q1
 obtain ⟨u1, u2, rfl, ra, rb⟩ := vals2 r1
 cases ra
 cases rb
 obtain ⟨its1, rv1, p1, hz1⟩ := I1.list hq1
 obtain ⟨its2, rv2, p2, hz2⟩ := I1.list hq2
 have l1 : a' < s1.heap.objs.size := by obtain ⟨o, n, e, _⟩ := p1; exact Heap.lt_size e
 have l2 : b' < s1.heap.objs.size := by obtain ⟨o, n, e, _⟩ := p2; exact Heap.lt_size e
 refine call_zip_2 p1.isList p2.isList fun h' hz hTI hTO hi1 hi2 hsz hk => ?_
 refine wpAny_pyIter_zip hz ?_
 refine ⟨_, [s1.heap.objs.size + 4, s1.heap.objs.size + 2, s1.heap.objs.size + 3, s1.heap.objs.size, s1.heap.objs.size + 1], _, _, H1, rfl, I1.kept (t' := s1.toks) hk, qS _ _ _ _ _ _ _ (zipApart_new l1 l2), ⟨hz, hTI, ⟨_, _, hTO⟩, hi1, hi2⟩, fun b hb => ?_, q⟩
 have hle : s1.heap.objs.size <= b := by
  simp only [List.mem_cons, List.not_mem_nil, or_false] at hb
  rcases hb with rfl | rfl | rfl | rfl | rfl
  ·exact Nat.le_add_right _ _
  ·exact Nat.le_add_right _ _
  ·exact Nat.le_add_right _ _
  ·exact Nat.le_refl _
  ·exact Nat.le_add_right _ _
 exact I1.fpOk hle (I1.hok.fresh hle)
end
section
variable {prog : Program} {w : World} {A : Around} {E : Value -> Shared -> Prop} {s : Shared}
end
section
variable {X : Cx}
theorem sY {K : PySem.W.Frag} {g : TG} {tt : TT} {te : TE} {σ' : St} {fin : List V -> Hp -> Prop} {H1 : Hp} {a b : Addr} {xs ys : List V} (hn : min xs.length ys.length < sizeLine) (Pv : Nat -> List V -> St -> Hp -> Prop) (h0 : Pv 0 [] σ' H1)
  (hl : ∀ i zs σ H, i <= min xs.length ys.length -> Pv i zs σ H -> zs.length <= i /\ SqL K H a xs /\ SqL K H b ys)
  (hs : ∀ i x y zs σ H T, xs[i]? = some x -> ys[i]? = some y -> Pv i zs σ H -> H T = none -> g (.ref T) σ (upd H T (.tup [x, y])) fun σ2 H2 => tt σ2 H2 fun b H3 => if b = true then te σ2 H3 (fun v H4 => Pv (i + 1) (zs ++ [v]) σ2 H4) else Pv (i + 1) zs σ2 H3)
  (hd : ∀ zs σ H, Pv (min xs.length ys.length) zs σ H -> fin zs H) : LcW (Itz K a b) g tt te σ' fin H1 := by
 refine ⟨fun i m zs σ H => m = min xs.length ys.length - i /\ i <= min xs.length ys.length /\ Pv i zs σ H, ⟨min xs.length ys.length, by simp, Nat.zero_le _, h0⟩, ?_⟩
 rintro i m zs σ H ⟨rfl, hi, p⟩
 obtain ⟨q0, q1, q2⟩ := hl i zs σ H hi p
 by_cases hlt : i < min xs.length ys.length
 ·have h1 : i < xs.length := by omega
  have h2 : i < ys.length := by omega
  refine .inr ⟨⟨xs, ys, xs[i], ys[i], q1, q2, by simp [h1], by simp [h2]⟩, by omega, fun zs' σ2 H2 => Pv (i + 1) zs' σ2 H2, fun zs' σ2 H2 q => ⟨min xs.length ys.length - (i + 1), by omega, rfl, hlt, q⟩, fun v H' y => ?_⟩
  obtain ⟨T, x, y, rfl, hT, rfl, e1, e2⟩ := y
  exact hs i x y zs σ H T (e1 xs q1) (e2 ys q2) p hT
 ·have e : i = min xs.length ys.length := by omega
  subst e
  refine .inl ⟨⟨xs, ys, q1, q2, ?_⟩, by omega, hd zs σ H p⟩
  rcases Nat.le_total xs.length ys.length with z | z
  ·exact .inl (by omega)
  ·exact .inr (by omega)
end
section
variable {κ : Type} [DecidableEq κ]
noncomputable def aV (kvs : List (κ × V)) (k : κ) : Option V := (kvs.find? fun kv => decide (kv.1 = k)).map (·.2)
noncomputable def putK (kvs : List (κ × V)) (k : κ) (v : V) : List (κ × V) :=
 if (kvs.any fun kv => decide (kv.1 = k)) = true then kvs.map (fun kv => if kv.1 = k then (kv.1, v) else kv) else kvs ++ [(k, v)]
noncomputable def xj (kvs : List (κ × V)) (k : κ) : List (κ × V) := kvs.filter fun kv => decide (kv.1 ≠ k)
theorem ck {p : κ × V} {r : List (κ × V)} {k : κ} (e : p.1 = k) : aV (p :: r) k = some p.2 := by simp [aV, List.find?_cons, e]
theorem bX {p : κ × V} {r : List (κ × V)} {k : κ} (e : ¬ p.1 = k) : aV (p :: r) k = aV r k := by simp [aV, List.find?_cons, e]
theorem dU (k : κ) : ∀ kvs : List (κ × V), (kvs.any fun kv => decide (kv.1 = k)) = (aV kvs k).isSome
 | [] => rfl
 | p :: r => by
  rw [List.any_cons]
  by_cases e : p.1 = k
  ·simp only [ck e, decide_eq_true e, Bool.true_or, Option.isSome_some]
  ·rw [bX e, decide_eq_false e, Bool.false_or]; exact dU k r
theorem ll (k j : κ) (y : V) : ∀ kvs : List (κ × V), aV (kvs.map fun kv => if kv.1 = k then (kv.1, y) else kv) j = (aV kvs j).map fun x => if j = k then y else x
 | [] => rfl
 | p :: r => by
  have ih := ll k j y r
  rw [List.map_cons]
  by_cases h : p.1 = k
  ·rw [if_pos h]
   by_cases e : p.1 = j
   ·rw [ck (p := (p.1, y)) e, ck e, Option.map_some, if_pos (e.symm.trans h)]
   ·rw [bX (p := (p.1, y)) e, bX e, ih]
  ·rw [if_neg h]
   by_cases e : p.1 = j
   ·rw [ck (p := p) e, ck e, Option.map_some, if_neg (fun z => h (e.trans z))]
   ·rw [bX (p := p) e, bX e, ih]
theorem kc (k j : κ) (y : V) : ∀ kvs : List (κ × V), aV kvs k = none -> aV (kvs ++ [(k, y)]) j = if j = k then some y else aV kvs j
 | [], _ => by
  by_cases e : k = j
  ·rw [if_pos e.symm]; exact ck (p := (k, y)) e
  ·rw [if_neg (fun z => e z.symm)]; exact bX (p := (k, y)) e
 | p :: r, hn => by
  rw [List.cons_append]
  have hk : ¬ p.1 = k := fun z => by rw [ck z] at hn; cases hn
  rw [bX hk] at hn
  have ih := kc k j y r hn
  by_cases e : p.1 = j
  ·rw [ck e, ck e, if_neg (fun z => hk (e.trans z))]
  ·rw [bX e, bX e, ih]
theorem kF (kvs : List (κ × V)) (k j : κ) (y : V) : aV (putK kvs k y) j = if j = k then some y else aV kvs j := by
 unfold putK
 by_cases a : (kvs.any fun kv => decide (kv.1 = k)) = true
 ·rw [if_pos a, ll]
  rw [dU] at a
  by_cases e : j = k
  ·obtain ⟨x, hx⟩ := Option.isSome_iff_exists.mp a
   rw [if_pos e, e, hx, Option.map_some, if_pos rfl]
  ·rw [if_neg e]
   cases aV kvs j with
   | none => rfl
   | some x => rw [Option.map_some, if_neg e]
 ·rw [if_neg a]
  refine kc k j y kvs ?_
  rw [dU] at a
  cases q : aV kvs k with
  | none => rfl
  | some x => rw [q] at a; exact (a rfl).elim
theorem fV (kvs : List (κ × V)) (k : κ) (v : V) : (putK kvs k v).length <= kvs.length + 1 := by
 unfold putK
 split
 ·rw [List.length_map]; omega
 ·rw [List.length_append, List.length_cons, List.length_nil]; omega
theorem rD {kvs : List (κ × V)} {k : κ} (v : V) (h : aV kvs k = none) : putK kvs k v = kvs ++ [(k, v)] := by
 unfold putK
 rw [dU, h]
 exact if_neg (by decide)
theorem cy.isSome_eq {o : Option V} {u : Option Value} (r : cy o u) : o.isSome = u.isSome := by
 cases o with
 | none => cases u with
  | none => rfl
  | some _ => exact (show False from r).elim
 | some _ => cases u with
  | none => exact (show False from r).elim
  | some _ => rfl
theorem KV.val {kvs : List (κ × V)} {vs : List (κ × Value)} (r : KV kvs vs) (k : κ) : cy (aV kvs k) (valueAt vs k) := by
 unfold KV at r
 induction r with
 | nil => exact True.intro
 | @cons p q ps qs h t ih =>
  obtain ⟨h1, h2⟩ := h
  by_cases e : p.1 = k
  ·have e' : q.1 = k := h1.symm.trans e
   have b : valueAt (q :: qs) k = some q.2 := by simp [valueAt, List.find?_cons, e']
   rw [ck e, b]; exact h2
  ·have e' : ¬ q.1 = k := fun z => e (h1.trans z)
   have b : valueAt (q :: qs) k = valueAt qs k := by simp [valueAt, List.find?_cons, e']
   rw [bX e, b]; exact ih
theorem KV.any {kvs : List (κ × V)} {vs : List (κ × Value)} (r : KV kvs vs) (k : κ) : (kvs.any fun kv => decide (kv.1 = k)) = vs.any fun kv => decide (kv.1 = k) := by
 unfold KV at r
 induction r with
 | nil => rfl
 | cons h t ih => rw [List.any_cons, List.any_cons, ih, h.1]
theorem KV.repl {kvs : List (κ × V)} {vs : List (κ × Value)} (r : KV kvs vs) (k : κ) {y : V} {u : Value} (ry : RelV y u) :
  KV (kvs.map fun kv => if kv.1 = k then (kv.1, y) else kv) (vs.map fun kv => if kv.1 = k then (kv.1, u) else kv) := by
 unfold KV at r ⊢
 induction r with
 | nil => exact .nil
 | @cons p q ps qs h t ih =>
  rw [List.map_cons, List.map_cons]
  refine .cons ?_ ih
  obtain ⟨h1, h2⟩ := h
  by_cases e : p.1 = k
  ·rw [if_pos e, if_pos (h1.symm.trans e)]; exact ⟨h1, ry⟩
  ·rw [if_neg e, if_neg (fun z => e (h1.trans z))]; exact ⟨h1, h2⟩
theorem KV.put {kvs : List (κ × V)} {vs : List (κ × Value)} (r : KV kvs vs) (k : κ) {y : V} {u : Value} (ry : RelV y u) : KV (putK kvs k y) (stored vs k u) := by
 unfold putK stored
 rw [r.any k]
 by_cases e : (vs.any fun kv => decide (kv.1 = k)) = true
 ·rw [if_pos e, if_pos e]; exact r.repl k ry
 ·rw [if_neg e, if_neg e]; exact Paired.snoc r ⟨rfl, ry⟩
theorem KV.length {kvs : List (κ × V)} {vs : List (κ × Value)} (r : KV kvs vs) : kvs.length = vs.length := Paired.length r
end
theorem jh {P : Program} {w : World} {k : Key} {u : Value} (r : RelV (kV k) u) : (bZ P w).is k u = true := by
 cases k with
 | inl i => obtain ⟨t, e⟩ := (show ∃ t, u = Value.int i t from r); subst e; exact oW P w i t
 | inr x => obtain ⟨t, e⟩ := (show ∃ t, u = Value.str x t from r); subst e; exact oV P w x t
theorem ka {P : Program} {w : World} : ∀ {ks : List Key} {us : List Value}, ao (ks.map kV) us -> ItemsAre (bZ P w) ks us
 | [], _, r => by rw [List.map_nil] at r; cases r; exact .nil
 | k :: ks, _, r => by
  rw [List.map_cons] at r
  cases r with
  | cons h t => exact .cons (jh h) (ka t)
noncomputable abbrev KT (H : Hp) : List (List Key × V) -> List (List Key × Addr × Value) -> Prop := Paired fun p q => p.1 = q.1 /\ H q.2.1 = some (.tup (p.1.map kV)) /\ RelV p.2 q.2.2
theorem KT.val {H : Hp} {kvs : List (List Key × V)} {xs : List (List Key × Addr × Value)} (r : KT H kvs xs) (k : List Key) : cy (aV kvs k) ((atKey xs k).map (·.2)) := by
 induction r with
 | nil => exact True.intro
 | @cons p q ps qs h t ih =>
  obtain ⟨h1, _, h2⟩ := h
  by_cases e : p.1 = k
  ·have e' : q.1 = k := h1.symm.trans e
   have b : atKey (q :: qs) k = some q.2 := by simp [atKey, List.find?_cons, e']
   rw [ck e, b]; exact h2
  ·have e' : ¬ q.1 = k := fun z => e (h1.trans z)
   have b : atKey (q :: qs) k = atKey qs k := by simp [atKey, List.find?_cons, e']
   rw [bX e, b]; exact ih
theorem KT.repl {H : Hp} {kvs : List (List Key × V)} {xs : List (List Key × Addr × Value)} (r : KT H kvs xs) (k : List Key) {y : V} {u : Value} (ry : RelV y u) :
  KT H (kvs.map fun kv => if kv.1 = k then (kv.1, y) else kv) (xs.map (putAt k u)) := by
 induction r with
 | nil => exact .nil
 | @cons p q ps qs h t ih =>
  rw [List.map_cons, List.map_cons]
  refine .cons ?_ ih
  obtain ⟨h1, h2, h3⟩ := h
  unfold putAt
  by_cases e : p.1 = k
  ·rw [if_pos e, if_pos (h1.symm.trans e)]; exact ⟨h1, h2, ry⟩
  ·rw [if_neg e, if_neg (fun z => e (h1.trans z))]; exact ⟨h1, h2, h3⟩
theorem KT.put {H : Hp} {kvs : List (List Key × V)} {xs : List (List Key × Addr × Value)} (r : KT H kvs xs) (k : List Key) {b : Addr} {y : V} {u : Value} (hb : H b = some (.tup (k.map kV))) (ry : RelV y u) :
  KT H (putK kvs k y) (storedH xs k b u) := by
 have e : (kvs.any fun kv => decide (kv.1 = k)) = (atKey xs k).isSome := by
  rw [dU, (r.val k).isSome_eq, Option.isSome_map]
 unfold putK storedH
 rw [e]
 by_cases q : (atKey xs k).isSome = true
 ·rw [if_pos q, if_pos q]; exact r.repl k ry
 ·rw [if_neg q, if_neg q]; exact Paired.snoc r ⟨rfl, hb, ry⟩
theorem KT.keeps {H H' : Hp} {kvs : List (List Key × V)} {xs : List (List Key × Addr × Value)} (r : KT H kvs xs) (ht : ∀ b ys, H b = some (.tup ys) -> H' b = some (.tup ys)) : KT H' kvs xs :=
 Paired.mapP r fun _ _ z => ⟨z.1, ht _ _ z.2.1, z.2.2⟩
section
variable {P : Program} {w : World} {H : Hp} {h : Heap} {a : Addr}
theorem mS {u : HO} (ok : HOk P w H h) (e : Rd H a u) : aC P w H h a u := e.ok ok
theorem je {kvs : List (Key × V)} (ok : HOk P w H h) (e : Rd H a (.dK kvs)) : kvs.length <= sizeLine /\ (a == sysModules) = false /\ ∃ vs, KV kvs vs /\ h.DictOf (bZ P w) a vs :=
 show aC P w H h a (.dK kvs) from mS ok e
theorem vO {kvs : List (Key × V)} (ok : HOk P w H h) (e : H a = some (.dK kvs)) : kvs.length <= sizeLine /\ (a == sysModules) = false /\ ∃ vs, KV kvs vs /\ h.DictOf (bZ P w) a vs := je ok (.inl e)
theorem gu {ks : List Key} (ok : HOk P w H h) (e : H a = some (.tup (ks.map kV))) : (tupleKind (bZ P w)).is h ks a := by
 obtain ⟨_, its, r, o, h1, h2, n, h3⟩ := (show aC P w H h a (.tup (ks.map kV)) from ok a _ e)
 exact ⟨o, its.toArray, n, h1, h2, h3, by simpa using ka r⟩
theorem ji {kvs : List (List Key × V)} (ok : HOk P w H h) (e : Rd H a (.dT kvs)) : kvs.length <= sizeLine /\ (a == sysModules) = false /\
  ∃ xs, KT H kvs xs /\ h.DictOfH (tupleKind (bZ P w)) a xs := by
 obtain ⟨z, y, xs, r, o, es, ep, h1, h2, h3, h4, h5⟩ := (show aC P w H h a (.dT kvs) from mS ok e)
 refine ⟨z, y, xs, r, o, es, ep, h1, h2, h3, h4, fun x hx => ?_, h5⟩
 have all : ∀ {l : List (List Key × V)} {m : List (List Key × Addr × Value)}, KT H l m -> ∀ x ∈ m, (tupleKind (bZ P w)).is h x.1 x.2.1 := by
  intro l m q
  induction q with
  | nil => intro x hx; exact nomatch hx
  | @cons p q ps qs hq t ih =>
   intro x hx
   rcases List.mem_cons.mp hx with e | hx
   ·subst e
    exact gu ok (by rw [<- hq.1]; exact hq.2.1)
   ·exact ih x hx
 exact all r x hx
theorem mT {kvs : List (List Key × V)} (ok : HOk P w H h) (e : H a = some (.dT kvs)) : kvs.length <= sizeLine /\ (a == sysModules) = false /\
  ∃ xs, KT H kvs xs /\ h.DictOfH (tupleKind (bZ P w)) a xs := ji ok (.inl e)
end
noncomputable def cf (H : Hp) (a : Addr) (y : V) (r : Option V) : Prop :=
 (∃ kvs k, Rd H a (.dK kvs) /\ y = kV k /\ r = aV kvs k) \/ ∃ kvs k b, Rd H a (.dT kvs) /\ y = .ref b /\ H b = some (.tup (k.map kV)) /\ r = aV kvs k
noncomputable def fg (H : Hp) (a : Addr) (y v : V) (H' : Hp) : Prop :=
 (∃ kvs k, H a = some (.dK kvs) /\ y = kV k /\ kvs.length < sizeLine /\ H' = upd H a (.dK (putK kvs k v))) \/
 ∃ kvs k b, H a = some (.dT kvs) /\ y = .ref b /\ H b = some (.tup (k.map kV)) /\ kvs.length < sizeLine /\ H' = upd H a (.dT (putK kvs k v))
theorem cf.t {H : Hp} {a b : Addr} {kvs : List (List Key × V)} {k : List Key} (e : H a = some (.dT kvs)) (eb : H b = some (.tup (k.map kV))) : cf H a (.ref b) (aV kvs k) := .inr ⟨kvs, k, b, .inl e, rfl, eb, rfl⟩
theorem fg.t {H : Hp} {a b : Addr} {kvs : List (List Key × V)} {k : List Key} {v : V} (e : H a = some (.dT kvs)) (eb : H b = some (.tup (k.map kV))) (hl : kvs.length < sizeLine) :
  fg H a (.ref b) v (upd H a (.dT (putK kvs k v))) := .inr ⟨kvs, k, b, e, rfl, eb, hl, rfl⟩
section
variable {X : Cx} {pins : List (Addr × Obj)} {σ : St} {H : Hp} {s : Shared} {a : Addr} {y v : V} {u r : Value} {o : Option V} {A : Around} {E : Value -> Shared -> Prop}
theorem Inv.big (I : Inv X pins σ H s) : sysModules < s.heap.objs.size := by
 have h : mainGlobals < s.heap.objs.size := (I.mod.glob.keeps I.bk).lt
 exact Nat.lt_trans (by decide) h
theorem kA {Q : Value -> Shared -> Prop} (hu : A.units + 1 < cLine) (I : Inv X pins σ H s) (g : cf H a y (some v)) (ry : RelV y u) (h : ∀ w' s', Inv X pins σ H s' -> RelV v w' -> Q w' s') :
  wpAny (model X.prog X.w) A (getItem (.ref a) u) Q E s := by
 rcases g with ⟨kvs, k, e, ey, l⟩ | ⟨kvs, k, b, e, ey, eb, l⟩
 ·subst ey
  obtain ⟨z, hd, vs, rel, dd⟩ := je I.hok e
  obtain ⟨w', hw, rw'⟩ := cy.some_of (v := v) (o := valueAt vs k) (by rw [l]; exact rel.val k)
  exact wpAny_getItem_of (jh ry) dd.mapOf hw (h w' _ (I.tok _) rw')
 ·subst ey
  cases (show u = Value.ref b from ry)
  obtain ⟨z, hd, xs, rel, dd⟩ := ji I.hok e
  obtain ⟨w', hw, rw'⟩ := cy.some_of (v := v) (o := (atKey xs k).map (·.2)) (by rw [l]; exact rel.val k)
  obtain ⟨p, hp, hp2⟩ := Option.map_eq_some_iff.mp hw
  refine wpAny_getItem_heap (tupleKind_room_in1 hu) (gu I.hok eb) dd hp ?_
  rw [hp2]
  exact h w' _ (I.tok _) rw'
theorem iY {h' : Heap} {t' : Nat} {ob : HO} (I : Inv X pins σ H s) (mu : Mut (H a)) (hs : Heap.SameBut a s.heap h') (he : ∃ q, h'.get? a = some q) (new : aC X.prog X.w (upd H a ob) h' a ob) :
  Inv X pins σ (upd H a ob) { s with heap := h', toks := t' } :=
 I.write (x := a) (e := a) mu (.inl rfl) (fun b q hb z => (hs.2 b hb).trans z) he new
theorem vk {P : Program} {w : World} {H' : Hp} {h' : Heap} {kvs : List (Key × V)} {vs : List (Key × Value)} (z : kvs.length <= sizeLine) (hd : (a == sysModules) = false) (rel : KV kvs vs) (dd : h'.DictOf (bZ P w) a vs) :
  aC P w H' h' a (.dK kvs) := ⟨z, hd, vs, rel, dd⟩
theorem qh {H' : Hp} {Q : Unit -> Shared -> Prop} (hu : A.units + 1 < cLine) (I : Inv X pins σ H s) (g : fg H a y v H') (ry : RelV y u) (rv : RelV v r) (h : ∀ s', Inv X pins σ H' s' -> Q () s') :
  wpAny (model X.prog X.w) A (setItem (.ref a) u r) Q E s := by
 rcases g with ⟨kvs, k, e, ey, l, eH⟩ | ⟨kvs, k, b, e, ey, eb, l, eH⟩
 ·subst ey eH
  obtain ⟨z, hd, vs, rel, dd⟩ := vO I.hok e
  have hz : vs.length <= sizeLine := by rw [<- rel.length]; exact z
  have hl : (putK kvs k v).length <= sizeLine := by have := fV kvs k v; omega
  refine wpAny_setItem_pairs (hsz := hz) (jh ry) dd fun h' dd' hs => h _ ?_
  have he : ∃ q, h'.get? a = some q := let ⟨q, _, _, hq, _⟩ := dd'; ⟨q, hq⟩
  exact iY I (by rw [e]; exact True.intro) hs he (vk hl hd (rel.put k rv) dd')
 ·subst ey eH
  cases (show u = Value.ref b from ry)
  obtain ⟨z, hd, xs, rel, dd⟩ := mT I.hok e
  have hz : xs.length <= sizeLine := by rw [<- Paired.length rel]; exact z
  have hl : (putK kvs k v).length <= sizeLine := by have := fV kvs k v; omega
  refine wpAny_setItem_heap (hsz := hz) (tupleKind_room_in1 hu) (gu I.hok eb) dd fun h' dd' hs => h _ ?_
  obtain ⟨q, es, ep, hq, h2, h3, h4, _, h5⟩ := dd'
  refine iY I (by rw [e]; exact True.intro) hs ⟨q, hq⟩ ⟨hl, hd, _, (rel.put k eb rv).keeps fun c ys ec => ?_, q, es, ep, hq, h2, h3, h4, h5⟩
  rw [ag (jf ec e (fun z => nomatch z))]
  exact ec
end
section
variable {X : Cx} {pins : List (Addr × Obj)} {σ : St} {H : Hp} {s : Shared} {a : Addr} {kvs : List (Key × V)} {k : Key} {u : Value} {A : Around} {E : Value -> Shared -> Prop}
end
noncomputable def nE (i : Expr) : Prop := ∀ ov iv, subscripted i false ov iv = operate [ov, iv] (getItem ov iv)
theorem tO {prog : Program} {w : World} {A : Around} {E : Value -> Shared -> Prop} {s : Shared} {env : Env} {value slice : Expr} {pos : Pos} {T id : String} {Q : Value -> Shared -> Prop}
  (hl : typeLookup (.type T) "__getitem__" = pure (some (.builtin id))) (hs : nE slice)
  (h : wpAny (model prog w) A (eval value env) (fun o s₁ => wpAny (model prog w) A (eval slice env) (fun i s₂ => s₂.TypeIs o T /\ wpAny (model prog w) A (getItem o i) Q E s₂) E s₁) E s) :
  wpAny (model prog w) A (eval (.Subscript value slice pos) env) Q E s := by
 refine Subscript_ (wpAny_mono h (fun o s₁ h₁ => wpAny_mono h₁ (fun i s₂ h₂ => ?_) fun _ _ x => x) fun _ _ x => x)
 obtain ⟨hT, h₂⟩ := h₂
 unfold subscriptTail
 refine wpAny_bind ?_
 rw [getitemInPython_of_ne hT.not_modules]
 refine wpAny_bind (wpAny_specialOf hT hl ?_)
 have fin : wpAny (model prog w) A (subscripted slice false o i) (fun r s₃ => wpAny (model prog w) A (letTemporaryGo value o r >>= fun _ => pure r) Q E s₃) E s₂ := by
  rw [hs o i]
  exact wpAny_operating (wpAny_mono h₂ (fun r s₃ h₃ => wpAny_bind (wpAny_letTemporaryGo (wpAny_pure h₃))) fun _ _ x => x)
 first
  | exact wpAny_pure (wpAny_bind fin)
  | exact wpAny_bind (wpAny_pure (wpAny_bind fin))
  | exact wpAny_bind fin
theorem pb {X : Cx} {pins : List (Addr × Obj)} {σ : St} {H : Hp} {s : Shared} {a : Addr} {y : V} {o : Option V} (I : Inv X pins σ H s) (g : cf H a y o) : s.TypeIs (.ref a) "dict" := by
 rcases g with ⟨kvs, k, e, _, _⟩ | ⟨kvs, k, b, e, _, _, _⟩
 ·obtain ⟨_, _, vs, _, dd⟩ := je I.hok e
  exact dd.typeIs
 ·obtain ⟨_, _, xs, _, dd⟩ := ji I.hok e
  exact dd.typeIs
noncomputable def vX (td ty : TE) : TE := fun σ H Q => td σ H fun x H1 => ty σ H1 fun y H2 => ∃ a v, x = .ref a /\ cf H2 a y (some v) /\ Q v H2
noncomputable def vK (td ty tv : TE) (rd : V -> V -> Hp -> VK -> Prop) : TS := fun D σ H => td σ H fun x H1 => ty σ H1 fun y H2 => ∃ a v, x = .ref a /\ cf H2 a y (some v) /\
 tv σ H2 fun y2 H3 => rd v y2 H3 fun z H4 => ∃ H5, fg H4 a y z H5 /\ D.nx σ H5
section
variable {X : Cx} {o i e value : Expr} {pos pos' tpos : Pos} {td ty tv : TE}
theorem iV (hu : X.A.units + 1 < cLine) (ho : PE X o td) (hi : PE X i ty) (hs : nE i) : PE X (.Subscript o i pos) (vX td ty) := by
 intro pins s σ H Q I h
 refine tO PySem.F.slot_dict_getitem.lookup hs (thn (ho pins s σ H _ I h) fun u s1 ⟨x, H1, I1, rx, q1⟩ => thn (hi pins s1 σ H1 _ I1 q1) fun iv s2 ⟨y, H2, I2, ry, a, v, ex, g, q2⟩ => ?_)
 subst ex
 obtain rfl : u = Value.ref a := rx
 exact ⟨pb I2 g, kA hu I2 g ry fun w' s3 I3 rw' => ⟨v, H2, I3, rw', q2⟩⟩
theorem mj {op : Operator} {rd : V -> V -> Hp -> VK -> Prop} (hu : X.A.units + 1 < cLine) (ho : PE X o td) (hi : PE X i ty) (hv : PE X value tv) (hop : jy X op rd)
  (ha : ∀ ov iv new, augStore i ov iv new = (do holding [new, ov, iv] (setItem ov iv new); release [new, ov, iv] []; pure .next)) : PS X (.AugAssign (.Subscript o i tpos) op value pos) (vK td ty tv rd) := by
 intro pins s σ H D I h
 refine wpAny_AugAssign_SubscriptAny (thn (ho pins s σ H _ I h) fun u s1 ⟨x, H1, I1, rx, q1⟩ => thn (hi pins s1 σ H1 _ I1 q1) fun iv s2 ⟨y, H2, I2, ry, a, v, ex, g, q2⟩ => ?_) ha
 subst ex
 obtain rfl : u = Value.ref a := rx
 refine kA hu I2 g ry fun w' s3 I3 rw' => thn (hv pins s3 σ H2 _ I3 q2) fun w2 s4 ⟨y2, H3, I4, ry2, q3⟩ => thn (hop pins s4 σ H3 v y2 w' w2 _ I4 rw' ry2 q3) fun w3 s5 ⟨z, H4, I5, rz, H5, g5, q4⟩ => ?_
 exact qh hu I5 g5 ry rz fun s6 I6 => ⟨σ, H5, I6, q4⟩
end
theorem sq {P : Program} {w : World} {H : Hp} (h : Heap) (hb : sysModules < h.objs.size) : aC P w H (h.push { cls := .type "dict", data := .dict #[] }) h.objs.size (.dT []) :=
 ⟨Nat.zero_le _, beq_eq_false_iff_ne.mpr (Ne.symm (Nat.ne_of_lt hb)), [], .nil, _, #[], 0, Heap.get?_push_size _ rfl, ⟨rfl, rfl, rfl⟩, rfl, rfl, List.nodup_nil⟩
section
variable {X : Cx} {pos : Pos}
end
section
variable {prog : Program} {w : World} {A : Around} {R : Result -> Shared -> Prop} {s : Shared}
theorem tM {kx vx tg iter : Expr} {ifs : List Expr} {scope : Scope} {pos : Pos} {it : Value} {D : Addr} {env : Env} (J : Nat -> Shared -> Prop)
  (turn : ∀ n s, J n s -> wpAny (model prog w) A (pyNext it) (fun r s1 => match r with
   | none => R (.ok .next) s1
   | some v => wpAny (model prog w) A (letOwnedTupleGo tg it v) (fun _ s2 => wpAny (model prog w) A (assign tg env v) (fun _ s3 =>
     wpAny (model prog w) A (forIn ifs true fun c r => if r = true then do let ok <- isTrue c env (eval c env); pure (ForInStep.yield ok) else pure (ForInStep.yield r)) (fun ok s4 =>
      if ok = true then wpAny (model prog w) A (eval kx env) (fun y s5 => wpAny (model prog w) A (eval vx env) (fun x s6 => wpAny (model prog w) A (dictSet D y x) (fun _ s7 => ∃ m, m < n /\ J m s7) (fun _ _ => False) s6) (fun _ _ => False) s5) (fun _ _ => False) s4
      else ∃ m, m < n /\ J m s4) (fun _ _ => False) s3) (fun _ _ => False) s2) (fun _ _ => False) s1) (fun _ _ => False) s)
  (n : Nat) (h : J n s) : codeAny (model prog w) A (.compLoop (.DictComp kx vx [⟨tg, iter, ifs, 0⟩] scope pos) 0 it (.ref D) env) R s := by
 refine codeAny_loop rfl J (fun k t hJ => ?_) n h
 show wpAny _ A ((compTurn (.DictComp kx vx [⟨tg, iter, ifs, 0⟩] scope pos) 0 it (.ref D) env).onRaise (fun x => do noteFrame x env; theTreesLotGoes x)) _ _ t
 refine wpAny_noted (wpAny_mono (E := fun _ _ => False) ?_ (fun _ _ q => q) fun _ _ f => f.elim)
 rw [compTurn_dict]
 refine wpAny_bind (wpAny_standAt (wpAny_bind (thn (turn k t hJ) fun r s1 h1 => ?_)))
 cases r with
 | none => exact wpAny_pure h1
 | some v =>
  refine wpAny_bind (thn h1 fun _ s2 h2 => wpAny_bind (thn h2 fun _ s3 h3 => wpAny_bind (thn h3 fun ok s4 h4 => ?_)))
  cases ok with
  | false => exact wpAny_pure ⟨rfl, h4⟩
  | true => exact wpAny_bind (wpAny_bind (thn h4 fun y s5 h5 => wpAny_bind (wpAny_holding (thn h5 fun x s6 h6 => wpAny_bind (wpAny_standAt (wpAny_holding (thn h6 fun _ s7 h7 => wpAny_pure ⟨rfl, h7⟩)))))))
end
noncomputable def jn (H : Hp) (a : Addr) (y v : V) (H' : Hp) : Prop := ∃ kvs k b, H a = some (.dT kvs) /\ y = .ref b /\ H b = some (.tup (k.map kV)) /\ kvs.length < sizeLine /\ H' = upd H a (.dT (putK kvs k v))
theorem qg {X : Cx} {pins : List (Addr × Obj)} {σ : St} {H H' : Hp} {s : Shared} {a : Addr} {y v : V} {u r : Value} {A : Around} {E : Value -> Shared -> Prop} {Q : Unit -> Shared -> Prop} (hu : A.units < cLine) (I : Inv X pins σ H s) (g : jn H a y v H') (ry : RelV y u) (rv : RelV v r) (h : ∀ s', Inv X pins σ H' s' -> Q () s') :
  wpAny (model X.prog X.w) A (dictSet a u r) Q E s := by
 obtain ⟨kvs, k, b, e, ey, eb, l, eH⟩ := g
 subst ey eH
 cases (show u = Value.ref b from ry)
 obtain ⟨z, hd, xs, rel, dd⟩ := mT I.hok e
 have hz : xs.length <= sizeLine := by rw [<- Paired.length rel]; exact z
 have hl : (putK kvs k v).length <= sizeLine := by have := fV kvs k v; omega
 refine wpAny_dictSet_heap (hsz := hz) (show (tupleKind (bZ X.prog X.w)).room A from hu) (gu I.hok eb) dd (fun h' dd' hs => h _ ?_)
 obtain ⟨q, es, ep, hq, h2, h3, h4, _, h5⟩ := dd'
 refine iY I (by rw [e]; exact True.intro) hs ⟨q, hq⟩ ⟨hl, hd, _, (rel.put k eb rv).keeps fun c ys ec => ?_, q, es, ep, hq, h2, h3, h4, h5⟩
 rw [ag (jf ec e (fun z => nomatch z))]
 exact ec
noncomputable def DcW (D : Addr) (J : It) (g : TG) (tt : TT) (tk tv : TE) (σ' : St) (fin : Hp -> Prop) (H1 : Hp) : Prop :=
 ∃ W : Nat -> Nat -> St -> Hp -> Prop, (∃ m, W 0 m σ' H1) /\ ∀ i m σ H, W i m σ H ->
  (J.stop i H /\ fin H) \/ (J.go i H /\ ∃ Nx : St -> Hp -> Prop, (∀ σ' H', Nx σ' H' -> ∃ m', m' < m /\ W (i + 1) m' σ' H') /\
   ∀ x H', J.yld i H x H' -> g x σ H' fun σ2 H2 => tt σ2 H2 fun b H3 => if b = true then tk σ2 H3 (fun y H4 => tv σ2 H4 fun v H5 => ∃ H6, jn H5 D y v H6 /\ Nx σ2 H6) else Nx σ2 H3)
noncomputable def vd (i : Nat) (wi : TI) (g : TG) (tt : TT) (tk tv : TE) (ix : List (Option Nat)) : TS := fun E σ H => wi σ H fun J H1 => ∀ D, H1 D = none -> DcW D J g tt tk tv (emb ix σ) (fun H' => E.nx (σ.set i (some (.ref D))) H') (upd H1 D (.dT []))
theorem ud {b D C : Nat} (h : b < D) (e : C = D + 1) (z : b = C) : False := by omega
section
variable {X : Cx} {scope : Scope} {N : List Str} {ix : List (Option Nat)}
theorem u9 {pins pins' : List (Addr × Obj)} {σ σ' : St} {H2 H' : Hp} {s2 s' : Shared} {C : Addr} {fp : List Addr} {h' : Heap} (I2 : Inv X pins σ H2 s2) (hf : ∀ b ∈ fp, bH X pins H2 b)
  (I' : Inv (aF X scope N C s2 H2 fp) pins' σ' H' s') (hC : s2.heap.objs.size <= C) (hs : ∀ b o, b ≠ C -> s'.heap.get? b = some o -> h'.get? b = some o) : Inv X pins σ H' { s' with heap := h' } := by
 have B : Un (frs X.stack) fp H2 H' s2.heap s'.heap := I'.base
 have neC : ∀ b o, s2.heap.get? b = some o -> b ≠ C := fun b o e => Nat.ne_of_lt (Nat.lt_of_lt_of_le (Heap.lt_size e) hC)
 have hCn : H' C = none := I'.free
 have tC : ∀ b u, H' b = some u -> b ≠ C := fun b u e => av e hCn
 refine I2.call' (s' := { s' with heap := h' }) (ch := fp) I'.os ⟨fun b o e n hb hx => ?_, fun b o e n hb hx => ?_, fun b o e n hx => ?_, fun b o e hx => ?_, fun b xs e => ?_, fun b o u e => ?_, fun b ps e => ?_⟩ (fun b u e => ?_) I'.bare fun b hb => ⟨(hf b hb).2.2.2.1, (hf b hb).2.1, (hf b hb).2.2.2.2.1, (hf b hb).2.2.2.2.2⟩
 ·exact hs b o (neC b o e) (B.keep b o e n hb hx)
 ·obtain ⟨sl, q⟩ := B.slot b o e n hb hx
  exact ⟨sl, hs b _ (neC b o e) q⟩
 ·exact B.free b o e n hx
 ·obtain ⟨o', q⟩ := B.there b o e hx
  exact ⟨o', hs b o' (neC b o e) q⟩
 ·exact B.tups b xs e
 ·exact B.frzs b o u e
 ·exact B.tbls b ps e
 ·refine (I'.hok b u e).stay (fun c v hc q => hs c v ?_ q) (fun c q => q) fun c xs q => q
  rcases hc with z | z
  ·rw [z]; exact tC b u e
  ·exact tC c _ z
variable {tg iter kx vx : Expr} {ifs : List Expr} {pos : Pos} {g : TG} {tt : TT} {tk tv : TE}
theorem mJ (L : bD X scope N ix) (hc : X.calm = true) (hu : X.A.units < cLine) (hg : ∀ C s0 H0 fp, PG (aF X scope N C s0 H0 fp) tg g) (ht : ∀ C s0 H0 fp, PTs (aF X scope N C s0 H0 fp) ifs tt) (hk : ∀ C s0 H0 fp, PE (aF X scope N C s0 H0 fp) kx tk) (hv : ∀ C s0 H0 fp, PE (aF X scope N C s0 H0 fp) vx tv)
  {pins : List (Addr × Obj)} {σ : St} {H1 : Hp} {s1 : Shared} {it : Addr} {fp : List Addr} {tn : Nat -> Heap -> Prop} {J : It} {fin : Addr -> Hp -> Prop} {E : Value -> Shared -> Prop} {RR : Value -> Addr -> Result -> Shared -> Prop}
  (I1 : Inv X pins σ H1 s1) (T : Turn X.prog X.w X.K tg J fp it tn) (st : tn 0 s1.heap) (f1 : ∀ b ∈ fp, bH X pins H1 b) (hW : ∀ D, H1 D = none -> DcW D J g tt tk tv (emb ix σ) (fin D) (upd H1 D (.dT [])))
  (hRR : ∀ D C s' m H', s'.heap.Ns C m -> s'.os = s1.os -> bH X pins H' C -> (∀ h', Heap.SameBut C s'.heap h' -> Inv X pins σ H' { s' with heap := h' }) -> fin D H' -> RR (.ref D) C (.ok .next) s') :
  wpAny (model X.prog X.w) X.A newDict (fun acc s3 => wpAny (model X.prog X.w) X.A (newFunctionEnv scope X.env.globals (bJ X.env scope.names []) [] X.env.qual none .none (some X.env)) (fun cenv s4 =>
   codeAny (model X.prog X.w) X.A (.compStart (.DictComp kx vx [⟨tg, iter, ifs, 0⟩] scope pos) 0 (.ref it) acc { cenv with scope := relabel scope X.env }) (RR acc cenv.locals) s4) E s3) E s1 := by
 have hb1 : ∀ b ∈ fp, b < s1.heap.objs.size := fun b hb => by
  obtain ⟨o, e, _⟩ := T.obj _ _ st b hb
  exact Heap.lt_size e
 have hDn : H1 s1.heap.objs.size = none := I1.hok.fresh (Nat.le_refl _)
 obtain ⟨W, ⟨m0, w0⟩, turn⟩ := hW s1.heap.objs.size hDn
 refine wpAny_newObj_type (wpAny_newFunctionEnv L.nocell (by intro y hy; simp at hy) (fun h1 hns hsb => ?_) L.kind)
 dsimp only at hns hsb ⊢
 have I2 : Inv X pins σ (upd H1 s1.heap.objs.size (.dT [])) { s1 with heap := s1.heap.push { cls := .type "dict", data := .dict #[] }, toks := s1.toks } :=
  I1.laid (t' := s1.toks) (a := s1.heap.objs.size) (o := .dT []) (fun _ _ q => Heap.get?_push_of_some _ q) (Nat.le_refl _) (sq s1.heap I1.big)
 have f2 : ∀ b ∈ fp, bH X pins (upd H1 s1.heap.objs.size (.dT [])) b := fun b hb => by
  obtain ⟨q0, q1⟩ := f1 b hb
  exact ⟨by rw [ag (Nat.ne_of_lt (hb1 b hb))]; exact q0, q1⟩
 have st2 : tn 0 (s1.heap.push { cls := .type "dict", data := .dict #[] }) := T.keep _ _ _ st fun b _ o e => Heap.get?_push_of_some _ e
 generalize hD : s1.heap.objs.size = D at *
 generalize hH2 : upd H1 D (.dT []) = H2 at *
 generalize hG : s1.heap.push { cls := .type "dict", data := .dict #[] } = G at *
 have hGs : G.objs.size = D + 1 := by rw [<- hG, Heap.size_push, hD]
 generalize hCe : G.objs.size = C at *
 have kp : ∀ b o, G.get? b = some o -> h1.get? b = some o := fun b o e => hsb.extBut b o (fun z => by have := Heap.lt_size e; rw [hCe] at this; exact absurd (z ▸ this) (Nat.lt_irrefl _)) (Heap.get?_push_of_some _ e)
 have I4 := mZ L (tk := s1.toks + ([] : List (Str × Value)).length) I2 (C := C) (by show G.objs.size <= C; rw [hCe]; exact Nat.le_refl _) f2 (fun b hb => by show b < G.objs.size; rw [hCe, hGs]; exact Nat.lt_succ_of_lt (hb1 b hb)) kp hns
 have st4 : tn 0 h1 := T.keep _ _ _ st2 fun b _ o e => kp b o e
 generalize hs2 : ({ s1 with heap := G, toks := s1.toks } : Shared) = s2 at I2 I4
 have hs2h : s2.heap = G := by rw [<- hs2]
 have hs2o : s2.os = s1.os := by rw [<- hs2]
 have stat : ∀ {H' : Hp}, (∀ b ∈ fp, H' b = none) -> ∀ b ∈ fp, bH (aF X scope N C s2 H2 fp) [] H' b := fun {H'} hn b hb => by
  have hlt := hb1 b hb
  refine ⟨hn b hb, fun z => ?_, fun z => ?_, .inl hb, fun x c e => (f2 b hb).2.2.2.2.1 x c (dg e), fun p hq z => ?_⟩
  ·exact ud hlt hGs z
  ·exact (List.mem_cons.mp (I2.stkSub b z)).elim (f2 b hb).2.1 (f2 b hb).2.2.1
  ·have hq' : p ∈ ([] : List (Addr × Obj)) := by simpa [aF] using hq
   cases hq'
 have loop : ∀ s4 : Shared, Inv (aF X scope N C s2 H2 fp) [] (emb ix σ) H2 s4 -> tn 0 s4.heap -> codeAny (model X.prog X.w) X.A (.compLoop (.DictComp kx vx [⟨tg, iter, ifs, 0⟩] scope pos) 0 (.ref it) (.ref D) (aF X scope N C s2 H2 fp).env) (RR (.ref D) C) s4 := by
  intro s4 I4' st4'
  refine tM (fun n s' => ∃ i σ' H', Inv (aF X scope N C s2 H2 fp) [] σ' H' s' /\ tn i s'.heap /\ (∀ b ∈ fp, H' b = none) /\ W i n σ' H') ?_ m0 ⟨0, emb ix σ, H2, I4', st4', fun b hb => (f2 b hb).1, w0⟩
  rintro n s' ⟨i, σ', H', I', st', fr', w'⟩
  rcases turn i n σ' H' w' with ⟨stop, qf⟩ | ⟨go, Nx, hN, step⟩
  ·refine thn (T.done (aF X scope N C s2 H2 fp) rfl rfl rfl hc i _ s' σ' H' _ I' (stat fr') st' stop) fun r s5 ⟨hr, I5⟩ => ?_
   subst hr
   obtain ⟨m5, hn5, _⟩ := I5.loc
   refine hRR D C s5 m5 H' hn5 (I5.os.trans hs2o) (I2.fpOk (by rw [hs2h, hCe]; exact Nat.le_refl _) I5.free) (fun h' hs' => ?_) qf
   exact u9 I2 f2 I5 (by rw [hs2h, hCe]; exact Nat.le_refl _) fun b o hb e => hs'.extBut b o hb e
  ·refine thn (T.item (aF X scope N C s2 H2 fp) rfl rfl rfl hc i _ s' σ' H' _ I' (stat fr') st' go) fun r s5 ⟨u, hr, h5⟩ => ?_
   subst hr
   refine thn h5 fun _ s6 ⟨x, H6, I6, r6, y6, st6, fr6⟩ => ?_
   have I6' := I6.pinned (stat fr6) (T.obj _ _ st6)
   refine thn (hg C s2 H2 fp _ s6 σ' H6 x u _ I6' r6 (step x H6 y6)) fun _ s7 ⟨σ7, H7, I7, q7⟩ => ?_
   refine thn (ht C s2 H2 fp _ s7 σ7 H7 _ I7 q7) fun ok s8 ⟨H8, I8, q8⟩ => ?_
   have back : ∀ {H9 : Hp} {s9 : Shared}, Inv (aF X scope N C s2 H2 fp) ([] ++ eU fp s6.heap) σ7 H9 s9 -> tn (i + 1) s9.heap /\ ∀ b ∈ fp, H9 b = none := fun {H9 s9} I9 => by
    refine ⟨T.keep _ _ _ st6 fun b hb o e => (I9.pin (b, o) (List.mem_append_right _ (List.mem_append_right _ (eF hb e)))).1, fun b hb => ?_⟩
    obtain ⟨o, e, d⟩ := T.obj _ _ st6 b hb
    exact (I9.pin (b, o) (List.mem_append_right _ (List.mem_append_right _ (eF hb e)))).2.1
   cases ok with
   | false =>
    rw [if_neg Bool.false_ne_true] at q8 ⊢
    obtain ⟨m', hm, w8⟩ := hN _ _ q8
    obtain ⟨st8, fr8⟩ := back I8
    exact ⟨m', hm, i + 1, σ7, H8, I8.unpinned, st8, fr8, w8⟩
   | true =>
    rw [if_pos rfl] at q8 ⊢
    refine thn (hk C s2 H2 fp _ s8 σ7 H8 _ I8 q8) fun yv s9 ⟨y, H9, I9, r9, q9⟩ => ?_
    refine thn (hv C s2 H2 fp _ s9 σ7 H9 _ I9 q9) fun xv s10 ⟨v, H10, I10, r10, H11, g11, q11⟩ => ?_
    refine qg (X := aF X scope N C s2 H2 fp) hu I10 g11 r9 r10 fun s11 I11 => ?_
    obtain ⟨m', hm, w11⟩ := hN _ _ q11
    obtain ⟨st11, fr11⟩ := back I11
    exact ⟨m', hm, i + 1, σ7, H11, I11.unpinned, st11, fr11, w11⟩
 have q := loop _ I4 st4
 subst hs2
 exact codeAny_compStart_dict q (T.self _ 0 _ _ _ st4 q)
theorem rV {i : Nat} {y : Str} {py spos : Pos} {wi : TI} (hu : X.A.units < cLine) (hN : X.N.Nodup) (hi' : X.N[i]? = some y) (hx : Loc X.env.scope y) (L : bD X scope N ix) (hc : X.calm = true) (hi : PI X tg iter wi) (hg : ∀ C s0 H0 fp, PG (aF X scope N C s0 H0 fp) tg g)
  (ht : ∀ C s0 H0 fp, PTs (aF X scope N C s0 H0 fp) ifs tt) (hk : ∀ C s0 H0 fp, PE (aF X scope N C s0 H0 fp) kx tk) (hv : ∀ C s0 H0 fp, PE (aF X scope N C s0 H0 fp) vx tv)
  (hsw : swapsWith (.DictComp kx vx [⟨tg, iter, ifs, 0⟩] scope pos) (some (.Name y py)) spos.line X.env = pure true := by rfl) (hs : ∀ x, foldedSetIterable iter X.env x = pure x := by intro _; rfl)
  (hf : X.fn y = true \/ X.env.scope.names.lookup y = some .local := by first | exact .inl rfl | exact .inr rfl | assumption) :
  PS X (.Assign [.Name y py] (.DictComp kx vx [⟨tg, iter, ifs, 0⟩] scope pos) spos) (vd i wi g tt tk tv ix) := by
 intro pins s σ H D I h
 rw [exec_Assign_Name_used _ _ _ _ hsw]
 refine wpAny_bind (wpAny_standAt (wpAny_bind ?_))
 show wpAny _ X.A (do let _ <- comprehension (.DictComp kx vx [⟨tg, iter, ifs, 0⟩] scope pos) scope X.env _ newDict false (eval iter X.env) (some (assign (.Name y py) X.env))) _ _ s
 refine wpAny_bind (thn (wpAny_comprehension_free (use := some (assign (.Name y py) X.env)) (Q := fun _ s' => SP X pins D .next s') rfl hs (L.clos I.ok) L.kind L.locals
  (thn (hi pins s σ H _ I h) fun v s1 h1 => thn h1 fun itv s2 h2 => ?_)) fun _ s' hq => wpAny_pure (wpAny_pure hq))
 obtain ⟨it, fp, tn, J, H2, rfl, I2, T, st2, f2, hW⟩ := h2
 refine mJ (RR := fun acc C => compPost (model X.prog X.w) X.A X.xe (some (assign (.Name y py) X.env)) (fun _ s' => SP X pins D .next s') acc C) L hc hu hg ht hk hv I2 T st2 f2 hW ?_
 intro Da C s' m H' hn ho hC hI fin
 have I' := hI s'.heap (Heap.SameBut.refl _ _)
 show wpAny _ X.A (assign (.Name y py) X.env (.ref Da)) _ _ s'
 refine wpAny_assign_Name (iu (v := .ref Da) I' hN hi' hx rfl (fun s'' I'' ch => ?_) hf)
 obtain ⟨a, hsa, hwa⟩ := ch
 obtain ⟨c1, c2, c3, c4, c5, c6⟩ := hC
 have hCa : C ≠ a := by
  rcases hwa with z | z
  ·rw [z]; exact c2
  ·exact fun w => c5 y a z w.symm
 refine ⟨m, hn.sameBut hsa hCa, fun h' hs' => ⟨_, _, I''.turned (t' := s''.toks) (it := C) (fun b o hb e => hs'.extBut b o hb e) c1 c2 c4 c5 c6, fin⟩⟩
end
inductive i6 (A : Around) (s : Shared) : List (Value × Value) -> List (Bool × Bool) -> Prop
 | nil : i6 A s [] []
 | cons {v u : Value} {e b : Bool} {r : List (Value × Value)} {cs : List (Bool × Bool)} : SeqAt.EqAt A s v u e ->
   (e = false -> ∀ (prog : Program) (w : World) (E : Value -> Shared -> Prop) (Q : Value -> Shared -> Prop), Q (.bool b) s -> wpAny (model prog w) A (richCompare .Lt v u) Q E s) -> i6 A s r cs -> i6 A s ((v, u) :: r) ((e, b) :: cs)
section
open PySem.SeqAt
open PySem.AutoSeq1 (wpAny_loadPart')
open PySem.MeetsSeq PySem.MeetsSeq2 PySem.MeetsSeq3
end
section
variable {prog : Program} {w : World} {A : Around} {E : Value -> Shared -> Prop} {s : Shared}
end
section
variable {prog : Program} {w : World} {A : Around} {R : Result -> Shared -> Prop} {I : Addr} {fp wr : List Addr} {n : Nat} {P : Nat -> Value -> Prop} {St : Nat -> Heap -> Prop}
end
section
variable {prog : Program} {w : World} {A : Around} {E : Value -> Shared -> Prop} {s : Shared}
end
section
variable {X : Cx}
end
section
variable {prog : Program} {w : World} {A : Around} {E : Value -> Shared -> Prop} {s : Shared}
theorem lW {c t : Addr} {i : Nat} {its : Array Value} {v : Value} {Q : Value -> Shared -> Prop} (hi : s.heap.IsTupleIter c t i) (ht : s.heap.IsTuple t its) (hv : its[i]? = some v)
  (k : ∀ G, G.IsTupleIter c t (i + 1) -> Heap.SameBut c s.heap G -> Q v { s with heap := G }) : wpAny (model prog w) A (Builtin.SmallTypes.nextOf (.ref c)) Q E s := by
 obtain ⟨o, e, cl, d⟩ := id hi
 obtain ⟨o2, e2, _, n2, d2⟩ := ht
 unfold Builtin.SmallTypes.nextOf
 refine wpAny_bind (wpAny_callSpecial?_slot (name := Str.ofString "__next__") hi.typeIs F.slot_tuple_iterator_next (wpAny_call_entry F.slot_tuple_iterator_next hi.typeIs F.entry_tuple_iterator_next ?_ (F.args_tuple_iterator_next_1 _)))
 refine (show wpAny _ _ (field (.ref c) 0 >>= _) _ _ s from wpAny_bind (wpAny_field e d (x := .ref t) rfl ?_))
 refine (show wpAny _ _ (if (Value.ref t == Value.none) = true then _ else _) _ _ s from ?_); rw [if_neg (show ¬ ((Value.ref t == Value.none) = true) from Bool.false_ne_true)]
 refine (show wpAny _ _ (field (.ref c) 1 >>= _) _ _ s from wpAny_bind (wpAny_field e d (x := .int i 0) rfl ?_))
 refine (show wpAny _ _ (seqItems? (.ref t) >>= _) _ _ s from wpAny_bind (wpAny_seqItems e2 d2 ?_)); simp only [Int.toNat_natCast, hv]
 refine wpAny_bind (wpAny_setField e d (by simp) (wpAny_pure ⟨v, rfl, wpAny_pure (k _ ⟨_, Heap.get?_update_self _ e (Obj.isFreed_of_fields (Obj.data_mapFields d _)), (Obj.cls_mapFields ..).trans cl, by rw [Obj.data_mapFields d]; simp [rawInt]⟩ (Heap.SameBut.update ..))⟩))
theorem mF {c t : Addr} {i : Nat} {its : Array Value} {Q : Value -> Shared -> Prop} (hh : A.handled = none) (hi : s.heap.IsTupleIter c t i) (ht : s.heap.IsTuple t its) (hv : its[i]? = none)
  (k : ∀ G x, Heap.ExtBut c s.heap G -> (∃ o, G.get? x = some o /\ o.cls = .type "StopIteration") -> E (.ref x) { s with heap := G }) : wpAny (model prog w) A (Builtin.SmallTypes.nextOf (.ref c)) Q E s := by
 obtain ⟨o, e, cl, d⟩ := id hi
 obtain ⟨o2, e2, _, n2, d2⟩ := ht
 unfold Builtin.SmallTypes.nextOf
 refine wpAny_bind (wpAny_callSpecial?_slot (name := Str.ofString "__next__") hi.typeIs F.slot_tuple_iterator_next (wpAny_call_entry F.slot_tuple_iterator_next hi.typeIs F.entry_tuple_iterator_next ?_ (F.args_tuple_iterator_next_1 _)))
 refine (show wpAny _ _ (field (.ref c) 0 >>= _) _ _ s from wpAny_bind (wpAny_field e d (x := .ref t) rfl ?_))
 refine (show wpAny _ _ (if (Value.ref t == Value.none) = true then _ else _) _ _ s from ?_); rw [if_neg (show ¬ ((Value.ref t == Value.none) = true) from Bool.false_ne_true)]
 refine (show wpAny _ _ (field (.ref c) 1 >>= _) _ _ s from wpAny_bind (wpAny_field e d (x := .int i 0) rfl ?_))
 refine (show wpAny _ _ (seqItems? (.ref t) >>= _) _ _ s from wpAny_bind (wpAny_seqItems e2 d2 ?_)); simp only [Int.toNat_natCast, hv]
 refine wpAny_bind (wpAny_rule (wpAny_bind (wpAny_setField e d (by simp) (show wpAny _ _ (newExc (.type "StopIteration") [] >>= _) _ _ _ from wpAny_bind ?_)))); simp only [newExc, newTuple]
 refine wpAny_bind (wpAny_newObj_type (wpAny_bind (m := firstArgMember _ _) (wpAny_of_eq (a := Value.none) (by first | rfl | (simp only [firstArgMember]; rfl)) (wpAny_newObj_type ?_ (by size_fits)))) (by size_fits)); simp only [raiseNew]
 refine wpAny_bind (wpAny_handled ?_); (first | rw [show A.in1.handled = none from hh] | rw [hh])
 exact wpAny_bind (wpAny_pure (wpAny_throw (k _ _ (((Heap.SameBut.update ..).extBut.push _).push _) ⟨_, Heap.get?_push_size _ rfl, rfl⟩)))
theorem uK {z TI TO i1 i2 l1 l2 : Addr} {k : Nat} {xs : Array Value} {a b : Value} {Q : Option Value -> Shared -> Prop} (hh : A.handled = none) (D : ZipApart z TI TO i1 i2 l1 l2) (hz : IsZip s.heap z TI TO .none) (hTI : IsPair s.heap TI (.ref i1) (.ref i2)) (hTO : IsPair s.heap TO a b)
  (h1 : s.heap.IsTupleIter i1 l1 k) (t1 : s.heap.IsTuple l1 xs) (hx : xs[k]? = none)
  (q : ∀ G, (∀ c o, c ≠ z -> c ≠ TO -> c ≠ i1 -> c ≠ i2 -> s.heap.get? c = some o -> G.get? c = some o) -> Q none { s with heap := G }) : wpAny (model prog w) A (pyNext (.ref z)) Q E s := by
 have ty : s.TypeIs (.ref z) "zip" := ⟨_, hz, rfl⟩
 unfold pyNext
 refine wpAny_bind (wpAny_attempt (wpAny_callSpecial?_slot (name := Str.ofString "__next__") ty F.slot_zip_next (wpAny_call_entry F.slot_zip_next ty F.entry_zip_next ?_ (F.args_zip_next_1 _))))
 refine (show wpAny _ _ (field (.ref z) 2 >>= _) _ _ _ from wpAny_bind (wpAny_field hz rfl (x := .bool false) rfl ?_))
 refine (show wpAny _ _ (field (.ref z) 3 >>= _) _ _ _ from wpAny_bind (wpAny_field hz rfl (x := .ref TI) rfl (wpAny_bind (wpAny_seqItems hTI rfl ?_))))
 refine (show wpAny _ _ (Builtin.SmallTypes.ownedTupleIsFree (.ref z) >>= _) _ _ _ from wpAny_bind ?_); unfold Builtin.SmallTypes.ownedTupleIsFree
 refine wpAny_bind (wpAny_field hz rfl (x := .none) rfl (wpAny_pure ?_)); simp only [if_true]
 refine wpAny_bind (wpAny_rule (wpAny_bind (wpAny_field hz rfl (x := .ref TO) rfl (wpAny_bind (wpAny_setField_rec hz (by simp) fun g1 z1 s1 => ?_)))))
 have z1' : IsZip g1 z TI TO .ellipsis := z1
 refine wpAny_bind ?_; simp only [List.zipIdx_cons, List.zipIdx_nil, List.forIn_cons, List.forIn_nil]
 refine wpAny_bind (wpAny_bind (wpAny_onRaise (show wpAny _ _ (Builtin.SmallTypes.nextOf (.ref i1) >>= _) _ _ _ from wpAny_bind (mF hh (h1.extBut s1.extBut D.i1z) (t1.at fun o e => s1.extBut _ o D.l1z e) hx fun g2 x s2 he => ?_))))
 obtain ⟨oe, e1, e2⟩ := he
 have z2 : IsZip g2 z TI TO .ellipsis := s2 _ _ D.i1z.symm z1'
 have nz : x ≠ z := fun w' => by subst w'; rw [z2] at e1; cases e1; simp at e2
 refine wpAny_setField_rec z2 (by simp) fun g3 _ s3 => ?_
 refine wpAny_bind (wpAny_isInstance (T := "StopIteration") (b := true) ⟨oe, s3.extBut _ _ nz e1, e2⟩ isSubtype_stop (wpAny_pure (q _ fun c o n1 _ n3 _ e => s3.extBut _ _ n1 (s2 _ _ n3 (s1.extBut _ _ n1 e)))))
end
section
variable {prog : Program} {w : World} {A : Around} {E : Value -> Shared -> Prop} {s : Shared}
end
section
variable {X : Cx}
end
section
variable {prog : Program} {w : World} {A : Around} {E : Value -> Shared -> Prop} {s : Shared}
theorem tT {c d : Addr} {i ep : Nat} {o : Obj} {es : Array DictEntry} {Q : Option Value -> Shared -> Prop} (hi : s.heap.IsKeyIter c d i es.size ep) (ho : s.heap.get? d = some o) (hd : o.data = .dict es ep) (lt : i < es.size)
  (q : ∀ G, G.IsKeyIter c d (i + 1) es.size ep -> Heap.SameBut c s.heap G -> Q (some es[i].key) { s with heap := G }) : wpAny (model prog w) A (pyNext (.ref c)) Q E s := by
 obtain ⟨oc, e, cl, dc⟩ := id hi
 have own : Builtin.Dict_items.ownsTuple "dict_keyiterator" = false := by decide
 unfold pyNext
 refine wpAny_bind (wpAny_attempt (wpAny_callSpecial?_slot (name := Str.ofString "__next__") hi.typeIs F.slot_dict_keyiterator_next (wpAny_call_entry F.slot_dict_keyiterator_next hi.typeIs F.entry_dict_keyiterator_next ?_ (F.args_dict_keyiterator_next_1 _))))
 refine wpAny_bind (wpAny_pure (wpAny_bind (wpAny_bind ?_)))
 (first | refine wpAny_bind (wpAny_typeNameOfWhole_keyiter hi.typeIs (wpAny_pure (wpAny_bind (wpAny_fieldsOf e dc ?_)))) | refine wpAny_bind (wpAny_typeNameOf_keyiter hi.typeIs (wpAny_pure (wpAny_bind (wpAny_fieldsOf e dc ?_))))); simp only [own, Bool.false_eq_true, if_false]
 refine (show wpAny _ _ (if (Value.ref d == Value.none) = true then _ else _) _ _ s from ?_); rw [if_neg (show ¬ ((Value.ref d == Value.none) = true) from Bool.false_ne_true)]
 refine wpAny_bind (wpAny_pure (wpAny_bind (wpAny_dictEntries ho hd ?_))); rw [if_neg (by simp)]
 refine wpAny_bind (wpAny_pure (wpAny_bind (wpAny_dictEpoch ho hd ?_))); rw [if_neg (by simp)]
 refine wpAny_pure ?_; simp only [show ¬ ((i : Int) < 0) from by omega, if_false, Int.toNat_natCast, Array.getElem?_eq_getElem lt]
 refine wpAny_bind ?_; (first | refine wpAny_bind (wpAny_typeNameOfWhole_keyiter hi.typeIs (wpAny_pure (wpAny_bind (wpAny_isOneOf_keyiter hi.typeIs ?_)))) | refine wpAny_bind (wpAny_typeNameOf_keyiter hi.typeIs (wpAny_pure (wpAny_bind (wpAny_isOneOf_keyiter hi.typeIs ?_)))))
 refine (show wpAny _ _ (setField (.ref c) 1 (rawInt ((i : Int) + 1)) >>= _) _ _ s from wpAny_bind (wpAny_setField e dc (by simp) ?_))
 have hi2 : (s.heap.update c (Obj.mapFields (·.setIfInBounds 1 (rawInt ((i : Int) + 1))))).IsKeyIter c d (i + 1) es.size ep := ⟨_, Heap.get?_update_self _ e (Obj.isFreed_of_fields (Obj.data_mapFields dc _)), (Obj.cls_mapFields ..).trans cl, by rw [Obj.data_mapFields dc]; simp [rawInt]⟩
 refine wpAny_bind (wpAny_holding (wpAny_bind (wpAny_isOneOf_keyiter (s := { s with heap := s.heap.update c (Obj.mapFields (·.setIfInBounds 1 (rawInt ((i : Int) + 1)))) }) hi2.typeIs ?_)))
 exact (show wpAny _ _ (pure es[i].key) _ _ _ from wpAny_pure (wpAny_pure ⟨_, rfl, wpAny_pure (q _ hi2 (Heap.SameBut.update ..))⟩))
theorem vw {c d : Addr} {i ep : Nat} {o : Obj} {es : Array DictEntry} {Q : Option Value -> Shared -> Prop} (hh : A.handled = none) (hi : s.heap.IsKeyIter c d i es.size ep) (ho : s.heap.get? d = some o) (hd : o.data = .dict es ep) (ge : es.size <= i)
  (q : ∀ G, Heap.ExtBut c s.heap G -> Q none { s with heap := G }) : wpAny (model prog w) A (pyNext (.ref c)) Q E s := by
 obtain ⟨oc, e, cl, dc⟩ := id hi
 have own : Builtin.Dict_items.ownsTuple "dict_keyiterator" = false := by decide
 unfold pyNext
 refine wpAny_bind (wpAny_attempt (wpAny_callSpecial?_slot (name := Str.ofString "__next__") hi.typeIs F.slot_dict_keyiterator_next (wpAny_call_entry F.slot_dict_keyiterator_next hi.typeIs F.entry_dict_keyiterator_next ?_ (F.args_dict_keyiterator_next_1 _))))
 refine wpAny_bind (wpAny_pure (wpAny_bind (wpAny_bind ?_)))
 (first | refine wpAny_bind (wpAny_typeNameOfWhole_keyiter hi.typeIs (wpAny_pure (wpAny_bind (wpAny_fieldsOf e dc ?_)))) | refine wpAny_bind (wpAny_typeNameOf_keyiter hi.typeIs (wpAny_pure (wpAny_bind (wpAny_fieldsOf e dc ?_))))); simp only [own, Bool.false_eq_true, if_false]
 refine (show wpAny _ _ (if (Value.ref d == Value.none) = true then _ else _) _ _ s from ?_); rw [if_neg (show ¬ ((Value.ref d == Value.none) = true) from Bool.false_ne_true)]
 refine wpAny_bind (wpAny_pure (wpAny_bind (wpAny_dictEntries ho hd ?_))); rw [if_neg (by simp)]
 refine wpAny_bind (wpAny_pure (wpAny_bind (wpAny_dictEpoch ho hd ?_))); rw [if_neg (by simp)]
 refine wpAny_pure ?_; simp only [show ¬ ((i : Int) < 0) from by omega, if_false, Int.toNat_natCast, Array.getElem?_eq_none ge]
 refine wpAny_bind ?_; (first | refine wpAny_bind (wpAny_typeNameOfWhole_keyiter hi.typeIs (wpAny_pure ?_)) | refine wpAny_bind (wpAny_typeNameOf_keyiter hi.typeIs (wpAny_pure ?_)))
 refine (show wpAny _ _ (setField (.ref c) 0 .none >>= _) _ _ s from wpAny_bind (wpAny_setField e dc (by simp) (show wpAny _ _ (newExc (.type "StopIteration") [] >>= _) _ _ _ from wpAny_bind ?_))); simp only [newExc, newTuple]
 refine wpAny_bind (wpAny_newObj_type (wpAny_bind (m := firstArgMember _ _) (wpAny_of_eq (a := Value.none) (by first | rfl | (simp only [firstArgMember]; rfl)) (wpAny_newObj_type ?_ (by size_fits)))) (by size_fits)); simp only [raiseNew]
 refine wpAny_bind (wpAny_handled ?_); rw [show A.in1.handled = none from hh]
 refine wpAny_bind (wpAny_pure (wpAny_throw ?_)); refine wpAny_bind (wpAny_isInstance (T := "StopIteration") (b := true) ⟨_, Heap.get?_push_size _ rfl, rfl⟩ isSubtype_stop (wpAny_pure (q _ (((Heap.SameBut.update ..).extBut.push _).push _))))
theorem sU {d : Addr} {ep : Nat} {o : Obj} {es : Array DictEntry} {Q : Value -> Shared -> Prop} (nd : (d == sysModules) = false) (ho : s.heap.get? d = some o) (ex : o.ExactDict) (hd : o.data = .dict es ep)
  (q : Q (.ref s.heap.objs.size) { s with heap := s.heap.push { cls := .type "dict_keyiterator", data := .fields #[.ref d, .int 0 0, .int es.size 0, .int ep 0] } }) : wpAny (model prog w) A (pyIter (.ref d)) Q E s := by
 have ty : s.TypeIs (.ref d) "dict" := ⟨o, ho, ex.1⟩
 refine wpAny_pyIter_slot ty F.slot_dict_iter (wpAny_call_entry F.slot_dict_iter ty F.entry_dict_iter ?_ (F.args_dict_iter_1 _))
 unfold Builtin.«dict.__iter__»; refine wpAny_bind ?_; unfold Builtin.Dict.dictSlotNone
 refine wpAny_bind (wpAny_notOrdered_dict ty (show wpAny _ _ (pure (Value.ref d)) _ _ s from wpAny_pure (show wpAny _ _ (Builtin.Dict.showsAll d >>= _) _ _ s from ?_))); unfold Builtin.Dict.showsAll; rw [if_neg (by rw [nd]; exact Bool.false_ne_true)]
 refine wpAny_bind (wpAny_pure (wpAny_bind (wpAny_dictEntries ho hd (wpAny_bind (wpAny_dictEpoch ho hd (wpAny_bind (wpAny_newObj_type (wpAny_pure ⟨_, rfl, "dict_keyiterator", _, ⟨_, Heap.get?_push_size _ rfl, rfl⟩, F.slot_dict_keyiterator_next.lookup, ?_⟩))))))))
 simpa [rawInt] using q
end
theorem Inv.freeze {X : Cx} {pins : List (Addr × Obj)} {σ : St} {H : Hp} {s : Shared} {a : Addr} {o : Obj} {kvs : List (List Key × V)} (I : Inv X pins σ H s) (e : H a = some (.dT kvs)) (ho : s.heap.get? a = some o) : Inv X pins σ (upd H a (.frz o (.dT kvs))) s := by
 have ne : ∀ b u, H b = some u -> (∀ k, u ≠ .dT k) -> b ≠ a := fun b u q n z => by
  rw [z, e] at q
  cases q
  exact n _ rfl
 have st : ∀ {b : Addr} {u : HO}, aC X.prog X.w H s.heap b u -> aC X.prog X.w (upd H a (.frz o (.dT kvs))) s.heap b u := fun x => x.stay (fun _ _ _ q => q) (fun b q => by rw [ag (ne b _ q (by intro k z; cases z))]; exact q) fun b xs q => by rw [ag (ne b _ q (by intro k z; cases z))]; exact q
 refine I.step (h' := s.heap) (g' := s.gens) (t' := s.toks) (d' := s.drawn) (ch := []) (fun _ z => nomatch z) (fun b o _ _ _ q _ => q) (fun b o _ _ _ q _ => ⟨o.slots, q⟩) (fun b o' _ q n => ?_) (fun b o _ q => ⟨o, q⟩) (fun b xs q => ?_) (fun b o u q => ?_) (fun b ps q => ?_) (fun m h => h) (fun b u q => ?_) I.bare
 ·rw [ag (fun z => by rw [z, e] at n; cases n)]; exact n
 ·rw [ag (ne b _ q (by intro k z; cases z))]; exact q
 ·rw [ag (ne b _ q (by intro k z; cases z))]; exact q
 ·exact ⟨#[], by rw [ag (ne b _ q (by intro k z; cases z)), q]; simp⟩
 ·by_cases hb : b = a
  ·subst hb
   rw [ai] at q
   cases q
   exact ⟨ho, st (I.hok b _ e)⟩
  ·rw [ag hb] at q
   exact st (I.hok b u q)
noncomputable def Itd (a : Addr) (o : Obj) : It :=
 ⟨fun i H => ∃ kvs, H a = some (.frz o (.dT kvs)) /\ i < kvs.length,
  fun i H v H' => H' = H /\ ∀ kvs, H a = some (.frz o (.dT kvs)) -> ∃ p b, kvs[i]? = some p /\ v = .ref b /\ H b = some (.tup (p.1.map kV)),
  fun i H => ∃ kvs, H a = some (.frz o (.dT kvs)) /\ kvs.length <= i⟩
theorem Paired.at {α β : Type} {F : α -> β -> Prop} : ∀ {l : List α} {m : List β}, Paired F l m -> ∀ {i : Nat} {x : α}, l[i]? = some x -> ∃ y, m[i]? = some y /\ F x y
 | _, _, .cons r t, 0, x, h => by simp at h; subst h; exact ⟨_, rfl, r⟩
 | _, _, .cons r t, i + 1, x, h => by simpa using Paired.at t (by simpa using h)
theorem qz {P : Program} {w : World} {K : PySem.W.Frag} {tg : Expr} (a it : Addr) (o : Obj) (es : Array DictEntry) (ep : Nat) (hd : o.data = .dict es ep) : Turn P w K tg (Itd a o) [it] it (fun i h => h.IsKeyIter it a i es.size ep) where
 mem := by simp
 obj := fun i h st b hb => by
  have e : b = it := by simpa using hb
  subst e
  obtain ⟨o, e, c, d⟩ := st
  exact ⟨o, e, fun v z => by rw [d] at z; cases z⟩
 keep := fun i h h' st k => st.at fun o e => k it (by simp) o e
 item := by
  intro X hP hw hK hc i pins s σ H E I hf st hg
  subst hP hw hK
  obtain ⟨kvs, ha, lt⟩ := hg
  obtain ⟨ho, _, _, xs, rel, o2, es2, ep2, h1, _, h2, h3, _⟩ := (show aC X.prog X.w H s.heap a (.frz o (.dT kvs)) from I.hok a _ ha)
  rw [ho] at h1
  cases h1
  rw [hd] at h2
  cases h2
  have hl := Paired.length rel
  have hes : es.size = xs.length := size_of_entries h3
  have lt2 : i < es.size := by omega
  obtain ⟨p, hp⟩ : ∃ p, kvs[i]? = some p := ⟨_, List.getElem?_eq_getElem lt⟩
  obtain ⟨y, hy, r1, r2, r3⟩ := Paired.at rel hp
  have ek : es[i].key = .ref y.2.1 := by
   have q := entry_at h3 i
   rw [hy, Array.getElem?_eq_getElem lt2] at q
   simp only [Option.map_some, Option.some.injEq] at q
   rw [q]; rfl
  obtain ⟨f0, f1, f2, f3, f4, f5⟩ := hf it (by simp)
  refine tT st ho hd lt2 fun h' st' sb => ?_
  rw [ek]
  have I1 : Inv X pins σ H { s with heap := h' } := I.turned (t' := s.toks) (fun b o hb e => (sb.2 b hb).trans e) f0 f1 f3 f4 f5
  obtain ⟨o', e, c, d⟩ := id st'
  exact ⟨_, rfl, fJ (s := { s with heap := h' }) e c d (by decide) ⟨.ref y.2.1, H, I1, rfl, ⟨rfl, fun kvs' ha' => by rw [ha] at ha'; cases ha'; exact ⟨p, _, hp, rfl, r2⟩⟩, st', fun b hb => (hf b hb).1⟩⟩
 done := by
  intro X hP hw hK hc i pins s σ H E I hf st hg
  subst hP hw hK
  obtain ⟨kvs, ha, ge⟩ := hg
  obtain ⟨ho, _, _, xs, rel, o2, es2, ep2, h1, _, h2, h3, _⟩ := (show aC X.prog X.w H s.heap a (.frz o (.dT kvs)) from I.hok a _ ha)
  rw [ho] at h1
  cases h1
  rw [hd] at h2
  cases h2
  have hl := Paired.length rel
  have hes : es.size = xs.length := size_of_entries h3
  obtain ⟨f0, f1, f2, f3, f4, f5⟩ := hf it (by simp)
  exact vw (I.ok.hd hc) st ho hd (by omega) fun h' eb => ⟨rfl, I.turned (t' := s.toks) (fun b o hb e => eb b o hb e) f0 f1 f3 f4 f5⟩
 self := fun _ _ _ _ _ st h => wpAny_pyIter_keyiter st h
section
variable {X : Cx} {tg : Expr}
noncomputable def vU (tl : TE) : TI := fun σ H R => tl σ H fun x H1 => ∃ a kvs, x = .ref a /\ H1 a = some (.dT kvs) /\ ∀ o, R (Itd a o) (upd H1 a (.frz o (.dT kvs)))
theorem ma {l : Expr} {tl : TE} (hl : PE X l tl) : PI X tg l (vU tl) := by
 intro pins s σ H R I h
 refine thn (hl pins s σ H _ I h) fun v s1 ⟨x, H1, I1, r1, q1⟩ => ?_
 obtain ⟨a, kvs, rfl, ha, q⟩ := q1
 cases r1
 obtain ⟨_, nd, xs, rel, o, es, ep, ho, ex, hd, h3, _⟩ := (show aC X.prog X.w H1 s1.heap a (.dT kvs) from I1.hok a _ ha)
 refine sU nd ho ex hd ?_
 have I2 := I1.freeze ha ho
 refine ⟨s1.heap.objs.size, [s1.heap.objs.size], _, _, _, rfl, I2.kept (t' := s1.toks) fun b o e => Heap.get?_push_of_some _ e, qz a _ o es ep hd, ⟨_, Heap.get?_push_size _ rfl, rfl, rfl⟩, fun b hb => ?_, q o⟩
 have e : b = s1.heap.objs.size := by simpa using hb
 subst e
 exact I2.fpOk (Nat.le_refl _) (I2.hok.fresh (Nat.le_refl _))
end
section
variable {X : Cx} {scope : Scope} {N : List Str} {ix : List (Option Nat)}
variable {tg iter kx vx : Expr} {ifs : List Expr} {pos : Pos} {g : TG} {tt : TT} {tk tv : TE}
end
structure M1 (X : Cx) (o : Expr) (m : Str) (apos : Pos) (e : Expr) (cpos : Pos) : Prop where
 base : attributeBase o m X.env (eval o X.env) = eval o X.env
 few : ((backTo cpos (starEach [e] X.env)).all (fun x => !x.1) && (backToKw cpos (keywordEach [] X.env)).all (fun x => x.1.isSome)
  && decide (([e] : List Expr).length + ([] : List Keyword).length + (if ([] : List Keyword).isEmpty then 0 else 1) < 30)) = true
 line : (apos.endLine == cpos.line) = true
 trees : backTo cpos (starEach [e] X.env) = [(false, eval e X.env)]
structure M2 (X : Cx) (o : Expr) (m : Str) (apos : Pos) (e f : Expr) (cpos : Pos) : Prop where
 base : attributeBase o m X.env (eval o X.env) = eval o X.env
 few : ((backTo cpos (starEach [e, f] X.env)).all (fun x => !x.1) && (backToKw cpos (keywordEach [] X.env)).all (fun x => x.1.isSome)
  && decide (([e, f] : List Expr).length + ([] : List Keyword).length + (if ([] : List Keyword).isEmpty then 0 else 1) < 30)) = true
 line : (apos.endLine == cpos.line) = true
 trees : backTo cpos (starEach [e, f] X.env) = [(false, eval e X.env), (false, eval f X.env)]
section
variable {X : Cx} {pins : List (Addr × Obj)} {σ : St} {H : Hp} {s : Shared} {a : Addr} {y d : V} {u r : Value} {o : Option V} {A : Around} {E : Value -> Shared -> Prop}
end
section
variable {X : Cx} {o e f : Expr} {apos cpos : Pos} {td ty tx : TE}
end
section
variable {X : Cx} {pins : List (Addr × Obj)} {σ : St} {H : Hp} {s : Shared} {a : Addr} {kvs : List (Key × V)} {A : Around} {E : Value -> Shared -> Prop}
end
section
variable {X : Cx} {pins : List (Addr × Obj)} {σ : St} {H : Hp} {s : Shared} {a : Addr} {y : V} {u : Value} {A : Around} {E : Value -> Shared -> Prop}
end
section
variable {X : Cx}
end
section
variable {κ : Type} [DecidableEq κ]
end
end L2
namespace L2
open PySem PySem.Spec PyProof.Rows PySem.W PySem.Calls
theorem aC.get {P : Program} {w : World} {H : Hp} {h : Heap} {a : Addr} {o : HO} (x : aC P w H h a o) : ∃ ob, h.get? a = some ob := by
 cases o with
 | lst xs => obtain ⟨_, _, _, _, e⟩ := x; exact ⟨_, e⟩
 | tup xs => obtain ⟨_, _, _, ob, e, _⟩ := x; exact ⟨_, e⟩
 | dK kvs => obtain ⟨_, _, _, _, o, _, _, e, _⟩ := x; exact ⟨_, e⟩
 | dT kvs => obtain ⟨_, _, _, _, o, _, _, e, _⟩ := x; exact ⟨_, e⟩
 | set S n => obtain ⟨o, _, _, _, e, _⟩ := x; exact ⟨_, e⟩
 | ins C dx fs => obtain ⟨_, _, _, e, _⟩ := x; exact ⟨_, e⟩
 | own y => obtain ⟨_, e⟩ := x; exact ⟨_, e⟩
 | xd fs => obtain ⟨_, ⟨_, _, _, e, _⟩, _⟩ := x; exact ⟨_, e⟩
 | rng lo hi => obtain ⟨_, _, _, e⟩ := x; exact ⟨_, e⟩
 | frz ob u => obtain ⟨e, _⟩ := x; exact ⟨_, e⟩
 | tbl ps => exact ⟨_, (show h.get? a = some _ from x)⟩
 | met f y => exact ⟨_, (show h.get? a = some _ from x)⟩
 | ext φ => obtain ⟨_, ⟨_, e⟩, _⟩ := x; exact ⟨_, e⟩
theorem HOk.freeN {P : Program} {w : World} {H : Hp} {h : Heap} {a : Addr} (x : HOk P w H h) (e : h.get? a = none) : H a = none := by
 cases q : H a with
 | none => rfl
 | some u => obtain ⟨ob, e'⟩ := (x a u q).get; rw [e] at e'; cases e'
theorem Inv.laidN {X : Cx} {pins : List (Addr × Obj)} {σ : St} {H : Hp} {s : Shared} {h' : Heap} {a : Addr} {o : HO} {t' : Nat} (I : Inv X pins σ H s) (k : ∀ b u, s.heap.get? b = some u -> h'.get? b = some u) (hp : s.heap.get? a = none) (new : aC X.prog X.w (upd H a o) h' a o) :
  Inv X pins σ (upd H a o) { s with heap := h', toks := t' } := by
 have hn := I.hok.freeN hp
 refine I.un ⟨fun b ob e _ _ _ => k b ob e, fun b ob e _ _ _ => ⟨ob.slots, k b ob e⟩, fun b ob e n _ => ?_, fun b ob e _ => ⟨ob, k b ob e⟩, fun b xs e => ?_, fun b ob u e => ?_, fun b ps e => ⟨#[], ?_⟩⟩ fun b u e => ?_
 ·rw [ag (fun z => by rw [z, hp] at e; cases e)]; exact n
 ·rw [ag (av e hn)]; exact e
 ·rw [ag (av e hn)]; exact e
 ·rw [ag (av e hn)]; simpa using e
 ·by_cases hb : b = a
  ·subst hb; rw [ai] at e; cases e; exact new
  ·rw [ag hb] at e
   exact (I.hok b u e).stay (fun c v _ q => k c v q) (fun c q => by rw [ag (av q hn)]; exact q) fun c xs q => by rw [ag (av q hn)]; exact q
section
variable {X : Cx}
end
section
variable {prog : Program} {w : World} {A : Around} {E : Value -> Shared -> Prop} {s : Shared}
end
section
variable {prog : Program} {w : World} {A : Around} {R : Result -> Shared -> Prop} {K : Type} [DecidableEq K] {knd : PySem.KeyKind prog w K}
end
section
variable {X : Cx}
end
end L2
namespace L2
open PySem PySem.Spec PyProof.Rows
theorem qH : bootBuiltins "enumerate" = some (.type "enumerate") := by decide +kernel
section
variable {X : Cx}
end
end L2
namespace L2
open PySem PySem.Spec PyProof.Rows PySem.W PySem.Calls
section
variable {X : Cx}
end
noncomputable def cb : Value -> Str
 | .str x _ => x
 | _ => default
structure aU (w : World) (o : Obj) (ss : List Str) (es : Array (Int × Value)) (ep : Nat) (t : SetTable) : Prop where
 cls : o.cls = .type "set"
 dic : o.dict = none
 slo : o.slots = #[]
 dat : o.data = .set es ep t
 els : ∀ e ∈ es.toList, ∃ tk, e.2 = .str (cb e.2) tk /\ e.1 = hashStr w (cb e.2)
 all : (es.toList.map fun e => cb e.2).Perm ss
 one : ss.Nodup
 few : ss.length < 4000
 fit : t.fits es.size = true
 led : t.led = !w.params.followText "set-order"
 pla : es.size = 0 \/ t.plain = false
theorem aU.size {w : World} {o : Obj} {ss : List Str} {es : Array (Int × Value)} {ep : Nat} {t : SetTable} (x : aU w o ss es ep t) : es.size = ss.length := by
 have := x.all.length_eq
 rw [List.length_map, Array.length_toList] at this; exact this
theorem aU.elems {P : Program} {w : World} {o : Obj} {ss : List Str} {es : Array (Int × Value)} {ep : Nat} {t : SetTable} (x : aU w o ss es ep t) : ElemsOf (PySem.strKind P w) es.toList := by
 intro e he
 obtain ⟨tk, h1, h2⟩ := x.els e he
 refine ⟨⟨cb e.2, ?_, h2⟩, ?_⟩
 ·have z := PySem.strKind_is P w (cb e.2) tk
  rw [<- h1] at z; exact z
 ·rw [h1]; rfl
theorem oA (t : SetTable) (n : Nat) : (t.orStandIn n).led = t.led := by
 unfold SetTable.orStandIn; split <;> rfl
theorem pH (t : SetTable) (es : Array (Int × Value)) (h : Int) (x : Value) : (layNew t es h x).2.1.led = t.led := by
 unfold layNew
 split
 ·exact oA _ _
 ·rfl
theorem oF (t : SetTable) (es : Array (Int × Value)) (n : Nat) : (relayAll t es n).2.1.led = t.led /\ (t.plain = false -> (relayAll t es n).2.1.plain = false) := by
 unfold relayAll
 split
 ·rename_i t' order he
  have hz : t'.led = t.led /\ t'.plain = t.plain := by
   unfold SetTable.relaid SetTable.laid at he
   revert he
   cases SetTable.layClean (SetTable.sizeAbove n - 1) (es.map (·.1)) with
   | none => intro he; cases he
   | some ow => intro he; cases he; exact ⟨rfl, rfl⟩
  dsimp only
  split
  ·exact ⟨hz.1, fun e => hz.2.trans e⟩
  ·exact ⟨rfl, fun _ => rfl⟩
 ·exact ⟨rfl, fun _ => rfl⟩
theorem kg {h : Heap} {a : Addr} {o : Obj} {es es' : Array (Int × Value)} {ep : Nat} {t t' : SetTable} (ho : h.get? a = some o) (hd : o.data = .set es ep t) :
  (h.update a (Obj.putSet es' t')).get? a = some { o with data := .set es' (ep + 1) t' } := by
 have q := Heap.get?_update_self (Obj.putSet es' t') ho (by rw [putSet_of es' t' hd]; rfl)
 rw [putSet_of es' t' hd] at q
 exact q
section
variable {prog : Program} {w : World} {A : Around} {E : Value -> Shared -> Prop} {s : Shared}
theorem rS {a : Addr} {o : Obj} {ss : List Str} {k : Str} {tk : Tok} {es : Array (Int × Value)} {ep : Nat} {t : SetTable} {R : Option Bool -> Shared -> Prop}
  (ho : s.heap.get? a = some o) (x : aU w o ss es ep t) (hk : k ∉ ss) (few : ss.length + 1 < 4000)
  {L : Array (Int × Value) × SetTable × Bool × Bool} (hL : layNew t es (hashStr w k) (.str k tk) = L)
  (h : ∀ (h' : Heap) (o' : Obj) es' ep' t', Heap.SameBut a s.heap h' -> h'.get? a = some o' -> aU w o' (k :: ss) es' ep' t' -> R (some true) { s with heap := h' }) (g : Bool -> Sem Unit) (hg : ∀ (b : Bool) (s₁ : Shared) (Q' : Unit -> Shared -> Prop), Q' () s₁ -> wpAny (model prog w) A (g b) Q' E s₁) :
  wpAny (model prog w) A (do
   storeSet a L.1 { L.2.1 with plain := false }
   if (!L.2.2.1 && ({ L.2.1 with plain := false } : SetTable).tooFull) = true then do
    g (relayAll { L.2.1 with plain := false } L.1 (SetTable.grown L.1.size)).2.2
    storeSet a (relayAll { L.2.1 with plain := false } L.1 (SetTable.grown L.1.size)).1 (relayAll { L.2.1 with plain := false } L.1 (SetTable.grown L.1.size)).2.1
    pure (some true)
   else pure (some true)) R E s := by
 have pm := layNew_perm t es (hashStr w k) (.str k tk)
 have pf := layNew_fits t es (hashStr w k) (.str k tk)
 have pl := pH t es (hashStr w k) (.str k tk)
 rw [hL] at pm pf pl
 obtain ⟨e1, t1, b1, b2⟩ := L
 dsimp only at pm pf pl ⊢
 rw [Array.toList_push] at pm
 have hsz := x.size
 have z1 : e1.size = ss.length + 1 := by
  have := pm.length_eq
  rw [List.length_append, Array.length_toList, Array.length_toList] at this
  rw [this, hsz]; rfl
 have mk : ∀ {e2 : Array (Int × Value)} {t2 : SetTable} {o2 : Obj} {ep2 : Nat}, e2.toList.Perm e1.toList -> o2.cls = .type "set" -> o2.dict = none -> o2.slots = #[] -> o2.data = .set e2 ep2 t2 -> t2.fits e2.size = true -> t2.led = t.led -> t2.plain = false -> aU w o2 (k :: ss) e2 ep2 t2 := by
  intro e2 t2 o2 ep2 p1 c1 c2 c3 c4 c5 c6 c7
  have p2 := p1.trans pm
  refine ⟨c1, c2, c3, c4, fun e he => ?_, ?_, ?_, ?_, c5, c6.trans x.led, .inr c7⟩
  ·rcases List.mem_append.mp (p2.mem_iff.mp he) with q | q
   ·exact x.els e q
   ·rw [List.mem_singleton.mp q]; exact ⟨tk, rfl, rfl⟩
  ·refine (p2.map _).trans ?_
   rw [List.map_append]
   exact (List.perm_append_comm).trans (List.Perm.cons k x.all)
  ·exact List.nodup_cons.mpr ⟨hk, x.one⟩
  ·rw [List.length_cons]; exact few
 have fz : ({ t1 with plain := false } : SetTable).fits e1.size = true := SetTable.fits_plain_off pf
 refine wpAny_bind (wpAny_storeSet_of ho x.dat ?_ (by rw [z1, sizeLine_eq]; omega))
 have g1 := kg (es' := e1) (t' := { t1 with plain := false }) ho x.dat
 have sb := Heap.SameBut.update s.heap a (Obj.putSet e1 { t1 with plain := false })
 split
 ·have rp := relayAll_perm { t1 with plain := false } e1 (SetTable.grown e1.size)
  have rf := relayAll_fits { t1 with plain := false } e1 (SetTable.grown e1.size)
  have rl := oF { t1 with plain := false } e1 (SetTable.grown e1.size)
  generalize relayAll { t1 with plain := false } e1 (SetTable.grown e1.size) = R2 at rp rf rl ⊢
  have z2 : R2.1.size = ss.length + 1 := by
   have := rp.length_eq
   rw [Array.length_toList, Array.length_toList] at this
   rw [this, z1]
  refine wpAny_bind (hg _ _ _ ?_)
  refine wpAny_bind (wpAny_storeSet_of g1 rfl ?_ (by rw [z2, sizeLine_eq]; omega))
  have g2 := kg (es' := R2.1) (t' := R2.2.1) g1 rfl
  exact wpAny_pure (h _ _ R2.1 _ R2.2.1 (sb.trans (Heap.SameBut.update _ a _)) g2 (mk rp x.cls x.dic x.slo rfl rf (rl.1.trans pl) (rl.2 rfl)))
 ·exact wpAny_pure (h _ _ e1 _ _ sb g1 (mk (List.Perm.refl _) x.cls x.dic x.slo rfl fz pl rfl))
end
noncomputable def aY : List Str -> List Str
 | [] => []
 | k :: r => if k ∈ aY r then aY r else k :: aY r
theorem sr (l : List Str) : (aY l).length <= l.length := by
 induction l with
 | nil => exact Nat.le_refl _
 | cons a r ih =>
  unfold aY
  split
  ·rw [List.length_cons]; omega
  ·rw [List.length_cons, List.length_cons]; omega
theorem jZ {l : List Str} (h : l.Nodup) : aY l = l := by
 induction l with
 | nil => rfl
 | cons a r ih =>
  obtain ⟨h1, h2⟩ := List.nodup_cons.mp h
  unfold aY
  rw [ih h2, if_neg h1]
section
variable {prog : Program} {w : World} {A : Around} {E : Value -> Shared -> Prop} {s : Shared}
theorem rh {a : Addr} {o : Obj} {l : List Str} {k : Str} {tk : Tok} {es : Array (Int × Value)} {ep : Nat} {t : SetTable} {Q : Bool -> Shared -> Prop}
  (ho : s.heap.get? a = some o) (x : aU w o (aY l) es ep t) (few : l.length + 1 < 4000)
  (h : ∀ (b : Bool) (h' : Heap) (o' : Obj) es' ep' t', Heap.SameBut a s.heap h' -> h'.get? a = some o' -> aU w o' (aY (k :: l)) es' ep' t' -> Q b { s with heap := h' }) :
  wpAny (model prog w) A (setAddHashed a (.str k tk) (hashStr w k)) Q E s := by
 have hl := sr l
 have hsz := x.size
 have hel := x.elems (P := prog)
 have hkey := PySem.strKind_is prog w k tk
 unfold setAddHashed setAddHashedIn
 refine wpAny_holding (wpAny_bind (wpAny_setState_of ho x.dat x.fit ?_))
 dsimp only
 rw [byScan_of (knd := PySem.strKind prog w) rfl (by rw [hsz]; have : scanBound = 4096 := rfl; omega) hel]
 rw [if_pos rfl]
 unfold setAddByScan
 refine wpAny_bind (wpAny_bind (wpAny_rule ?_))
 refine wpAny_bind (wpAny_setScan_of (knd := PySem.strKind prog w) (k := k) hkey ho x.dat x.fit hel ?_)
 have mem : ∀ e ∈ es.toList, (PySem.strKind prog w).is k e.2 = true ↔ cb e.2 = k := by
  intro e he
  obtain ⟨t', h1, _⟩ := x.els e he
  rw [h1]
  show Value.isStrOf k (.str (cb e.2) t') = true ↔ cb (.str (cb e.2) t') = k
  simp [Value.isStrOf, cb]
 cases hf : List.findIdx? (fun e => (PySem.strKind prog w).is k e.2) es.toList with
 | some j =>
  dsimp only
  obtain ⟨hj, hp, _⟩ := List.findIdx?_eq_some_iff_getElem.mp hf
  have hin : k ∈ aY l := x.all.mem_iff.mp (List.mem_map.mpr ⟨_, List.getElem_mem hj, (mem _ (List.getElem_mem hj)).mp hp⟩)
  refine wpAny_pure (wpAny_pure ?_)
  have e2 : aY (k :: l) = aY l := by show (if k ∈ aY l then _ else _) = _; rw [if_pos hin]
  exact h false s.heap o es ep t (Heap.SameBut.refl a s.heap) ho (by rw [e2]; exact x)
 | none =>
  dsimp only
  have hin : k ∉ aY l := by
   intro hk
   obtain ⟨e, he, ee⟩ := List.mem_map.mp (x.all.mem_iff.mpr hk)
   have := List.findIdx?_eq_none_iff.mp hf e he
   rw [(mem e he).mpr ee] at this; cases this
  have e2 : aY (k :: l) = k :: aY l := by show (if k ∈ aY l then _ else _) = _; rw [if_neg hin]
  have fin : ∀ (h' : Heap) (o' : Obj) es' ep' t', Heap.SameBut a s.heap h' -> h'.get? a = some o' -> aU w o' (k :: aY l) es' ep' t' -> Q true { s with heap := h' } := fun h' o' es' ep' t' c1 c2 c3 => h true h' o' es' ep' t' c1 c2 (by rw [e2]; exact c3)
  have hgw : ∀ (b : Bool) (s₁ : Shared) (Q' : Unit -> Shared -> Prop), Q' () s₁ -> wpAny (model prog w) A (match b with | true => rule "set.scan.the-table-gave-way" | false => pure ()) Q' E s₁ := fun b s₁ Q' q => by
   cases b
   ·exact wpAny_pure q
   ·exact wpAny_rule q
  generalize hL : layNew t es (hashStr w k) (.str k tk) = L
  obtain ⟨e1, t1, b1, b2⟩ := L
  dsimp only
  refine wpAny_bind (hgw _ _ _ ?_)
  have tail := fun (g : Bool -> Sem Unit) hg => rS (A := A) (E := E) (prog := prog) (R := fun r s' => wpAny (model prog w) A (match r with | some added => pure added | none => setAddHashedIn a (.str k tk) (hashStr w k) 99999) Q E s') ho x hin (by omega) hL (fun h' o' es' ep' t' c1 c2 c3 => wpAny_pure (fin h' o' es' ep' t' c1 c2 c3)) g hg
  dsimp only at tail
  split
  ·refine wpAny_bind ?_
   rw [hashByValue_scannable 8 rfl]
   refine wpAny_pure ?_
   exact tail _ hgw
  ·rename_i hpl
   refine wpAny_bind (wpAny_pure ?_)
   have hp : t1.plain = false := by cases q : t1.plain with | false => rfl | true => exact absurd q hpl
   have et : t1 = { t1 with plain := false } := by cases t1; cases hp; rfl
   rw [if_pos rfl]
   rw [et]
   exact tail _ hgw
end
section
variable {prog : Program} {w : World} {A : Around} {E : Value -> Shared -> Prop} {s : Shared}
theorem jR {I S : Addr} {fp : List Addr} {its : List Value} {ss : List Str} {St : Nat -> Heap -> Prop} {R : Result -> Shared -> Prop} {m : Nat} (hm : m = its.length)
  (W : Walks prog w A.in1 I fp [I] m (fun i v => its[i]? = some v) St) (hS : S ∉ fp) (hv : ao (ss.map V.str) its) (few : ss.length + 1 < 4000) :
  ∀ (k i : Nat) (s : Shared) (o : Obj) (es : Array (Int × Value)) (ep : Nat) (t : SetTable), its.length - i = k -> i <= its.length -> St i s.heap -> s.heap.get? S = some o -> aU w o (aY (ss.take i).reverse) es ep t ->
   (∀ (h' : Heap) (tk : Nat) (o' : Obj) es' ep' t', (∀ b ob, b ≠ S -> b ≠ I -> s.heap.get? b = some ob -> h'.get? b = some ob) -> h'.get? S = some o' -> aU w o' (aY ss.reverse) es' ep' t' -> R (.ok (.ret .none)) { s with heap := h', toks := tk }) ->
   codeAny (model prog w) A (.builtin "set.update.loop" ⟨[.ref S, .ref I], []⟩) R s := by
 have hlen : ss.length = its.length := by have := hv.length; rwa [List.length_map] at this
 subst hm
 have hIS : S ≠ I := fun e => hS (by rw [e]; exact W.sub I (List.mem_singleton.mpr rfl))
 intro k
 induction k with
 | zero =>
  intro i s o es ep t hk hi st ho x q
  have e : i = its.length := by omega
  subst e
  refine codeAny_builtin F.entry_set_update_loop ?_
  rw [Around.under_plainId F.plain_set_update_loop _]
  show wpAny _ A.in1 (pyNext (.ref I) >>= _) _ _ s
  refine wpAny_bind (W.done s _ _ st fun h' tk kp => ?_)
  show wpAny _ A.in1 (ret Value.none) _ _ _
  rw [<- hlen, List.take_length] at x
  exact wpAny_pure (q h' tk o es ep t (fun b ob _ hb e => kp b ob (by simpa using hb) e) (kp S o (by simpa using hIS) ho) x)
 | succ k ih =>
  intro i s o es ep t hk hi st ho x q
  have hlt : i < its.length := by omega
  have hls : i < ss.length := by omega
  refine codeAny_builtin F.entry_set_update_loop ?_
  rw [Around.under_plainId F.plain_set_update_loop _]
  show wpAny _ A.in1 (pyNext (.ref I) >>= _) _ _ s
  refine wpAny_bind (W.item i s _ _ hlt st fun v h1 tk1 hP st1 kp => ?_)
  obtain ⟨u, hu, ru⟩ := hv.get (i := i) (x := .str ss[i]) (by rw [List.getElem?_map, List.getElem?_eq_getElem hls]; rfl)
  have ev : v = u := by rw [hP] at hu; cases hu; rfl
  subst ev
  obtain ⟨tv, rfl⟩ := ru
  have ho1 : h1.get? S = some o := kp S o (by simpa using hIS) ho
  show wpAny _ A.in1 (holding [Value.str ss[i] tv] (setAdd S (.str ss[i] tv)) >>= _) _ _ _
  refine wpAny_bind (wpAny_holding ?_)
  unfold setAdd
  refine wpAny_holding ?_
  refine wpAny_bind ((PySem.strKind prog w).pyHash (k := ss[i]) (PySem.strKind_is prog w _ _) ?_)
  have htl : (ss.take i).reverse.length + 1 < 4000 := by rw [List.length_reverse, List.length_take]; omega
  refine rh (s := { s with heap := h1, toks := tk1 + 1 }) ho1 x htl fun b h2 o2 es2 ep2 t2 sb ho2 x2 => ?_
  have e3 : ss[i] :: (ss.take i).reverse = (ss.take (i + 1)).reverse := by
   rw [List.take_add_one, List.getElem?_eq_getElem hls, List.reverse_append]; rfl
  rw [e3] at x2
  refine wpAny_pure ⟨plainId_quiet F.plain_set_update_loop _, ih (i + 1) _ o2 es2 ep2 t2 (by omega) hlt (W.frame _ h1 _ st1 fun b hb ob e => ?_) ho2 x2 fun h' tk o' es' ep' t' kp' c1 c2 => ?_⟩
  ·rw [sb.2 b (fun z => hS (by rw [<- z]; exact hb))]; exact e
  ·refine q h' tk o' es' ep' t' (fun b ob b1 b2 e => kp' b ob b1 b2 ?_) c1 c2
   show h2.get? b = some ob
   rw [sb.2 b b1]
   exact kp b ob (by simpa using b2) e
theorem kI (a : Value) {Q₁ : Value -> Shared -> Prop}
  (h : Q₁ (.ref s.heap.objs.size) { s with heap := s.heap.push { cls := .type "set", dict := none, data := .set #[] 0 (.fresh 0 0 (!w.params.followText "set-order")) } }) :
  codeAny (model prog w) A (.call (.builtin "set.__new__") ⟨[.type "set", a], []⟩) (wants Q₁ E) s := by
 refine codeAny_of_tree ?_
 show wpAny _ A.in1 (checkBuiltinCall "set.__new__" ⟨[.type "set", a], []⟩ >>= fun _ => again (.builtin "set.__new__" ⟨[.type "set", a], []⟩)) _ _ s
 refine wpAny_bind (wpAny_of_eq (PySem.F.newCall_set_1 a) (wpAny_pure ⟨plainId_quiet PySem.F.plain_set_new _, codeAny_builtin PySem.F.entry_set_new ?_⟩))
 rw [Around.under_plainId PySem.F.plain_set_new _]
 unfold Builtin.«set.__new__» Builtin.Frozenset.newClass
 have known := sub_set_self
 obtain ⟨h0, g0, d0, tk0, os0⟩ := s
 dsimp only
 wp_walk
 refine wpAny_askSetting (wpAny_pure ?_)
 dsimp only
 simp only [newObj]
 exact wpAny_bind (wpAny_alloc (wpAny_pure (wpAny_pure h)))
theorem jP (w : World) : aU w { cls := .type "set", dict := none, data := .set #[] 0 (.fresh 0 0 (!w.params.followText "set-order")) } [] #[] 0 (.fresh 0 0 (!w.params.followText "set-order")) :=
 ⟨rfl, rfl, rfl, rfl, fun e he => (by cases he), List.Perm.nil, List.nodup_nil, (by decide), rfl, rfl, .inl rfl⟩
end
end L2
set_option maxHeartbeats 8000000
namespace L2
open PySem PySem.Spec PyProof.Rows PySem.W PySem.Calls
section
variable {prog : Program} {w : World} {A : Around} {E : Value -> Shared -> Prop} {s : Shared}
theorem sub_tuple_set : isSubtype (.type "tuple") (.type "set") = pure false := by rw [isSubtype_type]; kernel_rfl
theorem oo : isSubtype (.type "tuple") (.type "frozenset") = pure false := by rw [isSubtype_type]; kernel_rfl
theorem og {l : Addr} {its : List Value} {ss : List Str} {Q : Value -> Shared -> Prop}
  (hh : A.handled = none) (hl : s.heap.IsTuple l its.toArray) (hv : ao (ss.map V.str) its) (few : ss.length + 1 < 4000)
  (h : ∀ (h' : Heap) (tk : Nat) (o' : Obj) es' ep' t', (∀ b ob, s.heap.get? b = some ob -> h'.get? b = some ob) -> h'.get? s.heap.objs.size = some o' -> aU w o' (aY ss.reverse) es' ep' t' -> Q (.ref s.heap.objs.size) { s with heap := h', toks := tk }) :
  wpAny (model prog w) A (call (.type "set") [.ref l]) Q E s := by
 obtain ⟨mro0, mrot, hmro⟩ := PySem.F.called_set.mro
 have made := PySem.F.called_set.made
 have subs := PySem.F.called_set.sub
 have nt := PySem.F.called_set.notType
 have cc := PySem.F.called_set.canCreate
 have ct := PySem.F.typeCall_set_1 (.ref l)
 refine wpAny_call (codeAny_of_tree ?_)
 show wpAny _ _ (callAny (.type "set") _) _ _ _
 refine wpAny_pure ⟨Code.quiet_builtin _ (by decide +kernel), codeAny_builtin PySem.F.entry_type_call ?_⟩
 rw [Around.under_plain (weight_type_call_type "set" [.ref l] []) rfl]
 repeat (any_goals (first | assumption | wp_step))
 refine codeAny_mono (kI (.ref l) (E := E) (Q₁ := fun obj s₁ => obj = .ref s.heap.objs.size /\ s₁ = { s with heap := s.heap.push { cls := .type "set", dict := none, data := .set #[] 0 (.fresh 0 0 (!w.params.followText "set-order")) } }) ⟨rfl, rfl⟩) fun r s₁ hr => ?_
 generalize hbt : (!w.params.followText "set-order") = bt at hr
 cases r with
 | error e => exact hr
 | ok fl =>
  cases fl with
  | ret obj =>
   obtain ⟨rfl, rfl⟩ := hr
   have g0 : (s.heap.push { cls := .type "set", dict := none, data := .set #[] 0 (.fresh 0 0 bt) }).get? s.heap.objs.size = some { cls := .type "set", dict := none, data := .set #[] 0 (.fresh 0 0 bt) } := Heap.get?_push_size _ rfl
   have ty : Shared.TypeIs { s with heap := s.heap.push { cls := .type "set", dict := none, data := .set #[] 0 (.fresh 0 0 bt) } } (.ref s.heap.objs.size) "set" := ⟨_, g0, rfl⟩
   have ini := PySem.F.called_set.init.lookup
   have inb := PySem.F.called_set.init.bind (.ref s.heap.objs.size)
   repeat (any_goals (first | assumption | wp_step))
   refine codeAny_mono (codeAny_call_builtin (R := wants (fun r s₂ => r = .none /\ ∃ h' tk o' es' ep' t', s₂ = { s with heap := h', toks := tk } /\ (∀ b ob, s.heap.get? b = some ob -> h'.get? b = some ob) /\ h'.get? s.heap.objs.size = some o' /\ aU w o' (aY ss.reverse) es' ep' t') E)
    PySem.F.called_set.init.plain PySem.F.entry_set_init (check_set_init_1 ty ?_)) fun r₂ s₂ hr₂ => ?_
   ·obtain ⟨ol, hol, cl, nl, dl⟩ := hl
    obtain ⟨c1, c2, c3, c4⟩ := ol
    simp only at cl dl
    subst cl; subst dl
    have hol1 : (s.heap.push { cls := .type "set", dict := none, data := .set #[] 0 (.fresh 0 0 bt) }).get? l = some { cls := .type "tuple", dict := c2, data := .seq its.toArray nl, slots := c4 } := Heap.get?_push_of_some _ hol
    have n1 := sub_tuple_set
    have n2 := oo
    have n3 : (Value.type "tuple" == Value.type "dict") = false := by decide
    have hl1 : (s.heap.push { cls := .type "set", dict := none, data := .set #[] 0 (.fresh 0 0 bt) }).IsTuple l its.toArray := ⟨_, hol1, rfl, nl, rfl⟩
    unfold Builtin.«set.__init__» noKeywords Builtin.Frozenset.updateFrom
    generalize hpi : pyIter = pit
    wp_walk
    subst hpi
    refine wpAny_pyIter_tuple hl1 ?_
    refine wpAny_bind (wpAny_runValue ?_)
    have lt0 : l < s.heap.objs.size := Heap.lt_size hol
    have h3 : A.in1.in1.in1.handled = none := by simp [hh]
    have ne1 : l ≠ (s.heap.push { cls := .type "set", dict := none, data := .set #[] 0 (.fresh 0 0 bt) }).objs.size := by
     rw [Heap.size_push]; exact Nat.ne_of_lt (Nat.lt_succ_of_lt lt0)
    have out : s.heap.objs.size ∉ [(s.heap.push { cls := .type "set", dict := none, data := .set #[] 0 (.fresh 0 0 bt) }).objs.size, l] := by
     rw [Heap.size_push]
     intro z
     rcases List.mem_cons.mp z with z | z
     ·exact absurd z (Nat.ne_of_lt (Nat.lt_succ_self _))
     ·exact absurd (List.mem_singleton.mp z) (Nat.ne_of_gt lt0)
    have W := Walks.tuple (prog := prog) (w := w) h3 (s.heap.push { cls := .type "set", dict := none, data := .set #[] 0 (.fresh 0 0 bt) }).objs.size l ne1 its.toArray
    have hW : (fun (i : Nat) (v : Value) => its.toArray[i]? = some v) = fun i v => its[i]? = some v := by funext i v; rw [List.getElem?_toArray]
    rw [hW] at W
    have g1 : ((s.heap.push { cls := .type "set", dict := none, data := .set #[] 0 (.fresh 0 0 bt) }).push { cls := .type "tuple_iterator", data := .fields #[.ref l, .int 0 0] }).get? s.heap.objs.size = some { cls := .type "set", dict := none, data := .set #[] 0 (.fresh 0 0 bt) } := Heap.get?_push_of_some _ g0
    refine jR (List.size_toArray) W out hv few (its.length - 0) 0 _ _ #[] 0 (.fresh 0 0 bt) rfl (Nat.zero_le _)
     ⟨⟨_, Heap.get?_push_size _ rfl, rfl, rfl⟩, hl1.push _⟩ g1 (by subst hbt; exact jP w) fun h' tk o' es' ep' t' kp c1 c2 => ?_
    show wpAny _ _ _ _ _ _
    refine wpAny_pure ?_
    show wpAny _ _ (ret Value.none) _ _ _
    refine wpAny_pure ⟨rfl, h', tk, o', es', ep', t', rfl, fun b ob e => kp b ob (Nat.ne_of_lt (Heap.lt_size e)) ?_ (Heap.get?_push_of_some _ (Heap.get?_push_of_some _ e)), c1, c2⟩
    rw [Heap.size_push]; exact Nat.ne_of_lt (Nat.lt_succ_of_lt (Heap.lt_size e))
   ·cases r₂ with
    | error e => exact hr₂
    | ok fl₂ =>
     cases fl₂ with
     | ret r =>
      obtain ⟨rfl, h', tk, o', es', ep', t', rfl, kp, c1, c2⟩ := hr₂
      repeat (any_goals (first | assumption | wp_step))
      exact h h' tk o' es' ep' t' kp c1 c2
     | _ => exact hr₂.elim
  | _ => exact hr.elim
theorem sub_list_set : isSubtype (.type "list") (.type "set") = pure false := by rw [isSubtype_type]; kernel_rfl
theorem oP : isSubtype (.type "list") (.type "frozenset") = pure false := by rw [isSubtype_type]; kernel_rfl
theorem om {l : Addr} {its : List Value} {ss : List Str} {Q : Value -> Shared -> Prop}
  (hh : A.handled = none) (hl : s.heap.IsList l its.toArray) (hv : ao (ss.map V.str) its) (few : ss.length + 1 < 4000)
  (h : ∀ (h' : Heap) (tk : Nat) (o' : Obj) es' ep' t', (∀ b ob, s.heap.get? b = some ob -> h'.get? b = some ob) -> h'.get? s.heap.objs.size = some o' -> aU w o' (aY ss.reverse) es' ep' t' -> Q (.ref s.heap.objs.size) { s with heap := h', toks := tk }) :
  wpAny (model prog w) A (call (.type "set") [.ref l]) Q E s := by
 obtain ⟨mro0, mrot, hmro⟩ := PySem.F.called_set.mro
 have made := PySem.F.called_set.made
 have subs := PySem.F.called_set.sub
 have nt := PySem.F.called_set.notType
 have cc := PySem.F.called_set.canCreate
 have ct := PySem.F.typeCall_set_1 (.ref l)
 refine wpAny_call (codeAny_of_tree ?_)
 show wpAny _ _ (callAny (.type "set") _) _ _ _
 refine wpAny_pure ⟨Code.quiet_builtin _ (by decide +kernel), codeAny_builtin PySem.F.entry_type_call ?_⟩
 rw [Around.under_plain (weight_type_call_type "set" [.ref l] []) rfl]
 repeat (any_goals (first | assumption | wp_step))
 refine codeAny_mono (kI (.ref l) (E := E) (Q₁ := fun obj s₁ => obj = .ref s.heap.objs.size /\ s₁ = { s with heap := s.heap.push { cls := .type "set", dict := none, data := .set #[] 0 (.fresh 0 0 (!w.params.followText "set-order")) } }) ⟨rfl, rfl⟩) fun r s₁ hr => ?_
 generalize hbt : (!w.params.followText "set-order") = bt at hr
 cases r with
 | error e => exact hr
 | ok fl =>
  cases fl with
  | ret obj =>
   obtain ⟨rfl, rfl⟩ := hr
   have g0 : (s.heap.push { cls := .type "set", dict := none, data := .set #[] 0 (.fresh 0 0 bt) }).get? s.heap.objs.size = some { cls := .type "set", dict := none, data := .set #[] 0 (.fresh 0 0 bt) } := Heap.get?_push_size _ rfl
   have ty : Shared.TypeIs { s with heap := s.heap.push { cls := .type "set", dict := none, data := .set #[] 0 (.fresh 0 0 bt) } } (.ref s.heap.objs.size) "set" := ⟨_, g0, rfl⟩
   have ini := PySem.F.called_set.init.lookup
   have inb := PySem.F.called_set.init.bind (.ref s.heap.objs.size)
   repeat (any_goals (first | assumption | wp_step))
   refine codeAny_mono (codeAny_call_builtin (R := wants (fun r s₂ => r = .none /\ ∃ h' tk o' es' ep' t', s₂ = { s with heap := h', toks := tk } /\ (∀ b ob, s.heap.get? b = some ob -> h'.get? b = some ob) /\ h'.get? s.heap.objs.size = some o' /\ aU w o' (aY ss.reverse) es' ep' t') E)
    PySem.F.called_set.init.plain PySem.F.entry_set_init (check_set_init_1 ty ?_)) fun r₂ s₂ hr₂ => ?_
   ·obtain ⟨ol, hol, cl, nl, dl⟩ := hl
    obtain ⟨c1, c2, c3, c4⟩ := ol
    simp only at cl dl
    subst cl; subst dl
    have hol1 : (s.heap.push { cls := .type "set", dict := none, data := .set #[] 0 (.fresh 0 0 bt) }).get? l = some { cls := .type "list", dict := c2, data := .seq its.toArray nl, slots := c4 } := Heap.get?_push_of_some _ hol
    have n1 := sub_list_set
    have n2 := oP
    have n3 : (Value.type "list" == Value.type "dict") = false := by decide
    have hl1 : (s.heap.push { cls := .type "set", dict := none, data := .set #[] 0 (.fresh 0 0 bt) }).IsList l its.toArray := ⟨_, hol1, rfl, nl, rfl⟩
    unfold Builtin.«set.__init__» noKeywords Builtin.Frozenset.updateFrom
    generalize hpi : pyIter = pit
    wp_walk
    subst hpi
    refine wpAny_pyIter_list hl1 ?_
    refine wpAny_bind (wpAny_runValue ?_)
    have lt0 : l < s.heap.objs.size := Heap.lt_size hol
    have h3 : A.in1.in1.in1.handled = none := by simp [hh]
    have ne1 : l ≠ (s.heap.push { cls := .type "set", dict := none, data := .set #[] 0 (.fresh 0 0 bt) }).objs.size := by
     rw [Heap.size_push]; exact Nat.ne_of_lt (Nat.lt_succ_of_lt lt0)
    have out : s.heap.objs.size ∉ [(s.heap.push { cls := .type "set", dict := none, data := .set #[] 0 (.fresh 0 0 bt) }).objs.size, l] := by
     rw [Heap.size_push]
     intro z
     rcases List.mem_cons.mp z with z | z
     ·exact absurd z (Nat.ne_of_lt (Nat.lt_succ_self _))
     ·exact absurd (List.mem_singleton.mp z) (Nat.ne_of_gt lt0)
    have W := Walks.list (prog := prog) (w := w) h3 (s.heap.push { cls := .type "set", dict := none, data := .set #[] 0 (.fresh 0 0 bt) }).objs.size l ne1 its.toArray
    have hW : (fun (i : Nat) (v : Value) => its.toArray[i]? = some v) = fun i v => its[i]? = some v := by funext i v; rw [List.getElem?_toArray]
    rw [hW] at W
    have g1 : ((s.heap.push { cls := .type "set", dict := none, data := .set #[] 0 (.fresh 0 0 bt) }).push { cls := .type "list_iterator", data := .fields #[.ref l, .int 0 0] }).get? s.heap.objs.size = some { cls := .type "set", dict := none, data := .set #[] 0 (.fresh 0 0 bt) } := Heap.get?_push_of_some _ g0
    refine jR (List.size_toArray) W out hv few (its.length - 0) 0 _ _ #[] 0 (.fresh 0 0 bt) rfl (Nat.zero_le _)
     ⟨⟨_, Heap.get?_push_size _ rfl, rfl, rfl⟩, hl1.push _⟩ g1 (by subst hbt; exact jP w) fun h' tk o' es' ep' t' kp c1 c2 => ?_
    show wpAny _ _ _ _ _ _
    refine wpAny_pure ?_
    show wpAny _ _ (ret Value.none) _ _ _
    refine wpAny_pure ⟨rfl, h', tk, o', es', ep', t', rfl, fun b ob e => kp b ob (Nat.ne_of_lt (Heap.lt_size e)) ?_ (Heap.get?_push_of_some _ (Heap.get?_push_of_some _ e)), c1, c2⟩
    rw [Heap.size_push]; exact Nat.ne_of_lt (Nat.lt_succ_of_lt (Heap.lt_size e))
   ·cases r₂ with
    | error e => exact hr₂
    | ok fl₂ =>
     cases fl₂ with
     | ret r =>
      obtain ⟨rfl, h', tk, o', es', ep', t', rfl, kp, c1, c2⟩ := hr₂
      repeat (any_goals (first | assumption | wp_step))
      exact h h' tk o' es' ep' t' kp c1 c2
     | _ => exact hr₂.elim
  | _ => exact hr.elim
end
theorem cI : Slot "set_iterator" "__next__" "set_iterator.__next__" :=
 .of (owner := "set_iterator") (n := "__next__") (by rw [typeLookup_type, builtinLookup_eq_fast]; kernel_rfl) (by decide +kernel) (by decide +kernel) (by decide +kernel) (by first | exact .inl (by decide +kernel) | exact .inr (by decide +kernel)) (by rw [isSubtype_type]; kernel_rfl)
theorem fQ : entryFor table "set_iterator.__next__" = some Builtin.«set_iterator.__next__» := entryFor_of_tree (by kernel_rfl)
theorem j8 : Manifest.owners.lookup (String.ofList ['r', 'o', 't', 'a', 'r', 'e', 't', 'i', '_', 't', 'e', 's'].reverse) = some Manifest.sig_set_iterator := by kernel_rfl
theorem fR (a : Value) : argsOk "set_iterator.__next__" ⟨[a], []⟩ := by
 unfold argsOk
 rw [signature?_of (id := "set_iterator.__next__") (n := ['_', '_', 't', 'x', 'e', 'n', '_', '_']) (o := ['r', 'o', 't', 'a', 'r', 'e', 't', 'i', '_', 't', 'e', 's']) (by kernel_rfl) j8]
 kernel_rfl
theorem jI : Slot "set_iterator" "__iter__" "set_iterator.__iter__" :=
 .of (owner := "set_iterator") (n := "__iter__") (by rw [typeLookup_type, builtinLookup_eq_fast]; kernel_rfl) (by decide +kernel) (by decide +kernel) (by decide +kernel) (by first | exact .inl (by decide +kernel) | exact .inr (by decide +kernel)) (by rw [isSubtype_type]; kernel_rfl)
theorem oB (a : Value) : argsOk "set_iterator.__iter__" ⟨[a], []⟩ := by
 unfold argsOk
 rw [signature?_of (id := "set_iterator.__iter__") (n := ['_', '_', 'r', 'e', 't', 'i', '_', '_']) (o := ['r', 'o', 't', 'a', 'r', 'e', 't', 'i', '_', 't', 'e', 's']) (by kernel_rfl) j8]
 kernel_rfl
theorem oa : entryFor table "set_iterator.__iter__" = some Builtin.«dict_keyiterator.__iter__» :=
 entryFor_alias (id' := "dict_keyiterator.__iter__") (by kernel_rfl) (by first | rfl | decide +kernel | (unfold String.splitOn; simp +decide [String.splitOnAux])) (by decide +kernel) (by kernel_rfl)
theorem oj : entryFor table "set.__iter__" = some Builtin.«frozenset.__iter__» :=
 entryFor_alias (id' := "frozenset.__iter__") (by kernel_rfl) (by first | rfl | decide +kernel | (unfold String.splitOn; simp +decide [String.splitOnAux])) (by decide +kernel) (by kernel_rfl)
noncomputable def bV (first : Value) (i : Nat) (a : Addr) (n ep : Nat) : Array Value := #[first, rawInt (i : Int), .ref a, rawInt (n : Int), rawInt (ep : Int)]
noncomputable def bT (h : Heap) (I : Addr) (first : Value) (i : Nat) (a : Addr) (n ep : Nat) : Prop := ∃ o, h.get? I = some o /\ o.cls = .type "set_iterator" /\ o.data = .fields (bV first i a n ep)
theorem bT.typ {s : Shared} {I : Addr} {first : Value} {i : Nat} {a : Addr} {n ep : Nat} (x : bT s.heap I first i a n ep) : s.TypeIs (.ref I) "set_iterator" := let ⟨o, h1, h2, _⟩ := x; ⟨o, h1, h2⟩
theorem bT.stay {h h' : Heap} {I : Addr} {first : Value} {i : Nat} {a : Addr} {n ep : Nat} (x : bT h I first i a n ep) (e : ∀ o, h.get? I = some o -> h'.get? I = some o) : bT h' I first i a n ep := let ⟨o, h1, h2⟩ := x; ⟨o, e o h1, h2⟩
theorem gQ {α : Type} : ∀ (l : List α) (i : Nat) (h : i < l.length), (l[i] :: l.eraseIdx i).Perm l
 | [], _, h => absurd h (Nat.not_lt_zero _)
 | a :: r, 0, _ => List.Perm.refl _
 | a :: r, i + 1, h => by
  show (r[i]'(Nat.lt_of_succ_lt_succ h) :: a :: r.eraseIdx i).Perm (a :: r)
  exact (List.Perm.swap _ _ _).trans (List.Perm.cons a (gQ r i (Nat.lt_of_succ_lt_succ h)))
section
variable {prog : Program} {w : World} {A : Around} {E : Value -> Shared -> Prop} {s : Shared}
theorem pX {src : Source} {n : Nat} {Q : Nat -> Shared -> Prop} (hn : n ≠ 0) (h : ∀ i d, i < n -> Q i { s with drawn := d }) : wpAny (model prog w) A (choose src n) Q E s := by
 intro Γ p hΓ
 show Sem.wp _ _ (.choose src n .pure) _ _ _ _
 rw [Sem.wp_choose]
 refine ⟨hn, ?_⟩
 rw [Sem.wp_pure]
 exact h _ _ (Nat.mod_lt _ (Nat.pos_of_ne_zero hn))
theorem pk {α : Type} : ∀ (n : Nat) (xs : List α) (s : Shared) (Q : List α -> Shared -> Prop), n = xs.length -> (∀ ys d, ys.Perm xs -> Q ys { s with drawn := d }) -> wpAny (model prog w) A (drawOrder n xs) Q E s := by
 intro n
 induction n with
 | zero =>
  intro xs s Q hn h
  have : xs = [] := List.length_eq_zero_iff.mp hn.symm
  subst this
  unfold drawOrder
  exact wpAny_pure (h [] s.drawn (List.Perm.refl _))
 | succ n ih =>
  intro xs s Q hn h
  cases xs with
  | nil => cases hn
  | cons x r =>
   unfold drawOrder
   refine wpAny_bind (pX (by rw [List.length_cons]; exact Nat.succ_ne_zero _) fun i d hi => ?_)
   rw [List.getElem?_eq_getElem hi]
   dsimp only
   have hlen : n = ((x :: r).eraseIdx i).length := by
    have := List.length_eraseIdx (l := x :: r) (i := i)
    rw [if_pos hi] at this
    rw [this]; omega
   refine wpAny_bind (ih _ _ _ hlen fun ys d' pm => wpAny_pure ?_)
   refine h _ d' ?_
   exact (List.Perm.cons _ pm).trans (gQ (x :: r) i hi)
theorem iF {I : Addr} {first : Value} {i : Nat} {a : Addr} {n ep : Nat} {Q : Value -> Shared -> Prop} (x : bT s.heap I first i a n ep) (h : Q (.ref I) s) : wpAny (model prog w) A (pyIter (.ref I)) Q E s := by
 refine wpAny_pyIter_slot x.typ jI (wpAny_call_entry jI x.typ oa ?_ (oB _))
 show wpAny _ _ (ret (.ref I)) _ _ s
 exact wpAny_pure ⟨_, rfl, "set_iterator", _, x.typ, cI.lookup, h⟩
theorem j7 {Q : Option Value -> Shared -> Prop} {R : Fin -> Shared -> Prop} (hh : A.handled = none)
  (hQ : ∀ h', (∀ b o, s.heap.get? b = some o -> h'.get? b = some o) -> Q none { s with heap := h' }) :
  wpAny (model prog w) A.in1 (newExc (.type "StopIteration") [] >>= raiseNew) R (fun e s' => wpAny (model prog w) A (do if <- isInstance e (.type "StopIteration") then pure none else throw e) Q E s') s := by
 refine wpAny_bind ?_
 simp only [newExc, newTuple]
 refine wpAny_bind (wpAny_newObj_type ?_ (by size_fits))
 refine wpAny_bind (m := firstArgMember _ _) (wpAny_of_eq (a := Value.none) (by first | rfl | (simp only [firstArgMember]; rfl)) ?_)
 refine wpAny_newObj_type ?_ (by size_fits)
 simp only [raiseNew]
 refine wpAny_bind (wpAny_handled ?_)
 rw [show A.in1.handled = none from hh]
 refine wpAny_bind (wpAny_pure (wpAny_throw ?_))
 refine wpAny_bind (wpAny_isInstance (T := "StopIteration") (b := true) ⟨_, Heap.get?_push_size _ rfl, rfl⟩ isSubtype_stop ?_)
 exact wpAny_pure (hQ _ fun b o e => Heap.get?_push_of_some _ (Heap.get?_push_of_some _ e))
end
theorem kD (first : Value) (i : Nat) (a : Addr) (n ep : Nat) (x : Value) : (bV first i a n ep).setIfInBounds 0 x = bV x i a n ep := by simp [bV]
theorem kK (first : Value) (i : Nat) (a : Addr) (n ep : Nat) : (bV first i a n ep).setIfInBounds 1 (rawInt ((i : Int) + 1)) = bV first (i + 1) a n ep := by simp [bV]
section
variable {prog : Program} {w : World} {A : Around} {E : Value -> Shared -> Prop} {s : Shared}
theorem gn {h : Heap} {I : Addr} {first : Value} {i : Nat} {a : Addr} {n ep : Nat} {o : Obj} (ho : h.get? I = some o) (hc : o.cls = .type "set_iterator") (hd : o.data = .fields (bV first i a n ep)) (j : Nat) (y : Value) :
  ∃ o', (h.update I (Obj.mapFields (·.setIfInBounds j y))).get? I = some o' /\ o'.cls = .type "set_iterator" /\ o'.data = .fields ((bV first i a n ep).setIfInBounds j y) :=
 ⟨_, Heap.get?_update_self _ ho (Obj.isFreed_of_fields (Obj.data_mapFields hd _)), (Obj.cls_mapFields ..).trans hc, Obj.data_mapFields hd _⟩
theorem lg {I a : Addr} {o : Obj} {ss : List Str} {es : Array (Int × Value)} {ep : Nat} {t : SetTable} {slot next i : Nat} {v : Value} {Q : Option Value -> Shared -> Prop}
  (hit : bT s.heap I (rawInt (slot : Int)) i a es.size ep) (hne : a ≠ I) (ho : s.heap.get? a = some o) (x : aU w o ss es ep t)
  (nx : ∀ (A : Around) (E : Value -> Shared -> Prop) (Q : Option (Value × Nat) -> Shared -> Prop), Q (some (v, next)) s -> wpAny (model prog w) A (setNext a slot i ep) Q E s)
  (hQ : ∀ h', bT h' I (rawInt (next : Int)) (i + 1) a es.size ep -> Heap.SameBut I s.heap h' -> Q (some v) { s with heap := h' }) : wpAny (model prog w) A (pyNext (.ref I)) Q E s := by
 obtain ⟨oi, hoi, hci, hdi⟩ := id hit
 unfold pyNext
 refine wpAny_bind (wpAny_attempt (wpAny_callSpecial?_slot (name := Str.ofString "__next__") hit.typ cI (wpAny_call_entry cI hit.typ fQ ?_ (fR _))))
 unfold Builtin.«set_iterator.__next__»
 refine wpAny_bind (wpAny_of_eq (a := (Value.ref I, [])) rfl ?_)
 dsimp only
 refine wpAny_bind (wpAny_fieldsOf hoi hdi ?_)
 show wpAny _ _ (setEntries a >>= _) _ _ s
 refine wpAny_bind (wpAny_setEntries_of ho x.dat x.fit ?_)
 show wpAny _ _ (if ((es.size : Int) != (es.size : Int)) = true then _ else _) _ _ s
 rw [if_neg (by simp)]
 show wpAny _ _ (setNext a slot i ep >>= _) _ _ s
 refine wpAny_bind (nx _ _ _ ?_)
 show wpAny _ _ (setField (.ref I) 0 (rawInt (next : Int)) >>= _) _ _ s
 refine wpAny_bind (wpAny_setField hoi hdi (by simp [bV]) ?_)
 obtain ⟨o1, g1, c1, d1⟩ := gn hoi hci hdi 0 (rawInt (next : Int))
 rw [kD] at d1
 show wpAny _ _ (setField (.ref I) 1 (rawInt ((i : Int) + 1)) >>= _) _ _ _
 refine wpAny_bind (wpAny_setField g1 d1 (by simp [bV]) ?_)
 obtain ⟨o2, g2, c2, d2⟩ := gn g1 c1 d1 1 (rawInt ((i : Int) + 1))
 rw [kK] at d2
 exact wpAny_pure ⟨v, rfl, wpAny_pure (hQ _ ⟨o2, g2, c2, d2⟩ ((Heap.SameBut.update ..).trans (Heap.SameBut.update ..)))⟩
theorem iT {I a : Addr} {o : Obj} {ss : List Str} {es : Array (Int × Value)} {ep : Nat} {t : SetTable} {slot i : Nat} {Q : Option Value -> Shared -> Prop} (hh : A.handled = none)
  (hit : bT s.heap I (rawInt (slot : Int)) i a es.size ep) (hne : a ≠ I) (ho : s.heap.get? a = some o) (x : aU w o ss es ep t)
  (nx : ∀ (A : Around) (E : Value -> Shared -> Prop) (Q : Option (Value × Nat) -> Shared -> Prop), Q none s -> wpAny (model prog w) A (setNext a slot i ep) Q E s)
  (hQ : ∀ h', (∀ b o, b ≠ I -> s.heap.get? b = some o -> h'.get? b = some o) -> Q none { s with heap := h' }) : wpAny (model prog w) A (pyNext (.ref I)) Q E s := by
 obtain ⟨oi, hoi, hci, hdi⟩ := id hit
 unfold pyNext
 refine wpAny_bind (wpAny_attempt (wpAny_callSpecial?_slot (name := Str.ofString "__next__") hit.typ cI (wpAny_call_entry cI hit.typ fQ ?_ (fR _))))
 unfold Builtin.«set_iterator.__next__»
 refine wpAny_bind (wpAny_of_eq (a := (Value.ref I, [])) rfl ?_)
 dsimp only
 refine wpAny_bind (wpAny_fieldsOf hoi hdi ?_)
 show wpAny _ _ (setEntries a >>= _) _ _ s
 refine wpAny_bind (wpAny_setEntries_of ho x.dat x.fit ?_)
 show wpAny _ _ (if ((es.size : Int) != (es.size : Int)) = true then _ else _) _ _ s
 rw [if_neg (by simp)]
 show wpAny _ _ (setNext a slot i ep >>= _) _ _ s
 refine wpAny_bind (nx _ _ _ ?_)
 show wpAny _ _ (setField (.ref I) 2 .none >>= _) _ _ s
 refine wpAny_bind (wpAny_setField hoi hdi (by simp [bV]) ?_)
 refine j7 hh fun h' kp => hQ h' fun b ob hb e => kp b ob ?_
 exact (Heap.get?_update_other _ _ (Ne.symm hb)).trans e
theorem qk {I a tp : Addr} {o : Obj} {ss : List Str} {es : Array (Int × Value)} {ep : Nat} {t : SetTable} {i p : Nat} {v : Value} {ps : Array Value} {Q : Option Value -> Shared -> Prop}
  (hit : bT s.heap I (.ref tp) i a es.size ep) (ho : s.heap.get? a = some o) (x : aU w o ss es ep t) (htp : s.heap.IsTuple tp ps) (hp : ps[i]? = some (rawInt (p : Int))) (hv : (es[p]?).map (·.2) = some v)
  (hQ : ∀ h', bT h' I (.ref tp) (i + 1) a es.size ep -> Heap.SameBut I s.heap h' -> Q (some v) { s with heap := h' }) : wpAny (model prog w) A (pyNext (.ref I)) Q E s := by
 obtain ⟨oi, hoi, hci, hdi⟩ := id hit
 obtain ⟨ot, hot, _, nt, hdt⟩ := htp
 unfold pyNext
 refine wpAny_bind (wpAny_attempt (wpAny_callSpecial?_slot (name := Str.ofString "__next__") hit.typ cI (wpAny_call_entry cI hit.typ fQ ?_ (fR _))))
 unfold Builtin.«set_iterator.__next__»
 refine wpAny_bind (wpAny_of_eq (a := (Value.ref I, [])) rfl ?_)
 dsimp only
 refine wpAny_bind (wpAny_fieldsOf hoi hdi ?_)
 show wpAny _ _ (setEntries a >>= _) _ _ s
 refine wpAny_bind (wpAny_setEntries_of ho x.dat x.fit ?_)
 show wpAny _ _ (if ((es.size : Int) != (es.size : Int)) = true then _ else _) _ _ s
 rw [if_neg (by simp)]
 show wpAny _ _ (seqItems? (.ref tp) >>= _) _ _ s
 refine wpAny_bind (wpAny_seqItems hot hdt ?_)
 dsimp only [Int.toNat_natCast]
 rw [hp]
 dsimp only [rawInt]
 refine wpAny_bind ?_
 unfold setNextDrawn
 refine wpAny_bind (wpAny_setState_of ho x.dat x.fit ?_)
 dsimp only
 rw [if_neg (by simp)]
 try rw [Int.toNat_natCast]
 cases he : es[p]? with
 | none => rw [he] at hv; cases hv
 | some ev =>
  rw [he] at hv
  cases hv
  refine wpAny_pure ?_
  show wpAny _ _ (setField (.ref I) 1 (rawInt ((i : Int) + 1)) >>= _) _ _ _
  refine wpAny_bind (wpAny_setField hoi hdi (by simp [bV]) ?_)
  obtain ⟨o2, g2, c2, d2⟩ := gn hoi hci hdi 1 (rawInt ((i : Int) + 1))
  rw [kK] at d2
  exact wpAny_pure ⟨_, rfl, wpAny_pure (hQ _ ⟨o2, g2, c2, d2⟩ (Heap.SameBut.update ..))⟩
theorem qX {I a tp : Addr} {o : Obj} {ss : List Str} {es : Array (Int × Value)} {ep : Nat} {t : SetTable} {i : Nat} {ps : Array Value} {Q : Option Value -> Shared -> Prop} (hh : A.handled = none)
  (hit : bT s.heap I (.ref tp) i a es.size ep) (ho : s.heap.get? a = some o) (x : aU w o ss es ep t) (htp : s.heap.IsTuple tp ps) (hp : ps[i]? = none)
  (hQ : ∀ h', (∀ b o, b ≠ I -> s.heap.get? b = some o -> h'.get? b = some o) -> Q none { s with heap := h' }) : wpAny (model prog w) A (pyNext (.ref I)) Q E s := by
 obtain ⟨oi, hoi, hci, hdi⟩ := id hit
 obtain ⟨ot, hot, _, nt, hdt⟩ := htp
 unfold pyNext
 refine wpAny_bind (wpAny_attempt (wpAny_callSpecial?_slot (name := Str.ofString "__next__") hit.typ cI (wpAny_call_entry cI hit.typ fQ ?_ (fR _))))
 unfold Builtin.«set_iterator.__next__»
 refine wpAny_bind (wpAny_of_eq (a := (Value.ref I, [])) rfl ?_)
 dsimp only
 refine wpAny_bind (wpAny_fieldsOf hoi hdi ?_)
 show wpAny _ _ (setEntries a >>= _) _ _ s
 refine wpAny_bind (wpAny_setEntries_of ho x.dat x.fit ?_)
 show wpAny _ _ (if ((es.size : Int) != (es.size : Int)) = true then _ else _) _ _ s
 rw [if_neg (by simp)]
 show wpAny _ _ (seqItems? (.ref tp) >>= _) _ _ s
 refine wpAny_bind (wpAny_seqItems hot hdt ?_)
 dsimp only [Int.toNat_natCast]
 rw [hp]
 dsimp only
 refine wpAny_bind (wpAny_setField hoi hdi (by simp [bV]) ?_)
 obtain ⟨o1, g1, c1, d1⟩ := gn hoi hci hdi 0 (rawInt 0)
 rw [kD] at d1
 refine wpAny_bind (wpAny_setField g1 d1 (by simp [bV]) ?_)
 refine j7 hh fun h' kp => hQ h' fun b ob hb e => kp b ob ?_
 exact (Heap.get?_update_other _ _ (Ne.symm hb)).trans ((Heap.get?_update_other _ _ (Ne.symm hb)).trans e)
end
theorem sV {α : Type} (next : Nat -> Nat) : ∀ (n k : Nat) (left : List α) (out : Array α), n = left.length -> (pickOrder.go next n k left out).toList.Perm (out.toList ++ left) := by
 intro n
 induction n with
 | zero =>
  intro k left out hn
  have : left = [] := List.length_eq_zero_iff.mp hn.symm
  subst this
  unfold pickOrder.go
  rw [List.append_nil]
 | succ n ih =>
  intro k left out hn
  unfold pickOrder.go
  have hi : next k % left.length < left.length := Nat.mod_lt _ (by omega)
  rw [List.getElem?_eq_getElem hi]
  dsimp only
  have hl : n = (left.eraseIdx (next k % left.length)).length := by
   have := List.length_eraseIdx (l := left) (i := next k % left.length)
   rw [if_pos hi] at this
   rw [this]; omega
  refine (ih _ _ _ hl).trans ?_
  rw [Array.toList_push, List.append_assoc]
  exact List.Perm.append_left _ (gQ left _ hi)
theorem gP {α : Type} (next : Nat -> Nat) (xs : Array α) : (pickOrder next xs).toList.Perm xs.toList := by
 unfold pickOrder
 have := sV next xs.size 0 xs.toList #[] (Array.length_toList).symm
 simpa using this
section
variable {prog : Program} {w : World} {A : Around} {E : Value -> Shared -> Prop} {s : Shared}
theorem lD {a : Addr} {o : Obj} {ss : List Str} {es : Array (Int × Value)} {ep slot i : Nat} {t : SetTable} (hb : w.params.followText "set-order" = true) (ho : s.heap.get? a = some o) (x : aU w o ss es ep t) {Q : Option (Value × Nat) -> Shared -> Prop}
  (h : Q (((pickOrder (w.params.setOrder a ep) es)[i]?).map fun e => (e.2, slot)) s) : wpAny (model prog w) A (setNext a slot i ep) Q E s := by
 unfold setNext
 refine wpAny_bind (wpAny_setState_of ho x.dat x.fit ?_)
 dsimp only
 unfold setsByText
 refine wpAny_bind (wpAny_bind (wpAny_askSetting (wpAny_pure ?_)))
 show wpAny _ _ (if w.params.followText "set-order" = true then _ else _) _ _ s
 rw [if_pos hb, if_neg (by simp)]
 unfold setWalk
 refine wpAny_bind ?_
 refine wpAny_bind (wpAny_setState_of ho x.dat x.fit ?_)
 dsimp only
 unfold setsByText
 refine wpAny_bind (wpAny_bind (wpAny_askSetting (wpAny_pure ?_)))
 show wpAny _ _ (if w.params.followText "set-order" = true then _ else _) _ _ s
 rw [if_pos hb]
 exact wpAny_bind (wpAny_askSetting (wpAny_pure (wpAny_pure h)))
theorem jb {a : Addr} {o : Obj} {ss : List Str} {es : Array (Int × Value)} {ep slot i : Nat} {t : SetTable} (hb : w.params.followText "set-order" = false) (ho : s.heap.get? a = some o) (x : aU w o ss es ep t) (h1 : es.size <= 1) {Q : Option (Value × Nat) -> Shared -> Prop}
  (h : Q (match es[SetTable.below t.place slot]?, t.place[SetTable.below t.place slot]? with | some (_, x), some j => some (x, j + 1) | _, _ => none) s) : wpAny (model prog w) A (setNext a slot i ep) Q E s := by
 have hl : t.led = true := by rw [x.led, hb]; rfl
 unfold setNext
 refine wpAny_bind (wpAny_setState_of ho x.dat x.fit ?_)
 dsimp only
 unfold setsByText
 refine wpAny_bind (wpAny_bind (wpAny_askSetting (wpAny_pure ?_)))
 show wpAny _ _ (if w.params.followText "set-order" = true then _ else if (!t.plain && decide (es.size > 1)) = true then _ else _) _ _ s
 rw [if_neg (by rw [hb]; exact Bool.false_ne_true), if_neg (by rw [decide_eq_false (Nat.not_lt.mpr h1), Bool.and_false]; exact Bool.false_ne_true)]
 refine wpAny_bind (show wpAny _ _ (if (!t.led && !es.isEmpty) = true then unsupported "set:maker-not-led" else pure ()) _ _ s from ?_)
 rw [if_neg (by rw [hl]; exact Bool.false_ne_true)]
 exact wpAny_pure (wpAny_pure h)
structure uf (prog : Program) (w : World) (A : Around) (s s₁ : Shared) (a I : Addr) (ss : List Str) (fp : List Addr) (ws : List Value) (St : Nat -> Heap -> Prop) : Prop where
 os : s₁.os = s.os
 gens : s₁.gens = s.gens
 toks : s₁.toks = s.toks
 keep : ∀ b o, s.heap.get? b = some o -> s₁.heap.get? b = some o
 new : ∀ b ∈ fp, b = a \/ s.heap.objs.size <= b
 newI : s.heap.objs.size <= I
 wk : Walks prog w A I fp [I] ss.length (fun i v => ws[i]? = some v) St
 st : St 0 s₁.heap
 txt : ∃ ss', StrsAre ws ss' /\ ss'.Perm ss
theorem hV {o : Obj} {ss : List Str} {es : Array (Int × Value)} {ep : Nat} {t : SetTable} (x : aU w o ss es ep t) {L : List (Int × Value)} (p : L.Perm es.toList) : ∃ ss', StrsAre (L.map (·.2)) ss' /\ ss'.Perm ss := by
 refine ⟨L.map fun e => cb e.2, ?_, (p.map _).trans x.all⟩
 have : ∀ e ∈ L, ∃ tk, e.2 = .str (cb e.2) tk := fun e he => let ⟨tk, h, _⟩ := x.els e (p.mem_iff.mp he); ⟨tk, h⟩
 clear p
 induction L with
 | nil => exact .nil
 | cons e r ih =>
  obtain ⟨tk, h⟩ := this e (.head _)
  have q := ih fun e he => this e (.tail _ he)
  show StrsAre (e.2 :: r.map (·.2)) (cb e.2 :: r.map fun e => cb e.2)
  rw [h]
  exact .cons _ tk q
end
section
variable {prog : Program} {w : World} {A : Around} {E : Value -> Shared -> Prop} {s : Shared}
theorem qM {a I : Addr} {o : Obj} {ss : List Str} {es : Array (Int × Value)} {ep : Nat} {t : SetTable} (hh : A.handled = none) (hb : w.params.followText "set-order" = true) (x : aU w o ss es ep t) (hne : a ≠ I) :
  Walks prog w A I [I, a] [I] ss.length (fun i v => ((pickOrder (w.params.setOrder a ep) es).toList.map (·.2))[i]? = some v) (fun i h => bT h I (rawInt 0) i a es.size ep /\ h.get? a = some o) where
 sub := fun b hb => by rw [List.mem_singleton.mp hb]; exact .head _
 frame := fun i h h' st kp => ⟨st.1.stay fun o e => kp I (.head _) o e, kp a (.tail _ (.head _)) o st.2⟩
 item := fun i s Q E hi st hQ => by
  have hl : (pickOrder (w.params.setOrder a ep) es).size = ss.length := by
   have := (gP (w.params.setOrder a ep) es).length_eq
   rw [Array.length_toList, Array.length_toList, x.size] at this; exact this
  have hi' : i < (pickOrder (w.params.setOrder a ep) es).size := by omega
  have e1 : (pickOrder (w.params.setOrder a ep) es)[i]? = some (pickOrder (w.params.setOrder a ep) es)[i] := Array.getElem?_eq_getElem hi'
  refine lg (slot := 0) (next := 0) (v := ((pickOrder (w.params.setOrder a ep) es)[i]).2) st.1 hne st.2 x (fun A E Q q => lD hb st.2 x (by rw [e1]; exact q)) fun h' hit' sb => ?_
  refine hQ _ h' s.toks (by rw [List.getElem?_map, Array.getElem?_toList, e1]; rfl) ⟨hit', (sb.2 a hne).trans st.2⟩ fun b ob hb e => (sb.2 b (by simpa using hb)).trans e
 done := fun s Q E st hQ => by
  have hl : (pickOrder (w.params.setOrder a ep) es).size = ss.length := by
   have := (gP (w.params.setOrder a ep) es).length_eq
   rw [Array.length_toList, Array.length_toList, x.size] at this; exact this
  have e1 : (pickOrder (w.params.setOrder a ep) es)[ss.length]? = none := by rw [<- hl]; simp
  exact iT (slot := 0) hh st.1 hne st.2 x (fun A E Q q => lD hb st.2 x (by rw [e1]; exact q)) fun h' kp => hQ h' s.toks fun b ob hb e => kp b ob (by simpa using hb) e
 self := fun i s Q E st hQ => iF st.1 hQ
theorem pP {a I tp : Addr} {o : Obj} {ss : List Str} {es : Array (Int × Value)} {ep : Nat} {t : SetTable} {ps : List Nat} (hh : A.handled = none) (x : aU w o ss es ep t) (hne : a ≠ I) (hnt : tp ≠ I) (hps : ps.Perm (List.range es.size)) :
  Walks prog w A I [I, a, tp] [I] ss.length (fun i v => (ps.map fun p => (es.getD p (0, .none)).2)[i]? = some v) (fun i h => bT h I (.ref tp) i a es.size ep /\ h.get? a = some o /\ h.IsTuple tp (ps.map fun (p : Nat) => rawInt (p : Int)).toArray) where
 sub := fun b hb => by rw [List.mem_singleton.mp hb]; exact .head _
 frame := fun i h h' st kp => ⟨st.1.stay fun o e => kp I (.head _) o e, kp a (.tail _ (.head _)) o st.2.1, st.2.2.at fun o e => kp tp (.tail _ (.tail _ (.head _))) o e⟩
 item := fun i s Q E hi st hQ => by
  have hl : ps.length = ss.length := by have := hps.length_eq; rw [List.length_range, x.size] at this; exact this
  have hi' : i < ps.length := by omega
  have hp : ps[i] < es.size := List.mem_range.mp (hps.mem_iff.mp (List.getElem_mem hi'))
  have e1 : (ps.map fun (p : Nat) => rawInt (p : Int)).toArray[i]? = some (rawInt (ps[i] : Int)) := by rw [List.getElem?_toArray, List.getElem?_map, List.getElem?_eq_getElem hi']; rfl
  have e2 : es[ps[i]]? = some es[ps[i]] := Array.getElem?_eq_getElem hp
  refine qk (p := ps[i]) (v := (es[ps[i]]).2) st.1 st.2.1 x st.2.2 e1 (by rw [e2]; rfl) fun h' hit' sb => ?_
  refine hQ _ h' s.toks ?_ ⟨hit', (sb.2 a hne).trans st.2.1, st.2.2.at fun o e => (sb.2 tp hnt).trans e⟩ fun b ob hb e => (sb.2 b (by simpa using hb)).trans e
  rw [List.getElem?_map, List.getElem?_eq_getElem hi']
  show some (es.getD ps[i] (0, .none)).2 = _
  rw [Array.getD_eq_getD_getElem?, e2]; rfl
 done := fun s Q E st hQ => by
  have hl : ps.length = ss.length := by have := hps.length_eq; rw [List.length_range, x.size] at this; exact this
  have e1 : (ps.map fun (p : Nat) => rawInt (p : Int)).toArray[ss.length]? = none := by rw [<- hl]; simp
  exact qX hh st.1 st.2.1 x st.2.2 e1 fun h' kp => hQ h' s.toks fun b ob hb e => kp b ob (by simpa using hb) e
 self := fun i s Q E st hQ => iF st.1 hQ
theorem pD {p : Array Nat} (h : p.size = 1) : SetTable.below p 0 = 0 := by
 unfold SetTable.below
 rw [h]
 show (if 0 < 1 then if p.getD 0 0 < 0 then _ else _ else _) = 0
 rw [if_pos (by decide), if_neg (Nat.not_lt_zero _)]
 rfl
theorem pW {p : Array Nat} {j : Nat} (h : p.size = 1) (hj : p[0]? = some j) : SetTable.below p (j + 1) = 1 := by
 unfold SetTable.below
 rw [h]
 show (if 0 < 1 then if p.getD 0 (j + 1) < j + 1 then _ else _ else _) = 1
 rw [if_pos (by decide), if_pos (by rw [Array.getD_eq_getD_getElem?, hj]; exact Nat.lt_succ_self j)]
 rfl
theorem p9 {p : Array Nat} (j : Nat) (h : p.size = 0) : SetTable.below p j = 0 := by
 unfold SetTable.below
 rw [h]; rfl
theorem rN {a I : Addr} {o : Obj} {ss : List Str} {es : Array (Int × Value)} {ep : Nat} {t : SetTable} (hh : A.handled = none) (hb : w.params.followText "set-order" = false) (x : aU w o ss es ep t) (h1 : es.size <= 1) (hne : a ≠ I) :
  Walks prog w A I [I, a] [I] ss.length (fun i v => (es.toList.map (·.2))[i]? = some v) (fun i h => bT h I (rawInt ((if i = 0 then 0 else t.place.getD 0 0 + 1 : Nat) : Int)) i a es.size ep /\ h.get? a = some o) where
 sub := fun b hb => by rw [List.mem_singleton.mp hb]; exact .head _
 frame := fun i h h' st kp => ⟨st.1.stay fun o e => kp I (.head _) o e, kp a (.tail _ (.head _)) o st.2⟩
 item := fun i s Q E hi st hQ => by
  have hs := x.size
  have hi0 : i = 0 := by omega
  subst hi0
  have hz : es.size = 1 := by omega
  have hpz : t.place.size = 1 := by
   have := x.fit
   unfold SetTable.fits at this
   rw [hz] at this
   simp at this; exact this.1
  have hp0 : t.place[0]? = some t.place[0] := Array.getElem?_eq_getElem (by omega)
  have he0 : es[0]? = some es[0] := Array.getElem?_eq_getElem (by omega)
  have hd0 : t.place.getD 0 0 = t.place[0] := by rw [Array.getD_eq_getD_getElem?, hp0]; rfl
  refine lg (slot := 0) (next := t.place[0] + 1) (v := (es[0]).2) st.1 hne st.2 x (fun A E Q q => jb hb st.2 x h1 (by rw [pD hpz, hp0, he0]; exact q)) fun h' hit' sb => ?_
  refine hQ _ h' s.toks (by rw [List.getElem?_map, Array.getElem?_toList, he0]; rfl) ⟨?_, (sb.2 a hne).trans st.2⟩ fun b ob hb e => (sb.2 b (by simpa using hb)).trans e
  rw [if_neg (Nat.succ_ne_zero _), hd0]
  exact hit'
 done := fun s Q E st hQ => by
  have hs := x.size
  have hpz : t.place.size = es.size := by
   have := x.fit
   unfold SetTable.fits at this
   simp at this; exact this.1
  by_cases hz : es.size = 0
  ·have e0 : ss.length = 0 := by omega
   rw [e0, if_pos rfl] at st
   have : es[0]? = none := Array.getElem?_eq_none (by omega)
   exact iT (slot := 0) hh st.1 hne st.2 x (fun A E Q q => jb hb st.2 x h1 (by rw [p9 0 (by omega), this]; exact q)) fun h' kp => hQ h' s.toks fun b ob hb e => kp b ob (by simpa using hb) e
  ·have hz1 : es.size = 1 := by omega
   have e0 : ss.length = 1 := by omega
   rw [e0, if_neg (by decide)] at st
   have hp0 : t.place[0]? = some t.place[0] := Array.getElem?_eq_getElem (by omega)
   have hd0 : t.place.getD 0 0 = t.place[0] := by rw [Array.getD_eq_getD_getElem?, hp0]; rfl
   rw [hd0] at st
   have : es[1]? = none := Array.getElem?_eq_none (by omega)
   exact iT (slot := t.place[0] + 1) hh st.1 hne st.2 x (fun A E Q q => jb hb st.2 x h1 (by rw [pW (by omega) hp0, this]; exact q)) fun h' kp => hQ h' s.toks fun b ob hb e => kp b ob (by simpa using hb) e
 self := fun i s Q E st hQ => iF st.1 hQ
end
theorem pK (es : Array (Int × Value)) : (List.range es.size).map (fun p => es.getD p (0, .none)) = es.toList := by
 apply List.ext_getElem
 ·simp
 ·intro i h1 h2
  simp at h1
  simp [h1]
section
variable {prog : Program} {w : World} {A : Around} {E : Value -> Shared -> Prop} {s : Shared}
theorem pL {a : Addr} {o : Obj} {ss : List Str} {es : Array (Int × Value)} {ep : Nat} {t : SetTable} {Q : Value -> Shared -> Prop} (hh : A.handled = none) (ho : s.heap.get? a = some o) (x : aU w o ss es ep t)
  (h : ∀ (s₁ : Shared) (I : Addr) (fp : List Addr) (ws : List Value) (St : Nat -> Heap -> Prop), uf prog w A s s₁ a I ss fp ws St -> Q (.ref I) s₁) : wpAny (model prog w) A (pyIter (.ref a)) Q E s := by
 have hT : s.TypeIs (.ref a) "set" := ⟨o, ho, x.cls⟩
 have hla : a < s.heap.objs.size := Heap.lt_size ho
 refine wpAny_pyIter_slot hT PySem.F.slot_set_iter (wpAny_call_entry PySem.F.slot_set_iter hT oj ?_ (PySem.F.args_set_iter_1 _))
 unfold Builtin.«frozenset.__iter__» Builtin.Frozenset.slot0
 refine wpAny_bind (wpAny_bind (wpAny_of_eq (a := (Value.ref a, [])) rfl (wpAny_pure ?_)))
 unfold Builtin.Frozenset.sizeOf
 refine wpAny_bind (wpAny_bind (wpAny_setEntries_of ho x.dat x.fit (wpAny_pure ?_)))
 unfold setDrawn
 refine wpAny_bind ?_
 refine wpAny_bind (wpAny_setState_of ho x.dat x.fit ?_)
 dsimp only
 unfold setsByText
 refine wpAny_bind (wpAny_bind (wpAny_askSetting (wpAny_pure (wpAny_pure ?_))))
 show wpAny _ _ (if (!w.params.followText "set-order" && (!t.plain && decide (es.size > 1))) = true then _ else _) _ _ s
 by_cases hc : (!w.params.followText "set-order" && (!t.plain && decide (es.size > 1))) = true
 ·rw [if_pos hc]
  refine wpAny_bind (pk es.size (List.range es.size) s _ (List.length_range).symm fun ps d hps => ?_)
  have hpl : ps.length = ss.length := by have := hps.length_eq; rw [List.length_range, x.size] at this; exact this
  have hfew := x.few
  refine wpAny_bind (wpAny_newTuple (items := ps.map fun (i : Nat) => rawInt (i : Int)) ?_ (by rw [List.length_map, sizeLine_eq]; omega))
  have ho1 : (s.heap.push { cls := .type "tuple", data := .seq (ps.map fun (i : Nat) => rawInt (i : Int)).toArray }).get? a = some o := Heap.get?_push_of_some _ ho
  refine wpAny_bind (wpAny_setEpoch_of (s := { s with heap := s.heap.push { cls := .type "tuple", data := .seq (ps.map fun (i : Nat) => rawInt (i : Int)).toArray }, drawn := d }) ho1 x.dat x.fit ?_)
  refine wpAny_bind (wpAny_newObj_type (wpAny_pure ⟨_, rfl, "set_iterator", _, ⟨_, Heap.get?_push_size _ rfl, rfl⟩, cI.lookup, ?_⟩))
  have hsz : (s.heap.push { cls := .type "tuple", data := .seq (ps.map fun (i : Nat) => rawInt (i : Int)).toArray }).objs.size = s.heap.objs.size + 1 := size_push' ..
  have hI : a ≠ (s.heap.push { cls := .type "tuple", data := .seq (ps.map fun (i : Nat) => rawInt (i : Int)).toArray }).objs.size := by rw [hsz]; exact Nat.ne_of_lt (Nat.lt_succ_of_lt hla)
  have hI2 : s.heap.objs.size ≠ (s.heap.push { cls := .type "tuple", data := .seq (ps.map fun (i : Nat) => rawInt (i : Int)).toArray }).objs.size := by rw [hsz]; exact Nat.ne_of_lt (Nat.lt_succ_self _)
  have W := pP (prog := prog) (A := A) hh x hI hI2 hps
  refine h _ _ _ _ _ ⟨rfl, rfl, rfl, fun b ob e => Heap.get?_push_of_some _ (Heap.get?_push_of_some _ e), fun b hb => ?_, ?_, W, ?_, ?_⟩
  ·rcases List.mem_cons.mp hb with e | hb
   ·rw [e, hsz]; exact .inr (Nat.le_succ _)
   ·rcases List.mem_cons.mp hb with e | hb
    ·exact .inl e
    ·rw [List.mem_singleton.mp hb]; exact .inr (Nat.le_refl _)
  ·rw [hsz]; exact Nat.le_succ _
  ·exact ⟨⟨_, Heap.get?_push_size _ rfl, rfl, rfl⟩, Heap.get?_push_of_some _ ho1, ⟨_, Heap.get?_push_of_some _ (Heap.get?_push_size _ rfl), rfl, _, rfl⟩⟩
  ·have e1 : (ps.map fun p => (es.getD p (0, .none)).2) = (ps.map fun p => es.getD p (0, .none)).map (·.2) := by rw [List.map_map]; rfl
   rw [e1]
   refine hV x ?_
   have := hps.map fun p => es.getD p ((0 : Int), Value.none)
   rw [pK] at this; exact this
 ·rw [if_neg hc]
  refine wpAny_bind (wpAny_pure ?_)
  refine wpAny_bind (wpAny_setEpoch_of ho x.dat x.fit ?_)
  refine wpAny_bind (wpAny_newObj_type (wpAny_pure ⟨_, rfl, "set_iterator", _, ⟨_, Heap.get?_push_size _ rfl, rfl⟩, cI.lookup, ?_⟩))
  have hI : a ≠ s.heap.objs.size := Nat.ne_of_lt hla
  have nw : ∀ b ∈ [s.heap.objs.size, a], b = a \/ s.heap.objs.size <= b := fun b hb => by
   rcases List.mem_cons.mp hb with e | hb
   ·rw [e]; exact .inr (Nat.le_refl _)
   ·exact .inl (List.mem_singleton.mp hb)
  cases hb : w.params.followText "set-order" with
  | true => exact h _ _ _ _ _ ⟨rfl, rfl, rfl, fun b ob e => Heap.get?_push_of_some _ e, nw, Nat.le_refl _, qM hh hb x hI, ⟨⟨_, Heap.get?_push_size _ rfl, rfl, rfl⟩, Heap.get?_push_of_some _ ho⟩, hV x (gP _ es)⟩
  | false =>
   have h1 : es.size <= 1 := by
    rcases x.pla with z | z
    ·omega
    ·rw [hb, z] at hc
     simp at hc; omega
   exact h _ _ _ _ _ ⟨rfl, rfl, rfl, fun b ob e => Heap.get?_push_of_some _ e, nw, Nat.le_refl _, rN hh hb x h1 hI, ⟨⟨_, Heap.get?_push_size _ rfl, rfl, rfl⟩, Heap.get?_push_of_some _ ho⟩, hV x (List.Perm.refl _)⟩
theorem oG : typeLookup (.type "set") "__len__" = pure (some (.builtin "set.__len__")) := by rw [typeLookup_type, builtinLookup_eq_fast]; kernel_rfl
theorem rL {r : Addr} {Q : Bool -> Shared -> Prop} (hT : s.TypeIs (.ref r) "set") (h : ∀ b, Q b s) : wpAny (model prog w) A (Builtin.List.listLengthHint (.ref r)) Q E s := by
 unfold Builtin.List.listLengthHint
 refine wpAny_bind (wpAny_specialOf hT oG ?_)
 generalize hid : ("set.__len__" : String) = id0
 wp_delta
 rw [show splitId id0 = some ("set", "__len__") from by subst hid; decide +kernel]
 subst hid
 refine wpAny_bind (wpAny_isInstance (T := "set") (b := true) hT (by rw [isSubtype_type]; kernel_rfl) ?_)
 refine wpAny_ite_split (fun z => absurd z (by decide)) (fun _ => ?_)
 refine wpAny_ite_split (fun _ => ?_) (fun z => absurd (by decide +kernel) z)
 refine wpAny_bind (wpAny_typeOf hT ?_)
 exact wpAny_pure (h _)
end
section
variable {prog : Program} {w : World} {A : Around} {E : Value -> Shared -> Prop} {s : Shared}
theorem rm {ws : List Value} {n : Nat} {acc : Array Value} (hw : ws.length = n) (h : ItemsOf (fun i v => ws[i]? = some v) acc n) : acc.toList = ws := by
 apply List.ext_getElem?
 intro i
 by_cases hi : i < acc.size
 ·have e : acc.toList[i]? = some acc[i] := by rw [Array.getElem?_toList]; exact Array.getElem?_eq_getElem hi
  rw [e]
  exact (h.2 i acc[i] (Array.getElem?_eq_getElem hi)).symm
 ·have h1 := h.1
  rw [List.getElem?_eq_none (by rw [Array.length_toList]; omega), List.getElem?_eq_none (by omega)]
theorem oJ {R : Result -> Shared -> Prop} {a S : Addr} {o : Obj} {ss : List Str} {es : Array (Int × Value)} {ep : Nat} {t : SetTable} (hh : A.handled = none) (ho : s.heap.get? a = some o) (x : aU w o ss es ep t) (res : Value) (c₀ : Nat)
  (hSa : S ≠ a) (hS : s.heap.get? S = some { cls := .type "list", data := .seq #[] c₀ })
  (hR : ∀ (s' : Shared) acc c' ss', s'.os = s.os -> s'.gens = s.gens -> (∀ b o, b ≠ S -> s.heap.get? b = some o -> s'.heap.get? b = some o) -> s'.heap.get? S = some { cls := .type "list", dict := none, data := .seq acc c', slots := #[] } -> StrsAre acc.toList ss' -> ss'.Perm ss -> R (.ok (.ret res)) s') :
  wpAny (model prog w) A.in1 (Builtin.List.listExtendWith (.ref S) (.ref a) res)
   (fun fin s' => match fin with | .done f => R (.ok f) s' | .again c' => c'.quiet = true /\ codeAny (model prog w) A c' R s') (fun e s' => R (.error e) s') s := by
 have hT : s.TypeIs (.ref a) "set" := ⟨o, ho, x.cls⟩
 have hSlt : S < s.heap.objs.size := Heap.lt_size hS
 have hfew := x.few
 unfold Builtin.List.listExtendWith
 refine wpAny_bind (wpAny_typeOf (T := "set") hT ?_)
 have n1 : Builtin.List.listSameRef (.ref S) (.ref a) = false := by simp [Builtin.List.listSameRef, hSa]
 have n2 : (Value.type "set" == Value.type "list") = false := by decide
 have n3 : (Value.type "set" == Value.type "tuple") = false := by decide
 simp only [n1, n2, n3, Bool.or_false, Bool.false_eq_true, if_false]
 refine wpAny_bind (pL (A := A.in1) hh ho x fun s₁ I fp ws St K => ?_)
 obtain ⟨ss', hw1, hw2⟩ := K.txt
 have hws : ws.length = ss.length := by rw [StrsAre.length hw1]; exact hw2.length_eq
 have hSf : S ∉ fp := fun z => (K.new S z).elim hSa fun q => Nat.lt_irrefl _ (Nat.lt_of_lt_of_le hSlt q)
 have hSI : S ≠ I := fun e => Nat.lt_irrefl _ (Nat.lt_of_lt_of_le hSlt (e ▸ K.newI))
 have hn : ss.length <= sizeLine := by rw [sizeLine_eq]; omega
 have key : ∀ (h : Heap) (c₁ : Nat), St 0 h -> (∀ b o, b ≠ S -> s₁.heap.get? b = some o -> h.get? b = some o) -> h.get? S = some { cls := .type "list", data := .seq #[] c₁ } ->
   codeAny (model prog w) A (.builtin "list.extend.loop" ⟨[.ref S, .ref I, res], []⟩) R { s₁ with heap := h } := by
  intro h c₁ st hk hS1
  refine codeAny_extend_loopS K.wk.toS hn S hSf res ss.length 0 _ #[] c₁ rfl (Nat.zero_le _) st hS1 (ItemsOf.nil _) fun s' acc c' hm hS' hacc => ?_
  rw [<- rm hws hacc] at hw1
  refine hR s' acc c' ss' (hm.os.trans K.os) ((show s'.gens = s₁.gens from hm.gens).trans K.gens) (fun b ob hb e => hm.heap b ob (fun z => ?_) (hk b ob hb (K.keep b ob e))) hS' hw1 hw2
  rcases List.mem_cons.mp z with z | z
  ·exact hb z
  ·exact absurd (Heap.lt_size e) (by rw [List.mem_singleton.mp z]; exact Nat.not_lt.mpr K.newI)
 have hS1 := K.keep _ _ hS
 have hT1 : s₁.TypeIs (.ref a) "set" := ⟨o, K.keep _ _ ho, x.cls⟩
 refine wpAny_bind (wpAny_holding (rL hT1 fun hb => ?_))
 refine wpAny_ite_split (fun _ => ?_) (fun _ => wpAny_pure ⟨plainId_quiet PySem.F.plain_extend_loop _, key _ c₀ K.st (fun b ob _ e => e) hS1⟩)
 refine wpAny_bind (wpAny_rule ?_)
 refine wpAny_bind ?_
 show wpAny _ _ (updateSeq S (·.push .none) >>= fun _ => updateSeq S (·.pop)) _ _ _
 refine wpAny_bind (wpAny_updateSeq hS1 rfl ?_)
 have hS2 := Heap.get?_update_self (Obj.mapSeq (·.push Value.none)) hS1 rfl
 refine wpAny_updateSeq (hz := by seq_fits) hS2 rfl ?_
 have hS3 := Heap.get?_update_self (Obj.mapSeq (·.pop)) hS2 rfl
 refine wpAny_pure ⟨plainId_quiet PySem.F.plain_extend_loop _, key _ _ (K.wk.frame 0 _ _ K.st fun b hb ob e => ?_) (fun b ob hb e => ?_) hS3⟩
 ·have hbS : b ≠ S := fun z => hSf (z ▸ hb)
  exact (Heap.get?_update_other _ _ (Ne.symm hbS)).trans ((Heap.get?_update_other _ _ (Ne.symm hbS)).trans e)
 ·exact (Heap.get?_update_other _ _ (Ne.symm hb)).trans ((Heap.get?_update_other _ _ (Ne.symm hb)).trans e)
theorem oz {R : List Value -> Shared -> Prop} {a : Addr} {o : Obj} {ss : List Str} {es : Array (Int × Value)} {ep : Nat} {t : SetTable} (hh : A.handled = none) (ho : s.heap.get? a = some o) (x : aU w o ss es ep t)
  (h : ∀ (s' : Shared) (acc : List Value) ss', s'.os = s.os -> s'.gens = s.gens -> (∀ b o, s.heap.get? b = some o -> s'.heap.get? b = some o) -> StrsAre acc ss' -> ss'.Perm ss -> R acc s') :
  wpAny (model prog w) A (collect (.ref a)) R E s := by
 unfold collect
 refine wpAny_bind (wpAny_runValue (codeAny_builtin entry_proto_collect' ?_))
 rw [Around.under_plainId PySem.F.plain_proto_collect _]
 show wpAny _ A.in1 (newList [] >>= fun l => again (.builtin "list.__iadd__" ⟨[l, .ref a], []⟩)) _ _ s
 refine wpAny_bind (wpAny_newObj_type ?_)
 refine wpAny_pure ⟨plainId_quiet PySem.F.plain_list_iadd _, codeAny_builtin entry_list_iadd' ?_⟩
 rw [Around.under_plainId PySem.F.plain_list_iadd _]
 have hS1 : (s.heap.push { cls := .type "list", data := .seq ([] : List Value).toArray }).get? s.heap.objs.size = some { cls := .type "list", data := .seq #[] } := Heap.get?_push_size _ rfl
 have hla : s.heap.objs.size ≠ a := Nat.ne_of_gt (Heap.lt_size ho)
 show wpAny _ A.in1 (Builtin.List.listExtendWith (.ref s.heap.objs.size) (.ref a) (.ref s.heap.objs.size)) _ _ _
 have key := oJ (prog := prog) (A := A) (s := { s with heap := s.heap.push { cls := .type "list", data := .seq ([] : List Value).toArray } })
  (R := fun (q : Result) (s' : Shared) => ∃ (acc : Array Value) (c' : Nat) (ss' : List Str), q = .ok (.ret (.ref s.heap.objs.size)) /\ s'.os = s.os /\ s'.gens = s.gens /\
   (∀ b o, s.heap.get? b = some o -> s'.heap.get? b = some o) /\ s'.heap.get? s.heap.objs.size = some { cls := .type "list", dict := none, data := .seq acc c', slots := #[] } /\ StrsAre acc.toList ss' /\ ss'.Perm ss)
  hh (Heap.get?_push_of_some _ ho) x (.ref s.heap.objs.size) 0 hla hS1
  (fun s' acc c' ss' z1 z2 z3 z4 z5 z6 => ⟨acc, c', ss', rfl, z1, z2, fun b ob e => z3 b ob (Nat.ne_of_lt (Heap.lt_size e)) (Heap.get?_push_of_some _ e), z4, z5, z6⟩)
 refine wpAny_mono key (fun fin s' y => ?_) fun e s' y => ?_
 ·cases fin with
  | done f =>
   obtain ⟨acc, c', ss', e, z1, z2, z3, z4, z5, z6⟩ := y
   cases e
   show wpAny _ A (load s.heap.objs.size >>= _) _ _ _
   exact wpAny_bind (wpAny_load z4 (wpAny_pure (h s' acc.toList ss' z1 z2 z3 z5 z6)))
  | again c₁ =>
   refine ⟨y.1, codeAny_mono y.2 fun q s₂ y => ?_⟩
   obtain ⟨acc, c', ss', rfl, z1, z2, z3, z4, z5, z6⟩ := y
   show wpAny _ A (load s.heap.objs.size >>= _) _ _ _
   exact wpAny_bind (wpAny_load z4 (wpAny_pure (h s₂ acc.toList ss' z1 z2 z3 z5 z6)))
 ·obtain ⟨_, _, _, e', _⟩ := y
  cases e'
end
noncomputable def bN (w : World) (a : Addr) (ss : List Str) : HO := .ext fun h => ∃ o es ep t, h.get? a = some o /\ aU w o ss es ep t
section
variable {X : Cx}
theorem lN {P : Program} {w : World} {H : Hp} {h : Heap} {a : Addr} {ss : List Str} {o : Obj} {es : Array (Int × Value)} {ep : Nat} {t : SetTable} (ho : h.get? a = some o) (x : aU w o ss es ep t) : aC P w H h a (bN w a ss) :=
 ⟨⟨o, es, ep, t, ho, x⟩, ⟨o, ho⟩, fun h1 h2 ⟨o, es, ep, t, q, y⟩ k => ⟨o, es, ep, t, k o q, y⟩⟩
theorem Inv.draw {pins : List (Addr × Obj)} {σ : List (Option V)} {H : Hp} {s s' : Shared} (I : Inv X pins σ H s) (h1 : s'.os = s.os) (h2 : s'.gens = s.gens) (h3 : s'.heap = s.heap) : Inv X pins σ H s' := by
 obtain ⟨a1, a2, a3, a4, a5, a6, a7, a8, a9, a10, a11⟩ := I
 exact ⟨a1, h1.trans a2, by rw [h2]; exact a3, by rw [h3]; exact a4, by rw [h3]; exact a5, by rw [h3]; exact a6, a7, a8, by rw [h3]; exact a9, by rw [h3]; exact a10, a11⟩
theorem pS (hc : X.calm = true) : bp X (.type "set") (fun xs H Q => ∃ (p : Addr) (ss : List Str), xs = [.ref p] /\ SqT X.K H p (ss.map V.str) /\ ss.length < 3000 /\
  ∀ (a : Addr), H a = none -> Q (.ref a) (upd H a (bN X.w a (aY ss.reverse)))) := by
 intro pins s σ H xs us Q I r h
 obtain ⟨p, ss, rfl, hq, h3, q⟩ := h
 obtain ⟨u, rfl, rx⟩ := vals1 r
 cases rx
 obtain ⟨its, r', hp, hz⟩ := I.tuple hq
 refine og (I.ok.hd hc) hp r' (by omega) fun h' tk o' es' ep' t' kp ho x => ?_
 exact ⟨.ref s.heap.objs.size, _, I.laid (h' := h') (t' := tk) (o := bN X.w s.heap.objs.size (aY ss.reverse)) kp (Nat.le_refl _) (lN ho x), rfl, q _ (I.hok.fresh (Nat.le_refl _))⟩
theorem pV (hc : X.calm = true) : bp X (.type "set") (fun xs H Q => ∃ (p : Addr) (ss : List Str), xs = [.ref p] /\ SqL X.K H p (ss.map V.str) /\ ss.length < 3000 /\
  ∀ (a : Addr), H a = none -> Q (.ref a) (upd H a (bN X.w a (aY ss.reverse)))) := by
 intro pins s σ H xs us Q I r h
 obtain ⟨p, ss, rfl, hq, h3, q⟩ := h
 obtain ⟨u, rfl, rx⟩ := vals1 r
 cases rx
 obtain ⟨its, r', hp, hz⟩ := I.list hq
 refine om (I.ok.hd hc) hp.isList r' (by omega) fun h' tk o' es' ep' t' kp ho x => ?_
 exact ⟨.ref s.heap.objs.size, _, I.laid (h' := h') (t' := tk) (o := bN X.w s.heap.objs.size (aY ss.reverse)) kp (Nat.le_refl _) (lN ho x), rfl, q _ (I.hok.fresh (Nat.le_refl _))⟩
theorem qL : bp X (.builtin "len") (fun xs H Q => ∃ (a : Addr) (ss : List Str), xs = [.ref a] /\ H a = some (bN X.w a ss) /\ Q (.int ss.length) H) := by
 intro pins s σ H xs us Q I r h
 obtain ⟨a, ss, rfl, ha, q⟩ := h
 obtain ⟨u, rfl, rx⟩ := vals1 r
 cases rx
 obtain ⟨⟨o, es, ep, t, ho, x⟩, _, _⟩ := I.hok a _ ha
 have hf := x.few
 have hz := x.size
 refine call_len_set ho ⟨x.cls, x.dic, x.slo⟩ x.dat x.fit (by omega) ?_
 rw [hz]
 exact ⟨.int ss.length, H, I.tok _, ⟨_, rfl⟩, q⟩
theorem n0 (hc : X.calm = true) : bp X (.builtin "sorted") (fun xs H Q => ∃ (a : Addr) (ss : List Str), xs = [.ref a] /\ H a = some (bN X.w a ss) /\ ss.length < 64 /\
  ∀ (ss' : List Str) (q : Addr), ss'.Perm ss -> sortedS ss' = true -> H q = none -> Q (.ref q) (upd H q (.lst (ss'.map V.str)))) := by
 intro pins s σ H xs us Q I r h
 obtain ⟨a, ss, rfl, ha, h64, q⟩ := h
 obtain ⟨u, rfl, rx⟩ := vals1 r
 cases rx
 obtain ⟨⟨o, es, ep, t, ho, x⟩, _, _⟩ := I.hok a _ ha
 refine call_function_entry kind_sorted plain_sorted entry_sorted (args_sorted1 _) ?_
 unfold Builtin.«sorted»
 refine wpAny_bind (m := checkCount "sorted" 1 1 _) (wpAny_pure ?_)
 refine wpAny_bind (oz (A := X.A.in1) (I.ok.hd hc) ho x fun s1 acc ss1 z1 z2 kp hS hpm => ?_)
 have hl1 : acc.length = ss.length := by rw [StrsAre.length hS]; exact hpm.length_eq
 refine wpAny_bind (wpAny_newList ?_ (by rw [hl1, sizeLine_eq]; omega))
 have hoL : (s1.heap.push (seqObj "list" acc.toArray 0)).get? s1.heap.objs.size = some (seqObj "list" acc.toArray 0) := Heap.get?_push_size _ rfl
 show wpAny _ _ _ _ _ { s1 with heap := s1.heap.push (seqObj "list" acc.toArray 0) }
 refine wpAny_bind (wpAny_holding (wpAny_call_entry slot_list_sort ⟨_, hoL, rfl⟩ entry_list_sort (list_sort_treeK (s := { s1 with heap := s1.heap.push (seqObj "list" acc.toArray 0) }) strKind_oneLt hoL hS.keysOf (fun v₁ v₂ rest e => keyKind_strs (by rw [<- e]; exact hS)) (by rw [hl1]; omega) fun st' a1 a2 => ⟨_, rfl, ?_⟩) (args_list_sort _)))
 obtain ⟨ss', h1, h2, h3⟩ := sorted_out_str hS a1 a2
 refine wpAny_pure ⟨_, rfl, ?_⟩
 obtain ⟨e, he⟩ := sortedHeap_at (h := s1.heap.push (seqObj "list" acc.toArray 0)) (out := (arrOf st').map (·.2)) hoL
 have hnone : s.heap.get? s1.heap.objs.size = none := by
  cases e0 : s.heap.get? s1.heap.objs.size with
  | none => rfl
  | some o => exact absurd (Heap.lt_size (kp _ _ e0)) (Nat.lt_irrefl _)
 have hold : ∀ b o, s.heap.get? b = some o -> (sortedHeap (s1.heap.push (seqObj "list" acc.toArray 0)) s1.heap.objs.size acc ((arrOf st').map (·.2))).get? b = some o := fun b o eb => by
  have l1 := Heap.lt_size (kp b o eb)
  rw [sortedHeap_old (Nat.ne_of_lt l1) (by rw [size_push']; exact Nat.lt_succ_of_lt l1)]
  exact Heap.get?_push_of_some _ (kp b o eb)
 have hfr : H s1.heap.objs.size = none := I.hok.freeN hnone
 have hv' : ao (ss'.map V.str) ((arrOf st').map (·.2)).toList := ir h1
 have I2 := I.laidN (h' := sortedHeap (s1.heap.push (seqObj "list" acc.toArray 0)) s1.heap.objs.size acc ((arrOf st').map (·.2))) (t' := s1.toks) (o := .lst (ss'.map V.str)) hold hnone ⟨(by rw [List.length_map, (h2.trans hpm).length_eq, sizeLine_eq]; omega), ((arrOf st').map (·.2)).toList, e, hv', (by rw [Array.toArray_toList]; exact he)⟩
 exact ⟨.ref s1.heap.objs.size, _, I2.draw z1 z2 rfl, rfl, q ss' _ (h2.trans hpm) h3 hfr⟩
end
section
variable {X : Cx} {tg : Expr}
end
end L2
namespace L2
open PySem
section
variable {X : Cx} {scope : Scope} {N : List Str} {ix : List (Option Nat)}
variable {tg iter kx vx : Expr} {ifs : List Expr} {pos : Pos} {g : TG} {tt : TT} {tk tv : TE}
noncomputable def tDc (wi : TI) (g : TG) (tt : TT) (tk tv : TE) (ix : List (Option Nat)) : TE := fun σ H Q => wi σ H fun J H1 => ∀ D, H1 D = none -> DcW D J g tt tk tv (emb ix σ) (fun H' => Q (.ref D) H') (upd H1 D (.dT []))
theorem vR {wi : TI} (hu : X.A.units < cLine) (L : bD X scope N ix) (hc : X.calm = true) (hi : PI X tg iter wi) (hg : ∀ C s0 H0 fp, PG (aF X scope N C s0 H0 fp) tg g)
  (ht : ∀ C s0 H0 fp, PTs (aF X scope N C s0 H0 fp) ifs tt) (hk : ∀ C s0 H0 fp, PE (aF X scope N C s0 H0 fp) kx tk) (hv : ∀ C s0 H0 fp, PE (aF X scope N C s0 H0 fp) vx tv) (hs : ∀ x, foldedSetIterable iter X.env x = pure x := by intro _; rfl) :
  PE X (.DictComp kx vx [⟨tg, iter, ifs, 0⟩] scope pos) (tDc wi g tt tk tv ix) := by
 intro pins s σ H Q I h
 show wpAny _ X.A (comprehension (.DictComp kx vx [⟨tg, iter, ifs, 0⟩] scope pos) scope X.env _ newDict false (eval iter X.env)) _ _ s
 refine wpAny_comprehension_free (use := none) rfl hs (L.clos I.ok) L.kind L.locals (thn (hi pins s σ H _ I h) fun v s1 h1 => thn h1 fun itv s2 h2 => ?_)
 obtain ⟨it, fp, tn, J, H2, rfl, I2, T, st2, f2, hW⟩ := h2
 refine mJ (RR := fun acc C => compPost (model X.prog X.w) X.A X.xe none (EP X pins σ Q) acc C) L hc hu hg ht hk hv I2 T st2 f2 hW ?_
 intro D C s' m H' hn ho hC hI fin
 exact ⟨m, hn, fun h' hs' => ⟨.ref D, _, hI h' hs', rfl, fin⟩⟩
theorem Inv.thaw {pins : List (Addr × Obj)} {σ : St} {H : Hp} {s : Shared} {a : Addr} {o : Obj} {u : HO} (I : Inv X pins σ H s) (e : H a = some (.frz o u)) (h0 : ∀ o u, X.H₀ a ≠ some (.frz o u)) (hx : ∀ xs, u ≠ .tup xs) (hy : ∀ y, u ≠ .own y) : Inv X pins σ (upd H a u) s := by
 have ne : ∀ b v, H b = some v -> (∀ o u, v ≠ .frz o u) -> b ≠ a := fun b v q n z => by
  rw [z, e] at q
  cases q
  exact n _ _ rfl
 have st : ∀ {b : Addr} {v : HO}, aC X.prog X.w H s.heap b v -> aC X.prog X.w (upd H a u) s.heap b v := fun x => x.stay (fun _ _ _ q => q) (fun b q => by rw [ag (ne b _ q (by intro k l z; cases z))]; exact q) fun b xs q => by rw [ag (ne b _ q (by intro k l z; cases z))]; exact q
 have hok : HOk X.prog X.w (upd H a u) s.heap := fun b v q => by
  by_cases hb : b = a
  ·subst hb
   rw [ai] at q
   cases q
   exact st (I.hok b _ e).2
  ·rw [ag hb] at q
   exact st (I.hok b v q)
 have fr : ∀ b, H b = none -> upd H a u b = none := fun b n => by rw [ag (fun z => by rw [z, e] at n; cases n)]; exact n
 exact ⟨I.ok, I.os, I.bare, ⟨I.base.keep, I.base.slot, fun b o q n hx => fr b (I.base.free b o q n hx), I.base.there,
  fun b xs q => by rw [ag (ne b _ (I.base.tups b xs q) (by intro k l z; cases z))]; exact I.base.tups b xs q,
  fun b o' v q => by rw [ag (fun z => h0 o' v (by rw [<- z]; exact q))]; exact I.base.frzs b o' v q,
  fun b ps q => by
   obtain ⟨m, e'⟩ := I.base.tbls b ps q
   exact ⟨m, by rw [ag (ne b _ e' (by intro k l z; cases z))]; exact e'⟩⟩, I.loc, I.cell, fr _ I.free, fun x c q => fr c (I.freeC x c q), fun p hp => by
  obtain ⟨a1, a2, a3⟩ := I.pin p hp
  exact ⟨a1, fr _ a2, a3⟩, hok, I.len⟩
end
noncomputable def iOr (t u : TI) : TI := fun σ H R => t σ H R \/ u σ H R
theorem gx {X : Cx} {tg l : Expr} {t u : TI} (h1 : PI X tg l t) (h2 : PI X tg l u) : PI X tg l (iOr t u) := fun pins s σ H R I h =>
 h.elim (h1 pins s σ H R I) (h2 pins s σ H R I)
theorem iC {K : PySem.W.Frag} {tl : TE} {g : TG} {tb : TS} {D : Ends} {σ : St} {H Hb : Hp} {a : Addr} {xs : List V} (htl : ∀ Q : VK, Q (.ref a) H -> tl σ H Q) (hb : Hb a = some (.lst xs) \/ Hb a = some (.tup xs)) (s0 : aj Hb H) (Pv : Nat -> St -> Hp -> Prop) (h0 : Pv 0 σ H) (hl : ∀ i σ' H', i <= xs.length -> Pv i σ' H' -> aj Hb H')
  (hs : ∀ i x σ H, xs[i]? = some x -> Pv i σ H -> g x σ H fun σ2 H2 => tb { D with nx := Pv (i + 1), ct := Pv (i + 1), bk := D.nx } σ2 H2) (hd : ∀ σ H, Pv xs.length σ H -> D.nx σ H) : nB (iOr (jk K tl) (jA K tl)) g tb D σ H := by
 rcases hb with hb | hb
 ·exact .inl (htl _ ⟨a, rfl, ⟨xs, SqL.of (s0 _ _ hb)⟩, eK Pv h0 (fun i σ H' hi p => SqL.of (hl i σ H' hi p _ _ hb)) hs hd⟩)
 ·exact .inr (htl _ ⟨a, rfl, ⟨xs, SqT.of (s0 _ _ hb)⟩, lX Pv h0 (fun i σ H' hi p => SqT.of (hl i σ H' hi p _ _ hb)) hs hd⟩)
theorem qT {g : TG} {tt : TT} {te : TE} {σ' : St} {fin : List V -> Hp -> Prop} {H1 : Hp} {a : Addr} {o : Obj} {kvs : List (List Key × V)} (hn : kvs.length < sizeLine) (Pv : Nat -> List V -> St -> Hp -> Prop) (h0 : Pv 0 [] σ' H1) (hl : ∀ i ys σ H, i <= kvs.length -> Pv i ys σ H -> ys.length <= i /\ H a = some (.frz o (.dT kvs)))
  (hs : ∀ i p b ys σ H, kvs[i]? = some p -> H b = some (.tup (p.1.map kV)) -> Pv i ys σ H -> g (.ref b) σ H fun σ2 H2 => tt σ2 H2 fun b H3 => if b = true then te σ2 H3 (fun v H4 => Pv (i + 1) (ys ++ [v]) σ2 H4) else Pv (i + 1) ys σ2 H3) (hd : ∀ ys σ H, Pv kvs.length ys σ H -> fin ys H) :
  LcW (Itd a o) g tt te σ' fin H1 := by
 refine ⟨fun i m ys σ H => m = kvs.length - i /\ i <= kvs.length /\ Pv i ys σ H, ⟨kvs.length, by simp, Nat.zero_le _, h0⟩, ?_⟩
 rintro i m ys σ H ⟨rfl, hi, p⟩
 obtain ⟨q0, q1⟩ := hl i ys σ H hi p
 by_cases h : i < kvs.length
 ·refine .inr ⟨⟨kvs, q1, h⟩, by omega, fun ys' σ2 H2 => Pv (i + 1) ys' σ2 H2, fun ys' σ2 H2 q => ⟨kvs.length - (i + 1), by omega, rfl, h, q⟩, fun v H' y => ?_⟩
  obtain ⟨rfl, y⟩ := y
  obtain ⟨p', b, e1, rfl, e2⟩ := y kvs q1
  exact hs i p' b ys σ H' e1 e2 p
 ·have e : i = kvs.length := by omega
  subst e
  exact .inl ⟨⟨kvs, q1, Nat.le_refl _⟩, by omega, hd ys σ H p⟩
theorem sj {a : Addr} {o : Obj} {kvs : List (List Key × V)} {g : TG} {tb : TS} {D : Ends} {σ : St} {H : Hp} (Pv : Nat -> St -> Hp -> Prop) (h0 : Pv 0 σ H) (hl : ∀ i σ H, i <= kvs.length -> Pv i σ H -> H a = some (.frz o (.dT kvs)))
  (hs : ∀ i p b σ H, kvs[i]? = some p -> H b = some (.tup (p.1.map kV)) -> Pv i σ H -> g (.ref b) σ H fun σ2 H2 => tb { D with nx := Pv (i + 1), ct := Pv (i + 1), bk := D.nx } σ2 H2) (hd : ∀ σ H, Pv kvs.length σ H -> D.nx σ H) :
  ∃ W : Nat -> Nat -> St -> Hp -> Prop, (∃ m, W 0 m σ H) /\ ∀ i m σ H, W i m σ H ->
   ((Itd a o).stop i H /\ D.nx σ H) \/ ((Itd a o).go i H /\ ∃ N : St -> Hp -> Prop, (∀ σ' H', N σ' H' -> ∃ m', m' < m /\ W (i + 1) m' σ' H') /\ ∀ x H', (Itd a o).yld i H x H' -> g x σ H' fun σ2 H2 => tb { D with nx := N, ct := N, bk := D.nx } σ2 H2) := by
 refine ⟨fun i m σ H => m = kvs.length - i /\ i <= kvs.length /\ Pv i σ H, ⟨kvs.length, by simp, Nat.zero_le _, h0⟩, ?_⟩
 rintro i m σ H ⟨rfl, hi, p⟩
 have q := hl i σ H hi p
 by_cases hlt : i < kvs.length
 ·refine .inr ⟨⟨kvs, q, hlt⟩, Pv (i + 1), fun σ' H' p' => ⟨kvs.length - (i + 1), by omega, rfl, hlt, p'⟩, fun x H' y => ?_⟩
  obtain ⟨e, y⟩ := y
  subst e
  obtain ⟨p', b, e1, rfl, e2⟩ := y kvs q
  exact hs i p' b σ _ e1 e2 p
 ·have e : i = kvs.length := by omega
  subst e
  exact .inl ⟨⟨kvs, q, Nat.le_refl _⟩, hd σ H p⟩
end L2
namespace L2
open PySem PySem.Spec PyProof.Rows PySem.W PySem.Calls
open Builtin
end L2
namespace L2
open PySem PySem.Spec PyProof.Rows
open AutoSeq1 (wpAny_loadPart')
section
variable {prog : Program} {w : World} {A : Around} {E : Value -> Shared -> Prop} {s : Shared}
theorem mE (hh : A.handled = none) (it t : Addr) (ne : t ≠ it) (its : Array Value) : Draws prog w A it [it, t] its.size (fun i v => its[i]? = some v) (fun i h => h.IsTupleIter it t i /\ h.IsTuple t its) where
 live := fun _ _ st => let ⟨o, ho, _⟩ := st.1; ⟨o, ho⟩
 frame := fun _ _ _ st k => ⟨st.1.at fun o e => k it (by simp) o e, st.2.at fun o e => k t (by simp) o e⟩
 item := fun i s Q E hi st q => lW st.1 st.2 (v := its[i]) (by simp [hi]) fun G j b => q _ G s.toks (by simp [hi]) ⟨j, st.2.extBut b.extBut ne⟩ b
 done := fun s Q E st k => mF hh st.1 st.2 (by simp) k
theorem sF (t : Addr) (its : Array Value) : Meets (Builtin.«enumerate.__new__» ⟨[.type "enumerate", .ref t], []⟩) (fun _ R s => s.heap.IsTuple t its /\
   R (.ok (.ret (.ref (s.heap.push { cls := .type "tuple_iterator", data := .fields #[.ref t, .int 0 0] }).objs.size)))
    { s with heap := (s.heap.push { cls := .type "tuple_iterator", data := .fields #[.ref t, .int 0 0] }).push { cls := .type "enumerate", data := .fields #[.none, .bool false, .ref s.heap.objs.size, rawInt 0, .none, .none] } }) :=
 .of_wp fun prog w A R s h => by
  obtain ⟨hp, g, d, tk, os⟩ := s; obtain ⟨hT, h⟩ := h
  have sb := sub_enumerate; obtain ⟨o, ho, _⟩ := id hT
  wp_walk using wpAny_loadPart' ho
  refine wpAny_stack_any fun st => wpAny_pure ?_
  split
  ·rename_i c _ _ _ _ _
   cases (c == Value.type "enumerate") <;> (wp_walk using wpAny_loadPart' ho, wpAny_pyIter_tuple hT; exact ⟨_, rfl, h⟩)
  ·wp_walk using wpAny_loadPart' ho, wpAny_pyIter_tuple hT; exact ⟨_, rfl, h⟩
theorem uo {t : Addr} {its : Array Value} {Q : Value -> Shared -> Prop} (hT : s.heap.IsTuple t its)
  (q : ∀ G, IsEnum G (s.heap.objs.size + 1) s.heap.objs.size 0 .none -> G.IsTupleIter s.heap.objs.size t 0 -> (∀ c o, s.heap.get? c = some o -> G.get? c = some o) -> Q (.ref (s.heap.objs.size + 1)) { s with heap := G }) :
  wpAny (model prog w) A (call (.type "enumerate") [.ref t]) Q E s := by
 refine callType_new F.called_enumerate (by decide) (F.typeCall_enumerate_1 _) (F.newCall_enumerate_1 _) (fun obj => F.args_object_init_2 obj _) F.entry_enumerate_new (sF t its) ⟨hT, ?_⟩
 have z : (s.heap.push { cls := .type "tuple_iterator", data := .fields #[.ref t, .int 0 0] }).objs.size = s.heap.objs.size + 1 := Heap.size_push ..
 have g2 := Heap.get?_push_size (s.heap.push { cls := .type "tuple_iterator", data := .fields #[.ref t, .int 0 0] }) (o := { cls := .type "enumerate", data := .fields #[.none, .bool false, .ref s.heap.objs.size, rawInt 0, .none, .none] }) rfl
 show _ /\ _
 rw [z] at g2 ⊢
 exact ⟨⟨_, g2, rfl⟩, q _ g2 ⟨_, Heap.get?_push_of_some _ (Heap.get?_push_size _ rfl), rfl, rfl⟩ fun c o e => Heap.get?_push_of_some _ (Heap.get?_push_of_some _ e)⟩
end
noncomputable def ItT (K : PySem.W.Frag) (a : Addr) : It :=
 ⟨fun i H => ∃ xs x, SqT K H a xs /\ xs[i]? = some x,
  fun i H v H' => ∃ T x, v = .ref T /\ H T = none /\ H' = upd H T (.tup [.int i, x]) /\ ∀ xs, SqT K H a xs -> xs[i]? = some x,
  fun i H => ∃ xs, SqT K H a xs /\ xs.length = i⟩
noncomputable def wq (e it l : Addr) (i : Nat) (h : Heap) : Prop := (∃ old, IsEnum h e it i old) /\ h.IsTupleIter it l i
theorem ug {P : Program} {w : World} {K : PySem.W.Frag} {elts : List Expr} {x1} {pos : Pos} (e it l : Addr) (hei : e ≠ it) (hle : l ≠ e) (hli : l ≠ it) :
  Turn P w K (.Tuple elts x1 pos) (ItT K l) [e, it] e (wq e it l) where
 mem := by simp
 obj := fun i h st b hb => by
  obtain ⟨⟨old, he⟩, ⟨o1, e1, c1, d1⟩⟩ := st
  simp only [List.mem_cons, List.not_mem_nil, or_false] at hb
  rcases hb with rfl | rfl
  ·exact ⟨_, he, fun v q => by cases q⟩
  ·exact ⟨_, e1, fun v q => by rw [d1] at q; cases q⟩
 keep := fun i h h' st k => by
  obtain ⟨⟨old, he⟩, h1⟩ := st
  exact ⟨⟨old, k e (by simp) _ he⟩, h1.at fun o q => k it (by simp) o q⟩
 item := by
  intro X hP hw hK hc i pins s σ H E I hf st hg
  subst hP hw hK
  obtain ⟨xs, x, hq1, hx⟩ := hg
  obtain ⟨⟨old, he⟩, h1⟩ := id st
  obtain ⟨its1, rv1, p1, hz1⟩ := I.tuple hq1
  obtain ⟨u1, hu1, ru1⟩ := rv1.get hx
  have hlt : i < its1.toArray.size := by
   have := (List.getElem?_eq_some_iff.mp hu1).1
   simpa using this
  refine wpAny_pyNext_enum_itemD (mE (A := X.A.in1) (I.ok.hd hc) it l hli its1.toArray) he ⟨h1, p1⟩ hlt hei (by simp [hei, hle.symm]) fun x' h' tk hx' a1 a2 a3 a4 a5 => ?_
  have ex : x' = u1 := by
   have : its1.toArray[i]? = some u1 := by simpa using hu1
   exact Option.some.inj (hx'.symm.trans this)
  subst ex
  refine ⟨_, rfl, wpAny_letOwnedTupleGo_enum (s := { s with heap := h', toks := tk + 1 }) a1 fun h'' z2 sb => ?_⟩
  have sb' := sb.extBut
  generalize hT : s.heap.objs.size = T at *
  have lt : ∀ {b : Addr} {o : Obj}, s.heap.get? b = some o -> b ≠ T := fun {b o} e => by rw [<- hT]; exact Nat.ne_of_lt (Heap.lt_size e)
  have fresh : H T = none := by rw [<- hT]; exact I.hok.fresh (Nat.le_refl _)
  have hne : ∀ b ∈ [e, it], b ≠ T := fun b hb => by
   obtain ⟨o1, e1, _⟩ := h1
   simp only [List.mem_cons, List.not_mem_nil, or_false] at hb
   rcases hb with rfl | rfl
   ·exact lt he
   ·exact lt e1
  have I0 : Inv X pins σ (upd H T (.tup [.int i, x])) { s with heap := s.heap.push { cls := .type "tuple", data := .seq #[.int i tk, x'] }, toks := s.toks } := by
   subst hT
   exact I.laid (t' := s.toks) (fun b o q => Heap.get?_push_of_some _ q) (Nat.le_refl _) ⟨by show 2 <= sizeLine; decide, [.int i tk, x'], .cons ⟨_, rfl⟩ (.cons ru1 .nil), _, Heap.get?_push_size _ rfl, rfl, 0, rfl⟩
  have up : ∀ b o, b ∉ [e, it] -> (s.heap.push { cls := .type "tuple", data := .seq #[.int i tk, x'] }).get? b = some o -> h''.get? b = some o := fun b o hb q => by
   simp only [List.mem_cons, List.not_mem_nil, or_false, not_or] at hb
   rcases Heap.get?_push_cases q with ⟨e1, e2⟩ | e1
   ·subst e2
    rw [e1, hT]
    exact sb' _ _ (hne e (by simp)).symm a3
   ·exact sb' _ _ hb.1 (a5 b o hb.1 hb.2 e1)
  have I2 : Inv X pins σ (upd H T (.tup [.int i, x])) { s with heap := h'', toks := tk + 1 } := Inv.turnedS (s := { s with heap := s.heap.push { cls := .type "tuple", data := .seq #[.int i tk, x'] }, toks := s.toks }) (t' := tk + 1) (ch := [e, it]) I0 up fun b hb => by
   obtain ⟨f0, f1⟩ := hf b hb
   exact ⟨by rw [ag (hne b hb)]; exact f0, f1⟩
  exact ⟨.ref T, upd H T (.tup [.int i, x]), I2, rfl, ⟨T, x, rfl, fresh, rfl, fun ws hw => by rw [I.tuple_inj hw hq1]; exact hx⟩,
   ⟨⟨_, by simpa using z2⟩, a2.1.at fun o q => sb' _ _ hei.symm q⟩, fun b hb => by rw [ag (hne b hb)]; exact (hf b hb).1⟩
 done := by
  intro X hP hw hK hc i pins s σ H E I hf st hg
  subst hP hw hK
  obtain ⟨xs, hq1, hx⟩ := hg
  obtain ⟨⟨old, he⟩, h1⟩ := id st
  obtain ⟨its1, rv1, p1, hz1⟩ := I.tuple hq1
  have hl1 := rv1.length
  have en : i = its1.toArray.size := by simp; omega
  subst en
  refine wpAny_pyNext_enum_endD (mE (A := X.A.in1) (I.ok.hd hc) it l hli its1.toArray) he ⟨h1, p1⟩ fun h' hk => ⟨rfl, I.turnedS (t' := s.toks) (ch := [e, it]) (fun b o hb q => ?_) hf⟩
  simp only [List.mem_cons, List.not_mem_nil, or_false, not_or] at hb
  exact hk b o hb.2 q
 self := fun _ _ _ _ _ st h => by obtain ⟨⟨old, he⟩, _⟩ := st; exact wpAny_pyIter_enum he h
section
variable {X : Cx}
noncomputable def wW (K : PySem.W.Frag) (ta : TA) : TI := fun σ H R => ta σ H fun vs H1 => ∃ a xs, vs = [.ref a] /\ SqT K H1 a xs /\ R (ItT K a) H1
theorem uY {a : Expr} {elts : List Expr} {x1} {tpos : Pos} {ta : TA} {p pos : Pos} (hg : Gl X "enumerate") (hm : X.mg "enumerate" = none) (ha : PA X [a] ta) (hs : starEach [a] X.env = [(false, eval a X.env)] := by rfl) :
  PI X (.Tuple elts x1 tpos) (.Call (.Name "enumerate" p) [a] [] pos) (wW X.K ta) := by
 intro pins s σ H R I h
 refine Call_ (dA I hg hm qH (PyProof.Rows.callWith_type1 (thn (ha pos pins s σ H _ I h) fun us s1 ⟨vs, H1, I1, r1, q1⟩ => ?_) (by rw [hs]; rfl) rfl))
 obtain ⟨a', xs, rfl, hq1, q⟩ := q1
 obtain ⟨u1, rfl, ra⟩ := vals1 r1
 cases ra
 obtain ⟨its1, rv1, p1, hz1⟩ := I1.tuple hq1
 have hlt : a' < s1.heap.objs.size := by obtain ⟨o, ho, _⟩ := id p1; exact Heap.lt_size ho
 refine uo p1 fun G he hit hk => wpAny_pyIter_enum he ?_
 refine ⟨s1.heap.objs.size + 1, [s1.heap.objs.size + 1, s1.heap.objs.size], _, _, H1, rfl, I1.kept (t' := s1.toks) hk, ug _ _ _ (Nat.succ_ne_self _) (Nat.ne_of_lt (Nat.lt_succ_of_lt hlt)) (Nat.ne_of_lt hlt), ⟨⟨_, he⟩, hit⟩, fun b hb => ?_, q⟩
 have hle : s1.heap.objs.size <= b := by
  simp only [List.mem_cons, List.not_mem_nil, or_false] at hb
  rcases hb with rfl | rfl
  ·exact Nat.le_add_right _ _
  ·exact Nat.le_refl _
 exact I1.fpOk hle (I1.hok.fresh hle)
end
end L2
namespace L2
open PySem
noncomputable def vS (H0 : Hp) (t : TS) : TS := fun D σ H => t { D with nx := fun σ' H' => ∃ a o kvs, H' a = some (.frz o (.dT kvs)) /\ (∀ o u, H0 a ≠ some (.frz o u)) /\ D.nx σ' (upd H' a (.dT kvs)) } σ H
theorem sI {X : Cx} {st : Stmt} {t : TS} (h : PS X st t) : PS X st (vS X.H₀ t) := fun pins s σ H D I q => thn (h pins s σ H _ I q) fun f s1 p => by
 cases f with
 | next =>
  obtain ⟨σ', H', I', a, o, kvs, e, h0, d⟩ := p
  exact ⟨σ', _, I'.thaw e h0 (fun _ z => by cases z) (fun _ z => by cases z), d⟩
 | _ => exact p
theorem sR {K : PySem.W.Frag} {a : Addr} {xs : List V} {g : TG} {tb : TS} {D : Ends} {σ : St} {H : Hp} (Pv : Nat -> St -> Hp -> Prop) (h0 : Pv 0 σ H) (hl : ∀ i σ H, i <= xs.length -> Pv i σ H -> SqT K H a xs)
  (hs : ∀ i x σ H T, xs[i]? = some x -> Pv i σ H -> H T = none -> g (.ref T) σ (upd H T (.tup [.int i, x])) fun σ2 H2 => tb { D with nx := Pv (i + 1), ct := Pv (i + 1), bk := D.nx } σ2 H2) (hd : ∀ σ H, Pv xs.length σ H -> D.nx σ H) :
  ∃ W : Nat -> Nat -> St -> Hp -> Prop, (∃ m, W 0 m σ H) /\ ∀ i m σ H, W i m σ H ->
   ((ItT K a).stop i H /\ D.nx σ H) \/ ((ItT K a).go i H /\ ∃ N : St -> Hp -> Prop, (∀ σ' H', N σ' H' -> ∃ m', m' < m /\ W (i + 1) m' σ' H') /\ ∀ x H', (ItT K a).yld i H x H' -> g x σ H' fun σ2 H2 => tb { D with nx := N, ct := N, bk := D.nx } σ2 H2) := by
 refine ⟨fun i m σ H => m = xs.length - i /\ i <= xs.length /\ Pv i σ H, ⟨xs.length, by simp, Nat.zero_le _, h0⟩, ?_⟩
 rintro i m σ H ⟨rfl, hi, p⟩
 have q := hl i σ H hi p
 by_cases hlt : i < xs.length
 ·refine .inr ⟨⟨xs, xs[i], q, by simp [hlt]⟩, Pv (i + 1), fun σ' H' p' => ⟨xs.length - (i + 1), by omega, rfl, hlt, p'⟩, fun x H' y => ?_⟩
  obtain ⟨T, x', rfl, hT, rfl, e1⟩ := y
  exact hs i x' σ H T (e1 xs q) p hT
 ·have e : i = xs.length := by omega
  subst e
  exact .inl ⟨⟨xs, q, rfl⟩, hd σ H p⟩
end L2
namespace L2
open PySem PySem.Spec PyProof.Rows
section
variable {X : Cx}
noncomputable def um : V -> List V -> Hp -> VK -> Prop := fun x vs H Q => ∃ l xs k y, x = .ref l /\ vs = [.int k, y] /\ H l = some (.lst xs) /\ xs.length < sizeLine /\ 0 <= k /\ k <= (xs.length : Int) /\ Q .non (upd H l (.lst (xs.take k.toNat ++ y :: xs.drop k.toNat)))
theorem qJ : MtM X "list.insert" um := by
 intro pins s σ H x vs v us Q I rx rv h
 obtain ⟨l, xs, k, y, rfl, rfl, hH, hz, h0, h1, q⟩ := h
 cases rx
 obtain ⟨u, w, rfl, ru, rw'⟩ := vals2 rv
 obtain ⟨t, rfl⟩ := ru
 obtain ⟨z, its, n, r, hl, e⟩ := I.lstM hH
 have hs := sizeLine_eq
 refine call_meets F.slot_list_insert ⟨_, e, rfl⟩ F.entry_list_insert (F.args_list_insert_3 _ _ _) (AutoSeq1.list_insert_list_int_val_1 l its.toArray n k t w (by rw [fitsIndex_both (k := k) (by omega) (by omega)]; exact Bool.false_ne_true) (by rw [List.size_toArray]; omega)) ⟨e, ?_⟩
 refine ⟨.non, _, I.lset (its' := its.take k.toNat ++ w :: its.drop k.toNat) hH e ?_ ((r.take _).append (.cons rw' (r.drop _))) ?_, rfl, q⟩
 ·have hk : ¬ k < 0 := by omega
  have hm : min k.toNat its.length = k.toNat := by omega
  simp only [List.size_toArray, hk, if_false, hm]
  apply Array.toList_inj.mp
  simp
  exact List.take_of_length_le (by rw [List.length_drop]; omega)
 ·rw [List.length_append, List.length_cons, List.length_take, List.length_drop]
  omega
end
section
variable {prog : Program} {w : World} {A : Around} {E : Value -> Shared -> Prop} {s : Shared}
theorem sW {c t : Addr} {i : Nat} {its : Array Value} {v : Value} {Q : Value -> Shared -> Prop} (hi : s.heap.IsListIter c t i) (ht : s.heap.IsList t its) (hv : its[i]? = some v)
  (k : ∀ G, G.IsListIter c t (i + 1) -> Heap.SameBut c s.heap G -> Q v { s with heap := G }) : wpAny (model prog w) A (Builtin.SmallTypes.nextOf (.ref c)) Q E s := wpAny_nextOf_list_item hi ht hv k
theorem tj {z TI TO i1 i2 l1 l2 : Addr} {k : Nat} {xs ys : Array Value} {x y a b : Value} {Q : Option Value -> Shared -> Prop} (D : ZipApart z TI TO i1 i2 l1 l2) (hz : IsZip s.heap z TI TO .none) (hTI : IsPair s.heap TI (.ref i1) (.ref i2)) (hTO : IsPair s.heap TO a b)
  (h1 : s.heap.IsTupleIter i1 l1 k) (h2 : s.heap.IsListIter i2 l2 k) (t1 : s.heap.IsTuple l1 xs) (t2 : s.heap.IsList l2 ys) (hx : xs[k]? = some x) (hy : ys[k]? = some y)
  (q : ∀ G, IsZip G z TI TO (rawInt s.heap.objs.size) -> IsPair G TO x y -> G.IsTupleIter i1 l1 (k + 1) -> G.IsListIter i2 l2 (k + 1) -> IsPair G s.heap.objs.size x y -> G.objs.size = s.heap.objs.size + 1 ->
   (∀ c o, c ≠ z -> c ≠ TO -> c ≠ i1 -> c ≠ i2 -> s.heap.get? c = some o -> G.get? c = some o) -> Q (some (.ref s.heap.objs.size)) { s with heap := G }) : wpAny (model prog w) A (pyNext (.ref z)) Q E s := by
 have ty : s.TypeIs (.ref z) "zip" := ⟨_, hz, rfl⟩
 unfold pyNext
 refine wpAny_bind (wpAny_attempt (wpAny_callSpecial?_slot (name := Str.ofString "__next__") ty F.slot_zip_next (wpAny_call_entry F.slot_zip_next ty F.entry_zip_next ?_ (F.args_zip_next_1 _))))
 refine (show wpAny _ _ (field (.ref z) 2 >>= _) _ _ _ from wpAny_bind (wpAny_field hz rfl (x := .bool false) rfl ?_))
 refine (show wpAny _ _ (field (.ref z) 3 >>= _) _ _ _ from wpAny_bind (wpAny_field hz rfl (x := .ref TI) rfl (wpAny_bind (wpAny_seqItems hTI rfl ?_))))
 refine (show wpAny _ _ (Builtin.SmallTypes.ownedTupleIsFree (.ref z) >>= _) _ _ _ from wpAny_bind ?_); unfold Builtin.SmallTypes.ownedTupleIsFree
 refine wpAny_bind (wpAny_field hz rfl (x := .none) rfl (wpAny_pure ?_)); simp only [if_true]
 refine wpAny_bind (wpAny_rule (wpAny_bind (wpAny_field hz rfl (x := .ref TO) rfl (wpAny_bind (wpAny_setField_rec hz (by simp) fun g1 z1 s1 => ?_)))))
 have z1' : IsZip g1 z TI TO .ellipsis := z1
 refine wpAny_bind ?_; simp only [List.zipIdx_cons, List.zipIdx_nil, List.forIn_cons, List.forIn_nil]
 refine wpAny_bind (wpAny_bind (wpAny_onRaise (show wpAny _ _ (Builtin.SmallTypes.nextOf (.ref i1) >>= _) _ _ _ from wpAny_bind (lW (h1.extBut s1.extBut D.i1z) (t1.at fun o e => s1.extBut _ o D.l1z e) hx fun g2 j2 s2 => wpAny_pure ?_))))
 have o2 : IsPair g2 TO a b := s2.extBut _ _ D.TOi1 (s1.extBut _ _ D.TOz hTO)
 refine wpAny_bind (wpAny_seqItems o2 rfl (wpAny_bind (wpAny_updateSeq_pair o2 fun g3 o3 s3 => ?_)))
 have o3' : IsPair g3 TO x b := o3
 refine wpAny_bind (wpAny_letGo (wpAny_pure (wpAny_bind (wpAny_bind (wpAny_onRaise (show wpAny _ _ (Builtin.SmallTypes.nextOf (.ref i2) >>= _) _ _ _ from wpAny_bind (sW (((h2.extBut s1.extBut D.i2z).extBut s2.extBut D.i12.symm).extBut s3.extBut D.TOi2.symm)
  (((t2.at fun o e => s1.extBut _ o D.l2z e).at fun o e => s2.extBut _ o D.l2i1 e).at fun o e => s3.extBut _ o D.l2TO e) hy fun g4 j4 s4 => wpAny_pure ?_)))))))
 have o4 : IsPair g4 TO x b := s4.extBut _ _ D.TOi2 o3'
 refine wpAny_bind (wpAny_seqItems o4 rfl (wpAny_bind (wpAny_updateSeq_pair o4 fun g5 o5 s5 => ?_)))
 have o5' : IsPair g5 TO x y := o5
 refine wpAny_bind (wpAny_letGo (wpAny_pure (wpAny_pure (wpAny_bind (wpAny_seqItems o5' rfl (wpAny_bind (wpAny_newTuple ?_)))))))
 have sz : g5.objs.size = s.heap.objs.size := by rw [s5.1, s4.1, s3.1, s2.1, s1.1]
 have z5 : IsZip g5 z TI TO .ellipsis := s5.extBut _ _ D.TOz.symm (s4.extBut _ _ D.i2z.symm (s3.extBut _ _ D.TOz.symm (s2.extBut _ _ D.i1z.symm z1')))
 have kp : ∀ c o, c ≠ z -> c ≠ TO -> c ≠ i1 -> c ≠ i2 -> s.heap.get? c = some o -> g5.get? c = some o := fun c o n1 n2 n3 n4 e => s5.extBut _ _ n2 (s4.extBut _ _ n4 (s3.extBut _ _ n2 (s2.extBut _ _ n3 (s1.extBut _ _ n1 e))))
 have j1 : g5.IsTupleIter i1 l1 (k + 1) := ((j2.extBut s3.extBut D.TOi1.symm).extBut s4.extBut D.i12).extBut s5.extBut D.TOi1.symm
 have j2' : g5.IsListIter i2 l2 (k + 1) := j4.extBut s5.extBut D.TOi2.symm
 have lz : z < g5.objs.size := Heap.lt_size z5
 refine (show wpAny _ _ (Builtin.SmallTypes.ownedTupleHandOut (.ref z) (.ref g5.objs.size) >>= _) _ _ _ from wpAny_bind ?_); unfold Builtin.SmallTypes.ownedTupleHandOut
 have z6 : IsZip (g5.push { cls := .type "tuple", data := .seq #[x, y] }) z TI TO .ellipsis := Heap.get?_push_of_some _ z5
 refine wpAny_bind (wpAny_setField_rec z6 (by simp) fun g7 z7 s7 => ?_)
 have z7' : IsZip g7 z TI TO (rawInt g5.objs.size) := z7
 refine wpAny_setField_rec z7' (by simp) fun g8 z8 s8 => ?_
 have z8' : IsZip g8 z TI TO (rawInt g5.objs.size) := z8
 have up : ∀ c o, c ≠ z -> g5.get? c = some o -> g8.get? c = some o := fun c o n e => s8.extBut _ _ n (s7.extBut _ _ n (Heap.get?_push_of_some _ e))
 have pr : IsPair g8 g5.objs.size x y := s8.extBut _ _ (Nat.ne_of_gt lz) (s7.extBut _ _ (Nat.ne_of_gt lz) (Heap.get?_push_size _ rfl))
 have sz8 : g8.objs.size = g5.objs.size + 1 := by rw [s8.1, s7.1, Heap.size_push]
 rw [sz] at z8' pr sz8
 refine wpAny_pure ⟨_, rfl, wpAny_pure (show Q (some (.ref g5.objs.size)) _ from ?_)⟩
 rw [sz]
 exact q g8 z8' (up _ _ D.TOz o5') (j1.at fun o e => up _ o D.i1z e) (j2'.at fun o e => up _ o D.i2z e) pr sz8 fun c o n1 n2 n3 n4 e => up c o n1 (kp c o n1 n2 n3 n4 e)
theorem rZ (l1 l2 : Addr) (xs ys : Array Value) :
  Meets (Builtin.«zip.__new__» ⟨[.type "zip", .ref l1, .ref l2], []⟩) (fun _ R s => s.heap.IsTuple l1 xs /\ s.heap.IsList l2 ys /\
   ∃ G : Heap, G = (((((s.heap.push { cls := .type "tuple_iterator", data := .fields #[.ref l1, .int 0 0] }).push { cls := .type "list_iterator", data := .fields #[.ref l2, .int 0 0] }).push { cls := .type "tuple", data := .seq #[.ref s.heap.objs.size, .ref (s.heap.objs.size + 1)] }).push { cls := .type "tuple", data := .seq #[.none, .none] }).push
    { cls := .type "zip", data := .fields #[.none, .bool false, .bool false, .ref (s.heap.objs.size + 2), .ref (s.heap.objs.size + 3)] }) /\ R (.ok (.ret (.ref (s.heap.objs.size + 4)))) { s with heap := G }) :=
 .of_wp fun prog w A R s h => by
  obtain ⟨hp, g, d, tk, os⟩ := s; obtain ⟨a1, a2, G, e, h⟩ := h
  have hsub := sub_zip
  have b1 : Heap.IsTuple (Shared.heap ⟨hp, g, d, tk, os⟩) l1 xs := a1
  have b2 : Heap.IsList (Shared.heap ⟨hp.push { cls := .type "tuple_iterator", data := .fields #[.ref l1, .int 0 0] }, g, d, tk, os⟩) l2 ys := a2.at fun o e => Heap.get?_push_of_some _ e
  wp_walk using wpAny_pyIter_tuple b1, wpAny_pyIter_list b2
  subst e
  refine ⟨_, rfl, ?_⟩
  simp only [Heap.size_push]
  exact h
theorem ua {l1 l2 : Addr} {xs ys : Array Value} {Q : Value -> Shared -> Prop} (t1 : s.heap.IsTuple l1 xs) (t2 : s.heap.IsList l2 ys)
  (q : ∀ G, IsZip G (s.heap.objs.size + 4) (s.heap.objs.size + 2) (s.heap.objs.size + 3) .none -> IsPair G (s.heap.objs.size + 2) (.ref s.heap.objs.size) (.ref (s.heap.objs.size + 1)) -> IsPair G (s.heap.objs.size + 3) .none .none ->
   G.IsTupleIter s.heap.objs.size l1 0 -> G.IsListIter (s.heap.objs.size + 1) l2 0 -> G.objs.size = s.heap.objs.size + 5 -> (∀ c o, s.heap.get? c = some o -> G.get? c = some o) -> Q (.ref (s.heap.objs.size + 4)) { s with heap := G }) :
  wpAny (model prog w) A (call (.type "zip") [.ref l1, .ref l2]) Q E s := by
 refine callType_new F.called_zip (by decide) (F.typeCall_zip_2 _ _) (F.newCall_zip_2 _ _) (fun obj => F.args_object_init_3 obj _ _) F.entry_zip_new (rZ l1 l2 xs ys) ⟨t1, t2, _, rfl, ?_⟩
 have at' : ∀ (h : Heap) (o : Obj) (n : Nat), h.objs.size = n -> o.isFreed = false -> (h.push o).get? n = some o := fun h o n e f => by rw [<- e]; exact Heap.get?_push_size _ f
 have kp : ∀ {h : Heap} {o : Obj} {c : Addr} {v : Obj}, h.get? c = some v -> (h.push o).get? c = some v := fun e => Heap.get?_push_of_some _ e
 have g5 := at' ((((s.heap.push { cls := .type "tuple_iterator", data := .fields #[.ref l1, .int 0 0] }).push { cls := .type "list_iterator", data := .fields #[.ref l2, .int 0 0] }).push { cls := .type "tuple", data := .seq #[.ref s.heap.objs.size, .ref (s.heap.objs.size + 1)] }).push { cls := .type "tuple", data := .seq #[.none, .none] })
  { cls := .type "zip", data := .fields #[.none, .bool false, .bool false, .ref (s.heap.objs.size + 2), .ref (s.heap.objs.size + 3)] } (s.heap.objs.size + 4) (by simp only [Heap.size_push]) rfl
 have g4 := at' (((s.heap.push { cls := .type "tuple_iterator", data := .fields #[.ref l1, .int 0 0] }).push { cls := .type "list_iterator", data := .fields #[.ref l2, .int 0 0] }).push { cls := .type "tuple", data := .seq #[.ref s.heap.objs.size, .ref (s.heap.objs.size + 1)] }) { cls := .type "tuple", data := .seq #[.none, .none] } (s.heap.objs.size + 3) (by simp only [Heap.size_push]) rfl
 have g3 := at' ((s.heap.push { cls := .type "tuple_iterator", data := .fields #[.ref l1, .int 0 0] }).push { cls := .type "list_iterator", data := .fields #[.ref l2, .int 0 0] }) { cls := .type "tuple", data := .seq #[.ref s.heap.objs.size, .ref (s.heap.objs.size + 1)] } (s.heap.objs.size + 2) (by simp only [Heap.size_push]) rfl
 have g2 := at' (s.heap.push { cls := .type "tuple_iterator", data := .fields #[.ref l1, .int 0 0] }) { cls := .type "list_iterator", data := .fields #[.ref l2, .int 0 0] } (s.heap.objs.size + 1) (by simp only [Heap.size_push]) rfl
 have g1 := at' s.heap { cls := .type "tuple_iterator", data := .fields #[.ref l1, .int 0 0] } s.heap.objs.size rfl rfl
 exact ⟨⟨_, g5, rfl⟩, q _ g5 (kp (kp g3)) (kp g4) ⟨_, kp (kp (kp (kp g1))), rfl, rfl⟩ ⟨_, kp (kp (kp g2)), rfl, rfl⟩ (by simp only [Heap.size_push]) fun c o e => kp (kp (kp (kp (kp e))))⟩
end
noncomputable def Itm (K : PySem.W.Frag) (a b : Addr) : It :=
 ⟨fun i H => ∃ xs ys x y, SqT K H a xs /\ SqL K H b ys /\ xs[i]? = some x /\ ys[i]? = some y,
  fun i H v H' => ∃ T x y, v = .ref T /\ H T = none /\ H' = upd H T (.tup [x, y]) /\ (∀ xs, SqT K H a xs -> xs[i]? = some x) /\ ∀ ys, SqL K H b ys -> ys[i]? = some y,
  fun i H => ∃ xs, SqT K H a xs /\ xs.length <= i⟩
noncomputable def v6 (z TI TO i1 i2 l1 l2 : Addr) (i : Nat) (h : Heap) : Prop := IsZip h z TI TO .none /\ IsPair h TI (.ref i1) (.ref i2) /\ (∃ a b, IsPair h TO a b) /\ h.IsTupleIter i1 l1 i /\ h.IsListIter i2 l2 i
theorem tY {P : Program} {w : World} {K : PySem.W.Frag} {elts : List Expr} {x1} {pos : Pos} (z TI TO i1 i2 l1 l2 : Addr) (D : ZipApart z TI TO i1 i2 l1 l2) :
  Turn P w K (.Tuple elts x1 pos) (Itm K l1 l2) [z, TI, TO, i1, i2] z (v6 z TI TO i1 i2 l1 l2) where
 mem := by simp
 obj := fun i h st b hb => by
  obtain ⟨hz, hTI, ⟨a, c, hTO⟩, ⟨o1, e1, c1, d1⟩, ⟨o2, e2, c2, d2⟩⟩ := st
  simp only [List.mem_cons, List.not_mem_nil, or_false] at hb
  rcases hb with rfl | rfl | rfl | rfl | rfl
  ·exact ⟨_, hz, fun v q => by cases q⟩
  ·exact ⟨_, hTI, fun v q => by cases q⟩
  ·exact ⟨_, hTO, fun v q => by cases q⟩
  ·exact ⟨_, e1, fun v q => by rw [d1] at q; cases q⟩
  ·exact ⟨_, e2, fun v q => by rw [d2] at q; cases q⟩
 keep := fun i h h' st k => by
  obtain ⟨hz, hTI, ⟨a, c, hTO⟩, h1, h2⟩ := st
  exact ⟨k z (by simp) _ hz, k TI (by simp) _ hTI, ⟨a, c, k TO (by simp) _ hTO⟩, h1.at fun o e => k i1 (by simp) o e, h2.at fun o e => k i2 (by simp) o e⟩
 item := by
  intro X hP hw hK hc i pins s σ H E I hf st hg
  subst hP hw hK
  obtain ⟨xs, ys, x, y, hq1, hq2, hx, hy⟩ := hg
  obtain ⟨hz, hTI, ⟨a, c, hTO⟩, h1, h2⟩ := id st
  obtain ⟨its1, rv1, p1, hz1⟩ := I.tuple hq1
  obtain ⟨its2, rv2, p2, hz2⟩ := I.list hq2
  obtain ⟨u1, hu1, ru1⟩ := rv1.get hx
  obtain ⟨u2, hu2, ru2⟩ := rv2.get hy
  refine tj D hz hTI hTO h1 h2 (show s.heap.IsTuple l1 its1.toArray from p1) p2.isList (x := u1) (y := u2) (by simpa using hu1) (by simpa using hu2) fun h' a1 a2 a3 a4 a5 a6 a7 => ?_
  refine ⟨_, rfl, wpAny_letOwnedTupleGo_zip (s := { s with heap := h' }) a1 fun h'' z2 sb => ?_⟩
  have sb' := sb.extBut
  generalize hT : s.heap.objs.size = T at *
  have lt : ∀ {b : Addr} {o : Obj}, s.heap.get? b = some o -> b ≠ T := fun {b o} e => by rw [<- hT]; exact Nat.ne_of_lt (Heap.lt_size e)
  have fresh : H T = none := by rw [<- hT]; exact I.hok.fresh (Nat.le_refl _)
  have hne : ∀ b ∈ [z, TI, TO, i1, i2], b ≠ T := fun b hb => by
   obtain ⟨o1, e1, _⟩ := h1
   obtain ⟨o2, e2, _⟩ := h2
   simp only [List.mem_cons, List.not_mem_nil, or_false] at hb
   rcases hb with rfl | rfl | rfl | rfl | rfl
   ·exact lt hz
   ·exact lt hTI
   ·exact lt hTO
   ·exact lt e1
   ·exact lt e2
  have I0 : Inv X pins σ (upd H T (.tup [x, y])) { s with heap := s.heap.push { cls := .type "tuple", data := .seq #[u1, u2] }, toks := s.toks } := by
   subst hT
   exact I.laid (t' := s.toks) (fun b o q => Heap.get?_push_of_some _ q) (Nat.le_refl _) ⟨by show 2 <= sizeLine; decide, [u1, u2], .cons ru1 (.cons ru2 .nil), _, Heap.get?_push_size _ rfl, rfl, 0, rfl⟩
  have up : ∀ b o, b ∉ [z, TI, TO, i1, i2] -> (s.heap.push { cls := .type "tuple", data := .seq #[u1, u2] }).get? b = some o -> h''.get? b = some o := fun b o hb e => by
   simp only [List.mem_cons, List.not_mem_nil, or_false, not_or] at hb
   rcases Heap.get?_push_cases e with ⟨e1, e2⟩ | e1
   ·subst e2
    rw [e1, hT]
    exact sb' _ _ (hne z (by simp)).symm a5
   ·exact sb' _ _ hb.1 (a7 b o hb.1 hb.2.2.1 hb.2.2.2.1 hb.2.2.2.2 e1)
  have I2 : Inv X pins σ (upd H T (.tup [x, y])) { s with heap := h'', toks := s.toks } := Inv.turnedS (s := { s with heap := s.heap.push { cls := .type "tuple", data := .seq #[u1, u2] }, toks := s.toks }) (t' := s.toks) (ch := [z, TI, TO, i1, i2]) I0 up fun b hb => by
   obtain ⟨f0, f1⟩ := hf b hb
   exact ⟨by rw [ag (hne b hb)]; exact f0, f1⟩
  exact ⟨.ref T, upd H T (.tup [x, y]), I2, rfl, ⟨T, x, y, rfl, fresh, rfl, fun ws hw => by rw [I.tuple_inj hw hq1]; exact hx, fun ws hw => by rw [I.list_inj hw hq2]; exact hy⟩,
   ⟨z2, sb' _ _ D.TIz (a7 _ _ D.TIz D.TITO D.TIi1 D.TIi2 hTI), ⟨_, _, sb' _ _ D.TOz a2⟩, a3.at fun o e => sb' _ _ D.i1z e, a4.at fun o e => sb' _ _ D.i2z e⟩, fun b hb => by rw [ag (hne b hb)]; exact (hf b hb).1⟩
 done := by
  intro X hP hw hK hc i pins s σ H E I hf st hg
  subst hP hw hK
  obtain ⟨xs, hq1, hx⟩ := hg
  obtain ⟨hz, hTI, ⟨a, c, hTO⟩, h1, h2⟩ := id st
  obtain ⟨its1, rv1, p1, hz1⟩ := I.tuple hq1
  have hl1 := rv1.length
  refine uK (I.ok.hd hc) D hz hTI hTO h1 (show s.heap.IsTuple l1 its1.toArray from p1) (by simp; omega) fun h' hk => ⟨rfl, I.turnedS (t' := s.toks) (ch := [z, TI, TO, i1, i2]) (fun b o hb e => ?_) hf⟩
  simp only [List.mem_cons, List.not_mem_nil, or_false, not_or] at hb
  exact hk b o hb.1 hb.2.2.1 hb.2.2.2.1 hb.2.2.2.2 e
 self := fun _ _ _ _ _ st h => wpAny_pyIter_zip st.1 h
section
variable {X : Cx}
noncomputable def iZm (K : PySem.W.Frag) (ta : TA) : TI := fun σ H R => ta σ H fun vs H1 => ∃ a b xs ys, vs = [.ref a, .ref b] /\ SqT K H1 a xs /\ SqL K H1 b ys /\ R (Itm K a b) H1
theorem vW {a b : Expr} {elts : List Expr} {x1} {tpos : Pos} {ta : TA} {p pos : Pos} (hg : Gl X "zip") (hm : X.mg "zip" = none) (ha : PA X [a, b] ta) (hs : starEach [a, b] X.env = [(false, eval a X.env), (false, eval b X.env)] := by rfl) (hs2 : starEach [b] X.env = [(false, eval b X.env)] := by rfl) :
  PI X (.Tuple elts x1 tpos) (.Call (.Name "zip" p) [a, b] [] pos) (iZm X.K ta) := by
 intro pins s σ H R I h
 refine Call_ (dA I hg hm boot_zip (PyProof.Rows.callWith_type1 (thn (ha pos pins s σ H _ I h) fun us s1 ⟨vs, H1, I1, r1, q1⟩ => ?_) (by rw [hs, hs2]) (by rw [hs2]; rfl)))
 obtain ⟨a', b', xs, ys, rfl, hq1, hq2, q⟩ := q1
 obtain ⟨u1, u2, rfl, ra, rb⟩ := vals2 r1
 cases ra
 cases rb
 obtain ⟨its1, rv1, p1, hz1⟩ := I1.tuple hq1
 obtain ⟨its2, rv2, p2, hz2⟩ := I1.list hq2
 have l1 : a' < s1.heap.objs.size := by obtain ⟨o, e, _⟩ := p1; exact Heap.lt_size e
 have l2 : b' < s1.heap.objs.size := by obtain ⟨o, n, e, _⟩ := p2; exact Heap.lt_size e
 refine ua (show s1.heap.IsTuple a' its1.toArray from p1) p2.isList fun h' hz hTI hTO hi1 hi2 hsz hk => ?_
 refine wpAny_pyIter_zip hz ?_
 refine ⟨_, [s1.heap.objs.size + 4, s1.heap.objs.size + 2, s1.heap.objs.size + 3, s1.heap.objs.size, s1.heap.objs.size + 1], _, _, H1, rfl, I1.kept (t' := s1.toks) hk, tY _ _ _ _ _ _ _ (zipApart_new l1 l2), ⟨hz, hTI, ⟨_, _, hTO⟩, hi1, hi2⟩, fun b hb => ?_, q⟩
 have hle : s1.heap.objs.size <= b := by
  simp only [List.mem_cons, List.not_mem_nil, or_false] at hb
  rcases hb with rfl | rfl | rfl | rfl | rfl
  ·exact Nat.le_add_right _ _
  ·exact Nat.le_add_right _ _
  ·exact Nat.le_add_right _ _
  ·exact Nat.le_refl _
  ·exact Nat.le_add_right _ _
 exact I1.fpOk hle (I1.hok.fresh hle)
end
section
theorem vn {K : PySem.W.Frag} {g : TG} {tt : TT} {te : TE} {σ' : St} {fin : List V -> Hp -> Prop} {H1 : Hp} {a b : Addr} {xs ys : List V} (hxy : xs.length <= ys.length) (hn : min xs.length ys.length < sizeLine) (Pv : Nat -> List V -> St -> Hp -> Prop) (h0 : Pv 0 [] σ' H1)
  (hl : ∀ i zs σ H, i <= min xs.length ys.length -> Pv i zs σ H -> zs.length <= i /\ SqT K H a xs /\ SqL K H b ys)
  (hs : ∀ i x y zs σ H T, xs[i]? = some x -> ys[i]? = some y -> Pv i zs σ H -> H T = none -> g (.ref T) σ (upd H T (.tup [x, y])) fun σ2 H2 => tt σ2 H2 fun b H3 => if b = true then te σ2 H3 (fun v H4 => Pv (i + 1) (zs ++ [v]) σ2 H4) else Pv (i + 1) zs σ2 H3)
  (hd : ∀ zs σ H, Pv (min xs.length ys.length) zs σ H -> fin zs H) : LcW (Itm K a b) g tt te σ' fin H1 := by
 refine ⟨fun i m zs σ H => m = min xs.length ys.length - i /\ i <= min xs.length ys.length /\ Pv i zs σ H, ⟨min xs.length ys.length, by simp, Nat.zero_le _, h0⟩, ?_⟩
 rintro i m zs σ H ⟨rfl, hi, p⟩
 obtain ⟨q0, q1, q2⟩ := hl i zs σ H hi p
 by_cases hlt : i < min xs.length ys.length
 ·have h1 : i < xs.length := by omega
  have h2 : i < ys.length := by omega
  refine .inr ⟨⟨xs, ys, xs[i], ys[i], q1, q2, by simp [h1], by simp [h2]⟩, by omega, fun zs' σ2 H2 => Pv (i + 1) zs' σ2 H2, fun zs' σ2 H2 q => ⟨min xs.length ys.length - (i + 1), by omega, rfl, hlt, q⟩, fun v H' y => ?_⟩
  obtain ⟨T, x, y, rfl, hT, rfl, e1, e2⟩ := y
  exact hs i x y zs σ H T (e1 xs q1) (e2 ys q2) p hT
 ·have e : i = min xs.length ys.length := by omega
  subst e
  exact .inl ⟨⟨xs, q1, by omega⟩, by omega, hd zs σ H p⟩
end
end L2
namespace L2
open PySem PySem.Spec PyProof.Rows PySem.W PySem.Calls
noncomputable def fO (fl : Value) (h : Heap) (e T : Addr) (cls a0 : Value) (dx : Option Addr) : Prop := ∃ oe vs oT ts, h.get? e = some oe /\ oe.cls = cls /\ vs[0]? = some a0 /\ oe.data = Data.fields vs /\ vs[1]? = some (Value.ref T) /\ T ≠ e /\ h.get? T = some oT /\ oT.data = Data.fields ts /\ ts[3]? = some fl /\ oe.dict = dx
noncomputable abbrev Trc : Heap -> Addr -> Addr -> Value -> Value -> Option Addr -> Prop := fO .none
noncomputable def CXE (P : Program) (w : World) : CXT := fun outer H s E e s' => ∃ (ea T : Addr) (cls a0 : Value) (dx : Option Addr) (H' : Hp), e = .ref ea /\ s'.os = s.os /\ AllBare s'.gens /\ Un (frs outer) [] H H' s.heap s'.heap /\ HOk P w H' s'.heap /\ s.heap.get? ea = none /\ s.heap.get? T = none /\ H' ea = none /\ H' T = none /\ Trc s'.heap ea T cls a0 dx /\ E cls dx H'
theorem dF {h base : Heap} : ∀ {l : List Env}, h.FunFrames base l -> ∀ b ∈ frs l, ∃ o, h.get? b = some o /\ ∀ vs : Array Value, o.data ≠ Data.fields vs
 | [], _, b, hb => by simp [frs] at hb
 | e :: l, k, b, hb => by
  simp only [Heap.FunFrames] at k
  obtain ⟨k1, ⟨L, o, k2, k3, k4, k5⟩, k6⟩ := k
  unfold frs at hb
  rw [List.filterMap_cons, k2] at hb
  rcases List.mem_cons.mp hb with z | z
  ·rw [z]; exact ⟨o, k4, k5⟩
  ·exact dF k6 b z
theorem qj (o : Obj) (f : Array Value -> Array Value) : (o.mapFields f).dict = o.dict := by
 obtain ⟨c, d, dt, sl⟩ := o
 cases dt <;> rfl
structure Moved (fr : List Addr) (g : List Addr) (h h' : Heap) : Prop where
 keep : ∀ b o, h.get? b = some o -> b ∉ fr -> b ∉ g -> h'.get? b = some o
 slot : ∀ b o, h.get? b = some o -> b ∈ fr -> ∃ sl, h'.get? b = some { o with slots := sl }
section
variable {M : Model} {A : Around} {E : Value -> Shared -> Prop} {s : Shared} {env : Env} {outer : List Env} {L e T : Addr} {base : Heap} {cls a0 : Value} {dx : Option Addr} {Q : Unit -> Shared -> Prop}
theorem lI {oe : Obj} {vs : Array Value} {head : Value} {had : Bool}
  (hf : A.frames = some (env :: outer)) (ff : s.heap.FunFrames base (env :: outer)) (hL : env.frame = some L) (he : s.heap.get? e = some oe) (hd : oe.data = Data.fields vs) (hz : 1 < vs.size) (h0 : vs[0]? = some a0)
  (k : ∀ (h' : Heap) (T' : Addr), Moved (frs (env :: outer)) [e] s.heap h' -> s.heap.get? T' = none -> fO (rawInt L) h' e T' oe.cls a0 oe.dict -> Q () { s with heap := h' }) :
  wpAny M A (do let a <- frameOf env; let pl <- entryPlaceOf L had; let b <- EntryCells.newEntry head a .none (rawInt L) .none pl; setField (.ref e) 1 b) Q E s := by
 have efr : e ∉ frs (env :: outer) := fun hm => by
  obtain ⟨o, q, nf⟩ := dF ff e hm
  rw [he] at q; cases q
  exact nf _ hd
 refine wpAny_bind (wpAny_frameOf_fun hf ff hL fun g1 so => wpAny_bind (wpAny_entryPlaceOf fun pl hpl => ?_))
 unfold EntryCells.newEntry newFields
 refine wpAny_bind (wpAny_newObj_type ?_ (hpl.sizeOk5 _ _ _ _ _))
 generalize hob : ({ cls := .type "traceback", dict := none, data := .fields ([head, .ref L, .none, rawInt L, .none] ++ (if pl.isEmpty then List.replicate 6 Value.none else pl)).toArray } : Obj) = ob
 have obf : ob.isFreed = false := by rw [<- hob]; rfl
 have e1 : g1.get? e = some oe := (so.2.1 e efr).trans he
 have nz : g1.objs.size ≠ e := Nat.ne_of_gt (Heap.lt_size e1)
 have e2 := Heap.get?_push_of_some (h := g1) ob e1
 refine wpAny_setField e2 hd hz ?_
 have hd3 := Obj.data_mapFields hd (fun z => z.setIfInBounds 1 (Value.ref g1.objs.size))
 have e3 := Heap.get?_update_self (Obj.mapFields fun z => z.setIfInBounds 1 (Value.ref g1.objs.size)) e2 (Obj.isFreed_of_fields hd3)
 have fresh : s.heap.get? g1.objs.size = none := by
  cases hc : s.heap.get? g1.objs.size with
  | none => rfl
  | some o =>
   obtain ⟨sl, q⟩ := so.2.2 _ o hc
   exact absurd (Heap.lt_size q) (Nat.lt_irrefl _)
 have up : ∀ b o, b ≠ e -> g1.get? b = some o -> ((g1.push ob).update e (Obj.mapFields fun z => z.setIfInBounds 1 (Value.ref g1.objs.size))).get? b = some o := fun b o n q => by
  rw [Heap.get?_update_other _ _ (Ne.symm n)]
  exact Heap.get?_push_of_some _ q
 refine k _ g1.objs.size ⟨fun b o q hb hg => up b o (fun z => hg (by simp [z])) ((so.2.1 b hb).trans q), fun b o q hb => ?_⟩ fresh ⟨_, _, ob, _, e3, Obj.cls_mapFields _ _, ?_, hd3, ?_, nz, ?_, by rw [<- hob], ?_, qj _ _⟩
 ·obtain ⟨sl, q1⟩ := so.2.2 b o q
  exact ⟨sl, up b _ (fun z => efr (z ▸ hb)) q1⟩
 ·rw [Array.getElem?_setIfInBounds_ne (by decide)]; exact h0
 ·simp [hz]
 ·rw [Heap.get?_update_other _ _ (Ne.symm nz)]
  exact Heap.get?_push_size g1 obf
 ·first | (simp; done) | (rcases hpl with rfl | ⟨_, _, _, _, _, _, _, rfl⟩ <;> simp)
theorem ground {fl : Value} (ht : fO fl s.heap e T cls a0 dx)
  (k : ∀ h' : Heap, (∀ b, b ≠ T -> h'.get? b = s.heap.get? b) -> Trc h' e T cls a0 dx -> Q () { s with heap := h' }) :
  wpAny M A (setFlight (.ref e) none) Q E s := by
 obtain ⟨oe, vs, oT, ts, h1, h2, h3, h4, h5, h6, h7, h8, h9, h10⟩ := ht
 have z3 : 3 < ts.size := (Array.getElem?_eq_some_iff.mp h9).1
 unfold setFlight
 refine wpAny_bind (wpAny_field h1 h4 h5 ?_)
 rw [if_pos (show (Value.ref T != Value.none) = true from by simp)]
 refine wpAny_setField h7 h8 z3 (k _ (fun b n => Heap.get?_update_other _ _ (Ne.symm n)) ?_)
 have d8 := Obj.data_mapFields h8 (fun z => z.setIfInBounds 3 ((none : Option Addr).elim Value.none fun f => rawInt f))
 exact ⟨oe, vs, _, _, (Heap.get?_update_other _ _ h6).trans h1, h2, h3, h4, h5, h6, Heap.get?_update_self _ h7 (Obj.isFreed_of_fields d8), d8, by simp [z3], h10⟩
theorem rW {oe : Obj} {vs : Array Value} (hf : A.frames = some (env :: outer)) (hL : env.frame = some L) (ff : s.heap.FunFrames base (env :: outer)) (h1 : s.heap.get? e = some oe) (h2 : oe.data = Data.fields vs) (h3 : vs[1]? = some Value.none) (h4 : vs[0]? = some a0)
  (k : ∀ (h' : Heap) (T' : Addr), Moved (frs (env :: outer)) [e] s.heap h' -> s.heap.get? T' = none -> fO (rawInt L) h' e T' oe.cls a0 oe.dict -> Q () { s with heap := h' }) :
  wpAny M A (noteFrame (.ref e) env) Q E s := by
 unfold noteFrame
 simp only [hL]
 refine wpAny_bind (wpAny_field h1 h2 h3 ?_)
 rw [if_neg (by decide)]
 exact lI hf ff hL h1 h2 (Array.getElem?_eq_some_iff.mp h3).1 h4 k
theorem kf (hf : A.frames = some (env :: outer)) (hL : env.frame = some L) (ff : s.heap.FunFrames base (env :: outer)) (ht : Trc s.heap e T cls a0 dx)
  (k : ∀ (h' : Heap) (T' : Addr), Moved (frs (env :: outer)) [e, T] s.heap h' -> s.heap.get? T' = none -> fO (rawInt L) h' e T' cls a0 dx -> Q () { s with heap := h' }) :
  wpAny M A (noteFrame (.ref e) env) Q E s := by
 obtain ⟨oe, vs, oT, ts, h1, rfl, h3, h4, h5, h6, h7, h8, h9, rfl⟩ := ht
 unfold noteFrame
 simp only [hL]
 refine wpAny_bind (wpAny_field h1 h4 h5 ?_)
 rw [if_pos (show (Value.ref T != Value.none) = true from by simp)]
 refine wpAny_bind (wpAny_field h7 h8 h9 ?_)
 rw [if_neg (show ¬ ((Value.none == rawInt L) = true) from by simp [rawInt])]
 refine wpAny_bind (wpAny_setField h7 h8 (Array.getElem?_eq_some_iff.mp h9).1 ?_)
 have oth : ∀ b, b ≠ T -> (s.heap.update T (Obj.mapFields fun z => z.setIfInBounds 3 Value.none)).get? b = s.heap.get? b := fun b n => Heap.get?_update_other _ _ (Ne.symm n)
 have nT : ∀ b, b ∈ frs (env :: outer) -> b ≠ T := fun b hb z => by
  obtain ⟨o, q, nf⟩ := dF ff b hb
  rw [z, h7] at q; cases q
  exact nf _ h8
 refine lI (s := { s with heap := s.heap.update T (Obj.mapFields fun z => z.setIfInBounds 3 Value.none) }) hf (ff.of_keeps fun b o q nf => ⟨o, (oth b fun z => ?_).trans q, rfl⟩) hL ((oth e (Ne.symm h6)).trans h1) h4 (Array.getElem?_eq_some_iff.mp h5).1 h3 fun h' T' mv nw tr => k h' T' ⟨fun b o q hb hg => ?_, fun b o q hb => ?_⟩ ?_ tr
 ·rw [z, h7] at q; cases q
  exact nf _ h8
 ·exact mv.keep b o ((oth b fun z => hg (by simp [z])).trans q) hb fun z => hg (by simp at z; simp [z])
 ·exact mv.slot b o ((oth b (nT b hb)).trans q) hb
 ·have z : T' ≠ T := fun z => by
   have d8 := Obj.data_mapFields h8 (fun z => z.setIfInBounds 3 Value.none)
   have g7 := Heap.get?_update_self (Obj.mapFields fun z => z.setIfInBounds 3 Value.none) h7 (Obj.isFreed_of_fields d8)
   have nw' : (s.heap.update T (Obj.mapFields fun z => z.setIfInBounds 3 Value.none)).get? T' = none := nw
   rw [z, g7] at nw'
   cases nw'
  exact (oth T' z).symm.trans nw
theorem Moved.ground {fr g : List Addr} {h h' h'' : Heap} (m : Moved fr g h h') (nT : h.get? T = none) (nf : ∀ b ∈ fr, ∃ o, h.get? b = some o) (k : ∀ b, b ≠ T -> h''.get? b = h'.get? b) : Moved fr g h h'' :=
 ⟨fun b o q hb hg => (k b fun z => by rw [z, nT] at q; cases q).trans (m.keep b o q hb hg), fun b o q hb => by
  obtain ⟨sl, e⟩ := m.slot b o q hb
  exact ⟨sl, (k b fun z => by rw [z, nT] at q; cases q).trans e⟩⟩
theorem oK (hf : A.frames = some (env :: outer)) (hL : env.frame = some L) (ff : s.heap.FunFrames base (env :: outer)) (ht : Trc s.heap e T cls a0 dx)
  (k : ∀ (h' : Heap) (T' : Addr), Moved (frs (env :: outer)) [e, T] s.heap h' -> s.heap.get? T' = none -> Trc h' e T' cls a0 dx -> Q () { s with heap := h' }) :
  wpAny M A (leaving env (.ref e)) Q E s := by
 unfold leaving
 refine wpAny_bind (kf hf hL ff ht fun h1 T1 mv nw tr => ground tr fun h2 same tr2 => k h2 T1 (mv.ground nw (fun b hb => let ⟨o, q, _⟩ := dF ff b hb; ⟨o, q⟩) same) nw tr2)
theorem leave_new {oe : Obj} {vs : Array Value} (hf : A.frames = some (env :: outer)) (hL : env.frame = some L) (ff : s.heap.FunFrames base (env :: outer)) (h1 : s.heap.get? e = some oe) (h2 : oe.data = Data.fields vs) (h3 : vs[1]? = some Value.none) (h4 : vs[0]? = some a0)
  (k : ∀ (h' : Heap) (T' : Addr), Moved (frs (env :: outer)) [e] s.heap h' -> s.heap.get? T' = none -> Trc h' e T' oe.cls a0 oe.dict -> Q () { s with heap := h' }) :
  wpAny M A (leaving env (.ref e)) Q E s := by
 unfold leaving
 refine wpAny_bind (rW hf hL ff h1 h2 h3 h4 fun g1 T1 mv nw tr => ground tr fun g2 same tr2 => k g2 T1 (mv.ground nw (fun b hb => let ⟨o, q, _⟩ := dF ff b hb; ⟨o, q⟩) same) nw tr2)
theorem jN (hf : A.frames = some (env :: outer)) (hL : env.frame = some L) (ff : s.heap.FunFrames base (env :: outer)) (ht : Trc s.heap e T cls a0 dx)
  (k : ∀ (h' : Heap) (T' : Addr), Moved (frs (env :: outer)) [e, T] s.heap h' -> s.heap.get? T' = none -> Trc h' e T' cls a0 dx -> Q () { s with heap := h' }) :
  wpAny M A (noteFrame (.ref e) env) (fun _ s2 => wpAny M A (setFlight (.ref e) none) (fun _ s3 => Q () s3) E s2) E s :=
 kf hf hL ff ht fun h1 T1 mv nw tr => ground tr fun h2 same tr2 => k h2 T1 (mv.ground nw (fun b hb => let ⟨o, q, _⟩ := dF ff b hb; ⟨o, q⟩) same) nw tr2
end
theorem aC.got {P : Program} {w : World} {H : Hp} {h : Heap} {a : Addr} {o : HO} (x : aC P w H h a o) : ∃ ob, h.get? a = some ob := by
 cases o with
 | lst xs => obtain ⟨_, _, _, _, e⟩ := x; exact ⟨_, e⟩
 | tup xs => obtain ⟨_, _, _, o, e, _⟩ := x; exact ⟨_, e⟩
 | dK kvs => obtain ⟨_, _, _, _, o, _, _, e, _⟩ := x; exact ⟨_, e⟩
 | dT kvs => obtain ⟨_, _, _, _, o, _, _, e, _⟩ := x; exact ⟨_, e⟩
 | set S n => obtain ⟨o, _, _, _, e, _⟩ := x; exact ⟨_, e⟩
 | ins C dx fs => obtain ⟨_, _, _, e, _⟩ := x; exact ⟨_, e⟩
 | own y => exact x
 | xd fs => obtain ⟨_, ⟨_, _, _, e, _⟩, _⟩ := x; exact ⟨_, e⟩
 | rng lo hi => obtain ⟨_, _, _, e⟩ := x; exact ⟨_, e⟩
 | frz ob u => obtain ⟨e, _⟩ := x; exact ⟨_, e⟩
 | tbl ps => exact ⟨_, (show h.get? a = some _ from x)⟩
 | met f y => exact ⟨_, (show h.get? a = some _ from x)⟩
 | ext φ => obtain ⟨_, e, _⟩ := x; exact e
theorem my {CX : CXT} {P : Program} {w : World} {K : PySem.W.Frag} {mg : Str -> Option Value} {base : Heap} {N : List Str} {qual : Str} {scope : Scope} {f : Addr} {cd : Value} {A : Around} {outer : List Env} {s0 : Shared} {H0 : Hp} {E0' : XK}
  {pins : List (Addr × Obj)} {σ : St} {H' : Hp} {s' : Shared} {E : XK} {ea T' : Addr} {cls a0 : Value} {dx : Option Addr} {h' : Heap} {G : List Addr}
  (I : Inv (cw CX P w K mg base N qual scope f cd A outer s0 H0 E0') pins σ H' s')
  (mv : Moved (frs (envOfC qual scope s0.heap.objs.size f cd :: outer)) G s'.heap h')
  (hG : ∀ b ∈ G, s0.heap.get? b = none /\ H' b = none) (tr : Trc h' ea T' cls a0 dx) (e1 : s0.heap.get? ea = none) (e2 : H' ea = none) (e3 : T' ∈ G \/ s'.heap.get? T' = none) (hE : E cls dx H') :
  CXE P w outer H0 s0 E (.ref ea) { s' with heap := h' } := by
 have kp := mv.keep
 have sl := mv.slot
 have base' := I.base
 have hok := I.hok
 have nL : ∀ b o, s0.heap.get? b = some o -> b ∉ frs outer -> b ∉ frs (envOfC qual scope s0.heap.objs.size f cd :: outer) := fun b o q hb hm => by
  have hm' : b ∈ s0.heap.objs.size :: frs outer := hm
  rcases List.mem_cons.mp hm' with z | z
  ·exact absurd (Heap.lt_size q) (by rw [z]; exact Nat.lt_irrefl _)
  ·exact hb z
 have nG : ∀ b o, s0.heap.get? b = some o -> b ∉ G := fun b o q hb => by rw [(hG b hb).1] at q; cases q
 have mO : ∀ b, b ∈ frs outer -> b ∈ frs (envOfC qual scope s0.heap.objs.size f cd :: outer) := fun b hb => List.mem_cons_of_mem _ hb
 have T0 : s0.heap.get? T' = none := by
  rcases e3 with z | z
  ·exact (hG _ z).1
  ·cases hc : s0.heap.get? T' with
   | none => rfl
   | some o =>
    obtain ⟨o', q⟩ := base'.there T' o hc (by show T' ∉ []; simp)
    rw [z] at q; cases q
 have TH : H' T' = none := by
  rcases e3 with z | z
  ·exact (hG _ z).2
  ·cases hc : H' T' with
   | none => rfl
   | some o =>
    obtain ⟨ob, q⟩ := aC.got (hok T' o hc)
    rw [z] at q; cases q
 refine ⟨ea, T', cls, a0, dx, H', rfl, I.os, I.bare, ?_, ?_, e1, T0, e2, TH, tr, hE⟩
 ·refine ⟨fun b o q n hb hx => ?_, fun b o q n hb hx => ?_, fun b o q n hx => base'.free b o q n hx, fun b o q hx => ?_, base'.tups, base'.frzs, base'.tbls⟩
  ·exact kp b o (base'.keep b o q n hb hx) (nL b o q hb) (nG b o q)
  ·obtain ⟨s1, q1⟩ := base'.slot b o q n hb hx
   obtain ⟨s2, q2⟩ := sl b _ q1 (mO b hb)
   exact ⟨s2, q2⟩
  ·obtain ⟨o', q'⟩ := base'.there b o q hx
   by_cases hb : b ∈ frs (envOfC qual scope s0.heap.objs.size f cd :: outer)
   ·obtain ⟨s2, q2⟩ := sl b _ q' hb
    exact ⟨_, q2⟩
   ·exact ⟨o', kp b o' q' hb (nG b o q)⟩
 ·intro a o hH
  have nf : ∀ b u, H' b = some u -> b ∉ frs (envOfC qual scope s0.heap.objs.size f cd :: outer) /\ b ∉ G := fun b u q => ⟨fun hm => (by
   have := I.stkFree b hm
   rw [q] at this; cases this), fun hm => (by rw [(hG b hm).2] at q; cases q)⟩
  refine (hok a o hH).stay (fun b u hb q => ?_) (fun _ q => q) fun _ _ q => q
  rcases hb with z | z
  ·rw [z] at q ⊢; exact kp a u q (nf a o hH).1 (nf a o hH).2
  ·exact kp b u q (nf b _ z).1 (nf b _ z).2
theorem mQ {P : Program} {w : World} {K : PySem.W.Frag} {mg : Str -> Option Value} {base : Heap} {N : List Str} {qual : Str} {scope : Scope} {f : Addr} {cd : Value} {A : Around} {outer : List Env} {s0 : Shared} {H0 : Hp} {E : XK} :
  eg (CXE P w) (cw (CXE P w) P w K mg base N qual scope f cd A outer s0 H0 E) E := by
 intro pins σ H s e s' I h
 obtain ⟨ea, T, cls, a0, dx, H', rfl, os, bare, un, hok, n1, n2, m1, m2, trc, hE⟩ := h
 have I' : Inv (cw (CXE P w) P w K mg base N qual scope f cd A outer s0 H0 E) pins σ H' s' := I.call' (ch := []) os un hok bare (by simp)
 have back : ∀ b, s.heap.get? b = none -> s0.heap.get? b = none := fun b q => by
  cases hc : s0.heap.get? b with
  | none => rfl
  | some o =>
   obtain ⟨o', q'⟩ := I.base.there b o hc (by show b ∉ []; simp)
   rw [q] at q'; cases q'
 show wpAny (model P w) (A.deeper (envOfC qual scope s0.heap.objs.size f cd)) (leaving (envOfC qual scope s0.heap.objs.size f cd) (.ref ea)) _ _ s'
 refine oK (outer := outer) (L := s0.heap.objs.size) I'.ok.frames rfl I'.stack trc fun h' T' mv nw tr' => ?_
 exact my (G := [ea, T]) I' mv (fun b hb => by
  simp at hb
  rcases hb with z | z
  ·rw [z]; exact ⟨back _ n1, m1⟩
  ·rw [z]; exact ⟨back _ n2, m2⟩) tr' (back _ n1) m1 (.inr nw) hE
theorem va {P : Program} {w : World} {K : PySem.W.Frag} {mg : Str -> Option Value} {base : Heap} {N : List Str} {qual : Str} {scope : Scope} {f : Addr} {cd : Value} {A : Around} {outer : List Env} {s0 : Shared} {H0 : Hp} {E : XK}
  {pins : List (Addr × Obj)} {σ : St} {H : Hp} {s : Shared} {ea : Addr} {oe : Obj} {vs : Array Value} {a0 : Value}
  (I : Inv (cw (CXE P w) P w K mg base N qual scope f cd A outer s0 H0 E) pins σ H s) (h1 : s.heap.get? ea = some oe) (h2 : oe.data = Data.fields vs) (h3 : vs[1]? = some Value.none) (h4 : vs[0]? = some a0) (back : s0.heap.get? ea = none) (he : H ea = none) (hE : E oe.cls oe.dict H) :
  (cw (CXE P w) P w K mg base N qual scope f cd A outer s0 H0 E).xe (.ref ea) s := by
 show wpAny (model P w) (A.deeper (envOfC qual scope s0.heap.objs.size f cd)) (leaving (envOfC qual scope s0.heap.objs.size f cd) (.ref ea)) _ _ s
 refine leave_new (outer := outer) (L := s0.heap.objs.size) I.ok.frames rfl I.stack h1 h2 h3 h4 fun h'' T' mv nT tr => ?_
 exact my (G := [ea]) I mv (fun b hb => by
  have z : b = ea := by simpa using hb
  rw [z]; exact ⟨back, he⟩) tr back he (.inr nT) hE
noncomputable def eC (h : Heap) (C : Addr) : Prop := ∃ (nm q : Str) (N : Addr) (bs bm bmB : List Value) (hdct : Bool) (sn : List Str) (sub : List Value) (ab : Bool) (col : Option Bool) (dd : Option Addr) (k0 k1 k2 k3 k5 : Option Value) (mN : Str -> Option Value) (B Bn newId nid initId inN : String) (bmN : List Value),
 h.get? C = some (excClassObj nm q C N bs bm hdct sn sub ab col dd k0 k1 k2 k3 k5 newId) /\ h.Ns N mN /\ mN (Str.ofString "__init__") = none /\ OwnTail h bmB bm /\ bm.contains (Value.type "BaseException") = true /\ ExcBaseFacts Bn newId inN bmN /\ bmB.contains (Value.type Bn) = true /\ ExcBaseFacts B nid initId bmB
section
variable {X : Cx} {x : Str} {C : Addr} {e : Expr} {es : List Expr} {t : TA} {np cpos pos : Pos} {W : Hp -> Prop}
end
section
variable {P : Program} {w : World} {K : PySem.W.Frag} {mg : Str -> Option Value} {base : Heap}
theorem Fun.okX {x qual : Str} {st : Stmt} {f : Addr} {fd : FuncData} {N ps : List Str} {k : Nat} {sp : Sp} (F : Fun K x qual st f fd) (S : aL N ps (aB st)) (len : ∀ vs H Q E, sp vs H Q E -> vs.length = ps.length)
  (hbody : ∀ (cdv : Value) (A : Around) (outer : List Env) (s : Shared) (H : Hp) (vs : List V) (Q : VK) (E : XK), aI k (A.deeper (envOfC qual (aB st) s.heap.objs.size f cdv)) -> sp vs H Q E ->
   ∃ t, PSs (cw (CXE P w) P w K mg base N qual (aB st) f cdv A outer s H E) (bR st) t /\ t { nx := fun _ H' => Q .non H', rt := Q } (start N vs) H) : aE P w K mg base (CXE P w) (k + 1) f fd ps sp := by
 obtain ⟨oc, od, kV, doc, pm, an, cdv, ct, osl, rfl, lk, hcd⟩ := F.ex
 exact ny lk hcd S len fun A outer s H vs Q E hr hsp => hbody cdv A outer s H vs Q E hr hsp
noncomputable def FnX (P : Program) (w : World) (K : PySem.W.Frag) (mg : Str -> Option Value) (base : Heap) (k : Nat) (x : Str) (ps : List Str) (sp : Sp) : Prop :=
 ∃ f fd, mg x = some (.ref f) /\ PySem.W.keepIn K (.ref f) = true /\ Binds K fd ps [] /\ aE P w K mg base (CXE P w) k f fd ps sp
end
theorem mG {X : Cx} {k : Nat} {x : Str} {ps : List Str} {sp : Sp} {E : XK} {e : Expr} {es : List Expr} {t : TA} {p pos : Pos} (F : FnX X.prog X.w X.K X.mg X.base k x ps sp) (hr : aI k X.A) (hx : eg (CXE X.prog X.w) X E) (ha : PA X (e :: es) t) (hg : Gl X x := by rfl)
  (hdb : (x == ("__debug__" : Str)) = false := by decide) (he : starEach (e :: es) X.env = (false, eval e X.env) :: starEach es X.env := by rfl) (hpl : (backTo pos (starEach es X.env)).any (·.1) = false := by rfl) :
  PE X (.Call (.Name x p) (e :: es) [] pos) (fK sp [] E t) := by
 obtain ⟨f, fd, h1, h2, h3, h4⟩ := F
 exact lU h4 hr hg h1 h2 h3 .nil hx ha hdb he hpl
noncomputable def XP (X : Cx) (pins : List (Addr × Obj)) (Ex : St -> Value -> Option Addr -> Hp -> Prop) (e : Value) (s1 : Shared) : Prop :=
 ∃ (σ : St) (H : Hp) (s : Shared), Inv X pins σ H s /\ CXE X.prog X.w X.stack H s (fun cls dx H' => Ex σ cls dx H') e s1
noncomputable abbrev TEX := (St -> Value -> Option Addr -> Hp -> Prop) -> St -> Hp -> VK -> Prop
noncomputable abbrev TSX := (St -> Value -> Option Addr -> Hp -> Prop) -> Ends -> St -> Hp -> Prop
noncomputable def PEX (X : Cx) (e : Expr) (t : TEX) : Prop := ∀ (pins : List (Addr × Obj)) (s : Shared) (σ : St) (H : Hp) (Q : VK) (Ex : St -> Value -> Option Addr -> Hp -> Prop), Inv X pins σ H s -> t Ex σ H Q -> wpAny (model X.prog X.w) X.A (eval e X.env) (EP X pins σ Q) (XP X pins Ex) s
noncomputable def PSX (X : Cx) (st : Stmt) (t : TSX) : Prop := ∀ (pins : List (Addr × Obj)) (s : Shared) (σ : St) (H : Hp) (D : Ends) (Ex : St -> Value -> Option Addr -> Hp -> Prop), Inv X pins σ H s -> t Ex D σ H -> wpAny (model X.prog X.w) X.A (exec st X.env) (SP X pins D) (XP X pins Ex) s
section
variable {X : Cx} {k : Nat} {x : Str} {ps : List Str} {sp : Sp} {e : Expr} {es : List Expr} {t : TA} {p pos : Pos}
noncomputable def vt (sp : Sp) (t : TA) : TEX := fun Ex σ H Q => t σ H fun vs H1 => sp vs H1 Q (fun cls dx H' => Ex σ cls dx H')
theorem lS (F : FnX X.prog X.w X.K X.mg X.base k x ps sp) (hr : aI k X.A) (ha : PA X.nox (e :: es) t) (hg : Gl X x := by rfl)
  (hdb : (x == ("__debug__" : Str)) = false := by decide) (he : starEach (e :: es) X.env = (false, eval e X.env) :: starEach es X.env := by rfl) (hpl : (backTo pos (starEach es X.env)).any (·.1) = false := by rfl) :
  PEX X (.Call (.Name x p) (e :: es) [] pos) (vt sp t) := by
 obtain ⟨f, fd, hm, hk, hb, F⟩ := F
 intro pins s σ H Q Ex I h
 refine wpAny_Call_Name_kw (dY I hg hm ?_ hdb)
 have I0 : Inv X.nox pins σ H s := ⟨⟨I.ok.mod, I.ok.kind, I.ok.glob, I.ok.blt, I.ok.above, I.ok.inj, I.ok.has, I.ok.cab, I.ok.hd, I.ok.frames, I.ok.stk, I.ok.exf, I.ok.bs, I.ok.bsz, I.ok.noex, I.ok.exfs, I.ok.funs, I.ok.frf⟩, I.os, I.bare, I.base, I.loc, I.cell, I.free, I.freeC, I.pin, I.hok, I.len⟩
 refine PySem.W.callWith_K (h₀ := X.base) I.ok.mod.kin hk (wpAny_mono (ha pos pins s σ H _ I0 h) (fun us s1 hq => ?_) fun _ _ z => False.elim z) he hpl
 obtain ⟨vs, H1, I1, r, q⟩ := hq
 have I2 : Inv X pins σ H1 s1 := ⟨⟨I1.ok.mod, I1.ok.kind, I1.ok.glob, I1.ok.blt, I1.ok.above, I1.ok.inj, I1.ok.has, I1.ok.cab, I1.ok.hd, I1.ok.frames, I1.ok.stk, I1.ok.exf, I1.ok.bs, I1.ok.bsz, I1.ok.noex, I1.ok.exfs, I1.ok.funs, I1.ok.frf⟩, I1.os, I1.bare, I1.base, I1.loc, I1.cell, I1.free, I1.freeC, I1.pin, I1.hok, I1.len⟩
 refine ⟨I2.kIn, ?_⟩
 have hl : us.length = ps.length := by rw [<- r.length]; exact F.len _ _ _ _ q
 have hbb := hb s1 us I2.kIn (by simpa using hl)
 simp only [List.append_nil] at hbb
 refine wpAny_call (codeAny_mono (F.run X.A X.stack s1 H1 ⟨us, []⟩ us vs Q (fun cls dx H' => Ex σ cls dx H') hr I2.env0 hbb r q) fun r s' hq => ?_)
 cases r with
 | error e => exact ⟨σ, H1, s1, I2, hq⟩
 | ok fl =>
  cases fl with
  | ret u => exact I2.after hq
  | next => exact False.elim hq
  | brk => exact False.elim hq
  | cont => exact False.elim hq
noncomputable def u6 (te : TEX) : TSX := fun Ex D σ H => te Ex σ H fun _ H1 => D.nx σ H1
theorem tH {te : TEX} (he : PEX X e te) (hs : swapsWith e none pos.line X.env = pure false := by rfl) : PSX X (.Expr e pos) (u6 te) := by
 intro pins s σ H D Ex I h
 exact wpAny_Expr_any (thn (he pins s σ H _ Ex I h) fun v s1 ⟨x, H1, I1, r1, q1⟩ => ⟨σ, H1, I1, q1⟩) I.quiet hs
noncomputable def vV (i : Nat) (te : TEX) : TSX := fun Ex D σ H => te Ex σ H fun y H1 => D.nx (σ.set i (some y)) H1
theorem vb {te : TEX} {i : Nat} {y : Str} {pos' : Pos} (hN : X.N.Nodup) (hi : X.N[i]? = some y) (hx : Loc X.env.scope y) (he : PEX X e te) (hs : swapsWith e (some (.Name y pos')) pos.line X.env = pure false := by rfl) (hf : X.fn y = true \/ X.env.scope.names.lookup y = some .local := by first | exact .inl rfl | exact .inr rfl | assumption) :
  PSX X (.Assign [.Name y pos'] e pos) (vV i te) := by
 intro pins s σ H D Ex I h
 refine wpAny_Assign_Name (thn (he pins s σ H _ Ex I h) fun v s1 ⟨z, H1, I1, r1, q1⟩ => ?_) hs
 exact dR I1 hN hi hx r1 (fun s2 I2 => ⟨_, H1, I2, q1⟩) hf
end
theorem OwnTail.has {h : Heap} {a b : List Value} {v : Value} (x : OwnTail h a b) (hv : a.contains v = true) : b.contains v = true := by
 induction x with
 | base => exact hv
 | own _ _ _ _ ih => rw [List.contains_cons, ih, Bool.or_true]
theorem ub {K : Frag} {h : Heap} {C : Addr} {bmB : List Value} {newId initId B : String} (X : K.In h) (hx : excIn K C bmB newId = true) (f : ExcBaseFacts B newId initId bmB) : eC h C := by
 unfold excIn at hx
 split at hx
 ·rename_i dct cd sl heq
  split at hx
  ·rename_i C' bm k0 k1 k2 k3 n k5 hm hs
   simp only [Bool.and_eq_true, Bool.not_eq_true', beq_iff_eq] at hx
   obtain ⟨⟨⟨⟨⟨h1, h2⟩, h3⟩, h4⟩, h5⟩, h6⟩ := hx
   subst h1
   subst h2
   have ho := X _ _ heq
   have hsl : sl = #[k0, k1, k2, k3, some (.builtin n), k5] := by
    rw [<- Array.toList_inj]; exact hs
   obtain ⟨nm, bs, mro, ns, qn, hdct, sn, sub, ab, col, hdel⟩ := cd
   simp only at hm h3 h4 h5 h6
   subst hm
   subst h3
   subst hsl
   refine ⟨nm, qn, ns, bs, bm, bmB, hdct, sn, sub, ab, col, dct, k0, k1, k2, k3, k5, h.nsMap ns, B, B, n, n, initId, initId, bmB, ho, ?_, nsMap_none_of_in X h5 h6, tail_of_in X h4, OwnTail.has (tail_of_in X h4) f.hasBase, f, f.hasB, f⟩
   exact Heap.Ns.of_isNs (isNs_of_in X h5)
  ·cases hx
 ·cases hx
theorem oh : isSubtype (.type "type") (.type "tuple") = pure false := by rw [isSubtype_type]; kernel_rfl
theorem jU {M : Model} {A : Around} {E : Value -> Shared -> Prop} {nm q nm' q' : Str} {C N R N' : Addr} {bs bm bs' bm' : List Value} {hdct hdct' : Bool} {sn sn' : List Str} {sub sub' : List Value} {ab ab' : Bool} {col col' : Option Bool} {dd dd' : Option Addr} {k0 k1 k2 k3 k5 l0 l1 l2 l3 l5 : Option Value} {newId newId' : String}
  {s : Shared} {e : Addr} {oe : Obj} {Q : Bool -> Shared -> Prop} (hC : s.heap.get? C = some (excClassObj nm q C N bs bm hdct sn sub ab col dd k0 k1 k2 k3 k5 newId)) (hR : s.heap.get? R = some (excClassObj nm' q' R N' bs' bm' hdct' sn' sub' ab' col' dd' l0 l1 l2 l3 l5 newId'))
  (he : s.heap.get? e = some oe) (hc : oe.cls = .ref C) (hb : bm'.contains (.type "BaseException") = true) (k : Q ((Value.ref C :: bm).contains (.ref R)) s) : wpAny M A (excMatches (.ref e) (.ref R)) Q E s := by
 unfold excMatches
 refine wpAny_bind (wpAny_isInstance (T := "type") ⟨_, hR, rfl⟩ oh ?_)
 simp only [Bool.false_eq_true, if_false, pure_bind, List.forIn_cons, List.forIn_nil]
 obtain ⟨h, g, d, tk, os⟩ := s
 have hex : ∀ {Q' : Bool -> Shared -> Prop}, Q' true ⟨h, g, d, tk, os⟩ -> wpAny M A (isExcClass (.ref R)) Q' E ⟨h, g, d, tk, os⟩ := fun {Q'} qq => by
  unfold isExcClass isType
  simp only [bind_assoc, pure_bind]
  refine wpAny_bind (wpAny_loadPart hR ?_)
  simp only [if_true]
  refine wpAny_isSubtype_exc hR ?_
  rw [List.contains_cons, hb, Bool.or_true]
  exact qq
 refine wpAny_bind (wpAny_bind (wpAny_bind (hex ?_)))
 simp only [Bool.not_true, Bool.false_eq_true, if_false]
 refine wpAny_pure (wpAny_pure (wpAny_bind (wpAny_typeOf_ref he ?_)))
 rw [hc]
 refine wpAny_bind (wpAny_bind (wpAny_bind (wpAny_isSubtype_exc hC ?_)))
 cases c : (Value.ref C :: bm).contains (Value.ref R) with
 | true =>
  rw [c] at k
  exact wpAny_pure (wpAny_pure (wpAny_pure k))
 | false =>
  rw [c] at k
  exact wpAny_pure (wpAny_pure (wpAny_pure k))
section
variable {X : Cx} {pins : List (Addr × Obj)} {σ : List (Option V)} {H H' : Hp} {s : Shared} {h' : Heap}
theorem Inv.stepN {g' : Array GenState} {t' : Nat} {d' : Drawn} {ch : List Addr} (I : Inv X pins σ H s)
  (hch : ∀ b ∈ ch, X.s₀.heap.get? b = none /\ b ≠ X.env.locals /\ (∀ x c, X.env.cells.lookup x = some c -> c ≠ b) /\ ∀ p ∈ X.pn ++ pins, p.1 ≠ b)
  (keep : ∀ b o, b ≠ X.env.locals -> b ∉ X.fs -> b ∉ ch -> s.heap.get? b = some o -> H b = none -> h'.get? b = some o)
  (slot : ∀ b o, b ≠ X.env.locals -> b ∈ X.fs -> b ∉ ch -> s.heap.get? b = some o -> H b = none -> ∃ sl, h'.get? b = some { o with slots := sl }) (free : ∀ b o, b ∉ ch -> s.heap.get? b = some o -> H b = none -> H' b = none)
  (there : ∀ b o, b ∉ ch -> s.heap.get? b = some o -> ∃ o', h'.get? b = some o')
  (tups : ∀ b xs, H b = some (.tup xs) -> H' b = some (.tup xs)) (frzs : ∀ b o u, H b = some (.frz o u) -> H' b = some (.frz o u)) (tbls : ∀ b ps, H b = some (.tbl ps) -> ∃ more, H' b = some (.tbl (ps ++ more)))
  (ns : ∀ m, s.heap.Ns X.env.locals m -> h'.Ns X.env.locals m) (hok : HOk X.prog X.w H' h') (hg : AllBare g') :
  Inv X pins σ H' { s with heap := h', gens := g', drawn := d', toks := t' } := by
 have neL : ∀ b o, X.s₀.heap.get? b = some o -> b ≠ X.env.locals := fun b o e => Nat.ne_of_lt (Nat.lt_of_lt_of_le (Heap.lt_size e) I.ok.above)
 have neC : ∀ b o, X.s₀.heap.get? b = some o -> b ∉ X.ex -> b ∉ ch := fun b o e hx hb => by
  rw [(hch b hb).1] at e; cases e
 have cellK : ∀ x c, X.env.cells.lookup x = some c -> ∀ v, s.heap.IsCell c v -> h'.IsCell c v := fun x c e v ⟨o, ho, hd⟩ => by
  have nch : c ∉ ch := fun z => (hch c z).2.2.1 x c e rfl
  by_cases hc : c ∈ X.fs
  ·obtain ⟨sl, q⟩ := slot c o (I.cne x c e) hc nch ho (I.freeC x c e)
   exact ⟨_, q, hd⟩
  ·exact ⟨o, keep c o (I.cne x c e) hc nch ho (I.freeC x c e), hd⟩
 refine ⟨I.ok, I.os, hg, ⟨fun b o e n hb hx => ?_, fun b o e n hb hx => ?_, fun b o e n hx => ?_, fun b o e hx => ?_, fun b xs e => tups b xs (I.base.tups b xs e), fun b o xs e => frzs b o xs (I.base.frzs b o xs e), fun b ps e => ?_⟩, ?_, fun x c e => ?_, ?_, fun x c e => ?_, fun p hp => ?_, hok, I.len⟩
 ·exact keep b o (neL b o e) hb (neC b o e hx) (I.base.keep b o e n hb hx) (I.base.free b o e n hx)
 ·obtain ⟨sl, e1⟩ := I.base.slot b o e n hb hx
  obtain ⟨sl', e2⟩ := slot b _ (neL b o e) hb (neC b o e hx) e1 (I.base.free b o e n hx)
  exact ⟨sl', e2⟩
 ·obtain ⟨o', e1⟩ := I.base.there b o e hx
  exact free b o' (neC b o e hx) e1 (I.base.free b o e n hx)
 ·obtain ⟨o', e1⟩ := I.base.there b o e hx
  exact there b o' (neC b o e hx) e1
 ·obtain ⟨m1, e1⟩ := I.base.tbls b ps e
  obtain ⟨m2, e2⟩ := tbls b _ e1
  exact ⟨m1 ++ m2, by rw [e2, Array.append_assoc]⟩
 ·obtain ⟨m, hn, hl⟩ := I.loc
  refine ⟨m, ns m hn, fun i x v e1 e2 e3 => ?_⟩
  obtain ⟨u, r, l⟩ := hl i x v e1 e2 e3
  refine ⟨u, r, ?_⟩
  rcases l with l | ⟨k, c, e, z⟩
  ·exact .inl l
  ·exact .inr ⟨k, c, e, cellK x c e _ z⟩
 ·obtain ⟨v, z⟩ := I.cell x c e
  exact ⟨v, cellK x c e v z⟩
 ·obtain ⟨m, ⟨o, _, _, ho, _⟩, _⟩ := I.loc
  exact free _ o (fun z => (hch _ z).2.1 rfl) ho I.free
 ·obtain ⟨v, o, ho, hd⟩ := I.cell x c e
  exact free c o (fun z => (hch c z).2.2.1 x c e rfl) ho (I.freeC x c e)
 ·obtain ⟨e, n, ne, nf, d⟩ := I.pin p hp
  have nch : p.1 ∉ ch := fun z => (hch p.1 z).2.2.2 p hp rfl
  exact ⟨keep p.1 p.2 ne nf nch e n, free p.1 p.2 nch e n, ne, nf, d⟩
theorem Inv.moved {G : List Addr} (I : Inv X pins σ H s) (hG : ∀ b ∈ G, X.s₀.heap.get? b = none /\ H b = none /\ b ≠ X.env.locals /\ (∀ x c, X.env.cells.lookup x = some c -> c ≠ b) /\ ∀ p ∈ X.pn ++ pins, p.1 ≠ b)
  (kp : ∀ b o, s.heap.get? b = some o -> b ∉ frs X.stack -> b ∉ G -> h'.get? b = some o) (sl : ∀ b o, s.heap.get? b = some o -> b ∈ frs X.stack -> ∃ sl, h'.get? b = some { o with slots := sl }) :
  Inv X pins σ H { s with heap := h' } := by
 refine I.stepN (g' := s.gens) (d' := s.drawn) (t' := s.toks) (ch := G) (fun b hb => ⟨(hG b hb).1, (hG b hb).2.2⟩) (fun b o hL hb hc e _ => kp b o e (fun z => (List.mem_cons.mp (I.stkSub b z)).elim hL hb) hc) (fun b o hL hb hc e _ => ?_) (fun _ _ _ _ n => n) (fun b o hc e => ?_) (fun _ _ e => e) (fun _ _ _ e => e) (fun b ps e => ⟨#[], by rw [e]; simp⟩) (fun m hm => ?_) (fun b u e => ?_) I.bare
 ·by_cases z : b ∈ frs X.stack
  ·exact sl b o e z
  ·exact ⟨o.slots, kp b o e z hc⟩
 ·by_cases z : b ∈ frs X.stack
  ·obtain ⟨q, q'⟩ := sl b o e z
   exact ⟨_, q'⟩
  ·exact ⟨o, kp b o e z hc⟩
 ·obtain ⟨o, es, ep, ho, r⟩ := hm
  by_cases z : X.env.locals ∈ frs X.stack
  ·obtain ⟨q, q'⟩ := sl _ o ho z
   exact ⟨_, es, ep, q', r⟩
  ·exact ⟨o, es, ep, kp _ o ho z (fun y => (hG _ y).2.2.1 rfl), r⟩
 ·have nf : ∀ c v, H c = some v -> c ∉ frs X.stack /\ c ∉ G := fun c v q => ⟨fun hm => (by
   have := I.stkFree c hm
   rw [q] at this; cases this), fun hm => (by rw [(hG c hm).2.1] at q; cases q)⟩
  refine (I.hok b u e).stay (fun c v hc q => ?_) (fun _ q => q) fun _ _ q => q
  rcases hc with z | z
  ·rw [z] at q ⊢; exact kp b v q (nf b u e).1 (nf b u e).2
  ·exact kp c v q (nf c _ z).1 (nf c _ z).2
end
section
variable {X : Cx} {pins : List (Addr × Obj)} {σ : List (Option V)} {H : Hp} {s : Shared}
theorem qQ {M : Model} {A : Around} {E : Value -> Shared -> Prop} {i : Nat} {x : Str} {v : V} {Q : Unit -> Shared -> Prop} (I : Inv X pins σ H s) (hN : X.N.Nodup) (hi : X.N[i]? = some x) (hk : X.env.scope.names.lookup x = some .local) (hv : σ[i]? = some (some v))
  (h : ∀ s', Inv X pins (σ.set i none) H s' -> Q () s') : wpAny M A (unbindName X.env x) Q E s := by
 obtain ⟨m, hn, hl⟩ := id I.loc
 have hcls : (X.env.scope.kind == .class || (X.env.scope.kind == .module && X.env.locals != X.env.globals)) = false := by rw [I.ok.kind]; rfl
 have hlen : i < σ.length := by rw [I.len]; exact (List.getElem?_eq_some_iff.mp hi).1
 obtain ⟨u, r, lk⟩ := hl i x v hi hv (.inl hk)
 have hm : m x = some u := by
  rcases lk with ⟨_, e⟩ | ⟨z, _⟩
  ·exact e
  ·have hk' : X.env.kindOf x = some .local := hk
   rcases z with z | z <;> (rw [hk'] at z; cases z)
 refine wpAny_unbindName_local hk hn hm hcls fun h' u' hn' hs => ?_
 have nb : ∀ b o, X.s₀.heap.get? b = some o -> b ≠ X.env.locals := fun b o e => Nat.ne_of_lt (Nat.lt_of_lt_of_le (Heap.lt_size e) I.ok.above)
 have cne := I.cne
 refine h _ ⟨I.ok, I.os, I.bare, ⟨fun b o e n hb hx => (hs.2 b (nb b o e)).trans (I.base.keep b o e n hb hx), fun b o e n hb hx => ?_, I.base.free, fun b o e hx => ?_, I.base.tups, I.base.frzs, I.base.tbls⟩, ⟨_, hn', fun j y w e1 e2 e3 => ?_⟩, fun y c e => ?_, I.free, I.freeC, fun p hp => ?_, fun b ob e => ?_, ?_⟩
 ·obtain ⟨sl, e1⟩ := I.base.slot b o e n hb hx
  exact ⟨sl, (hs.2 b (nb b o e)).trans e1⟩
 ·obtain ⟨o', e1⟩ := I.base.there b o e hx
  exact ⟨o', (hs.2 b (nb b o e)).trans e1⟩
 ·by_cases hj : j = i
  ·subst hj
   rw [List.getElem?_set_self hlen] at e2
   cases e2
  ·rw [List.getElem?_set_ne (Ne.symm hj)] at e2
   obtain ⟨u2, r2, q⟩ := hl j y w e1 e2 e3
   refine ⟨u2, r2, ?_⟩
   rcases q with ⟨k, e⟩ | ⟨k, c, e, z⟩
   ·refine .inl ⟨k, ?_⟩
    have : y ≠ x := fun e => hj (iL hN e1 (e ▸ hi))
    simp [this, e]
   ·exact .inr ⟨k, c, e, z.sameBut hs (cne y c e)⟩
 ·obtain ⟨w', z⟩ := I.cell y c e
  exact ⟨w', z.sameBut hs (cne y c e)⟩
 ·obtain ⟨e, n, ne, nf, d⟩ := I.pin p hp
  exact ⟨(hs.2 p.1 ne).trans e, n, ne, nf, d⟩
 ·refine (I.hok b ob e).stay (fun c w' hc q => (hs.2 c ?_).trans q) (fun _ q => q) fun _ _ q => q
  rintro rfl
  rcases hc with z | z
  ·have := I.free
   rw [z] at this; rw [this] at e; cases e
  ·rw [I.free] at z; cases z
 ·rw [List.length_set]; exact I.len
end
section
variable {X : Cx} {pins : List (Addr × Obj)} {σ : St} {H : Hp} {s : Shared} {ea C : Addr} {o : HO}
theorem Inv.track (I : Inv X pins σ H s) (hn : H ea = none) (h0 : X.s₀.heap.get? ea = none) (hl : ea ≠ X.env.locals) (hc : ∀ x c, X.env.cells.lookup x = some c -> c ≠ ea) (hp : ∀ p ∈ X.pn ++ pins, p.1 ≠ ea)
  (new : aC X.prog X.w (upd H ea o) s.heap ea o) : Inv X pins σ (upd H ea o) s := by
 have J := I.stepN (h' := s.heap) (H' := upd H ea o) (g' := s.gens) (d' := s.drawn) (t' := s.toks) (ch := [ea]) (fun b hb => by
   have z : b = ea := by simpa using hb
   rw [z]; exact ⟨h0, hl, hc, hp⟩) (fun b o _ _ _ e _ => e) (fun b o _ _ _ e _ => ⟨o.slots, e⟩) (fun b o hb e n => by rw [ag (fun z => hb (by simp [z]))]; exact n) (fun b o _ e => ⟨o, e⟩)
  (fun b xs e => by rw [ag (av e hn)]; exact e) (fun b o u e => by rw [ag (av e hn)]; exact e) (fun b ps e => ⟨#[], by rw [ag (av e hn), e]; simp⟩) (fun m hm => hm) (fun b u e => ?_) I.bare
 ·exact J
 ·by_cases z : b = ea
  ·rw [z, ai] at e
   cases e
   rw [z]; exact new
  ·rw [ag z] at e
   exact (I.hok b u e).stay (fun _ _ _ q => q) (fun b q => by rw [ag (av q hn)]; exact q) (fun b xs q => by rw [ag (av q hn)]; exact q)
noncomputable def bM (ea C : Addr) (dx : Option Addr) : HO := .ext fun h => ∃ oe vs, h.get? ea = some oe /\ oe.cls = .ref C /\ oe.dict = dx /\ oe.data = Data.fields vs
theorem uy {P : Program} {w : World} {H : Hp} {h : Heap} {oe : Obj} {dx : Option Addr} {vs : Array Value} (h1 : h.get? ea = some oe) (h2 : oe.cls = .ref C) (h3 : oe.dict = dx) (h4 : oe.data = Data.fields vs) : aC P w H h ea (bM ea C dx) :=
 ⟨⟨oe, vs, h1, h2, h3, h4⟩, ⟨oe, h1⟩, fun h1' h2' ⟨o, vs', q1, q2⟩ k => ⟨o, vs', k o q1, q2⟩⟩
end
noncomputable def Cx.held (X : Cx) (ea : Addr) : Cx := { X with A := X.A.mark (some (.ref ea)), calm := false, xe := fun _ _ => False }
section
variable {X : Cx} {pins : List (Addr × Obj)} {σ : St} {H : Hp} {s : Shared} {ea : Addr}
theorem Inv.held (I : Inv X pins σ H s) (ea : Addr) : Inv (X.held ea) pins σ H s :=
 ⟨⟨I.ok.mod, I.ok.kind, I.ok.glob, I.ok.blt, I.ok.above, I.ok.inj, I.ok.has, I.ok.cab, (fun z => by cases z), I.ok.frames, I.ok.stk, I.ok.exf, I.ok.bs, I.ok.bsz, I.ok.noex, I.ok.exfs, I.ok.funs, I.ok.frf⟩, I.os, I.bare, I.base, I.loc, I.cell, I.free, I.freeC, I.pin, I.hok, I.len⟩
theorem Inv.unheld (ok : X.Ok) (I : Inv (X.held ea) pins σ H s) : Inv X pins σ H s :=
 ⟨ok, I.os, I.bare, I.base, I.loc, I.cell, I.free, I.freeC, I.pin, I.hok, I.len⟩
theorem gm {M : Model} {A : Around} {E : Value -> Shared -> Prop} {i : Nat} {n : Str} {pos : Pos} {Q : Unit -> Shared -> Prop} (I : Inv X pins σ H s) (hN : X.N.Nodup) (hi : X.N[i]? = some n) (hk : X.env.scope.names.lookup n = some .local)
  (h : ∀ s', Inv X pins (σ.set i none) H s' -> Q () s') : wpAny M A (do bindName X.env n Value.none; unbindBehindTheSuite X.env n pos) Q E s := by
 refine wpAny_bind (wpAny_bindName (dR I hN hi (.inl hk) (v := .non) rfl (fun s' I' => ?_) (.inr hk)))
 have hl : i < σ.length := by rw [I.len]; exact (List.getElem?_eq_some_iff.mp hi).1
 unfold unbindBehindTheSuite
 refine wpAny_onRaise (qQ I' hN hi hk (v := .non) (List.getElem?_set_self hl) fun s2 I2 => h s2 ?_)
 rw [List.set_set] at I2
 exact I2
noncomputable def Under (h : Heap) (C R : Addr) : Prop := ∃ (nm q : Str) (N : Addr) (bs bm : List Value) (hdct : Bool) (sn : List Str) (sub : List Value) (ab : Bool) (col : Option Bool) (dd : Option Addr) (k0 k1 k2 k3 k5 : Option Value) (newId : String),
 h.get? C = some (excClassObj nm q C N bs bm hdct sn sub ab col dd k0 k1 k2 k3 k5 newId) /\ (Value.ref C :: bm).contains (.ref R) = true
noncomputable def nk (D : Ends) (j : Nat) : Ends := { nx := fun σ H => D.nx (σ.set j none) H, rt := D.rt, bk := fun σ H => D.bk (σ.set j none) H, ct := fun σ H => D.ct (σ.set j none) H }
noncomputable def wu (tx : TSX) (th : TS) (j : Nat) (U : Addr -> Prop) : TS := fun D σ H => tx (fun σ1 cls dx H' => ∃ C, cls = .ref C /\ U C /\ ∀ ea, H' ea = none -> th (nk D j) (σ1.set j (some (.ref ea))) (upd H' ea (bM ea C dx))) D σ H
end
section
variable {X : Cx} {st b0 : Stmt} {suite : List Stmt} {tx : TSX} {th : TS} {x n : Str} {R : Addr} {j : Nat} {np hpos pos : Pos}
theorem vA (hst : PSX X st tx) (hx : X.mg x = some (.ref R)) (hR : eC X.base R) (hth : ∀ ea, PSs (X.held ea) (b0 :: suite) th) (hN : X.N.Nodup) (hj : X.N[j]? = some n) (hn : X.env.scope.names.lookup n = some .local) (hstk : X.stack = X.env :: X.outer) (hfr : X.env.frame = some X.env.locals) (hex : X.ex = [])
  (hg : Gl X x := by rfl) (hdb : (x == ("__debug__" : Str)) = false := by decide) :
  PS X (.Try [st] [.ExceptHandler (some (.Name x np)) (some n) (b0 :: suite) hpos] [] [] pos) (wu tx th j fun C => Under X.base C R) := by
 intro pins s σ H D I h
 refine wpAny_Try_except (wpAny_execs_cons (wpAny_mono (hst pins s σ H D _ I h) (fun f s1 q => ?_) (fun e s1 q => ?_)))
 ·cases f with
  | next => exact wpAny_execs_nil (wpAny_execs_nil q)
  | ret v => exact q
  | brk => exact q
  | cont => exact q
 ·obtain ⟨σ1, H1, s2, I1, ea, T, cls, a0, dx, H', rfl, os, bare, un, hok, n1, n2, m1, m2, trc, C, rfl, hu, hth'⟩ := q
  have I' : Inv X pins σ1 H' s1 := I1.call' (ch := []) os un hok bare (by simp)
  have ffs := I'.stack
  rw [hstk] at ffs
  have afr : X.A.frames = some (X.env :: X.outer) := by rw [<- hstk]; exact I'.ok.frames
  have there : ∀ b o, s2.heap.get? b = some o -> ∃ o', s1.heap.get? b = some o' := fun b o q => un.there b o q (by simp)
  have newAt : ∀ b, s2.heap.get? b = none -> X.s₀.heap.get? b = none /\ b ≠ X.env.locals /\ (∀ x c, X.env.cells.lookup x = some c -> c ≠ b) /\ ∀ p ∈ X.pn ++ pins, p.1 ≠ b := fun b q => by
   refine ⟨?_, fun z => ?_, fun y c e z => ?_, fun p hp z => ?_⟩
   ·cases hc : X.s₀.heap.get? b with
    | none => rfl
    | some o =>
     obtain ⟨o', q'⟩ := I1.base.there b o hc (by rw [hex]; simp)
     rw [q] at q'; cases q'
   ·obtain ⟨m, ⟨o, _, _, ho, _⟩, _⟩ := I1.loc
    rw [<- z, q] at ho; cases ho
   ·obtain ⟨v, o, ho, _⟩ := I1.cell y c e
    rw [z, q] at ho; cases ho
   ·have := (I1.pin p hp).1
    rw [z, q] at this; cases this
  have noH : ∀ b, s1.heap.get? b = none -> H' b = none := fun b q => by
   cases hc : H' b with
   | none => rfl
   | some o =>
    obtain ⟨ob, q'⟩ := aC.got (hok b o hc)
    rw [q] at q'; cases q'
  have mk : ∀ b, s2.heap.get? b = none -> H' b = none -> X.s₀.heap.get? b = none /\ H' b = none /\ b ≠ X.env.locals /\ (∀ x c, X.env.cells.lookup x = some c -> c ≠ b) /\ ∀ p ∈ X.pn ++ pins, p.1 ≠ b := fun b q1 q2 => ⟨(newAt b q1).1, q2, (newAt b q1).2⟩
  refine jN (Q := fun _ s3 => wpAny (model X.prog X.w) X.A (handleBy (Value.ref ea) X.env [ExceptHandler.ExceptHandler (some (Expr.Name x np)) (some n) (b0 :: suite) hpos]) (SP X pins D) X.xe s3) (base := X.base) afr hfr ffs trc fun h3 T3 mv3 nw3 tr3 => ?_
  have nT3 : s2.heap.get? T3 = none /\ H' T3 = none := by
   refine ⟨?_, noH T3 nw3⟩
   cases hc : s2.heap.get? T3 with
   | none => rfl
   | some o =>
    obtain ⟨o', q'⟩ := there T3 o hc
    rw [nw3] at q'; cases q'
  have I3 : Inv X pins σ1 H' { s1 with heap := h3 } := I'.moved (G := [ea, T]) (fun b hb => by
   simp at hb
   rcases hb with z | z
   ·rw [z]; exact mk ea n1 m1
   ·rw [z]; exact mk T n2 m2) (fun b o q hb hg => mv3.keep b o q (by rw [<- hstk]; exact hb) hg) (fun b o q hb => mv3.slot b o q (by rw [<- hstk]; exact hb))
  refine wpAny_handleBy_cons (codeAny_handlers_test ?_) (by intro z; cases z)
  refine dY (X := X.held ea) (I3.held ea) hg hx ?_ hdb
  obtain ⟨nm, q, N, bs, bm, bmB, hdct, sn, sub, ab, col, dd, k0, k1, k2, k3, k5, mN, B, Bn, newId, nid, initId, inN, bmN, a1, a2, a3, a4, a5, a6, a7, a8⟩ := hR
  obtain ⟨nm', q', N', bs', bm', hdct', sn', sub', ab', col', dd', l0, l1, l2, l3, l5, newId', c1, c2⟩ := hu
  obtain ⟨oe, vs, oT, ts, g1, g2, g3, g4, g5, g6, g7, g8, g9, g10⟩ := id tr3
  refine jU (I3.bk _ _ c1) (I3.bk _ _ a1) g1 g2 a5 ?_
  rw [c2]
  show codeAny _ _ (Code.handlers (.ref ea) [ExceptHandler.ExceptHandler none (some n) (b0 :: suite) hpos] X.env) _ _
  refine codeAny_handlers_suite_as (ground tr3 fun h4 same4 tr4 => ?_)
  have I4 : Inv X pins σ1 H' { s1 with heap := h4 } := Inv.moved (s := { s1 with heap := h3 }) (h' := h4) (G := [T3]) I3 (fun b hb => by
   have z : b = T3 := by simpa using hb
   rw [z]; exact mk T3 nT3.1 nT3.2) (fun b o q hb hg => (same4 b fun z => hg (by simp [z])).trans q) (fun b o q hb => ⟨o.slots, (same4 b fun z => by
    obtain ⟨o2, q2, nf⟩ := dF I3.stack b hb
    rw [z, g7] at q2; cases q2; exact nf _ g8).trans q⟩)
  obtain ⟨oe4, vs4, oT4, ts4, f1, f2, _, f4, _, _, _, _, _, f10⟩ := id tr4
  have I4t : Inv X pins σ1 (upd H' ea (bM ea C dx)) { s1 with heap := h4 } := I4.track m1 (newAt ea n1).1 (newAt ea n1).2.1 (newAt ea n1).2.2.1 (newAt ea n1).2.2.2 (uy f1 f2 f10 f4)
  refine dR (X := X.held ea) (I4t.held ea) hN hj (.inl hn) (v := .ref ea) rfl (fun s5 I5 => ?_) (.inr hn)
  refine wpAny_mono (hth ea pins s5 (σ1.set j (some (.ref ea))) (upd H' ea (bM ea C dx)) (nk D j) I5 (hth' ea m1)) (fun f s6 q6 => ?_) (fun _ _ z => False.elim z)
  cases f with
  | next =>
   obtain ⟨σ2, H2, J, q⟩ := q6
   exact gm (J.unheld I.ok) hN hj hn fun s7 I7 => ⟨σ2.set j none, H2, I7, q⟩
  | brk =>
   obtain ⟨σ2, H2, J, q⟩ := q6
   exact gm (J.unheld I.ok) hN hj hn fun s7 I7 => ⟨σ2.set j none, H2, I7, q⟩
  | cont =>
   obtain ⟨σ2, H2, J, q⟩ := q6
   exact gm (J.unheld I.ok) hN hj hn fun s7 I7 => ⟨σ2.set j none, H2, I7, q⟩
  | ret u =>
   obtain ⟨v, σ2, H2, J, rv, q⟩ := q6
   exact gm (J.unheld I.ok) hN hj hn fun s7 I7 => ⟨v, σ2.set j none, H2, I7, rv, q⟩
end
section
variable {X : Cx} {pins : List (Addr × Obj)} {σ : St} {H : Hp} {s : Shared}
end
section
variable {X : Cx} {st : Stmt} {rest : List Stmt} {t u : TSX} {pos : Pos}
end
open Builtin Builtin.ObjectAttr
inductive bQ (h : Heap) (S : List Str) (bmB : List Value) : List Value -> Prop
 | base : bQ h S bmB bmB
 | own {B : Addr} {c0 : Value} {dd : Option Addr} {cd : ClassData} {sl : Array (Option Value)} {m : Str -> Option Value} {tl : List Value} (e : h.get? B = some ⟨c0, dd, .cls cd, sl⟩) (n : h.Ns cd.ns m) (i : ∀ x ∈ S, m x = none) (r : bQ h S bmB tl) : bQ h S bmB (.ref B :: tl)
section
variable {h h' : Heap} {S : List Str} {bmB tl : List Value}
theorem bQ.stays (k : ∀ b o, h.get? b = some o -> h'.get? b = some o) (x : bQ h S bmB tl) : bQ h' S bmB tl := by
 induction x with
 | base => exact .base
 | own e n i _ ih => exact .own (k _ _ e) (n.keeps k) i ih
theorem bQ.plain (hS : Str.ofString "__init__" ∈ S) (x : bQ h S bmB tl) : OwnTail h bmB tl := by
 induction x with
 | base => exact .base
 | own e n i _ ih => exact .own e n (i _ hS) ih
theorem bQ.has (x : bQ h S bmB tl) {T : String} {b : Bool} (hb : bmB.contains (.type T) = b) : tl.contains (.type T) = b := by
 induction x with
 | base => exact hb
 | own _ _ _ _ ih => rw [List.contains_cons, ih]; rfl
theorem bQ.passes {self : Value} {what : Str} (x : bQ h S bmB tl) (hb : refuseLoop self what bmB = pure ()) : refuseLoop self what tl = pure () := by
 induction x with
 | base => exact hb
 | own _ _ _ _ ih => rw [refuseLoop_ref]; exact ih
end
section
variable {M : Model} {A : Around} {E : Value -> Shared -> Prop} {h : Heap} {g : Array GenState} {d : Drawn} {t : Nat} {os : OsState} {S : List Str} {bmB tl : List Value} {x : Str} {y : Option Value} {Q : Option Value -> Shared -> Prop}
theorem tU (hx : x ∈ S) (T : bQ h S bmB tl) (hr : lookupAlong bmB x = pure y) (hq : Q y ⟨h, g, d, t, os⟩) : wpAny M A (lookupAlong tl x) Q E ⟨h, g, d, t, os⟩ := by
 induction T with
 | base => rw [hr]; exact wpAny_pure hq
 | own e n i _ ih =>
  rw [lookupAlong_cons]
  refine wpAny_bind (wpAny_classOwn_cls e n ?_)
  rw [i x hx]
  exact ih
variable {nm q : Str} {C N : Addr} {bs bm : List Value} {hdct : Bool} {sn : List Str} {sub : List Value} {ab : Bool} {col : Option Bool} {dd : Option Addr} {k0 k1 k2 k3 k5 : Option Value} {B newId : String} {mN : Str -> Option Value}
theorem fq (c1 : h.get? C = some (excClassObj nm q C N bs bm hdct sn sub ab col dd k0 k1 k2 k3 k5 newId)) (c2 : h.Ns N mN) (c3 : mN x = none) (hx : x ∈ S) (T : bQ h S bmB bm) (mr : mroOf (.type B) = pure bmB) (hB : typeLookup (.type B) x = pure y) (hq : Q y ⟨h, g, d, t, os⟩) :
  wpAny M A (typeLookup (.ref C) x) Q E ⟨h, g, d, t, os⟩ := by
 have hr : lookupAlong bmB x = pure y := by rw [typeLookup_eq, mr] at hB; exact hB
 rw [typeLookup_eq]
 refine wpAny_bind (wpAny_mroOf_exc c1 ?_)
 rw [lookupAlong_cons]
 refine wpAny_bind (wpAny_classOwn_exc c1 c2 ?_)
 rw [c3]
 exact tU hx T hr hq
end
structure cH (S : List Str) (h : Heap) (C f : Addr) (nm q : Str) (N : Addr) (bs bm bmB : List Value) (sn : List Str) (sub : List Value) (ab : Bool) (col : Option Bool) (dd : Option Addr) (k0 k1 k2 k3 k5 : Option Value) (mN : Str -> Option Value) (B newId initId sa ow : String) : Prop where
 at_ : h.get? C = some (excClassObj nm q C N bs bm true sn sub ab col dd k0 k1 k2 k3 k5 newId)
 ns : h.Ns N mN
 init : mN (Str.ofString "__init__") = some (.ref f)
 no : ∀ x ∈ S, mN x = none
 tail : bQ h (Str.ofString "__init__" :: S) bmB bm
 bf : ExcBaseFacts B newId initId bmB
 sf : StoreFacts B bmB sa ow
 af : ExcAttrBase B bmB
theorem cH.stays {S : List Str} {h h' : Heap} {C f : Addr} {nm q : Str} {N : Addr} {bs bm bmB : List Value} {sn : List Str} {sub : List Value} {ab : Bool} {col : Option Bool} {dd : Option Addr} {k0 k1 k2 k3 k5 : Option Value} {mN : Str -> Option Value} {B newId initId sa ow : String}
  (x : cH S h C f nm q N bs bm bmB sn sub ab col dd k0 k1 k2 k3 k5 mN B newId initId sa ow) (k : ∀ b o, h.get? b = some o -> h'.get? b = some o) : cH S h' C f nm q N bs bm bmB sn sub ab col dd k0 k1 k2 k3 k5 mN B newId initId sa ow :=
 ⟨k _ _ x.at_, x.ns.keeps k, x.init, x.no, x.tail.stays k, x.bf, x.sf, x.af⟩
section
variable {prog : Program} {w : World} {A : Around} {E : Value -> Shared -> Prop} {h : Heap} {g : Array GenState} {d : Drawn} {t : Nat} {os : OsState}
 {S : List Str} {C f : Addr} {nm q : Str} {N : Addr} {bs bm bmB : List Value} {sn : List Str} {sub : List Value} {ab : Bool} {col : Option Bool} {dd : Option Addr} {k0 k1 k2 k3 k5 : Option Value} {mN : Str -> Option Value} {B newId initId sa ow : String}
theorem pe (x : cH S h C f nm q N bs bm bmB sn sub ab col dd k0 k1 k2 k3 k5 mN B newId initId sa ow) {us : List Value} {oI : Obj} {Q : Fin -> Shared -> Prop} (f1 : h.get? f = some oI) (f2 : oI.cls = .type "function")
  (k : ∀ h' e, h.MadeExcOf h' e (.ref C) us -> wpAny (model prog w) A (call (.ref f) (.ref e :: us)) (fun r s' => r = .none /\ Q (.done (.ret (.ref e))) s') E ⟨h', g, d, t, os⟩) (hl : us.length <= sizeLine) :
  wpAny (model prog w) A (Builtin.«type.__call__» ⟨.ref C :: us, []⟩) Q E ⟨h, g, d, t, os⟩ := by
 have c1 := x.at_
 have T := x.tail.plain (List.mem_cons_self ..)
 repeat (first | with_reducible refine wpAny_loadPart_at c1 ?_ | with_reducible refine wpAny_madeBy_exc c1 ?_ | wp_step)
 refine codeAny_call_builtin_code (Code.quiet_builtin _ x.bf.quiet) (wpAny_check_new_subT x.bf T c1 (codeAny_exc_new_subT x.bf T c1 ?_ hl))
 show wpAny _ _ _ _ _ _
 generalize hob : ({ cls := .ref C, data := .fields #[.ref h.objs.size, .none, .none, .none, .bool false, .none] } : Obj) = ob
 generalize hot : ({ cls := .type "tuple", data := .seq us.toArray } : Obj) = ot
 have kp : ∀ b o, h.get? b = some o -> ((h.push ot).push ob).get? b = some o := fun b o z => Heap.get?_push_of_some _ (Heap.get?_push_of_some _ z)
 have g1 : ((h.push ot).push ob).get? (h.objs.size + 1) = some ob := by
  have := Heap.get?_push_size (h.push ot) (o := ob) (by rw [<- hob]; rfl)
  rwa [Heap.size_push] at this
 have oc : ob.cls = .ref C := by rw [<- hob]
 have c2 := kp _ _ c1
 have cC : (Value.ref C :: bm).contains (.ref C) = true := by simp
 unfold isInstance
 repeat (first | (with_reducible refine wpAny_loadPart_at g1 ?_; rw [oc]) | (with_reducible refine wpAny_isSubtype_exc c2 ?_; rw [cC]) | wp_step)
 show wpAny _ _ (typeLookup (.ref C) _) _ _ _
 refine wpAny_typeLookup_tail c2 (x.ns.keeps kp) (T.keeps kp) x.bf.mroIs x.bf.init.lookup ?_
 rw [show mN "__init__" = some (.ref f) from x.init]
 refine wpAny_holding (wpAny_bind ?_)
 unfold bindSpecial
 refine wpAny_bind (wpAny_typeOf (T := "function") ⟨_, kp _ _ f1, f2⟩ ?_)
 rw [if_pos (by decide)]
 refine wpAny_pure (wpAny_bind (wpAny_mono (k _ (h.objs.size + 1) ⟨kp, Heap.get?_none_of_le (Nat.le_succ _), h.objs.size, by rw [hob]; exact g1, Heap.get?_none_of_le (Nat.le_refl _), ?_⟩) (fun r s' hr => ?_) fun _ _ z => z))
 ·rw [hot]
  exact Heap.get?_push_of_some _ (Heap.get?_push_size h (by rw [<- hot]; rfl))
 ·obtain ⟨rfl, hQ⟩ := hr
  wp_walk
  exact hQ
theorem vh (x : cH S h C f nm q N bs bm bmB sn sub ab col dd k0 k1 k2 k3 k5 mN B newId initId sa ow) {us : List Value} {oI : Obj} {Q : Value -> Shared -> Prop} (f1 : h.get? f = some oI) (f2 : oI.cls = .type "function")
  (k : ∀ h' e, h.MadeExcOf h' e (.ref C) us -> wpAny (model prog w) (A.under (.builtin "type.__call__" ⟨.ref C :: us, []⟩)) (call (.ref f) (.ref e :: us)) (fun r s' => r = .none /\ Q (.ref e) s') E ⟨h', g, d, t, os⟩) (hl : us.length <= sizeLine) :
  wpAny (model prog w) A (call (.ref C) us) Q E ⟨h, g, d, t, os⟩ := by
 have l1 := tc_lookup
 have l2 := tc_bind (.ref C)
 have c1 := x.at_
 have hT : (⟨h, g, d, t, os⟩ : Shared).TypeIs (.ref C) "type" := ⟨_, c1, rfl⟩
 refine wpAny_call (codeAny_of_tree ?_)
 show wpAny _ _ (callAny (.ref C) _) _ _ _
 repeat (any_goals (first | assumption | with_reducible refine wpAny_loadPart_at c1 ?_ | wp_step))
 refine ⟨rfl, codeAny_call_builtin_at (Code.quiet_builtin _ (by decide +kernel)) entry_typeCall (wpAny_check_type_call_sub c1 (pe x f1 f2 (fun h' e m => ?_) hl))⟩
 exact k h' e m
end
noncomputable def fF (C : Addr) (dx : Option Addr) (t : Addr) : Obj := { cls := .ref C, dict := dx, data := .fields #[.ref t, .none, .none, .none, .bool false, .none] }
noncomputable def c9 (e C : Addr) (dx : Option Addr) : HO := .ext fun h => ∃ t, h.get? e = some (fF C dx t)
theorem lG {P : Program} {w : World} {H : Hp} {h : Heap} {e C t : Addr} {dx : Option Addr} (q : h.get? e = some (fF C dx t)) : aC P w H h e (c9 e C dx) :=
 ⟨⟨t, q⟩, ⟨_, q⟩, fun h1 h2 ⟨t', z⟩ k => ⟨t', k _ z⟩⟩
theorem lF {P : Program} {w : World} {H : Hp} {h : Heap} {e C : Addr} {dx : Option Addr} (x : aC P w H h e (c9 e C dx)) : ∃ t, h.get? e = some (fF C dx t) := x.1
noncomputable def del (H : Hp) (a : Addr) : Hp := fun b => if b = a then none else H b
theorem iJ {H : Hp} {a : Addr} : del H a a = none := by unfold del; rw [if_pos rfl]
theorem cW {H : Hp} {a b : Addr} (h : b ≠ a) : del H a b = H b := by unfold del; rw [if_neg h]
section
variable {X : Cx} {pins : List (Addr × Obj)} {σ : St} {H : Hp} {s : Shared} {ea : Addr} {φ : Heap -> Prop}
theorem Inv.untrack (I : Inv X pins σ H s) (he : H ea = some (.ext φ)) : Inv X pins σ (del H ea) s := by
 have ne : ∀ b u, H b = some u -> (∀ ψ, u ≠ .ext ψ) -> b ≠ ea := fun b u q n z => by
  rw [z, he] at q; cases q
  exact n _ rfl
 have J := I.step (h' := s.heap) (H' := del H ea) (g' := s.gens) (d' := s.drawn) (t' := s.toks) (ch := []) (fun b hb => absurd hb (by simp)) (fun b o _ _ _ e _ => e) (fun b o _ _ _ e _ => ⟨o.slots, e⟩) (fun b o _ _ n => by
   by_cases z : b = ea
   ·rw [z]; exact iJ
   ·rw [cW z]; exact n) (fun b o _ e => ⟨o, e⟩)
  (fun b xs e => by rw [cW (ne b _ e fun _ z => by cases z)]; exact e) (fun b o u e => by rw [cW (ne b _ e fun _ z => by cases z)]; exact e) (fun b ps e => ⟨#[], by rw [cW (ne b _ e fun _ z => by cases z), e]; simp⟩) (fun m hm => hm) (fun b u e => ?_) I.bare
 ·exact J
 ·by_cases z : b = ea
  ·rw [z, iJ] at e; cases e
  ·rw [cW z] at e
   exact (I.hok b u e).stay (fun _ _ _ q => q) (fun b q => by rw [cW (ne b _ q fun _ z => by cases z)]; exact q) (fun b xs q => by rw [cW (ne b _ q fun _ z => by cases z)]; exact q)
end
section
variable {M : Model} {A : Around} {E : Value -> Shared -> Prop} {s : Shared} {env : Env} {x : Sem Value} {Q : Flow -> Shared -> Prop}
 {nm q : Str} {C N : Addr} {bs bm : List Value} {hdct : Bool} {sn : List Str} {sub : List Value} {ab : Bool} {col : Option Bool} {dd : Option Addr} {k0 k1 k2 k3 k5 : Option Value} {newId : String}
theorem pC (hb : bm.contains (.type "BaseException") = true) (hh : A.handled = none)
  (h : wpAny M A x (fun v s1 => ∃ e t dx, v = .ref e /\ s1.heap.get? C = some (excClassObj nm q C N bs bm hdct sn sub ab col dd k0 k1 k2 k3 k5 newId) /\ s1.heap.get? e = some (fF C dx t) /\ E (.ref e) s1) E s) :
  wpAny M A (raiseStmt env (some x) none) Q E s := by
 have cB : (Value.ref C :: bm).contains (.type "BaseException") = true := by rw [List.contains_cons, hb, Bool.or_true]
 unfold raiseStmt
 refine wpAny_bind (wpAny_mono h (fun v s1 h1 => ?_) fun _ _ z => z)
 obtain ⟨e, t, dx, rfl, c1, e1, hE⟩ := h1
 unfold fF at e1
 obtain ⟨hp, g, d, tk, os⟩ := s1
 repeat (first | with_reducible refine wpAny_loadPart_at e1 ?_ | with_reducible refine wpAny_loadPart_at c1 ?_ | (with_reducible refine wpAny_isSubtype_exc c1 ?_; rw [cB]) | wp_step)
 exact wpAny_raiseNew_none hh hE
end
noncomputable def dH (S : List Str) (h : Heap) (C f : Addr) : Prop := ∃ nm q N bs bm bmB sn sub ab col dd k0 k1 k2 k3 k5 mN B newId initId sa ow, cH S h C f nm q N bs bm bmB sn sub ab col dd k0 k1 k2 k3 k5 mN B newId initId sa ow /\ (∀ x ∈ S, x ≠ Str.ofString "__setattr__" -> x ≠ Str.ofString "__getattribute__" -> x ≠ Str.ofString "__getattr__" -> typeLookup (.type B) x = pure none) /\ ∃ oI, h.get? f = some oI /\ oI.cls = .type "function"
noncomputable def tF (C : Addr) (t : TA) (sp : Sp) (W : Value -> Option Addr -> Hp -> Prop) : TS := fun _ σ H => t σ H fun vs H1 => vs.length <= sizeLine /\ ∀ e, H1 e = none ->
 sp (.ref e :: vs) (upd H1 e (c9 e C none)) (fun v H2 => v = .non /\ ∃ dx, H2 e = some (c9 e C dx) /\ W (.ref C) dx (del H2 e)) E0
section
variable {X : Cx} {x : Str} {C f : Addr} {fd : FuncData} {ps : List Str} {sp : Sp} {k : Nat} {e : Expr} {es : List Expr} {t : TA} {np cpos pos : Pos} {W : Value -> Option Addr -> Hp -> Prop} {S : List Str}
theorem p4 (hx : X.mg x = some (.ref C)) (hC : dH S X.base C f) (F : aE X.prog X.w X.K X.mg X.base CX0 k f fd ps sp) (hr : aI (k + 1) X.A) (hbi : Binds X.K fd ps []) (hd : X.A.handled = none) (ha : PA X (e :: es) t)
  (xe : ∀ (pins : List (Addr × Obj)) (σ : St) (H : Hp) (s : Shared) (ea : Addr) (oe : Obj) (vs : Array Value) (a0 : Value), Inv X pins σ H s -> s.heap.get? ea = some oe -> oe.data = Data.fields vs -> vs[1]? = some Value.none -> vs[0]? = some a0 -> X.s₀.heap.get? ea = none -> H ea = none -> W oe.cls oe.dict H -> X.xe (.ref ea) s)
  (hex : X.ex = []) (hg : Gl X x := by rfl) (hdb : (x == ("__debug__" : Str)) = false := by decide) (he : starEach (e :: es) X.env = (false, eval e X.env) :: starEach es X.env := by rfl) (hpl : (backTo cpos (starEach (e :: es) X.env)).any (·.1) = false := by rfl) :
  PS X (.Raise (some (.Call (.Name x np) (e :: es) [] cpos)) none pos) (tF C t sp W) := by
 intro pins s σ H D I h
 obtain ⟨nm, q, N, bs, bm, bmB, sn, sub, ab, col, dd, k0, k1, k2, k3, k5, mN, B, newId, initId, sa, ow, EI, _, oI, f1, f2⟩ := hC
 rw [arm_exec_Raise]
 have hb : bm.contains (.type "BaseException") = true := EI.tail.has EI.bf.hasBase
 refine wpAny_bind (wpAny_standAt (pC (C := C) (nm := nm) (q := q) (N := N) (bs := bs) (bm := bm) (hdct := true) (sn := sn) (sub := sub) (ab := ab) (col := col) (dd := dd) (k0 := k0) (k1 := k1) (k2 := k2) (k3 := k3) (k5 := k5) (newId := newId) hb hd (wpAny_bind (wpAny_mono (wpAny_Call_ofName (dY I hg hx ?_ hdb)) (fun v s3 h3 => wpAny_bind (wpAny_standAt (wpAny_pure h3))) fun _ _ z => z))))
 unfold callWith
 have hpa := ha cpos pins s σ H _ I h
 have eb : backTo cpos (starEach (e :: es) X.env) = (false, eval e X.env) :: backTo cpos (starEach es X.env) := by rw [he]; rfl
 rw [eb] at hpa hpl ⊢
 refine wpAny_bind (wpAny_holding (Calls.evalArgs_plain (thn hpa fun us s2 hq => wpAny_bind (wpAny_standAt ?_))))
 obtain ⟨vs, H1, I1, r1, hl, hw⟩ := hq
 simp only [hpl]
 have kb := I1.bk
 have EI2 := EI.stays kb
 obtain ⟨hp, g, d, tk, os⟩ := s2
 refine wpAny_bind (wpAny_keeperOf_exc EI2.at_ (wpAny_bind (vh EI2 (kb _ _ f1) f2 (fun h' ea m => ?_) (by show us.length <= sizeLine; rw [<- r1.length]; exact hl))))
 obtain ⟨keeps, new, t0, there, tn, tt⟩ := m
 have I2 : Inv X pins σ H1 ⟨h', g, d, tk, os⟩ := I1.kept (s := ⟨hp, g, d, tk, os⟩) (t' := tk) keeps
 have he1 : H1 ea = none := by
  cases hc : H1 ea with
  | none => rfl
  | some o =>
   obtain ⟨ob, q⟩ := aC.got (I1.hok ea o hc)
   rw [new] at q; cases q
 have back : X.s₀.heap.get? ea = none := by
  cases hc : X.s₀.heap.get? ea with
  | none => rfl
  | some o =>
   obtain ⟨o', q'⟩ := I1.base.there ea o hc (by rw [hex]; simp)
   rw [new] at q'; cases q'
 have nl : ea ≠ X.env.locals := fun z => by
  obtain ⟨m, ⟨o, _, _, ho, _⟩, _⟩ := I1.loc
  rw [<- z, new] at ho; cases ho
 have nc : ∀ x c, X.env.cells.lookup x = some c -> c ≠ ea := fun y c e z => by
  obtain ⟨v, o, ho, _⟩ := I1.cell y c e
  rw [z, new] at ho; cases ho
 have np' : ∀ p ∈ X.pn ++ pins, p.1 ≠ ea := fun p hp z => by
  have := (I1.pin p hp).1
  rw [z, new] at this; cases this
 have I3 : Inv X pins σ (upd H1 ea (c9 ea C none)) ⟨h', g, d, tk, os⟩ := I2.track he1 back nl nc np' (lG (t := t0) there)
 have hs := hw ea he1
 have r2 : ao (V.ref ea :: vs) (Value.ref ea :: us) := .cons rfl r1
 have hln : (Value.ref ea :: us).length = ps.length := by
  rw [<- r2.length]; exact F.len _ _ _ _ hs
 have hbb := hbi ⟨h', g, d, tk, os⟩ (.ref ea :: us) I3.kIn (by simpa using hln)
 simp only [List.append_nil] at hbb
 refine wpAny_call (codeAny_mono (F.run _ X.stack _ _ ⟨Value.ref ea :: us, []⟩ (Value.ref ea :: us) _ _ E0 (hr.make C us []) (I3.env0.make C us []) hbb r2 hs) fun r s' hq' => ?_)
 cases r with
 | error e => exact False.elim hq'
 | ok fl =>
  cases fl with
  | ret u =>
   obtain ⟨v, H', J, rv, ev, dx, hd2, hW⟩ := I3.after hq'
   subst ev
   cases (show u = Value.none from rv)
   obtain ⟨t1, q1⟩ := lF (J.hok ea _ hd2)
   refine ⟨rfl, wpAny_bind (wpAny_holding (wpAny_point (wpAny_pure ⟨ea, t1, dx, rfl, (J.bk _ _ EI.at_), q1, ?_⟩)))⟩
   exact xe pins σ (del H' ea) s' ea _ _ _ (J.untrack hd2) q1 rfl rfl rfl back iJ hW
  | next => exact False.elim hq'
  | brk => exact False.elim hq'
  | cont => exact False.elim hq'
end
open Builtin Builtin.ObjectAttr
section
variable {prog : Program} {w : World} {A : Around} {E : Value -> Shared -> Prop} {h : Heap} {g : Array GenState} {d : Drawn} {t : Nat} {os : OsState}
 {S : List Str} {C f x : Addr} {nm q : Str} {N : Addr} {bs bm bmB : List Value} {sn : List Str} {sub : List Value} {ab : Bool} {col : Option Bool} {dd : Option Addr} {k0 k1 k2 k3 k5 : Option Value} {mN : Str -> Option Value} {B newId initId sa ow : String}
 {o : Obj} {vs : Array Value} {name : Str} {v : Value}
theorem qK {M : Model} {nv : Value} {Q : Unit -> Shared -> Prop} (K : cH S h C f nm q N bs bm bmB sn sub ab col dd k0 k1 k2 k3 k5 mN B newId initId sa ow) (x1 : h.get? x = some o) (x2 : o.cls = .ref C) (hq : Q () ⟨h, g, d, t, os⟩) :
  wpAny M A (checkBuiltinCall sa ⟨[.ref x, nv, v], []⟩) Q E ⟨h, g, d, t, os⟩ := by
 have c1 := K.at_
 have cB : (Value.ref C :: bm).contains (.type ow) = true := by rw [List.contains_cons, K.tail.has K.sf.hasOwner, Bool.or_true]
 have ha := K.sf.args (.ref x) nv v
 simp only [checkBuiltinCall, K.sf.kind, K.sf.split]
 refine wpAny_bind ?_
 unfold isInstance
 repeat (first | (with_reducible refine wpAny_loadPart_at x1 ?_; rw [x2]) | (with_reducible refine wpAny_isSubtype_exc c1 ?_; rw [cB]) | wp_step)
 cases hs : Manifest.signature? sa with
 | none => exact wpAny_pure hq
 | some sig =>
  simp only [argsOk, hs] at ha
  show wpAny M A (Bind.checkArgs sa sig ⟨[.ref x, nv, v], []⟩) Q E _
  rw [show Bind.checkArgs sa sig ⟨[.ref x, nv, v], []⟩ = pure () from ha]
  exact wpAny_pure hq
theorem p7 {tk : Tok} {Q : Fin -> Shared -> Prop} (K : cH S h C f nm q N bs bm bmB sn sub ab col dd k0 k1 k2 k3 k5 mN B newId initId sa ow) (hS : name ∈ S) (hB : typeLookup (.type B) name = pure none)
  (x1 : h.get? x = some o) (x2 : o.cls = .ref C) (x3 : o.dict = none) (x4 : o.data = .fields vs)
  (hq : ∀ h' tk', h'.get? x = some { o with dict := some h.objs.size } -> h'.Ns1 h.objs.size (fun y => if y = name then some v else none) -> (∀ b u, b ≠ x -> h.get? b = some u -> h'.get? b = some u) -> Q (.done (.ret .none)) ⟨h', g, d, tk', os⟩) :
  wpAny (model prog w) A (Builtin.«object.__setattr__» ⟨[.ref x, .str name tk, v], []⟩) Q E ⟨h, g, d, t, os⟩ := by
 have c1 := K.at_
 have hp : refuseLoop (.ref x) "__setattr__" bm = pure () := K.tail.passes (K.sf.passes (.ref x))
 have hn := K.no name hS
 unfold Builtin.«object.__setattr__»
 repeat (first | rw [refuse_eq] | (rw [refuseLoop_ref, hp]) | (with_reducible refine wpAny_loadPart_at x1 ?_; rw [x2]) | with_reducible refine wpAny_mroOf_exc c1 ?_ | with_reducible refine fq c1 K.ns hn (List.mem_cons_of_mem _ hS) K.tail K.sf.mro hB ?_ | wp_step)
 rw [x3, if_neg (by simp [typeHasDict])]
 split
 ·rename_i z
  cases z
 split
 ·rename_i c z
  rw [x4] at z; cases z
 ·generalize hod : ({ cls := .type "dict", data := .dict #[] } : Obj) = od
  have e1 : (h.push od).get? x = some o := Heap.get?_push_of_some _ x1
  have nx : x ≠ h.objs.size := Nat.ne_of_lt (Heap.lt_size x1)
  refine wpAny_bind (wpAny_alloc' (wpAny_bind (wpAny_update' e1 (wpAny_pure ?_))))
  generalize hU : (fun o : Obj => ({ cls := o.cls, dict := some h.objs.size, data := o.data, slots := o.slots } : Obj)) = U
  have nf : (U o).isFreed = false := by
   rw [<- hU]
   have z := (Heap.get?_some_iff.mp x1).2
   obtain ⟨_, _, dt, _⟩ := o
   cases dt <;> first | rfl | exact z
  have gd : ((h.push od).update x U).get? h.objs.size = some od := (Heap.get?_update_ne _ _ _ _ nx.symm).trans (Heap.get?_push_at rfl (by rw [<- hod]; rfl))
  have nd : ((h.push od).update x U).Ns h.objs.size (fun _ => none) := ⟨_, #[], _, gd, by rw [<- hod], fun e he => absurd he (by simp), fun _ => rfl⟩
  show wpAny _ _ (storeInDict h.objs.size (.str name tk) name v) _ _ _
  unfold storeInDict newKeyGuard
  refine wpAny_bind (wpAny_pure (wpAny_bind (wpAny_nsSet1 (Heap.Ns1.of_empty nd) fun h' n' hs => ?_)))
  obtain ⟨oD, esD, epD, hoD, hdD, hcD⟩ := n'.count (Within.cons name v Within.nil)
  refine wpAny_bind (wpAny_lookBehind hoD (by rw [hdD]; exact pastItsLine_dict (Nat.le_trans hcD (by rw [List.length_cons, List.length_nil, sizeLine_eq]; omega))) ?_)
  wp_walk
  refine hq h' _ ?_ n' fun b u n q => (hs.2 b (Nat.ne_of_lt (Heap.lt_size q))).trans ((Heap.get?_update_ne _ _ _ _ n).trans (Heap.get?_push_of_some _ q))
  have e2 := (hs.2 x nx).trans (Heap.get?_update_self U e1 nf)
  rw [e2, <- hU]
theorem sC {Q : Unit -> Shared -> Prop} (K : cH S h C f nm q N bs bm bmB sn sub ab col dd k0 k1 k2 k3 k5 mN B newId initId sa ow) (hsa : Str.ofString "__setattr__" ∈ S) (hS : name ∈ S) (hB : typeLookup (.type B) name = pure none)
  (x1 : h.get? x = some o) (x2 : o.cls = .ref C) (x3 : o.dict = none) (x4 : o.data = .fields vs)
  (hq : ∀ h' tk', h'.get? x = some { o with dict := some h.objs.size } -> h'.Ns1 h.objs.size (fun y => if y = name then some v else none) -> (∀ b u, b ≠ x -> h.get? b = some u -> h'.get? b = some u) -> Q () ⟨h', g, d, tk', os⟩) :
  wpAny (model prog w) A (setAttr (.ref x) name v) Q E ⟨h, g, d, t, os⟩ := by
 have c1 := K.at_
 have b3 := K.sf.slot.bind (.ref x)
 have hn := K.no _ hsa
 unfold setAttr callSpecial? specialOf
 repeat (any_goals (first | assumption | (with_reducible refine wpAny_loadPart_at x1 ?_; rw [x2]) | with_reducible refine fq c1 K.ns hn (List.mem_cons_of_mem _ hsa) K.tail K.sf.mro K.sf.slot.lookup ?_ | wp_step))
 refine codeAny_call_builtin K.sf.slot.plain K.sf.entry (qK K x1 x2 (p7 K hS hB x1 x2 x3 x4 fun h' tk' a b c => ?_))
 repeat (any_goals (first | assumption | wp_step))
 exact hq h' tk' a b c
end
open Builtin Builtin.ObjectAttr
section
variable {prog : Program} {w : World} {A : Around} {E : Value -> Shared -> Prop} {h : Heap} {g : Array GenState} {d : Drawn} {t : Nat} {os : OsState}
 {S : List Str} {C f x dx : Addr} {nm q : Str} {N : Addr} {bs bm bmB : List Value} {sn : List Str} {sub : List Value} {ab : Bool} {col : Option Bool} {dd : Option Addr} {k0 k1 k2 k3 k5 : Option Value} {mN mA : Str -> Option Value} {B newId initId sa ow : String}
 {o : Obj} {vs : Array Value} {name : Str} {v : Value}
theorem qB {M : Model} {nv : Value} {Q : Unit -> Shared -> Prop} (K : cH S h C f nm q N bs bm bmB sn sub ab col dd k0 k1 k2 k3 k5 mN B newId initId sa ow) (x1 : h.get? x = some o) (x2 : o.cls = .ref C) (hq : Q () ⟨h, g, d, t, os⟩) :
  wpAny M A (checkBuiltinCall "BaseException.__getattribute__" ⟨[.ref x, nv], []⟩) Q E ⟨h, g, d, t, os⟩ := by
 have c1 := K.at_
 have b1 : builtinKind "BaseException.__getattribute__" = some .slot := by decide +kernel
 have b2 : splitId "BaseException.__getattribute__" = some ("BaseException", "__getattribute__") := by decide +kernel
 have cB : (Value.ref C :: bm).contains (.type "BaseException") = true := by rw [List.contains_cons, K.tail.has K.af.hasBase]; rfl
 have ha := F.args_bexc_ga (.ref x) nv
 simp only [checkBuiltinCall, b1, b2]
 refine wpAny_bind ?_
 unfold isInstance
 repeat (first | (with_reducible refine wpAny_loadPart_at x1 ?_; rw [x2]) | (with_reducible refine wpAny_isSubtype_exc c1 ?_; rw [cB]) | wp_step)
 exact hq
theorem qN {tk : Tok} {Q : Fin -> Shared -> Prop} (K : cH S h C f nm q N bs bm bmB sn sub ab col dd k0 k1 k2 k3 k5 mN B newId initId sa ow) (hS : name ∈ S) (hB : typeLookup (.type B) name = pure none)
  (x1 : h.get? x = some o) (x2 : o.cls = .ref C) (x3 : o.dict = some dx) (x4 : o.data = .fields vs) (x5 : h.Ns1 dx mA) (hv : mA name = some v) (hq : Q (.done (.ret v)) ⟨h, g, d, t, os⟩) :
  wpAny (model prog w) A (Builtin.«object.__getattribute__» ⟨[.ref x, .str name tk], []⟩) Q E ⟨h, g, d, t, os⟩ := by
 have c1 := K.at_
 have hn := K.no name hS
 unfold Builtin.«object.__getattribute__»
 repeat (first | (with_reducible refine wpAny_loadPart_at x1 ?_; rw [x2]) | with_reducible refine fq c1 K.ns hn (List.mem_cons_of_mem _ hS) K.tail K.sf.mro hB ?_ | wp_step)
 split
 ·rename_i c z
  rw [x4] at z; cases z
 unfold instanceDict
 repeat (first | (with_reducible refine wpAny_loadPart_at x1 ?_; rw [x2]) | with_reducible refine wpAny_loadPart_at c1 ?_ | wp_step)
 rw [x3]
 repeat (first | (with_reducible refine wpAny_nsGet x5.ns ?_; rw [hv]) | wp_step)
 exact hq
theorem su {expr : Bool} {Q : Value -> Shared -> Prop} (K : cH S h C f nm q N bs bm bmB sn sub ab col dd k0 k1 k2 k3 k5 mN B newId initId sa ow) (hga : Str.ofString "__getattribute__" ∈ S) (hgb : Str.ofString "__getattr__" ∈ S) (hS : name ∈ S) (hB : typeLookup (.type B) name = pure none)
  (x1 : h.get? x = some o) (x2 : o.cls = .ref C) (x3 : o.dict = some dx) (x4 : o.data = .fields vs) (x5 : h.Ns1 dx mA) (hv : mA name = some v) (hh : handedOut v = pure v) (hq : Q v ⟨h, g, d, t + 1, os⟩) :
  wpAny (model prog w) A (getAttr (.ref x) name expr) Q E ⟨h, g, d, t, os⟩ := by
 have c1 := K.at_
 have b3 := K.af.ga.bind (.ref x)
 have n1 := K.no _ hga
 have n2 := K.no _ hgb
 have z2 : (Value.builtin "BaseException.__getattribute__" == Value.builtin "object.__getattribute__") = false := by decide +kernel
 have z0 : (expr && onTheHeap (Value.builtin "BaseException.__getattribute__")) = false := by cases expr <;> rfl
 have z1 : (onTheHeap (Value.ref C) && Value.builtin "BaseException.__getattribute__" == Value.builtin "object.__getattribute__") = false := by rw [z2]; rfl
 unfold getAttr getAttrBy
 repeat (any_goals (first | assumption | (with_reducible refine wpAny_loadPart_at x1 ?_; rw [x2]) | with_reducible refine fq c1 K.ns n1 (List.mem_cons_of_mem _ hga) K.tail K.sf.mro K.af.ga.lookup ?_ | with_reducible refine fq c1 K.ns n2 (List.mem_cons_of_mem _ hgb) K.tail K.sf.mro K.af.noGetattr ?_ | wp_step))
 refine codeAny_call_builtin K.af.ga.plain F.entry_bexc_ga (qB K x1 x2 (qN K hS hB x1 x2 x3 x4 x5 hv ?_))
 repeat (any_goals (first | assumption | wp_step))
end
section
variable {X : Cx} {S : List Str} {o e value : Expr} {n : Str} {pos pos' : Pos} {ta tv : TE} {C f : Addr}
noncomputable def v5 (C : Addr) (ta : TE) (n : Str) : TE := fun σ H Q => ta σ H fun x H1 => ∃ a dx fs v, x = .ref a /\ H1 a = some (bM a C (some dx)) /\ H1 dx = some (.xd fs) /\ fs.lookup n = some v /\ Q v H1
theorem ue (hC : dH S X.base C f) (h1 : Str.ofString "__getattribute__" ∈ S) (h2 : Str.ofString "__getattr__" ∈ S) (h3 : n ∈ S) (h4 : n ≠ Str.ofString "__setattr__" /\ n ≠ Str.ofString "__getattribute__" /\ n ≠ Str.ofString "__getattr__") (he : PE X e ta) (hb : attributeBase e n X.env (eval e X.env) = eval e X.env := by rfl) :
  PE X (.Attribute e n pos) (v5 C ta n) := by
 intro pins s σ H Q I h
 obtain ⟨nm, q, N, bs, bm, bmB, sn, sub, ab, col, dd, k0, k1, k2, k3, k5, mN, B, newId, initId, sa, ow, EI, noB, _⟩ := hC
 refine sP hb (thn (he pins s σ H _ I h) fun u s1 ⟨x, H1, I1, rx, a, dx, fs, v, ex, ea, ed, l, q⟩ => ?_)
 subst ex
 obtain rfl : u = Value.ref a := rx
 obtain ⟨⟨oe, vs, o1, o2, o3, o4⟩, _⟩ := (show aC X.prog X.w H1 s1.heap a (bM a C (some dx)) from I1.hok a _ ea)
 obtain ⟨mA, nA, rA⟩ := (show aC X.prog X.w H1 s1.heap dx (.xd fs) from I1.hok dx _ ed)
 obtain ⟨u', hu, ru⟩ := cy.some_of (v := v) (o := mA n) (by rw [<- l]; exact rA n)
 obtain ⟨hp, g, d, tk, os⟩ := s1
 refine su (EI.stays I1.bk) h1 h2 h3 (noB n h3 h4.1 h4.2.1 h4.2.2) o1 o2 o3 o4 nA hu (PySem.W.handedOut_of (qv ru)) ⟨v, H1, ?_, ru, q⟩
 exact I1.tok (tk + 1)
noncomputable def vG (C : Addr) (ta tv : TE) (n : Str) : TS := fun D σ H => tv σ H fun y H1 => ta σ H1 fun x H2 => ∃ a, x = .ref a /\ H2 a = some (c9 a C none) /\ ∀ dx, H2 dx = none -> dx ≠ a -> D.nx σ (upd (upd H2 a (c9 a C (some dx))) dx (.xd [(n, y)]))
theorem sS (hC : dH S X.base C f) (h1 : Str.ofString "__setattr__" ∈ S) (h3 : n ∈ S) (h4 : n ≠ Str.ofString "__setattr__" /\ n ≠ Str.ofString "__getattribute__" /\ n ≠ Str.ofString "__getattr__") (ha : PE X o ta) (hv : PE X value tv) (hs : swapsWith value (some (.Attribute o n pos')) pos.line X.env = pure false := by rfl) :
  PS X (.Assign [.Attribute o n pos'] value pos) (vG C ta tv n) := by
 intro pins s σ H D I h
 obtain ⟨nm, q, N, bs, bm, bmB, sn, sub, ab, col, dd, k0, k1, k2, k3, k5, mN, B, newId, initId, sa, ow, EI, noB, _⟩ := hC
 refine plainObj_wpAny_Assign_Attribute (thn (hv pins s σ H _ I h) fun u s1 ⟨y, H1, I1, ry, q⟩ => thn (ha pins s1 σ H1 _ I1 q) fun ov s2 ⟨x, H2, I2, rx, a, ex, ea, q2⟩ => ?_) hs
 subst ex
 obtain rfl : ov = Value.ref a := rx
 obtain ⟨t0, o1⟩ := lF (I2.hok a _ ea)
 obtain ⟨hp, g, d, tk, os⟩ := s2
 refine sC (EI.stays I2.bk) h1 h3 (noB n h3 h4.1 h4.2.1 h4.2.2) o1 rfl rfl rfl fun h' tk' a1 a2 a3 => ?_
 have hn : H2 hp.objs.size = none := I2.hok.fresh (Nat.le_refl _)
 have ne : hp.objs.size ≠ a := Nat.ne_of_gt (Heap.lt_size o1)
 refine ⟨σ, _, ?_, q2 hp.objs.size hn ne⟩
 obtain ⟨oD, es, ep, b1, b2⟩ := id a2
 have J := I2.write (x := a) (e := a) (o := c9 a C (some hp.objs.size)) (h' := h') (t' := tk') (by rw [ea]; exact True.intro) (.inl rfl) (fun b u n q => a3 b u n q) ⟨_, a1⟩ (lG (t := t0) a1)
 refine Inv.track (s := ⟨h', g, d, tk', os⟩) J (by rw [ag ne]; exact hn) ?_ ?_ ?_ ?_ ⟨_, a2, fun z => ?_⟩
 ·exact Heap.get?_none_of_le I2.sz
 ·exact Nat.ne_of_gt I2.lt
 ·intro y c e z
  obtain ⟨v, o, ho, _⟩ := I2.cell y c e
  exact absurd (Heap.lt_size ho) (by rw [z]; exact Nat.lt_irrefl _)
 ·intro p hp' z
  have := (I2.pin p hp').1
  exact absurd (Heap.lt_size this) (by rw [z]; exact Nat.lt_irrefl _)
 ·show cy (List.lookup z [(n, y)]) (if z = n then some u else none)
  by_cases c : z = n
  ·rw [c, if_pos rfl]
   have : List.lookup n [(n, y)] = some y := by simp [List.lookup]
   rw [this]; exact ry
  ·rw [if_neg c]
   have : List.lookup z [(n, y)] = none := by
    unfold List.lookup
    rw [show (z == n) = false from beq_eq_false_iff_ne.mpr c]
    rfl
   rw [this]; exact True.intro
theorem oR {C D : Addr} (hi : PySem.W.isIn X.K (.ref C) D = true) : bp X (.builtin "isinstance") (fun xs H Q => ∃ a dx, xs = [.ref a, .ref D] /\ H a = some (bM a C dx) /\ Q (.bl true) H) := by
 intro pins s σ H xs us Q I r h
 obtain ⟨a, dx, rfl, ea, q⟩ := h
 obtain ⟨u, w', rfl, rx, ry⟩ := vals2 r
 cases (show u = Value.ref a from rx)
 cases (show w' = Value.ref D from ry)
 obtain ⟨⟨oe, vs, o1, o2, o3, o4⟩, _⟩ := (show aC X.prog X.w H s.heap a (bM a C dx) from I.hok a _ ea)
 refine PySem.W.isi_call I.kIn (t := .ref C) (fun M A Q E s' k hq => ?_) hi (fun z => nomatch z) ⟨.bl true, H, I, rfl, q⟩
 refine wpAny_typeOf_ref (k _ _ o1) ?_
 rw [o2]; exact hq
end
theorem pM {K : Frag} {h : Heap} {N : Addr} {m : Str -> Option Value} {x : Str} {v : Value} (X : K.In h) (G : h.Ns N m) (e : nsIn K N x = some (some v)) : m x = some v := by
 obtain ⟨o, es, ep, ho, hd, _, hf⟩ := G
 unfold nsIn at e
 split at e
 ·rename_i c d es' n' sl q
  have q2 := X _ _ q
  rw [ho] at q2
  cases q2
  cases hd
  split at e
  ·rename_i z hz
   rw [<- hf]
   unfold nsFind findBy
   rw [<- Array.find?_toList, hz]
   simpa using e
  ·split at e <;> simp at e
 ·cases e
noncomputable def gz (K : Frag) (S : List Str) (bmB : List Value) : List Value -> Bool
 | [] => bmB == []
 | v :: r => (v :: r) == bmB || (match v with
  | .ref A => (match K.lookup A with
   | some ⟨_, _, .cls cd, _⟩ => nsOkIn K cd.ns && S.all (fun x => nsIn K cd.ns x == some none) && gz K S bmB r
   | _ => false)
  | _ => false)
theorem kW {K : Frag} {h : Heap} {S : List Str} {bmB : List Value} (X : K.In h) : ∀ {l : List Value}, gz K S bmB l = true -> bQ h S bmB l
 | [], e => by
  have z : bmB = [] := beq_iff_eq.mp e
  rw [z]; exact .base
 | v :: r, e => by
  unfold gz at e
  rcases Bool.or_eq_true_iff.mp e with q | q
  ·rw [beq_iff_eq.mp q]; exact .base
  ·split at q
   ·split at q
    ·rename_i ho
     simp only [Bool.and_eq_true, List.all_eq_true, beq_iff_eq] at q
     exact .own (X _ _ ho) (.of_isNs (isNs_of_in X q.1.1)) (fun x hx => nsMap_none_of_in X q.1.1 (q.1.2 x hx)) (kW X q.2)
    ·cases q
   ·cases q
noncomputable def fD (K : Frag) (S : List Str) (C f : Addr) (bmB : List Value) (newId : String) : Bool := match K.lookup C with
 | some ⟨.type "type", _, .cls cd, sl⟩ => (match cd.mro, sl.toList with
  | .ref C' :: bm, [_, _, _, _, some (.builtin n), _] => C' == C && n == newId && !cd.hasDel && cd.hasDict && gz K (Str.ofString "__init__" :: S) bmB bm && nsOkIn K cd.ns && nsIn K cd.ns (Str.ofString "__init__") == some (some (.ref f)) && S.all (fun x => nsIn K cd.ns x == some none) && (match K.lookup f with | some o => o.cls == .type "function" | none => false)
  | _, _ => false)
 | _ => false
theorem tX {K : Frag} {h : Heap} {S : List Str} {C f : Addr} {bmB : List Value} {newId initId B sa ow : String} (X : K.In h) (hx : fD K S C f bmB newId = true) (b : ExcBaseFacts B newId initId bmB) (sf : StoreFacts B bmB sa ow) (af : ExcAttrBase B bmB)
  (no : ∀ x ∈ S, x ≠ Str.ofString "__setattr__" -> x ≠ Str.ofString "__getattribute__" -> x ≠ Str.ofString "__getattr__" -> typeLookup (.type B) x = pure none) : dH S h C f := by
 unfold fD at hx
 split at hx
 ·rename_i dct cd sl heq
  split at hx
  ·rename_i C' bm k0 k1 k2 k3 n k5 hm hs
   simp only [Bool.and_eq_true, Bool.not_eq_true', beq_iff_eq, List.all_eq_true] at hx
   obtain ⟨⟨⟨⟨⟨⟨⟨⟨h1, h2⟩, h3⟩, h3'⟩, h4⟩, h5⟩, h6⟩, h7⟩, h8⟩ := hx
   subst h1
   subst h2
   have ho := X _ _ heq
   have hsl : sl = #[k0, k1, k2, k3, some (.builtin n), k5] := by
    rw [<- Array.toList_inj]; exact hs
   obtain ⟨nm, bs, mro, ns, qn, hdct, sn, sub, ab, col, hdel⟩ := cd
   simp only at hm h3 h3' h4 h5 h6 h7
   subst hm
   subst h3
   subst h3'
   subst hsl
   have G : h.Ns ns (h.nsMap ns) := Heap.Ns.of_isNs (isNs_of_in X h5)
   refine ⟨nm, qn, ns, bs, bm, bmB, sn, sub, ab, col, dct, k0, k1, k2, k3, k5, h.nsMap ns, B, n, initId, sa, ow, ⟨ho, G, pM X G h6, fun x hx => nsMap_none_of_in X h5 (h7 x hx), kW X h4, b, sf, af⟩, no, ?_⟩
   split at h8
   ·rename_i o hf
    exact ⟨o, X _ _ hf, beq_iff_eq.mp h8⟩
   ·cases h8
  ·cases hx
 ·cases hx
noncomputable def dq : List Str := [Str.ofString "lot", Str.ofString "__setattr__", Str.ofString "__getattribute__", Str.ofString "__getattr__"]
theorem vq : ∀ x ∈ dq, x ≠ Str.ofString "__setattr__" -> x ≠ Str.ofString "__getattribute__" -> x ≠ Str.ofString "__getattr__" -> typeLookup (.type "ValueError") x = pure none := by
 intro x hx a b c
 have z : x = Str.ofString "lot" := by
  unfold dq at hx
  simp only [List.mem_cons, List.not_mem_nil, or_false] at hx
  rcases hx with z | z | z | z
  ·exact z
  ·exact absurd z a
  ·exact absurd z b
  ·exact absurd z c
 rw [z, typeLookup_type, builtinLookup_eq_fast]; kernel_rfl
noncomputable abbrev veM : List Value := [.type "ValueError", .type "Exception", .type "BaseException", .type "object"]
theorem rQ {K : Frag} {h : Heap} {C f : Addr} (X : K.In h) (hx : fD K dq C f veM "ValueError.__new__" = true) : dH dq h C f :=
 tX X hx F.excBase_ValueError F.store_ValueError F.attrBase_ValueError vq
theorem uA {K : Frag} {h : Heap} {C : Addr} (X : K.In h) (hx : excIn K C veM "ValueError.__new__" = true) : eC h C := ub X hx F.excBase_ValueError
noncomputable def iP (K : Frag) (C R : Addr) : Bool := match K.lookup C with
 | some ⟨.type "type", _, .cls cd, sl⟩ => (match cd.mro, sl.toList with
  | .ref C' :: bm, [_, _, _, _, some (.builtin _), _] => C' == C && !cd.hasDel && (Value.ref C :: bm).contains (.ref R)
  | _, _ => false)
 | _ => false
theorem qW {K : Frag} {h : Heap} {C R : Addr} (X : K.In h) (hx : iP K C R = true) : Under h C R := by
 unfold iP at hx
 split at hx
 ·rename_i dct cd sl heq
  split at hx
  ·rename_i C' bm k0 k1 k2 k3 n k5 hm hs
   simp only [Bool.and_eq_true, Bool.not_eq_true', beq_iff_eq] at hx
   obtain ⟨⟨h1, h2⟩, h3⟩ := hx
   subst h1
   have ho := X _ _ heq
   have hsl : sl = #[k0, k1, k2, k3, some (.builtin n), k5] := by
    rw [<- Array.toList_inj]; exact hs
   obtain ⟨nm, bs, mro, ns, qn, hdct, sn, sub, ab, col, hdel⟩ := cd
   simp only at hm h2 h3
   subst hm
   subst h2
   subst hsl
   exact ⟨nm, qn, ns, bs, bm, hdct, sn, sub, ab, col, dct, k0, k1, k2, k3, k5, n, ho, h3⟩
  ·cases hx
 ·cases hx
noncomputable def nU (h : Heap) (C : Addr) : Prop := ∃ (nm q : Str) (N : Addr) (bs bm : List Value) (hdct : Bool) (sn : List Str) (sub : List Value) (ab : Bool) (col : Option Bool) (dd : Option Addr) (k0 k1 k2 k3 k5 : Option Value) (newId : String),
 h.get? C = some (excClassObj nm q C N bs bm hdct sn sub ab col dd k0 k1 k2 k3 k5 newId) /\ bm.contains (Value.type "BaseException") = true
theorem eC.cat {h : Heap} {C : Addr} (x : eC h C) : nU h C := by
 obtain ⟨nm, q, N, bs, bm, bmB, hdct, sn, sub, ab, col, dd, k0, k1, k2, k3, k5, mN, B, Bn, newId, nid, initId, inN, bmN, a1, a2, a3, a4, a5, a6, a7, a8⟩ := x
 exact ⟨nm, q, N, bs, bm, hdct, sn, sub, ab, col, dd, k0, k1, k2, k3, k5, newId, a1, a5⟩
section
variable {X : Cx} {st b0 : Stmt} {suite : List Stmt} {tx : TSX} {th : TS} {x n : Str} {R : Addr} {j : Nat} {np hpos pos : Pos}
end
section
variable {X : Cx} {e : Expr} {es : List Expr} {pos : Pos}
end
noncomputable def vH (tx : TSX) (th : TS) (U : Addr -> Prop) : TS := fun D σ H => tx (fun σ1 cls dx H' => ∃ C, cls = .ref C /\ U C /\ th D σ1 H') D σ H
section
variable {X : Cx} {st b0 : Stmt} {suite : List Stmt} {tx : TSX} {th : TS} {x : Str} {R : Addr} {np hpos pos : Pos}
theorem tN (hst : PSX X st tx) (hx : X.mg x = some (.ref R)) (hR : nU X.base R) (hth : ∀ ea, PSs (X.held ea) (b0 :: suite) th) (hstk : X.stack = X.env :: X.outer) (hfr : X.env.frame = some X.env.locals) (hex : X.ex = [])
  (hg : Gl X x := by rfl) (hdb : (x == ("__debug__" : Str)) = false := by decide) :
  PS X (.Try [st] [.ExceptHandler (some (.Name x np)) none (b0 :: suite) hpos] [] [] pos) (vH tx th fun C => Under X.base C R) := by
 intro pins s σ H D I h
 refine wpAny_Try_except (wpAny_execs_cons (wpAny_mono (hst pins s σ H D _ I h) (fun f s1 q => ?_) (fun e s1 q => ?_)))
 ·cases f with
  | next => exact wpAny_execs_nil (wpAny_execs_nil q)
  | ret v => exact q
  | brk => exact q
  | cont => exact q
 ·obtain ⟨σ1, H1, s2, I1, ea, T, cls, a0, dx, H', rfl, os, bare, un, hok, n1, n2, m1, m2, trc, C, rfl, hu, hth'⟩ := q
  have I' : Inv X pins σ1 H' s1 := I1.call' (ch := []) os un hok bare (by simp)
  have ffs := I'.stack
  rw [hstk] at ffs
  have afr : X.A.frames = some (X.env :: X.outer) := by rw [<- hstk]; exact I'.ok.frames
  have there : ∀ b o, s2.heap.get? b = some o -> ∃ o', s1.heap.get? b = some o' := fun b o q => un.there b o q (by simp)
  have newAt : ∀ b, s2.heap.get? b = none -> X.s₀.heap.get? b = none /\ b ≠ X.env.locals /\ (∀ x c, X.env.cells.lookup x = some c -> c ≠ b) /\ ∀ p ∈ X.pn ++ pins, p.1 ≠ b := fun b q => by
   refine ⟨?_, fun z => ?_, fun y c e z => ?_, fun p hp z => ?_⟩
   ·cases hc : X.s₀.heap.get? b with
    | none => rfl
    | some o =>
     obtain ⟨o', q'⟩ := I1.base.there b o hc (by rw [hex]; simp)
     rw [q] at q'; cases q'
   ·obtain ⟨m, ⟨o, _, _, ho, _⟩, _⟩ := I1.loc
    rw [<- z, q] at ho; cases ho
   ·obtain ⟨v, o, ho, _⟩ := I1.cell y c e
    rw [z, q] at ho; cases ho
   ·have := (I1.pin p hp).1
    rw [z, q] at this; cases this
  have noH : ∀ b, s1.heap.get? b = none -> H' b = none := fun b q => by
   cases hc : H' b with
   | none => rfl
   | some o =>
    obtain ⟨ob, q'⟩ := aC.got (hok b o hc)
    rw [q] at q'; cases q'
  have mk : ∀ b, s2.heap.get? b = none -> H' b = none -> X.s₀.heap.get? b = none /\ H' b = none /\ b ≠ X.env.locals /\ (∀ x c, X.env.cells.lookup x = some c -> c ≠ b) /\ ∀ p ∈ X.pn ++ pins, p.1 ≠ b := fun b q1 q2 => ⟨(newAt b q1).1, q2, (newAt b q1).2⟩
  refine jN (Q := fun _ s3 => wpAny (model X.prog X.w) X.A (handleBy (Value.ref ea) X.env [ExceptHandler.ExceptHandler (some (Expr.Name x np)) none (b0 :: suite) hpos]) (SP X pins D) X.xe s3) (base := X.base) afr hfr ffs trc fun h3 T3 mv3 nw3 tr3 => ?_
  have nT3 : s2.heap.get? T3 = none /\ H' T3 = none := by
   refine ⟨?_, noH T3 nw3⟩
   cases hc : s2.heap.get? T3 with
   | none => rfl
   | some o =>
    obtain ⟨o', q'⟩ := there T3 o hc
    rw [nw3] at q'; cases q'
  have I3 : Inv X pins σ1 H' { s1 with heap := h3 } := I'.moved (G := [ea, T]) (fun b hb => by
   simp at hb
   rcases hb with z | z
   ·rw [z]; exact mk ea n1 m1
   ·rw [z]; exact mk T n2 m2) (fun b o q hb hg => mv3.keep b o q (by rw [<- hstk]; exact hb) hg) (fun b o q hb => mv3.slot b o q (by rw [<- hstk]; exact hb))
  refine wpAny_handleBy_cons (codeAny_handlers_test ?_) (by intro z; cases z)
  refine dY (X := X.held ea) (I3.held ea) hg hx ?_ hdb
  obtain ⟨nm, q, N, bs, bm, hdct, sn, sub, ab, col, dd, k0, k1, k2, k3, k5, newId, a1, a5⟩ := hR
  obtain ⟨nm', q', N', bs', bm', hdct', sn', sub', ab', col', dd', l0, l1, l2, l3, l5, newId', c1, c2⟩ := hu
  obtain ⟨oe, vs, oT, ts, g1, g2, g3, g4, g5, g6, g7, g8, g9, g10⟩ := id tr3
  refine jU (I3.bk _ _ c1) (I3.bk _ _ a1) g1 g2 a5 ?_
  rw [c2]
  show codeAny _ _ (Code.handlers (.ref ea) [ExceptHandler.ExceptHandler none none (b0 :: suite) hpos] X.env) _ _
  refine codeAny_handlers_suite (ground tr3 fun h4 same4 tr4 => ?_)
  have I4 : Inv X pins σ1 H' { s1 with heap := h4 } := Inv.moved (s := { s1 with heap := h3 }) (h' := h4) (G := [T3]) I3 (fun b hb => by
   have z : b = T3 := by simpa using hb
   rw [z]; exact mk T3 nT3.1 nT3.2) (fun b o q hb hg => (same4 b fun z => hg (by simp [z])).trans q) (fun b o q hb => ⟨o.slots, (same4 b fun z => by
    obtain ⟨o2, q2, nf⟩ := dF I3.stack b hb
    rw [z, g7] at q2; cases q2; exact nf _ g8).trans q⟩)
  refine wpAny_mono (hth ea pins _ σ1 H' D (I4.held ea) hth') (fun f s6 q6 => ?_) (fun _ _ z => False.elim z)
  cases f with
  | next =>
   obtain ⟨σ2, H2, J, q⟩ := q6
   exact ⟨σ2, H2, J.unheld I.ok, q⟩
  | brk =>
   obtain ⟨σ2, H2, J, q⟩ := q6
   exact ⟨σ2, H2, J.unheld I.ok, q⟩
  | cont =>
   obtain ⟨σ2, H2, J, q⟩ := q6
   exact ⟨σ2, H2, J.unheld I.ok, q⟩
  | ret u =>
   obtain ⟨v, σ2, H2, J, rv, q⟩ := q6
   exact ⟨v, σ2, H2, J.unheld I.ok, rv, q⟩
end
open Builtin Builtin.ObjectAttr
section
variable {prog : Program} {w : World} {A : Around} {E : Value -> Shared -> Prop} {K : Frag} {x D : Addr} {ox : Obj} {odo : Option Obj} {hh : Heap} {g : Array GenState} {d : Drawn} {t : Nat} {os : OsState}
theorem qt {M : Model} {nv : Value} {Q : Unit -> Shared -> Prop} (L0 : Looks M hh (typeOf (.ref x)) (.ref D)) (L1 : Looks M hh (isSubtype (.ref D) (.type "BaseException")) true) (hq : Q () ⟨hh, g, d, t, os⟩) :
  wpAny M A (checkBuiltinCall "BaseException.__getattribute__" ⟨[.ref x, nv], []⟩) Q E ⟨hh, g, d, t, os⟩ := by
 have b1 : builtinKind "BaseException.__getattribute__" = some .slot := by decide +kernel
 have b2 : splitId "BaseException.__getattribute__" = some ("BaseException", "__getattribute__") := by decide +kernel
 have ha := F.args_bexc_ga (.ref x) nv
 simp only [checkBuiltinCall, b1, b2]
 refine wpAny_bind ?_
 unfold isInstance
 repeat (first | with_reducible refine L0.at ?_ | with_reducible refine L1.at ?_ | wp_step)
 exact hq
theorem qd {Q : Option Value -> Shared -> Prop} {s : Shared} (X : K.In s.heap) (I : InstAt s.heap x ox D odo) (SL : Slot "ValueError" "__getattribute__" "BaseException.__getattribute__") (hc : (clsIn K D).isSome = true) (hga : findIn K (.ref D) "__getattribute__" = some (some (.builtin "BaseException.__getattribute__"))) (hgb : findIn K (.ref D) "__getattr__" = some none)
  (ha : findIn K (.ref D) "__class__" = some (some (.builtin "object.__class__"))) (hn : specialIn K (.builtin "object.__class__") "__get__" = some (some (.builtin "getset_descriptor.__get__"))) (htk : takesIn K (.builtin "object.__class__") = some true)
  (hb : subIn K (.ref D) (.type "BaseException") = some true) (hm : mroIn K D (.type "object") = some true) (h : Q (some (.ref D)) { s with toks := s.toks + 1 }) :
  wpAny (model prog w) A (getAttr? (.ref x) "__class__") Q E s := by
 obtain ⟨hh, g, d, t, os⟩ := s
 have L0 := I.type (M := model prog w)
 have L1 := looks_findIn (M := model prog w) X hga
 have L2 := looks_findIn (M := model prog w) X hgb
 have L4 : Looks (model prog w) hh (isSubtype (.ref D) (.type "BaseException")) true := looks_subIn X hb
 obtain ⟨cd, hc⟩ := Option.isSome_iff_exists.mp hc
 have hf : findObj K D odo "__class__" = some (.bind (.builtin "getset_descriptor.__get__") (.builtin "object.__class__")) := by
  simp only [findObj, hc, ha, hn, htk, Option.bind_some]
 have L3 := looks_find (M := model prog w) X I hf
 have b3 := SL.bind (.ref x)
 have z2 : (Value.builtin "BaseException.__getattribute__" == Value.builtin "object.__getattribute__") = false := by decide +kernel
 unfold getAttr? getAttrBy? getAttrBy
 refine wpAny_bind (wpAny_mkText (wpAny_bind (wpAny_attempt (wpAny_holding (wpAny_bind (L0.at (wpAny_bind (L1.at ?_))))))))
 dsimp only
 rw [z2, Bool.and_false, if_neg Bool.false_ne_true]
 unfold getAttrByItsOwn hookBefore
 repeat (any_goals (first | assumption | with_reducible refine L2.at ?_ | wp_step))
 refine codeAny_call_builtin SL.plain F.entry_bexc_ga (qt L0 L4 ?_)
 unfold Builtin.«object.__getattribute__»
 repeat (any_goals (first | assumption | with_reducible refine L0.at ?_ | with_reducible refine L3.at ?_ | wp_step))
 refine class_get (s := ⟨hh, g, d, t + 1, os⟩) X I hm (wpAny_pure ?_)
 exact handed_on rfl (wpAny_pure h)
structure fN (K : Frag) (D : Addr) : Prop where
 cls : (clsIn K D).isSome = true
 ga : findIn K (.ref D) "__getattribute__" = some (some (.builtin "BaseException.__getattribute__"))
 gb : findIn K (.ref D) "__getattr__" = some none
 kl : findIn K (.ref D) "__class__" = some (some (.builtin "object.__class__"))
 gt : specialIn K (.builtin "object.__class__") "__get__" = some (some (.builtin "getset_descriptor.__get__"))
 tk : takesIn K (.builtin "object.__class__") = some true
 sb : subIn K (.ref D) (.type "BaseException") = some true
 mr : mroIn K D (.type "object") = some true
noncomputable def i7 (K : Frag) (D : Addr) : Bool := (clsIn K D).isSome && findIn K (.ref D) "__getattribute__" == some (some (.builtin "BaseException.__getattribute__")) && findIn K (.ref D) "__getattr__" == some none && findIn K (.ref D) "__class__" == some (some (.builtin "object.__class__")) &&
 specialIn K (.builtin "object.__class__") "__get__" == some (some (.builtin "getset_descriptor.__get__")) && takesIn K (.builtin "object.__class__") == some true && subIn K (.ref D) (.type "BaseException") == some true && mroIn K D (.type "object") == some true
theorem tQ {K : Frag} {D : Addr} (h : i7 K D = true) : fN K D := by
 unfold i7 at h
 simp only [Bool.and_eq_true, beq_iff_eq] at h
 obtain ⟨⟨⟨⟨⟨⟨⟨h1, h2⟩, h3⟩, h4⟩, h5⟩, h6⟩, h7⟩, h8⟩ := h
 exact ⟨h1, h2, h3, h4, h5, h6, h7, h8⟩
theorem kC {K : Frag} {x D : Addr} (k : fN K D) : KitX K (.ref x) (.ref D) (fun h => ∃ ox odo, InstAt h x ox D odo) where
 ty := fun _ _ _ ⟨_, _, I⟩ => I.type
 it := fun _ _ X _ => by
  obtain ⟨cd, hc⟩ := Option.isSome_iff_exists.mp k.cls
  unfold clsIn at hc
  split at hc
  ·rename_i ho
   intro A' Q' E' s' kk q
   unfold isType loadHead
   exact wpAny_bind (wpAny_loadPart (kk _ _ (X _ _ ho)) (wpAny_pure q))
  ·cases hc
 ne := fun h tp dd its n sl X htp => by
  obtain ⟨cd, hc⟩ := Option.isSome_iff_exists.mp k.cls
  refine Bool.eq_false_iff.mpr fun q => ?_
  have e : D = tp := Value.ref.inj (beq_iff_eq.mp q)
  subst e
  unfold clsIn at hc
  split at hc
  ·rename_i ho
   have z := (X _ _ ho).symm.trans htp
   cases z
  ·cases hc
 ca := fun X ⟨_, _, I⟩ h => qd X I F.attrBase_ValueError.ga k.cls k.ga k.gb k.kl k.gt k.tk k.sb k.mr h
end
section
variable {X : Cx}
theorem kH {pins : List (Addr × Obj)} {σ : St} {H : Hp} {s : Shared} {a C : Addr} {dx : Option Addr} (I : Inv X pins σ H s) (ea : H a = some (bM a C dx)) (hd : ∀ d, dx = some d -> ∃ fs, H d = some (.xd fs)) : ∃ ox odo, InstAt s.heap a ox C odo := by
 obtain ⟨⟨oe, vs, o1, o2, o3, o4⟩, _⟩ := (show aC X.prog X.w H s.heap a (bM a C dx) from I.hok a _ ea)
 cases dx with
 | none => exact ⟨oe, none, o1, o2, by unfold notCls; rw [o4], by rw [o3]; exact True.intro⟩
 | some d =>
  obtain ⟨fs, hf⟩ := hd d rfl
  obtain ⟨mA, nA, rA⟩ := (show aC X.prog X.w H s.heap d (.xd fs) from I.hok d _ hf)
  obtain ⟨o, es, ep, h1, h2⟩ := nA.ns
  exact ⟨oe, some o, o1, o2, by unfold notCls; rw [o4], by rw [o3]; exact h1⟩
theorem oM {C : Addr} {c : V} {cv : Value} {b : Bool} (k : fN X.K C) (rc : ∀ u, RelV c u -> u = cv) (e : kitOne X.K (.ref C) cv = some b) : bp X (.builtin "isinstance") (fun xs H Q => ∃ a dx, xs = [.ref a, c] /\ H a = some (bM a C dx) /\ (∀ d, dx = some d -> ∃ fs, H d = some (.xd fs)) /\ Q (.bl b) H) := by
 intro pins s σ H xs us Q I r h
 obtain ⟨a, dx, rfl, ea, hd, q⟩ := h
 obtain ⟨u, w', rfl, rx, ry⟩ := vals2 r
 cases (show u = Value.ref a from rx)
 rw [rc _ ry]
 exact kia_one (kC k) I.kIn (kH I ea hd) e (fun z => nomatch z) fun tk => ⟨.bl b, H, I.tok tk, rfl, q⟩
theorem jJ {C : Addr} {Ds : List Addr} {b : Bool} (k : fN X.K C) (e : kitAny X.K (.ref C) (Ds.map Value.ref) = some b) : bp X (.builtin "isinstance") (fun xs H Q => ∃ a dx tp, xs = [.ref a, .ref tp] /\ H a = some (bM a C dx) /\ (∀ d, dx = some d -> ∃ fs, H d = some (.xd fs)) /\ H tp = some (.tup (Ds.map V.ref)) /\ Q (.bl b) H) := by
 intro pins s σ H xs us Q I r h
 obtain ⟨a, dx, tp, rfl, ea, hd, ht, q⟩ := h
 obtain ⟨u, w', rfl, rx, ry⟩ := vals2 r
 cases (show u = Value.ref a from rx)
 cases (show w' = Value.ref tp from ry)
 obtain ⟨its, rv, p, hz⟩ := I.tuple (SqT.of ht)
 have ei : its = Ds.map Value.ref := by
  have hl : ∀ {vs : List Addr} {us : List Value}, ao (vs.map V.ref) us -> us = vs.map Value.ref := fun {vs} => by
   induction vs with
   | nil => intro us h; cases h; rfl
   | cons v r ih =>
    intro us h
    cases h with
    | cons h1 h2 =>
     rw [ih h2]
     exact congrArg (· :: _) h1
  exact hl rv
 subst ei
 obtain ⟨o, ho, hc, n, hdt⟩ := id p
 obtain ⟨c1, c2, c3, c4⟩ := o
 simp only at hc hdt
 subst hc
 subst hdt
 exact kia_tup (kC k) I.kIn (kH I ea hd) ho e (fun z => nomatch z) fun tk => ⟨.bl b, H, I.tok tk, rfl, q⟩
end
end L2
namespace L2
open PySem PySem.Spec PyProof.Rows
structure cM (k : Nat) (A : Around) : Prop where
 dp : A.depth + 3 * k + 5 < recursionLimit
 un : A.units + 16 * k + 200 < cLine
 gd : A.guards = some []
theorem cM.deeper {k : Nat} {A : Around} (r : cM (k + 1) A) (env : Env) : cM k (A.deeper env) :=
 ⟨by have := r.dp; show A.depth + 1 + 3 * k + 5 < _; omega, by have := r.un; show A.units + 3 + 16 * k + 200 < _; omega, r.gd⟩
theorem cM.depth {k : Nat} {A : Around} (r : cM k A) : A.depth < recursionLimit := by have := r.dp; omega
noncomputable def fe (CX : CXT) (P : Program) (w : World) (K : PySem.W.Frag) (mg : Str -> Option Value) (base : Heap) (N : List Str) (qual : Str) (scope : Scope) (f : Addr) (cd : Value) (A : Around) (outer : List Env) (s : Shared) (H : Hp) (E : XK) : Cx := { cw CX P w K mg base N qual scope f cd A outer s H E with calm := false }
structure eu (P : Program) (w : World) (K : PySem.W.Frag) (mg : Str -> Option Value) (base : Heap) (CX : CXT) (k : Nat) (f : Addr) (fd : FuncData) (ps : List Str) (sp : Sp) : Prop where
 len : ∀ vs H Q E, sp vs H Q E -> vs.length = ps.length
 run : ∀ (A : Around) (outer : List Env) (s : Shared) (H : Hp) (args : Args) (us : List Value) (vs : List V) (Q : VK) (E : XK), cM k A -> dn P w K mg base A outer s H -> BindsTo s fd args (ps.zip us) -> ao vs us -> sp vs H Q E ->
  codeAny (model P w) A (.call (.ref f) args) (CR CX outer P w H s Q E) s
theorem pG {CX : CXT} {P : Program} {w : World} {K : PySem.W.Frag} {mg : Str -> Option Value} {base : Heap} {N ps : List Str} {qual : Str} {scope : Scope} {f : Addr} {cd : Value} {A : Around} {outer : List Env} {s s1 : Shared} {H : Hp} {E : XK} {us : List Value} {vs : List V}
  (S : aL N ps scope) (e0 : dn P w K mg base A outer s H) (hl : vs.length = ps.length) (r : ao vs us)
  (x : InCallC s s.heap.objs.size (bindL (envOfC qual scope s.heap.objs.size f cd).kindOf (ps.zip us) fun _ => none) (cellsFrom (s.heap.objs.size + 1) scope.names []) (bindC (envOfC qual scope s.heap.objs.size f cd).kindOf (ps.zip us) fun _ => none) s1) :
  Inv (fe CX P w K mg base N qual scope f cd A outer s H E) [] (start N vs) H s1 := by
 have hpl : ps.length <= N.length := by have := congrArg List.length S.pre; rw [List.length_take] at this; omega
 obtain ⟨h1, tk, rfl, hk⟩ := x.done
 have noA : ∀ b : Addr, b ∉ (fe CX P w K mg base N qual scope f cd A outer s H E).ex := fun b z => absurd (show b ∈ ([] : List Addr) from z) (by simp)
 refine ⟨⟨e0.mod, S.kind, rfl, rfl, Nat.le_refl _, fun y z c h1 h2 => ?_, fun y hy => ?_, fun y c _ h => ?_, fun z => (nomatch (show false = true from z)), Around.frames_deeper e0.frames, .inr ⟨rfl, rfl⟩, fun b z => absurd z (noA b), e0.bs, e0.bsz, fun b _ _ => noA b, fun b z => absurd z (noA b), e0.funs, e0.frf⟩,
  rfl, e0.bare, Un.kept hk, ⟨_, x.toInCall.ns, fun i y v h1 h2 h3 => ?_⟩, fun y c h => ⟨_, x.cell y c h⟩, e0.hok.fresh (Nat.le_refl _), fun y c h => ?_, fun p hp => absurd (show p ∈ ([] : List (Addr × Obj)) from hp) (by simp), e0.hok.kept hk, ?_⟩
 ·exact name_of_addr x.apart (PySem.mem_of_lookup h1) (PySem.mem_of_lookup h2)
 ·have hy : scope.names.lookup y = some .cell \/ scope.names.lookup y = some .free := hy
  rcases hy with hy | hy
  ·exact gj hy
  ·exact absurd rfl (S.nofree _ (PySem.mem_of_lookup hy))
 ·exact Nat.le_of_lt (x.above y c (PySem.mem_of_lookup h))
 ·have hi : i < vs.length := by
   unfold start at h2
   by_cases hi : i < vs.length
   ·exact hi
   ·rw [List.getElem?_append_right (by simpa using hi)] at h2
    rw [List.getElem?_replicate] at h2
    split at h2 <;> cases h2
  have ha : vs[i]? = some v := by
   unfold start at h2
   rw [List.getElem?_append_left (by simpa using hi), List.getElem?_map] at h2
   cases e : vs[i]? with
   | none => rw [e] at h2; cases h2
   | some a => rw [e] at h2; cases h2; rfl
  obtain ⟨u, hu, rv⟩ := r.get ha
  have hp : ps[i]? = some y := by
   rw [<- S.pre, List.getElem?_take_of_lt (by omega)]; exact h1
  have ndP : ps.Nodup := by rw [<- S.pre]; exact S.nd.sublist (List.take_sublist _ _)
  refine ⟨u, rv, ?_⟩
  rcases S.par y (List.mem_of_getElem? hp) with k | k
  ·exact .inl ⟨k, iq ndP hp hu k⟩
  ·obtain ⟨c, e⟩ := gj (n := s.heap.objs.size + 1) k
   refine .inr ⟨.inl k, c, e, ?_⟩
   have q := x.cell y c e
   rw [ip ndP hp hu (by show scope.names.lookup y ≠ _; rw [k]; decide)] at q
   exact q
 ·exact e0.hok.fresh (Nat.le_of_lt (x.above y c (PySem.mem_of_lookup h)))
 ·unfold start
  show _ = N.length
  rw [List.length_append, List.length_map, List.length_replicate]
  omega
theorem vy {CX : CXT} {P : Program} {w : World} {K : PySem.W.Frag} {mg : Str -> Option Value} {base : Heap} {k : Nat} {f : Addr} {name qual : Str} {params : Arguments} {body : List Stmt} {scope : Scope} {dV kV doc pm cdv ct oc : Value} {an od : Option Addr}
  {osl : Array (Option Value)} {N ps : List Str} {sp : Sp} (lk : K.lookup f = some ⟨oc, od, .func (PySem.W.fnOf name qual params body scope dV kV doc pm an cdv ct), osl⟩) (hcd : PySem.W.codeIn K cdv qual = true) (S : aL N ps scope)
  (len : ∀ vs H Q E, sp vs H Q E -> vs.length = ps.length)
  (hbody : ∀ (A : Around) (outer : List Env) (s : Shared) (H : Hp) (vs : List V) (Q : VK) (E : XK), cM k (A.deeper (envOfC qual scope s.heap.objs.size f cdv)) -> sp vs H Q E ->
   ∃ t, PSs (fe CX P w K mg base N qual scope f cdv A outer s H E) body t /\ t { nx := fun _ H' => Q .non H', rt := Q } (start N vs) H) :
  eu P w K mg base CX (k + 1) f (PySem.W.fnOf name qual params body scope dV kV doc pm an cdv ct) ps sp := by
 refine ⟨len, fun A outer s H args us vs Q E hr e0 hb r hsp => ?_⟩
 have hl := len _ _ _ _ hsp
 have KX : K.In s.heap := e0.mod.kin.keeps fun b o e => (e0.bs b o e).1
 have lim : s.heap.NoLimit := e0.mod.nolimit.keeps fun b o e => (e0.bs b o e).1
 have hkind : ∀ y ∈ ps.zip us, scope.names.lookup y.1 = some .local \/ (scope.names.lookup y.1 = some .cell /\ ((cellsFrom (s.heap.objs.size + 1) scope.names []).lookup y.1).isSome = true) := fun ⟨n, v⟩ hy => by
  rcases S.par n (List.of_mem_zip hy).1 with q | q
  ·exact .inl q
  ·exact .inr ⟨q, PySem.W.cellsFrom_some _ _ _ (.inl q)⟩
 refine codeAny_call_function hr.depth (KX _ _ lk) rfl S.co S.gen rfl (PySem.W.codeRec_of KX hcd) (hb _ _ _ _ ?_)
 refine wpAny_newFunctionEnv_cells S.kind hkind fun env he s1 x => ?_
 subst he
 refine ⟨lim.keeps x.toInCall.keep, codeAny_func ?_⟩
 obtain ⟨t, ht, hq⟩ := hbody A outer s H vs Q E (hr.deeper _) hsp
 have I : Inv (fe CX P w K mg base N qual scope f cdv A outer s H E) [] (start N vs) H s1 := pG S e0 hl r x
 refine wpAny_mono (ht [] s1 (start N vs) H _ I hq) (fun fl s' hs => ?_) fun e s' hs => hs
 have fin : ∀ {σ' : St} {H' : Hp} {v : V} {u : Value}, Inv (fe CX P w K mg base N qual scope f cdv A outer s H E) [] σ' H' s' -> RelV v u -> Q v H' -> CE outer P w H s Q u s' :=
  fun {σ' H' v u} J rv q => ⟨v, H', J.os, J.bare, J.base, J.hok, rv, q⟩
 cases fl with
 | ret u =>
  obtain ⟨v, σ', H', J, rv, q⟩ := hs
  exact fin J rv q
 | next =>
  obtain ⟨σ', H', J, q⟩ := hs
  exact fin (v := V.non) (u := Value.none) J rfl q
 | brk =>
  obtain ⟨_, _, _, q⟩ := hs
  exact False.elim q
 | cont =>
  obtain ⟨_, _, _, q⟩ := hs
  exact False.elim q
section
variable {X : Cx} {CX : CXT} {k : Nat} {f C : Addr} {fd : FuncData} {ps : List Str} {sp : Sp} {dvs : List V} {ds : List Value} {E : XK} {x m : Str} {p pos apos : Pos} {e o : Expr} {es : List Expr} {ta : TE} {t : TA}
theorem sM {pins : List (Addr × Obj)} {σ : St} {H : Hp} {s : Shared} {Q : VK} {us : List Value} {vs : List V} (F : eu X.prog X.w X.K X.mg X.base CX k f fd ps sp) (hr : cM k X.A) (hb : Binds X.K fd ps ds) (hd : ao dvs ds) (hx : eg CX X E)
  (I : Inv X pins σ H s) (r : ao vs us) (h : sp (vs ++ dvs) H Q E) : wpAny (model X.prog X.w) X.A (call (.ref f) us) (EP X pins σ Q) X.xe s := by
 have r2 : ao (vs ++ dvs) (us ++ ds) := r.append hd
 have hl : (us ++ ds).length = ps.length := by rw [<- r2.length]; exact F.len _ _ _ _ h
 refine wpAny_call (codeAny_mono (F.run X.A X.stack s H ⟨us, []⟩ (us ++ ds) (vs ++ dvs) Q E hr I.env0 (hb s us I.kIn hl) r2 h) fun r s' hq => ?_)
 cases r with
 | error e => exact hx pins σ H s e s' I hq
 | ok fl =>
  cases fl with
  | ret u => exact I.after hq
  | next => exact False.elim hq
  | brk => exact False.elim hq
  | cont => exact False.elim hq
theorem rk (F : eu X.prog X.w X.K X.mg X.base CX k f fd ps sp) (hr : cM k X.A) (hg : Gl X x) (hm : X.mg x = some (.ref f)) (hk : PySem.W.keepIn X.K (.ref f) = true) (hb : Binds X.K fd ps ds) (hd : ao dvs ds) (hx : eg CX X E)
  (ha : PA X (e :: es) t) (hdb : (x == ("__debug__" : Str)) = false := by decide) (he : starEach (e :: es) X.env = (false, eval e X.env) :: starEach es X.env := by rfl) (hpl : (backTo pos (starEach es X.env)).any (·.1) = false := by rfl) :
  PE X (.Call (.Name x p) (e :: es) [] pos) (fK sp dvs E t) := by
 intro pins s σ H Q I h
 refine wpAny_Call_Name_kw (dY I hg hm ?_ hdb)
 refine PySem.W.callWith_K (h₀ := X.base) I.ok.mod.kin hk (thn (ha pos pins s σ H _ I h) fun us s1 ⟨vs, H1, I1, r, q⟩ => ⟨I1.kIn, ?_⟩) he hpl
 exact sM F hr hb hd hx I1 r q
end
section
variable {P : Program} {w : World} {K : PySem.W.Frag} {mg : Str -> Option Value} {base : Heap}
theorem Fun.okH {x qual : Str} {st : Stmt} {f : Addr} {fd : FuncData} {N ps : List Str} {k : Nat} {sp : Sp} (F : Fun K x qual st f fd) (S : aL N ps (aB st)) (len : ∀ vs H Q E, sp vs H Q E -> vs.length = ps.length)
  (hbody : ∀ (cdv : Value) (A : Around) (outer : List Env) (s : Shared) (H : Hp) (vs : List V) (Q : VK) (E : XK), cM k (A.deeper (envOfC qual (aB st) s.heap.objs.size f cdv)) -> sp vs H Q E ->
   ∃ t, PSs (fe CX0 P w K mg base N qual (aB st) f cdv A outer s H E).nox (bR st) t /\ t { nx := fun _ H' => Q .non H', rt := Q } (start N vs) H) : eu P w K mg base CX0 (k + 1) f fd ps sp := by
 obtain ⟨oc, od, kV, doc, pm, an, cdv, ct, osl, rfl, lk, hcd⟩ := F.ex
 refine vy lk hcd S len fun A outer s H vs Q E hr hsp => ?_
 obtain ⟨t, h, q⟩ := hbody cdv A outer s H vs Q E hr hsp
 exact ⟨t, h.nox, q⟩
noncomputable def FnH (P : Program) (w : World) (K : PySem.W.Frag) (mg : Str -> Option Value) (base : Heap) (k : Nat) (x : Str) (ps : List Str) (sp : Sp) : Prop :=
 ∃ f fd, mg x = some (.ref f) /\ PySem.W.keepIn K (.ref f) = true /\ Binds K fd ps [] /\ eu P w K mg base CX0 k f fd ps sp
end
theorem uH {X : Cx} {k : Nat} {x : Str} {ps : List Str} {sp : Sp} {e : Expr} {es : List Expr} {t : TA} {p pos : Pos} (F : FnH X.prog X.w X.K X.mg X.base k x ps sp) (hr : cM k X.A) (ha : PA X (e :: es) t) (hg : Gl X x := by rfl)
  (hdb : (x == ("__debug__" : Str)) = false := by decide) (he : starEach (e :: es) X.env = (false, eval e X.env) :: starEach es X.env := by rfl) (hpl : (backTo pos (starEach es X.env)).any (·.1) = false := by rfl) :
  PE X (.Call (.Name x p) (e :: es) [] pos) (fK sp [] E0 t) := by
 obtain ⟨f, fd, h1, h2, h3, h4⟩ := F
 exact rk h4 hr hg h1 h2 h3 .nil mP ha hdb he hpl
end L2
namespace K42
open PySem L2
noncomputable def top (i : Nat) : Stmt := PySem.Challenge.pw_rootshares_k42_whole_shares_from_roots.main.body.getD i (.Pass ⟨0, 0, 0, 0⟩)
theorem cg : bootBuiltins "isinstance" = some (.builtin "isinstance") := by decide +kernel
theorem eo : bootBuiltins "all" = some (.builtin "all") := by decide +kernel
theorem eO : bootBuiltins "sorted" = some (.builtin "sorted") := by decide +kernel
theorem jq : bootBuiltins "max" = some (.builtin "max") := by decide +kernel
theorem jg : bootBuiltins "min" = some (.builtin "min") := by decide +kernel
theorem nh : bootBuiltins "str" = some (.type "str") := by decide +kernel
theorem cU : bootBuiltins "tuple" = some (.type "tuple") := by decide +kernel
theorem fC : bootBuiltins "list" = some (.type "list") := by decide +kernel
theorem jl : bootBuiltins "int" = some (.type "int") := by decide +kernel
theorem rR : bootBuiltins "divmod" = some (.builtin "divmod") := by decide +kernel
theorem mR : bootBuiltins "set" = some (.type "set") := by decide +kernel
structure Bl (mg : Str -> Option Value) : Prop where
 len : mg "len" = none
 isinstance : mg "isinstance" = none
 all : mg "all" = none
 range : mg "range" = none
 sorted : mg "sorted" = none
 repr : mg "repr" = none
 max : mg "max" = none
 min : mg "min" = none
 str : mg "str" = none
 tuple : mg "tuple" = none
 list : mg "list" = none
 int : mg "int" = none
 bool : mg "bool" = none
 zip : mg "zip" = none
 divmod : mg "divmod" = none
 abs : mg "abs" = none
 set : mg "set" = none
 enumerate : mg "enumerate" = none
 most : ∃ t, mg "MOST_TREES" = some (.int 6 t)
 lng : ∃ t, mg "LONGEST_NAME" = some (.int 8 t)
noncomputable def Fn (P : Program) (w : World) (K : PySem.W.Frag) (mg : Str -> Option Value) (base : Heap) (k : Nat) (x : Str) (ps : List Str) (sp : Sp) : Prop :=
 ∃ f fd, mg x = some (.ref f) /\ PySem.W.keepIn K (.ref f) = true /\ Binds K fd ps [] /\ aE P w K mg base CX0 k f fd ps sp
theorem ax {X : Cx} {k : Nat} {x : Str} {ps : List Str} {sp : Sp} {e : Expr} {es : List Expr} {t : TA} {p pos : Pos} (F : Fn X.prog X.w X.K X.mg X.base k x ps sp) (hr : aI k X.A) (ha : PA X (e :: es) t) (hg : Gl X x := by rfl)
  (hdb : (x == ("__debug__" : Str)) = false := by decide) (he : starEach (e :: es) X.env = (false, eval e X.env) :: starEach es X.env := by rfl) (hpl : (backTo pos (starEach es X.env)).any (·.1) = false := by rfl) :
  PE X (.Call (.Name x p) (e :: es) [] pos) (fK sp [] E0 t) := by
 obtain ⟨f, fd, h1, h2, h3, h4⟩ := F
 exact lU h4 hr hg h1 h2 h3 .nil mP ha hdb he hpl
theorem aS {X : Cx} {scope : Scope} {N : List Str} {C : Addr} {s0 : Shared} {H0 : Hp} {fp : List Addr} {x : Str} {pos : Pos} (i : Nat) (hN : N.Nodup) (hi : N[i]? = some x) (hx : scope.names.lookup x = some .local) :
  PG (aF X scope N C s0 H0 fp) (.Name x pos) (bS i) :=
 aW (X := aF X scope N C s0 H0 fp) hN hi (.inl (lookup_relabel_local hx)) (.inr (lookup_relabel_local hx))
theorem jE {c A B : Prop} [Decidable c] (hc : c) (h : A) : if decide c = true then A else B := by
 rw [decide_eq_true hc]; exact bG h
theorem mY {c A B : Prop} [Decidable c] (hc : ¬ c) (h : B) : if decide c = true then A else B := by
 rw [decide_eq_false hc]; exact bc h
theorem vL {c A B : Prop} [Decidable c] (hc : ¬ c) (h : A) : if (!decide c) = true then A else B := by
 rw [decide_eq_false hc]; exact bG h
theorem lt1 (a b : Nat) : ([a] < [b]) ↔ a < b := by rw [List.cons_lt_cons_iff]; simp
structure aH (x : Str) : Prop where
 lo : 1 <= x.length
 hi : x.length <= 8
 az : ∀ c ∈ x.cps.toList, 97 <= c /\ c <= 122
theorem aH.fits {x : Str} (h : aH x) : x.length < sizeLine := by have := h.hi; rw [sizeLine_eq]; omega
theorem aH.ascii {x : Str} (h : aH x) : x.cps.all (· < 128) = true := by
 rw [Array.all_eq_true']
 intro c hc
 have := h.az c (by simpa using hc)
 simp; omega
section
variable {P : Program} {w : World} {K : PySem.W.Frag} {mg : Str -> Option Value} {base : Heap}
noncomputable def jc : Sp := fun vs H Q _ => ∃ x, vs = [.str x] /\ aH x /\ ∀ H', aj H H' -> Q (.bl true) H'
theorem wZ : aL ["thing"] ["thing"] (aB (top 15)) := ⟨rfl, rfl, rfl, by decide +kernel, rfl, by decide +kernel, by decide +kernel⟩
theorem ar {H H' : Hp} {p : Addr} {o : HO} (h : aj H H') (hp : H' p = none) : aj H (upd H' p o) := fun b ob e => by
 rw [ag (av (h b ob e) hp)]; exact h b ob e
theorem ph {f : Addr} {fd : FuncData} (F : Fun K "is_name" "is_name" (top 15) f fd) (B : Bl mg) : aE P w K mg base CX0 1 f fd ["thing"] jc := by
 refine F.ok wZ (fun vs H Q E h => ?_) (fun cdv A outer s H vs Q E hr h => ?_)
 ·obtain ⟨x, rfl, _⟩ := h
  rfl
 ·obtain ⟨x, rfl, hx, k⟩ := h
  obtain ⟨tl, hl⟩ := B.lng
  refine ⟨_, am (bj (PW.pt (di (bP (bA (ay (de (T := "str")) rfl B.isinstance cg (aa (pv 0) (aa (cT (v := .ty "str") rfl B.str nh rfl) ae)))))
    (dD (bP (rg mU mU ak (ay jK rfl B.len PySem.boot_len (aa (pv 0) ae)) (cm (v := .int 8) rfl hl ⟨_, rfl⟩)))))) (aw (aN fc)) be)
   (aw (aN (ay (dO rfl) rfl B.all eo (aa (bq (N := ["letter"]) (ix := [none]) ⟨rfl, rfl, rfl, by decide⟩ rfl (uF (pv 0)) (fun _ _ _ _ => aS 0 (by decide) rfl rfl) (fun _ _ _ _ => bz)
    (fun _ _ _ _ => qY ky ky eV (pv 0) eV)) ae)))), ?_⟩
  refine ⟨_, rfl, _, _, true, rfl, .str x, ?kit, true, rfl, bc ?_⟩
  case kit => rfl
  refine ⟨_, rfl, x, rfl, Nat.le_of_lt hx.fits, _, _, rfl, rfl, _, rfl, jE (by have := hx.lo; omega) ⟨_, _, rfl, rfl, _, rfl, ?_⟩⟩
  refine js (by have := hx.hi; omega) ?_
  refine ⟨_, rfl, x, rfl, hx.ascii, rH hx.fits (fun i ys σ H1 => ys = List.replicate i (.bl true) /\ aj H H1 /\ ∃ v, σ = [v]) ⟨rfl, aj.refl _, _, rfl⟩ (fun i ys σ H1 _ q => by rw [q.1]; simp) ?_ ?_⟩
  ·rintro i c ys σ H1 hc ⟨rfl, hs, v, rfl⟩
   have hcm := hx.az c (Array.mem_toList_iff.mpr (Array.mem_of_getElem? hc))
   refine ⟨_, rfl, _, _, rfl, rfl, _, rfl, vL ?_ ⟨_, _, rfl, rfl, ?_, hs, _, rfl⟩⟩
   ·show ¬ ([c] < [97])
    rw [lt1]; omega
   ·have e : (!decide ([122] < [c])) = true := by rw [decide_eq_false (by rw [lt1]; omega)]; rfl
    show _ ++ [V.bl (!decide ([122] < [c]))] = _
    rw [e, List.replicate_succ']
  ·rintro ys σ H1 ⟨rfl, hs, v, rfl⟩ p hp
   refine ⟨p, List.replicate x.length true, rfl, SqL.of (by rw [ai, List.map_replicate]), ?_⟩
   have e : (List.replicate x.length true).all id = true := by simp
   rw [e]
   exact k _ (ar hs hp)
end
theorem bx (K : PySem.W.Frag) {X : Cx} (h : X.K = K := by rfl) : IxR X (rIx K) := by subst h; exact bh
theorem i3 (K : PySem.W.Frag) {X : Cx} (h : X.K = K := by rfl) : OpR X (compareOp .In) (rIn K false) := by subst h; exact fW
theorem eG (K : PySem.W.Frag) {X : Cx} (h : X.K = K := by rfl) : OpR X (compareOp .NotIn) (rIn K true) := by subst h; exact gS
theorem fH {α : Type} {xs : List α} {z : Int} {j : Nat} {v : α} (hz : z = (j : Int)) (h : xs[j]? = some v) : atI xs z = some v := by subst hz; exact uk h
noncomputable def Sq (K : PySem.W.Frag) (H : Hp) (p : Addr) (xs : List V) : Prop := SqL K H p xs \/ SqT K H p xs
theorem fk {K : PySem.W.Frag} {H H' : Hp} {a : Addr} {xs : List V} (e : aj H H') (h : SqT K H a xs) : SqT K H' a xs := by
 rcases h with (h | ⟨o, h⟩) | h
 ·exact .inl (.inl (e _ _ h))
 ·exact .inl (.inr ⟨o, e _ _ h⟩)
 ·exact .inr h
theorem Sq.same {K : PySem.W.Frag} {H H' : Hp} {a : Addr} {xs : List V} (h : Sq K H a xs) (e : aj H H') : Sq K H' a xs := h.imp (fun z => e.seq z) fun z => fk e z
theorem aJ {K : PySem.W.Frag} {H : Hp} {p : Addr} {xs : List V} {z : Int} {j : Nat} {v : V} {Q : VK} (h : Sq K H p xs) (hz : z = (j : Int)) (hx : xs[j]? = some v) (q : Q v H) : rIx K (.ref p) (.int z) H Q :=
 h.elim (fun h => .inl ⟨p, xs, z, v, rfl, rfl, h, fH hz hx, q⟩) fun h => .inr (.inl ⟨p, xs, z, v, rfl, rfl, h, fH hz hx, q⟩)
theorem fits {n : Nat} (h : n <= 1000) : n < sizeLine := qi h
theorem strAt {ss : List Str} {i : Nat} (h : i < ss.length) : (ss.map V.str)[i]? = some (.str ss[i]) := by rw [List.getElem?_map, List.getElem?_eq_getElem h]; rfl
theorem bY (x : Str) (ss : List Str) : inV (.str x) (ss.map V.str) = decide (x ∈ ss) := by
 unfold inV
 rw [List.any_map]
 rw [Bool.eq_iff_iff, List.any_eq_true, decide_eq_true_iff]
 constructor
 ·rintro ⟨y, hy, e⟩
  have e' : y = x := by simpa [eqV] using e
  exact e' ▸ hy
 ·intro h
  exact ⟨x, h, by simp [eqV]⟩
theorem bW (ss : List Str) : (ss.map V.str).all dk = true := by
 rw [List.all_map, List.all_eq_true]
 intro y _
 rfl
noncomputable abbrev Row := Str × Str × Str
noncomputable def dj (H : Hp) (p : Addr) (r : Row) : Prop := H p = some (.tup [.str r.1, .str r.2.1, .str r.2.2])
noncomputable abbrev au (rs : List (Addr × Row)) : List V := rs.map fun r => V.ref r.1
structure bL (H : Hp) (v pa ra : Addr) (ps : List Str) (rs : List (Addr × Row)) : Prop where
 tp : H v = some (.tup [.ref pa, .ref ra])
 pl : H pa = some (.tup (ps.map V.str))
 rl : H ra = some (.tup (au rs))
 rows : ∀ r ∈ rs, dj H r.1 r.2
structure Good (ps : List Str) (rs : List Row) : Prop where
 ne : ps ≠ []
 nm : ∀ x ∈ ps, aH x
 so : ps.Pairwise nlt
 rn : ∀ r ∈ rs, aH r.1 /\ r.2.1 ∈ ps /\ r.2.2 ∈ ps /\ r.2.1 ≠ r.2.2
 rso : (rs.map (·.1)).Pairwise nlt
 pz : ps.length <= 100
 rz : rs.length <= 60
theorem bL.same {H H' : Hp} {v pa ra : Addr} {ps : List Str} {rs : List (Addr × Row)} (h : bL H v pa ra ps rs) (e : aj H H') : bL H' v pa ra ps rs :=
 ⟨e _ _ h.tp, e _ _ h.pl, e _ _ h.rl, fun r hr => e _ _ (h.rows r hr)⟩
section
variable {P : Program} {w : World} {K : PySem.W.Frag} {mg : Str -> Option Value} {base : Heap}
noncomputable def iD (K : PySem.W.Frag) : Sp := fun vs H Q _ => ∃ (p : Addr) (ss : List Str), vs = [.ref p] /\ Sq K H p (ss.map V.str) /\ ss.Pairwise nlt /\ ss.length <= 1000 /\ ∀ H', aj H H' -> Q (.bl true) H'
theorem wo : aL ["names"] ["names"] (aB (top 16)) := ⟨rfl, rfl, rfl, by decide +kernel, rfl, by decide +kernel, by decide +kernel⟩
theorem oO {f : Addr} {fd : FuncData} (F : Fun K "is_rising" "is_rising" (top 16) f fd) (B : Bl mg) : aE P w K mg base CX0 1 f fd ["names"] (iD K) := by
 refine F.ok wo (fun vs H Q E h => ?_) (fun cdv A outer s H vs Q E hr h => ?_)
 ·obtain ⟨p, ss, rfl, _⟩ := h
  rfl
 ·obtain ⟨p, ss, rfl, hq, hp, hz, k⟩ := h
  refine ⟨_, aw (aN (ay (dO rfl) rfl B.all eo (aa (bq (N := ["at", "names"]) (ix := [none, some 0]) ⟨rfl, rfl, rfl, by decide⟩ rfl
   (km rfl B.range (aa ak (aa (ay bo rfl B.len PySem.boot_len (aa (pv 0) ae)) ae))) (fun _ _ _ _ => aS 0 (by decide) rfl rfl) (fun _ _ _ _ => bz)
   (fun _ _ _ _ => b5 qo (aG (bx K) (pv 1) (aD eW (pv 0) ak) (fun _ _ => rfl)) (aG (bx K) (pv 1) (pv 0) (fun _ _ => rfl)) (aT _))) ae))), ?_⟩
  have hz' : (ss.map V.str).length <= 1000 := by simpa using hz
  refine ⟨_, rfl, p, ss.map V.str, rfl, hq, 1, _, rfl, ⟨by decide, by decide, by omega, by omega⟩, fi (fits (by omega)) (fun i ys σ H1 => ys = List.replicate i (.bl true) /\ aj H H1 /\ ∃ v, σ = [v, some (.ref p)])
   ⟨rfl, aj.refl _, _, rfl⟩ (fun i ys σ H1 _ q => by rw [q.1]; simp) ?_ ?_⟩
  ·rintro i ys σ H1 hi ⟨rfl, hs, v, rfl⟩
   have hl : i + 1 < ss.length := by rw [List.length_map] at hi; omega
   refine ⟨_, rfl, _, rfl, _, _, rfl, rfl, aJ (j := i) (hq.same hs) (by omega) (strAt (by omega)) ⟨_, rfl, _, rfl, aJ (j := i + 1) (hq.same hs) (by push_cast; omega) (strAt hl) ⟨_, _, rfl, rfl, ?_, hs, _, rfl⟩⟩⟩
   have e : ss[i].cps.toList < ss[i + 1].cps.toList := List.pairwise_iff_getElem.mp hp i (i + 1) (by omega) hl (by omega)
   show _ ++ [V.bl (decide (ss[i].cps.toList < ss[i + 1].cps.toList))] = _
   rw [decide_eq_true e, List.replicate_succ']
  ·rintro ys σ H1 ⟨rfl, hs, v, rfl⟩ q hqn
   refine ⟨q, List.replicate _ true, rfl, SqL.of (by rw [ai, List.map_replicate]), ?_⟩
   have e : ∀ n : Nat, (List.replicate n true).all id = true := by simp
   rw [e]
   exact k _ (ar hs hqn)
noncomputable def lq : Sp := fun vs H Q _ => ∃ (p : Addr) (ss : List Str), vs = [.ref p] /\ H p = some (.tup (ss.map V.str)) /\ (∀ x ∈ ss, aH x) /\ ss.Pairwise nlt /\ ss.length <= 1000 /\ ∀ H', aj H H' -> Q (.bl true) H'
theorem wx : aL ["thing"] ["thing"] (aB (top 17)) := ⟨rfl, rfl, rfl, by decide +kernel, rfl, by decide +kernel, by decide +kernel⟩
theorem oQ {f : Addr} {fd : FuncData} (F : Fun K "is_sorted_names" "is_sorted_names" (top 17) f fd) (B : Bl mg) (F1 : Fn P w K mg base 1 "is_name" ["thing"] jc) (F2 : Fn P w K mg base 1 "is_rising" ["names"] (iD K)) :
  aE P w K mg base CX0 2 f fd ["thing"] lq := by
 refine F.ok wx (fun vs H Q E h => ?_) (fun cdv A outer s H vs Q E hr h => ?_)
 ·obtain ⟨p, ss, rfl, _⟩ := h
  rfl
 ·obtain ⟨p, ss, rfl, hp, hn, hs, hz, k⟩ := h
  refine ⟨_, am (bj (bP (bA (ay (de (T := "tuple")) rfl B.isinstance cg (aa (pv 0) (aa (cT (v := .ty "tuple") rfl B.tuple cU rfl) ae))))) (aw (aN fc)) be)
   (aw (aN (dE (ay (dO rfl) rfl B.all eo (aa (bq (N := ["name"]) (ix := [none]) ⟨rfl, rfl, rfl, by decide⟩ rfl (b7 (pv 0)) (fun _ _ _ _ => aS 0 (by decide) rfl rfl) (fun _ _ _ _ => bz)
    (fun _ _ _ _ => ax F1 hr (aa (pv 0) ae))) ae)) (eS (ax F2 hr (aa (pv 0) ae)))))), ?_⟩
  refine ⟨_, rfl, _, _, true, rfl, .tup hp, rfl, true, rfl, bc ?_⟩
  refine ⟨_, rfl, p, rfl, ⟨_, SqT.of hp⟩, fY (xs := ss.map V.str) (fits (by simpa using hz)) (fun i ys σ H1 => ys = List.replicate i (.bl true) /\ aj H H1 /\ ∃ v, σ = [v]) ⟨rfl, aj.refl _, _, rfl⟩
   (fun i ys σ H1 _ q => ⟨by rw [q.1]; simp, fk q.2.1 (SqT.of hp)⟩) ?_ ?_⟩
  ·rintro i x ys σ H1 hx ⟨rfl, hs1, v, rfl⟩
   obtain ⟨y, hy, rfl⟩ : ∃ y ∈ ss, x = V.str y := by
    obtain ⟨y, e1, e2⟩ := List.mem_map.mp (List.mem_of_getElem? hx)
    exact ⟨y, e1, e2.symm⟩
   exact ⟨_, rfl, y, rfl, hn y hy, fun H2 hs2 => ⟨by rw [List.replicate_succ'], hs1.trans hs2, _, rfl⟩⟩
  ·rintro ys σ H1 ⟨rfl, hs1, v, rfl⟩ q hqn
   refine ⟨q, List.replicate _ true, rfl, SqL.of (by rw [ai, List.map_replicate]), _, rfl, ?_⟩
   have e : ∀ n : Nat, (List.replicate n true).all id = true := by simp
   rw [e]
   have hs2 := ar (o := .lst (List.replicate (ss.map V.str).length (.bl true))) hs1 hqn
   exact bG ⟨_, rfl, p, ss, rfl, .inr (fk hs2 (SqT.of hp)), hs, hz, fun H3 hs3 => k _ (hs2.trans hs3)⟩
noncomputable def iZ (K : PySem.W.Frag) : Sp := fun vs H Q _ => ∃ (x : Str) (p : Addr) (ss : List Str), vs = [.str x, .ref p] /\ Sq K H p (ss.map V.str) /\ Q (.bl (decide (x ∈ ss))) H
theorem wL : aL ["thing", "names"] ["thing", "names"] (aB (top 18)) := ⟨rfl, rfl, rfl, by decide +kernel, rfl, by decide +kernel, by decide +kernel⟩
theorem pd {f : Addr} {fd : FuncData} (F : Fun K "is_among" "is_among" (top 18) f fd) (B : Bl mg) : aE P w K mg base CX0 1 f fd ["thing", "names"] (iZ K) := by
 refine F.ok wL (fun vs H Q E h => ?_) (fun cdv A outer s H vs Q E hr h => ?_)
 ·obtain ⟨x, p, ss, rfl, _⟩ := h
  rfl
 ·obtain ⟨x, p, ss, rfl, hp, k⟩ := h
  refine ⟨_, aw (aN (dE (ay (de (T := "str")) rfl B.isinstance cg (aa (pv 0) (aa (cT (v := .ty "str") rfl B.str nh rfl) ae)))
   (eS (b5 fW (pv 0) (pv 1) (by with_unfolding_all rfl))))), ?_⟩
  refine ⟨_, rfl, _, _, true, rfl, .str x, rfl, true, rfl, bG ⟨_, rfl, _, rfl, p, ss.map V.str, rfl, hp, rfl, bW ss, ?_⟩⟩
  show Q (.bl (inV (.str x) (ss.map V.str))) H
  rw [bY]
  exact k
noncomputable def lp : Sp := fun vs H Q _ => ∃ (p q : Addr) (r : Row) (ps : List Str), vs = [.ref p, .ref q] /\ dj H p r /\ H q = some (.tup (ps.map V.str)) /\ aH r.1 /\ r.2.1 ∈ ps /\ r.2.2 ∈ ps /\ r.2.1 ≠ r.2.2 /\ ∀ H', aj H H' -> Q (.bl true) H'
theorem gJ : aL ["thing", "places", "name", "start", "end"] ["thing", "places"] (aB (top 19)) := ⟨rfl, rfl, rfl, by decide +kernel, rfl, by decide +kernel, by decide +kernel⟩
theorem oy {f : Addr} {fd : FuncData} (F : Fun K "is_tie_row" "is_tie_row" (top 19) f fd) (B : Bl mg) (F1 : Fn P w K mg base 1 "is_name" ["thing"] jc) (F2 : Fn P w K mg base 1 "is_among" ["thing", "names"] (iZ K)) :
  aE P w K mg base CX0 2 f fd ["thing", "places"] lp := by
 refine F.ok gJ (fun vs H Q E h => ?_) (fun cdv A outer s H vs Q E hr h => ?_)
 ·obtain ⟨p, q, r, ps, rfl, _⟩ := h
  rfl
 ·obtain ⟨p, q, r, ps, rfl, hp, hq, h1, h2, h3, h4, k⟩ := h
  have hp' : H p = some (.tup [.str r.1, .str r.2.1, .str r.2.2]) := hp
  refine ⟨_, am (bj (PW.pt (di (bP (bA (ay (de (T := "tuple")) rfl B.isinstance cg (aa (pv 0) (aa (cT (v := .ty "tuple") rfl B.tuple cU rfl) ae)))))
    (dD (aR eB (ay bo rfl B.len PySem.boot_len (aa (pv 0) ae)) ak (aT _))))) (aw (aN fc)) be)
   (am (dC (pv 0) (dz rfl (n := 3) (bv (aW (i := 2) gJ.nd rfl (Or.inl rfl)) (bv (aW (i := 3) gJ.nd rfl (Or.inl rfl)) (bv (aW (i := 4) gJ.nd rfl (Or.inl rfl)) cV)))))
   (aw (aN (dE (ax F1 hr (aa (pv 2) ae)) (dE (ax F2 hr (aa (pv 3) (aa (pv 1) ae))) (dE (ax F2 hr (aa (pv 4) (aa (pv 1) ae))) (eS (b5 eB (pv 3) (pv 4) (aT _))))))))), ?_⟩
  refine ⟨_, rfl, _, _, true, rfl, .tup hp', rfl, true, rfl, bc ⟨_, rfl, p, _, rfl, .inr (SqT.of hp'), rfl, _, rfl, js rfl ?_⟩⟩
  refine ⟨_, rfl, p, _, rfl, SqT.of hp', rfl, _, _, rfl, _, _, rfl, _, _, rfl, rfl, ?_⟩
  refine ⟨_, rfl, r.1, rfl, h1, fun H1 s1 => ⟨true, rfl, bG ⟨_, rfl, _, rfl, r.2.1, q, ps, rfl, .inr (fk s1 (SqT.of hq)), _, rfl, jE h2 ⟨_, rfl, _, rfl, r.2.2, q, ps, rfl, .inr (fk s1 (SqT.of hq)), _, rfl, jE h3 ⟨_, rfl, _, rfl, rfl, ?_⟩⟩⟩⟩⟩
  have e : (!decide (V.str r.2.1 = V.str r.2.2)) = true := by
   rw [decide_eq_false (fun z => h4 (V.str.inj z))]; rfl
  rw [e]
  exact k H1 s1
end
theorem jH {α β : Type} (f : α -> β) (l : List α) (i : Nat) (x : α) (h : l[i]? = some x) : (l.take (i + 1)).map f = (l.take i).map f ++ [f x] := by
 rw [List.take_add_one, h]; simp
theorem cO {rs : List (Addr × Row)} {i : Nat} {x : V} (h : (au rs)[i]? = some x) : ∃ r, rs[i]? = some r /\ x = .ref r.1 := by
 unfold au at h
 rw [List.getElem?_map] at h
 cases e : rs[i]? with
 | none => rw [e] at h; cases h
 | some r => rw [e] at h; exact ⟨r, rfl, (Option.some.inj h).symm⟩
section
variable {P : Program} {w : World} {K : PySem.W.Frag} {mg : Str -> Option Value} {base : Heap}
noncomputable def gA (r : V) : Sp := fun vs H Q _ => ∃ (v pa ra : Addr) (ps : List Str) (rs : List (Addr × Row)), vs = [.ref v] /\ bL H v pa ra ps rs /\ Good ps (rs.map (·.2)) /\ ∀ H', aj H H' -> Q r H'
theorem jG : aL ["thing", "places", "rows"] ["thing"] (aB (top 20)) := ⟨rfl, rfl, rfl, by decide +kernel, rfl, by decide +kernel, by decide +kernel⟩
theorem qc {f : Addr} {fd : FuncData} (F : Fun K "is_web" "is_web" (top 20) f fd) (B : Bl mg) (F1 : Fn P w K mg base 2 "is_sorted_names" ["thing"] lq) (F2 : Fn P w K mg base 2 "is_tie_row" ["thing", "places"] lp)
  (F3 : Fn P w K mg base 1 "is_rising" ["names"] (iD K)) : aE P w K mg base CX0 3 f fd ["thing"] (gA (.bl true)) := by
 refine F.ok jG (fun vs H Q E h => ?_) (fun cdv A outer s H vs Q E hr h => ?_)
 ·obtain ⟨v, pa, ra, ps, rs, rfl, _⟩ := h
  rfl
 ·obtain ⟨v, pa, ra, ps, rs, rfl, W, G, k⟩ := h
  have hr1 : aI 1 _ := hr.mono (by decide)
  refine ⟨_, am (bj (PW.pt (di (bP (bA (ay (de (T := "tuple")) rfl B.isinstance cg (aa (pv 0) (aa (cT (v := .ty "tuple") rfl B.tuple cU rfl) ae)))))
    (dD (aR eB (ay bo rfl B.len PySem.boot_len (aa (pv 0) ae)) ak (aT _))))) (aw (aN fc)) be)
   (am (dC (pv 0) (dz rfl (n := 2) (bv (aW (i := 1) jG.nd rfl (Or.inr rfl)) (bv (aW (i := 2) jG.nd rfl (Or.inl rfl)) cV))))
   (am (bj (PW.pt (di (bP (bA (ax F1 hr (aa (pv 1) ae)))) (di (aR e9 (ay bo rfl B.len PySem.boot_len (aa (pv 1) ae)) ak (aT _))
    (dD (bP (bA (ay (de (T := "tuple")) rfl B.isinstance cg (aa (pv 2) (aa (cT (v := .ty "tuple") rfl B.tuple cU rfl) ae))))))))) (aw (aN fc)) be)
   (aw (aN (dE (ay (dO rfl) rfl B.all eo (aa (bq (N := ["row", "places"]) (ix := [none, some 1]) ⟨rfl, rfl, rfl, by decide⟩ rfl (b7 (pv 2)) (fun _ _ _ _ => aS 0 (by decide) rfl rfl) (fun _ _ _ _ => bz)
    (fun _ _ _ _ => ax F2 hr (aa (pv 0) (aa (pv 1) ae)))) ae))
    (eS (ax F3 hr1 (aa (bq (N := ["row"]) (ix := [none]) ⟨rfl, rfl, rfl, by decide⟩ rfl (b7 (pv 2)) (fun _ _ _ _ => aS 0 (by decide) rfl rfl) (fun _ _ _ _ => bz)
     (fun _ _ _ _ => aG (bx K) (pv 0) ak (fun _ _ => rfl))) ae)))))))), ?_⟩
  have hlen : (au rs).length <= 1000 := by have := G.rz; simp at this ⊢; omega
  refine ⟨_, rfl, _, _, true, rfl, .tup W.tp, rfl, true, rfl, bc ⟨_, rfl, v, _, rfl, .inr (SqT.of W.tp), rfl, _, rfl, js rfl ?_⟩⟩
  refine ⟨_, rfl, v, _, rfl, SqT.of W.tp, rfl, _, _, rfl, _, _, rfl, rfl, ?_⟩
  refine ⟨_, rfl, pa, ps, rfl, W.pl, G.nm, G.so, by have := G.pz; omega, fun H1 s1 => ⟨true, rfl, bc ?_⟩⟩
  refine ⟨_, rfl, pa, _, rfl, .inr (SqT.of (s1 _ _ W.pl)), rfl, _, rfl, mY ?_ ?_⟩
  ·intro z
   have z' : ((ps.map V.str).length : Int) = 0 := V.int.inj z
   have : ps.length ≠ 0 := fun q => G.ne (List.length_eq_zero_iff.mp q)
   rw [List.length_map] at z'
   omega
  refine ⟨_, rfl, _, _, true, rfl, .tup (s1 _ _ W.rl), rfl, true, rfl, bc ?_⟩
  refine ⟨_, rfl, ra, rfl, ⟨_, SqT.of (s1 _ _ W.rl)⟩, fY (xs := au rs) (fits hlen) (fun i ys σ H2 => ys = List.replicate i (.bl true) /\ aj H H2 /\ ∃ x, σ = [x, some (.ref pa)]) ⟨rfl, s1, _, rfl⟩
   (fun i ys σ H2 _ q => ⟨by rw [q.1]; simp, SqT.of (q.2.1 _ _ W.rl)⟩) ?_ ?_⟩
  ·rintro i x ys σ H2 hx ⟨rfl, s2, y, rfl⟩
   obtain ⟨r, hr', rfl⟩ := cO hx
   have hm := List.mem_of_getElem? hr'
   obtain ⟨g1, g2, g3, g4⟩ := G.rn r.2 (List.mem_map_of_mem hm)
   exact ⟨_, rfl, _, rfl, r.1, pa, r.2, ps, rfl, s2 _ _ (W.rows r hm), s2 _ _ W.pl, g1, g2, g3, g4, fun H3 s3 => ⟨by rw [List.replicate_succ'], s2.trans s3, _, rfl⟩⟩
  ·rintro ys σ H2 ⟨rfl, s2, y, rfl⟩ q hqn
   have s3 := ar (o := .lst (List.replicate (au rs).length (.bl true))) s2 hqn
   refine ⟨q, List.replicate _ true, rfl, SqL.of (by rw [ai, List.map_replicate]), _, rfl, ?_⟩
   have e : ∀ n : Nat, (List.replicate n true).all id = true := by simp
   rw [e]
   refine bG ⟨_, rfl, ra, rfl, ⟨_, SqT.of (s3 _ _ W.rl)⟩, fY (xs := au rs) (fits hlen) (fun i ys σ H4 => ys = ((rs.take i).map fun r => V.str r.2.1) /\ aj H H4 /\ ∃ x, σ = [x]) ⟨rfl, s3, _, rfl⟩
    (fun i ys σ H4 _ q => ⟨by rw [q.1]; simp; omega, SqT.of (q.2.1 _ _ W.rl)⟩) ?_ ?_⟩
   ·rintro i x ys σ H4 hx ⟨rfl, s4, z, rfl⟩
    obtain ⟨r, hr', rfl⟩ := cO hx
    have hm := List.mem_of_getElem? hr'
    exact ⟨_, rfl, aJ (j := 0) (.inr (SqT.of (s4 _ _ (W.rows r hm)))) rfl rfl ⟨(jH _ _ _ _ hr').symm, s4, _, rfl⟩⟩
   ·rintro ys σ H4 ⟨rfl, s4, z, rfl⟩ q2 hq2
    refine ⟨q2, rs.map (·.2.1), rfl, .inl (SqL.of (by rw [ai]; simp)), ?_, by simpa using hlen, fun H5 s5 => k _ ((ar s4 hq2).trans s5)⟩
    have := G.rso
    rw [List.map_map] at this
    exact this
end
theorem cz {α : Type} (p : α -> Bool) (l : List α) (i : Nat) (x : α) (h : l[i]? = some x) : (l.take (i + 1)).filter p = (l.take i).filter p ++ (if p x then [x] else []) := by
 rw [List.take_add_one, h, List.filter_append]
 simp only [Option.toList_some, List.filter_cons, List.filter_nil]
theorem take_all {α : Type} (l : List α) {n : Nat} (h : n = l.length) : l.take n = l := by subst h; exact List.take_length
noncomputable abbrev nms (rs : List (Addr × Row)) : List Str := rs.map (·.2.1)
theorem kz {α β : Type} (f : α -> β) : ∀ (l' : List β) (l : List α), l'.Perm (l.map f) -> ∃ l'' : List α, l''.Perm l /\ l''.map f = l'
 | [], l, h => by
  have : l = [] := by simpa using h.length_eq.symm
  subst this
  exact ⟨[], .refl _, rfl⟩
 | b :: t, l, h => by
  obtain ⟨a, ha, rfl⟩ := List.mem_map.mp (h.mem_iff.mp List.mem_cons_self)
  obtain ⟨u, v, rfl⟩ := List.append_of_mem ha
  have h2 : (f a :: t).Perm (f a :: (u ++ v).map f) := by
   refine h.trans ?_
   rw [List.map_append, List.map_cons, List.map_append]
   exact List.perm_middle
  obtain ⟨w, hw, e⟩ := kz f t (u ++ v) h2.cons_inv
  exact ⟨a :: w, (hw.cons a).trans List.perm_middle.symm, by rw [List.map_cons, e]⟩
structure xk (ps ls : List Str) : Prop where
 ne : ls ≠ []
 nm : ∀ x ∈ ls, aH x
 so : ls.Pairwise nlt
 sub : ∀ x ∈ ls, x ∈ ps
 z : ls.length <= 100
theorem eN {ss : List Str} (h : ss.Pairwise nlt) : ss.Nodup := h.imp fun {a b} hab e => by
 subst e; exact absurd hab (List.lt_irrefl _)
theorem kN (rs : List (Addr × Row)) : refs (rs.map fun r => (r.1, r.2.1)) = au rs := by
 unfold refs au
 rw [List.map_map]
 rfl
theorem iS (K : PySem.W.Frag) {X : Cx} {es : List Expr} {k : Nat} {t : TGs} {n : Nat} {pos : Pos} (hc : X.calm = true) (h : PGs X es t) (hK : X.K = K := by rfl) (hn : (assignEach es X.env).length = n := by rfl) (hst : (assignEach es X.env).findIdx? (·.1) = none := by rfl) :
  PG X (.Tuple es k pos) (nC K n t) := by subst hK; exact dz hc h hn hst
section
variable {P : Program} {w : World} {K : PySem.W.Frag} {mg : Str -> Option Value} {base : Heap}
theorem wX : aL ["thing"] ["thing"] (aB (top 21)) := ⟨rfl, rfl, rfl, by decide +kernel, rfl, by decide +kernel, by decide +kernel⟩
theorem o7 {f : Addr} {fd : FuncData} (F : Fun K "need_web" "need_web" (top 21) f fd) (F1 : Fn P w K mg base 3 "is_web" ["thing"] (gA (.bl true))) : aE P w K mg base CX0 4 f fd ["thing"] (gA .non) := by
 refine F.ok wX (fun vs H Q E h => ?_) (fun cdv A outer s H vs Q E hr h => ?_)
 ·obtain ⟨v, pa, ra, ps, rs, rfl, _⟩ := h
  rfl
 ·obtain ⟨v, pa, ra, ps, rs, rfl, W, G, k⟩ := h
  refine ⟨_, aw (bj (bP (bA (ax F1 hr (aa (pv 0) ae)))) cP be), ?_⟩
  exact ⟨_, rfl, v, pa, ra, ps, rs, rfl, W, G, fun H1 s1 => ⟨true, rfl, bc (k H1 s1)⟩⟩
noncomputable def lead (ls : List Str) (r : Addr × Row) : Bool := decide (r.2.2.2 ∈ ls) && !decide (r.2.2.1 ∈ ls)
noncomputable def i5 : Sp := fun vs H Q _ => ∃ (l : Addr) (r : Addr × Row) (ls : List Str), vs = [.ref r.1, .ref l] /\ dj H r.1 r.2 /\ H l = some (.tup (ls.map V.str)) /\ Q (.bl (lead ls r)) H
theorem wQ : aL ["row", "lot"] ["row", "lot"] (aB (top 22)) := ⟨rfl, rfl, rfl, by decide +kernel, rfl, by decide +kernel, by decide +kernel⟩
theorem oE {f : Addr} {fd : FuncData} (F : Fun K "leads_into" "leads_into" (top 22) f fd) : aE P w K mg base CX0 1 f fd ["row", "lot"] i5 := by
 refine F.ok wQ (fun vs H Q E h => ?_) (fun cdv A outer s H vs Q E hr h => ?_)
 ·obtain ⟨l, r, ls, rfl, _⟩ := h
  rfl
 ·obtain ⟨l, r, ls, rfl, hrow, hl, k⟩ := h
  refine ⟨_, aw (aN (dE (b5 fW (aG bh (pv 0) ak (fun _ _ => rfl)) (pv 1) (by with_unfolding_all rfl)) (eS (b5 gS (aG bh (pv 0) ak (fun _ _ => rfl)) (pv 1) (by with_unfolding_all rfl))))), ?_⟩
  have hS : Sq K H l (ls.map V.str) := .inr (SqT.of hl)
  refine ⟨_, rfl, aJ (j := 2) (.inr (SqT.of hrow)) rfl rfl ⟨_, rfl, l, ls.map V.str, rfl, hS, rfl, bW ls, ?_⟩⟩
  have e1 : (inV (.str r.2.2.2) (ls.map V.str)) = decide (r.2.2.2 ∈ ls) := bY _ _
  have e2 : (inV (.str r.2.2.1) (ls.map V.str)) = decide (r.2.2.1 ∈ ls) := bY _ _
  refine ⟨inV (.str r.2.2.2) (ls.map V.str), rfl, ?_⟩
  rw [e1]
  refine bb (fun c => ⟨_, rfl, aJ (j := 1) (.inr (SqT.of hrow)) rfl rfl ⟨_, rfl, l, ls.map V.str, rfl, hS, rfl, bW ls, ?_⟩⟩) (fun c => ?_)
  ·show Q (.bl (!inV (.str r.2.2.1) (ls.map V.str))) H
   rw [e2]
   have : lead ls r = !decide (r.2.2.1 ∈ ls) := by unfold lead; rw [c]; rfl
   rw [<- this]; exact k
  ·simp only [Bool.not_eq_true] at c
   have : lead ls r = false := by unfold lead; rw [c]; rfl
   rw [this] at k
   first | exact k | (rw [c]; exact k) | skip
end
theorem aj.upd0 {H H' : Hp} {q : Addr} {o : HO} (h : aj H H') (hq : H q = none) : aj H (upd H' q o) := fun b ob e => by
 rw [ag (av e hq)]; exact h b ob e
theorem lt0 {k : Nat} {A : Around} (r : aI k A) : A.units < cLine := by have := r.un; omega
theorem fP {k : Nat} {A : Around} (r : aI k A) : A.units + 1 < cLine := by have := r.un; omega
noncomputable def Pot (H : Hp) (p : Addr) : Prop := ∃ a b, H p = some (.lst [.int a, .int b]) /\ 0 <= b /\ b < 2147483629
noncomputable def Kp (P : List Addr) (H H' : Hp) : Prop := ∀ b o, H b = some o -> b ∉ P -> H' b = some o
theorem Kp.refl (P : List Addr) (H : Hp) : Kp P H H := fun _ _ h _ => h
theorem Kp.trans {P : List Addr} {H H1 H2 : Hp} (a : Kp P H H1) (b : Kp P H1 H2) : Kp P H H2 := fun c o h n => b c o (a c o h n) n
theorem Kp.of_same {P : List Addr} {H H1 H2 : Hp} (a : Kp P H H1) (b : aj H1 H2) : Kp P H H2 := fun c o h n => b c o (a c o h n)
theorem Kp.inn {P : List Addr} {H H1 : Hp} {p : Addr} {o : HO} (a : Kp P H H1) (hp : p ∈ P) : Kp P H (upd H1 p o) := fun c ob h n => by rw [ag (show c ≠ p from fun z => n (by rw [z]; exact hp))]; exact a c ob h n
theorem Kp.new {P : List Addr} {H H1 : Hp} {p : Addr} {o : HO} (a : Kp P H H1) (hp : H1 p = none) : Kp P H (upd H1 p o) := fun c ob h n => by rw [ag (av (a c ob h n) hp)]; exact a c ob h n
noncomputable def dw : Str := Str.ofString "abcdefghijklmnopqrstuvwxyz"
theorem oU : ∀ r : _root_.Fin 26, dw.cps.toList[r.val]? = some (97 + r.val) := by decide +kernel
theorem ig {r : Nat} (h : r < 26) : dw.cps.toList[r]? = some (97 + r) := oU ⟨r, h⟩
theorem gT : dw.length <= sizeLine := by decide
theorem join_one (cs : List Nat) : (Txt.join (Str.ofString "") (cs.map fun c => (⟨#[c]⟩ : Str))).cps.toList = cs := by
 have e0 : (Str.ofString "").cps = #[] := by decide
 show (Builtin.Str.glued (Str.ofString "") _).cps.toList = cs
 rw [StrLaws.glued_eq_join]
 induction cs with
 | nil => rfl
 | cons c t ih =>
  cases t with
  | nil => rfl
  | cons d r =>
   show (((⟨#[c]⟩ : Str) ++ Str.ofString "" ++ Str.join (Str.ofString "") ((d :: r).map fun c => (⟨#[c]⟩ : Str))).cps).toList = _
   rw [Str.cps_append, Str.cps_append, e0, Array.toList_append, Array.toList_append, ih]
   rfl
theorem aH.of_codes {x : Str} {l : List Nat} (e : x.cps.toList = l) (h1 : 1 <= l.length) (h8 : l.length <= 8) (h : ∀ c ∈ l, 97 <= c /\ c <= 122) : aH x := by
 have hl : x.length = l.length := by rw [<- e]; simp [Str.length]
 exact ⟨by omega, by omega, by rw [e]; exact h⟩
theorem cF {H : Hp} {p t : Addr} {ss : List Str} (h1 : Pot H p) (h2 : H t = some (.lst (ss.map V.str))) : t ≠ p := by
 rintro rfl
 obtain ⟨a, b, e, _⟩ := h1
 rw [e] at h2
 have h3 := HO.lst.inj (Option.some.inj h2)
 cases ss with
 | nil => cases h3
 | cons x r => rw [List.map_cons] at h3; cases List.cons.inj h3 |>.1
theorem kB : ∀ (r : List Str) (x : Str), PyProof.Rows.risingS x r = true -> (x :: r).Nodup -> (x :: r).Pairwise nlt
 | [], x, _, _ => by simp
 | y :: r, x, h, hn => by
  have h' : (!PySem.Spec.ltCps y.cps.toList x.cps.toList && PyProof.Rows.risingS y r) = true := h
  rw [Bool.and_eq_true, PyProof.Rows.ltCps_eq] at h'
  have hn' := List.nodup_cons.mp hn
  have ih := kB r y h'.2 hn'.2
  have hxy : nlt x y := by
   rcases lO (fun e => hn'.1 (e ▸ List.mem_cons_self) : x ≠ y) with z | z
   ·exact z
   ·rw [decide_eq_true z] at h'
    exact absurd h'.1 (by simp)
  refine List.pairwise_cons.mpr ⟨fun z hz => ?_, ih⟩
  rcases List.mem_cons.mp hz with rfl | hz
  ·exact hxy
  ·exact List.lt_trans hxy ((List.pairwise_cons.mp ih).1 z hz)
theorem dP {ss : List Str} (h : PyProof.Rows.sortedS ss = true) (hn : ss.Nodup) : ss.Pairwise nlt := by
 cases ss with
 | nil => exact .nil
 | cons x r => exact kB r x h hn
theorem Kp.free {P : List Addr} {H H' : Hp} (k : Kp P H H') (hP : ∀ b ∈ P, ∃ o, H' b = some o) {q : Addr} (hq : H' q = none) : H q = none := by
 cases e : H q with
 | none => rfl
 | some o =>
  by_cases hm : q ∈ P
  ·obtain ⟨o', e'⟩ := hP q hm
   rw [hq] at e'; cases e'
  ·rw [k q o e hm] at hq; cases hq
theorem Pot.some {H : Hp} {p : Addr} (h : Pot H p) : ∃ o, H p = some o := let ⟨a, b, e, _⟩ := h; ⟨_, e⟩
theorem Pot.keep {H H' : Hp} {p : Addr} (h : Pot H p) (e : ∀ o, H p = Option.some o -> H' p = Option.some o) : Pot H' p := let ⟨a, b, q, r⟩ := h; ⟨a, b, e _ q, r⟩
theorem tup_ne {H : Hp} {a b : Addr} {xs ys : List V} (h1 : H a = some (.tup xs)) (h2 : H b = some (.lst ys)) : a ≠ b := jf h1 h2 (by intro z; cases z)
theorem uD {H H' : Hp} {P : List Addr} {b : Addr} {xs : List V} (k : Kp P H H') (hP : ∀ c ∈ P, ∃ ys, H c = some (.lst ys)) (e : H b = some (.tup xs)) : H' b = some (.tup xs) :=
 k b _ e fun hb => by
  obtain ⟨ys, e'⟩ := hP b hb
  exact tup_ne e e' rfl
theorem Pot.lst {H : Hp} {p : Addr} (h : Pot H p) : ∃ ys, H p = Option.some (HO.lst ys) := let ⟨a, b, e, _⟩ := h; ⟨_, e⟩
theorem sx {x : Str} (h : aH x) : PyData.strOk x = true := by
 unfold PyData.strOk
 rw [Array.all_eq_true']
 intro c hc
 have := h.az c (by simpa using hc)
 simp; omega
theorem kP {ss : List Str} (h : ∀ x ∈ ss, aH x) : PyData.canLayAll0 (ss.map PyData.str) = true /\ PyData.depthAll (ss.map PyData.str) = 0 := by
 induction ss with
 | nil => exact ⟨rfl, rfl⟩
 | cons x t ih =>
  have := ih fun y hy => h y (List.mem_cons_of_mem _ hy)
  rw [List.map_cons]
  simp only [PyData.canLayAll0, PyData.canLay0, PyData.depthAll, PyData.depth, sx (h x List.mem_cons_self), this.1, this.2]
  exact ⟨rfl, rfl⟩
theorem cJ {ss : List Str} (h : ∀ x ∈ ss, aH x) : SeqAt.shaped (.list (ss.map PyData.str)) = true /\ SeqAt.shaped (.tuple (ss.map PyData.str)) = true := by
 have q := kP h
 unfold SeqAt.shaped
 simp only [PyData.canLay0, PyData.depth, q.1, q.2]
 exact ⟨by decide, by decide⟩
theorem eE : ∀ (a b : List Str), PyData.eqvAll (a.map PyData.str) (b.map PyData.str) = decide (a = b)
 | [], [] => by simp [PyData.eqvAll]
 | [], y :: t => by simp [PyData.eqvAll]
 | x :: s, [] => by simp [PyData.eqvAll]
 | x :: s, y :: t => by
  simp only [List.map_cons, PyData.eqvAll, PyData.eqv, eE s t]
  rw [Bool.eq_iff_iff]
  simp
theorem Pot.ne_new {H : Hp} {p q : Addr} (h : Pot H p) (hq : H q = none) : q ≠ p := fun z => by obtain ⟨o, e⟩ := h.some; rw [<- z, hq] at e; cases e
theorem Pot.upd {H : Hp} {p q : Addr} {o : HO} (h : Pot H p) (hq : q ≠ p) : Pot (upd H q o) p := h.keep fun ob e => by rw [ag hq.symm]; exact e
theorem Pot.new {H : Hp} {p q : Addr} {o : HO} (h : Pot H p) (hq : H q = none) : Pot (L2.upd H q o) p := h.upd (h.ne_new hq)
theorem Kp.free1 {p q : Addr} {H H1 : Hp} (k : Kp [p] H H1) (hp : Pot H1 p) (hq : H1 q = none) : H q = none := k.free (fun b hb => by
 have e : b = p := by simpa using hb
 subst e; exact hp.some) hq
theorem Kp.tup {p b : Addr} {H H1 : Hp} {xs : List V} (k : Kp [p] H H1) (hp : Pot H p) (e : H b = some (.tup xs)) : H1 b = some (.tup xs) := uD k (fun c hc => by
 have e : c = p := by simpa using hc
 subst e; exact hp.lst) e
theorem Kp.at {p b : Addr} {H H1 : Hp} {o : HO} (k : Kp [p] H H1) (hb : b ≠ p) (e : H b = some o) : H1 b = some o := k _ _ e (by simpa using hb)
section
variable {P : Program} {w : World} {K : PySem.W.Frag} {mg : Str -> Option Value} {base : Heap}
noncomputable def mX (K : PySem.W.Frag) : Sp := fun vs H Q _ => ∃ (a : Addr) (ns : List Int) (k : Int), vs = [.ref a, .int k] /\ SqL K H a (ns.map V.int) /\ 0 <= k /\ k <= 100 /\ ∀ q H', aj H H' -> H q = none -> Pot H' q -> Q (.ref q) H'
theorem nS : aL ["_law_script", "_law_k", "_law_cell"] ["_law_script", "_law_k"] (aB (top 37)) := ⟨rfl, rfl, rfl, by decide +kernel, rfl, by decide +kernel, by decide +kernel⟩
theorem uU {f : Addr} {fd : FuncData} (F : Fun K "_law_pot" "_law_pot" (top 37) f fd) (B : Bl mg) : aE P w K mg base CX0 1 f fd ["_law_script", "_law_k"] (mX K) := by
 refine F.ok nS (fun vs H Q E h => ?_) (fun cdv A outer s H vs Q E hr h => ?_)
 ·obtain ⟨a, ns, k, rfl, _⟩ := h
  rfl
 ·obtain ⟨a, ns, k, rfl, ha, hk, hk2, q⟩ := h
  refine ⟨_, am (aM (i := 2) nS.nd rfl (Or.inl rfl) (kT (aR gw (pv 1) (ay bo rfl B.len PySem.boot_len (aa (pv 0) ae)) (aT _)) (aG bh (pv 0) (pv 1) (fun _ _ => rfl)) ak))
   (aw (aN (bC (aa (ay (iA rfl) rfl B.max jq (aa ak (aa (aD eW (pv 2) (aD vf ak ak)) ae)))
    (aa (aD dB (aD b8 (aD b8 (aD eZ (pv 2) ak) (aD eZ ak (pv 1))) ak) ak) ae))))), ?_⟩
  refine ⟨_, rfl, _, rfl, a, _, rfl, .inl ha, _, _, rfl, rfl, _, rfl, ?_⟩
  have tail : ∀ c : Int, ∀ (σ : St), σ = [some (.ref a), some (.int k), some (.int c)] -> True := fun _ _ _ => trivial
  refine bb (fun c => ?_) (fun c => ?_)
  ·have c' : k < ((ns.map V.int).length : Int) := of_decide_eq_true c
   rw [List.length_map] at c'
   have hl : k.toNat < ns.length := by omega
   refine ⟨_, rfl, _, rfl, aJ (j := k.toNat) (v := .int ns[k.toNat]) (.inl ha) (by omega) (by rw [List.getElem?_map, List.getElem?_eq_getElem hl]; rfl) ?_⟩
   refine ⟨_, rfl, _, _, rfl, rfl, ⟨by decide, by decide, by decide⟩, _, _, rfl, rfl, _, _, rfl, ?_⟩
   refine ⟨_, rfl, _, _, rfl, rfl, .inr ⟨by decide, by decide⟩, _, rfl, _, _, rfl, rfl, .inl ⟨by decide, by decide⟩, _, _, rfl, rfl, _, _, rfl, rfl, _, _, rfl, rfl, by show (0 : Int) < 2147483629; decide, by show 2 <= sizeLine; decide, fun l hl => ?_⟩
   exact q l _ (ar (aj.refl _) hl) hl ⟨_, _, ai, Int.emod_nonneg _ (by decide), Int.emod_lt_of_pos _ (by decide)⟩
  ·refine ⟨_, rfl, _, _, rfl, rfl, ⟨by decide, by decide, by decide⟩, _, _, rfl, rfl, _, _, rfl, ?_⟩
   refine ⟨_, rfl, _, _, rfl, rfl, .inr ⟨by decide, by decide⟩, _, rfl, _, _, rfl, rfl, .inl ⟨by decide, by decide⟩, _, _, rfl, rfl, _, _, rfl, rfl, _, _, rfl, rfl, by show (0 : Int) < 2147483629; decide, by show 2 <= sizeLine; decide, fun l hl => ?_⟩
   exact q l _ (ar (aj.refl _) hl) hl ⟨_, _, ai, Int.emod_nonneg _ (by decide), Int.emod_lt_of_pos _ (by decide)⟩
noncomputable def eX : Sp := fun vs H Q _ => ∃ (p : Addr) (n : Int), vs = [.ref p, .int n] /\ Pot H p /\ 0 < n /\ n < 1000 /\ ∀ r H', 0 <= r -> r < n -> Pot H' p -> Kp [p] H H' -> Q (.int r) H'
theorem nV : aL ["_law_pot_here", "_law_many", "_law_digit"] ["_law_pot_here", "_law_many"] (aB (top 38)) := ⟨rfl, rfl, rfl, by decide +kernel, rfl, by decide +kernel, by decide +kernel⟩
theorem sJ {f : Addr} {fd : FuncData} (F : Fun K "_law_take" "_law_take" (top 38) f fd) (B : Bl mg) : aE P w K mg base CX0 1 f fd ["_law_pot_here", "_law_many"] eX := by
 refine F.ok nV (fun vs H Q E h => ?_) (fun cdv A outer s H vs Q E hr h => ?_)
 ·obtain ⟨p, n, rfl, _⟩ := h
  rfl
 ·obtain ⟨p, n, rfl, ⟨a, b, hp, hb0, hb1⟩, hn, hn2, k⟩ := h
  refine ⟨_, am (bj (aR cX (aG bh (pv 0) ak (fun _ _ => rfl)) ak (aT _))
    (am (dC (ay oY rfl B.divmod rR (aa (aG bh (pv 0) ak (fun _ _ => rfl)) (aa (pv 1) ae))) (dz rfl (n := 2) (bv (i9 (pv 0) ak set_list) (bv (aW (i := 2) nV.nd rfl (Or.inl rfl)) cV))))
     (aw (aN (pv 2)))) be)
   (am (dC (aD dB (aD b8 (aD eZ (aG bh (pv 0) ak (fun _ _ => rfl)) ak) ak) ak) (i9 (pv 0) ak set_list))
   (aw (aN (aD dB (aD iO (aD dB (aD eZ (aG bh (pv 0) ak (fun _ _ => rfl)) (aG bh (pv 0) ak (fun _ _ => rfl))) ak) ak) (pv 1))))), ?_⟩
  have hS : Sq K H p [.int a, .int b] := .inl (SqL.of hp)
  refine ⟨_, rfl, aJ (j := 0) hS rfl rfl ⟨_, _, rfl, rfl, _, rfl, ?_⟩⟩
  refine bb (fun c => ?_) (fun c => ?_)
  ·refine ⟨_, rfl, aJ (j := 0) hS rfl rfl ⟨_, rfl, _, _, rfl, ⟨hn, by omega⟩, fun t ht => ?_⟩⟩
   have ntp : p ≠ t := av hp ht
   refine ⟨t, _, rfl, SqT.of ai, rfl, _, _, rfl, _, rfl, p, [.int a, .int b], _, 0, rfl, rfl, by rw [ag ntp]; exact hp, rfl, ?_⟩
   refine ⟨_, _, rfl, rfl, _, rfl, k _ _ (Int.emod_nonneg _ (by omega)) (Int.emod_lt_of_pos _ hn) ⟨_, _, ai, hb0, hb1⟩ (((Kp.refl _ _).new ht).inn (by simp))⟩
  ·refine ⟨_, rfl, aJ (j := 1) hS rfl rfl ⟨_, _, rfl, rfl, .inl ⟨by omega, by omega⟩, _, _, rfl, rfl, _, _, rfl, rfl, by show (0 : Int) < 2147483587; decide, _, rfl, p, [.int a, .int b], _, 1, rfl, rfl, hp, rfl, ?_⟩⟩
   have m0 : 0 <= (b * 39373 + 6007) % 2147483587 := Int.emod_nonneg _ (by decide)
   have m1 : (b * 39373 + 6007) % 2147483587 < 2147483587 := Int.emod_lt_of_pos _ (by decide)
   have hS2 : Sq K (upd H p (.lst ([V.int a, V.int b].set 1 (.int ((b * 39373 + 6007) % 2147483587))))) p [.int a, .int ((b * 39373 + 6007) % 2147483587)] := .inl (SqL.of ai)
   refine ⟨_, rfl, aJ (j := 1) hS2 rfl rfl ⟨_, rfl, aJ (j := 1) hS2 rfl rfl ⟨_, _, rfl, rfl, .inl ⟨by omega, by omega⟩, _, _, rfl, rfl, by show (0 : Int) < 2147483563; decide, _, _, rfl, rfl, ⟨by decide, by decide⟩, _, rfl, _, _, rfl, rfl, hn, ?_⟩⟩⟩
   exact k _ _ (Int.emod_nonneg _ (by omega)) (Int.emod_lt_of_pos _ hn) ⟨_, _, ai, m0, by omega⟩ ((Kp.refl _ _).inn (by simp))
end
theorem qp (x : Str) (j : Int) : ∀ c ∈ (Txt.slice x none (some j)).cps.toList, c ∈ x.cps.toList := by
 intro c hc
 unfold Txt.slice at hc
 split at hc
 ·exact hc
 ·simp only [List.mem_filterMap] at hc
  obtain ⟨i, _, e⟩ := hc
  simpa using Array.mem_of_getElem? e
noncomputable def tlc (f w : Nat) (big : Bool) (j : Nat) : List Nat := if big = true then [97 + (f + w * j) % 26, 97 + (f + j / 26) % 26] else [97 + (f + w * j) % 26]
theorem iW (f w : Nat) (big : Bool) (j : Nat) : (tlc f w big j).length = if big = true then 2 else 1 := by unfold tlc; split <;> rfl
theorem tL (f w : Nat) (big : Bool) (j : Nat) : ∀ c ∈ tlc f w big j, 97 <= c /\ c <= 122 := by
 intro c hc
 unfold tlc at hc
 split at hc
 ·simp at hc; omega
 ·simp at hc; omega
theorem kX {f w i j : Nat} (hw : w ∈ [1, 3, 5, 7, 9, 11]) (h : (f + w * i) % 26 = (f + w * j) % 26) : i % 26 = j % 26 := by
 simp only [List.mem_cons, List.not_mem_nil, or_false] at hw
 rcases hw with rfl | rfl | rfl | rfl | rfl | rfl <;> omega
theorem tG {f w : Nat} {big : Bool} {i j : Nat} (hw : w ∈ [1, 3, 5, 7, 9, 11]) (hi : i < 60) (hj : j < 60) (hb : big = false -> i < 26 /\ j < 26) (h : tlc f w big i = tlc f w big j) : i = j := by
 unfold tlc at h
 cases big with
 | true =>
  simp at h
  have := kX hw h.1
  omega
 | false =>
  simp at h
  have := kX hw h
  obtain ⟨a, b⟩ := hb rfl
  omega
structure Drawn (f w : Nat) (big : Bool) (ns : List Str) : Prop where
 at' : ∀ (j : Nat) (x : Str), ns[j]? = some x -> ∃ u : List Nat, x.cps.toList = u ++ tlc f w big j /\ u.length <= 6 /\ ∀ c ∈ u, 97 <= c /\ c <= 122
theorem Drawn.name {f w : Nat} {big : Bool} {ns : List Str} (D : Drawn f w big ns) : ∀ x ∈ ns, aH x := fun x hx => by
 obtain ⟨j, hj⟩ := List.getElem?_of_mem hx
 obtain ⟨u, e, hu, hc⟩ := D.at' j x hj
 have hl := iW f w big j
 refine aH.of_codes e ?_ ?_ fun c hm => ?_
 ·rw [List.length_append, hl]; split <;> omega
 ·rw [List.length_append, hl]; split <;> omega
 ·rcases List.mem_append.mp hm with z | z
  ·exact hc c z
  ·exact tL f w big j c z
theorem Drawn.nodup {f w : Nat} {big : Bool} {ns : List Str} (D : Drawn f w big ns) (hw : w ∈ [1, 3, 5, 7, 9, 11]) (hz : ns.length < 60) (hb : big = false -> ns.length <= 26) : ns.Nodup := by
 refine List.pairwise_iff_getElem.mpr fun i j hi hj hij e => ?_
 obtain ⟨u, e1, _, _⟩ := D.at' i ns[i] (List.getElem?_eq_getElem hi)
 obtain ⟨u', e2, _, _⟩ := D.at' j ns[j] (List.getElem?_eq_getElem hj)
 rw [e, e2] at e1
 have hl : (tlc f w big j).length = (tlc f w big i).length := by rw [iW, iW]
 have q := (List.append_inj' e1 hl).2
 have := tG hw (by omega) (by omega) (fun c => by have := hb c; omega) q
 omega
theorem Drawn.add {f w : Nat} {big : Bool} {ns : List Str} {x : Str} {u : List Nat} (D : Drawn f w big ns) (e : x.cps.toList = u ++ tlc f w big ns.length) (hu : u.length <= 6) (hc : ∀ c ∈ u, 97 <= c /\ c <= 122) : Drawn f w big (ns ++ [x]) := by
 refine ⟨fun j y hj => ?_⟩
 by_cases h : j < ns.length
 ·rw [List.getElem?_append_left h] at hj
  exact D.at' j y hj
 ·rw [List.getElem?_append_right (by omega)] at hj
  have hj0 : j - ns.length = 0 := by
   have := (List.getElem?_eq_some_iff.mp hj).1
   simp at this
   omega
  rw [hj0] at hj
  have ey : x = y := by simpa using hj
  subst ey
  have ej : j = ns.length := by omega
  subst ej
  exact ⟨u, e, hu, hc⟩
theorem ic (x : Str) (c : Nat) : (x ++ (⟨#[c]⟩ : Str)).cps.toList = x.cps.toList ++ [c] := by
 rw [Str.cps_append, Array.toList_append]
section
variable {P : Program} {w : World} {K : PySem.W.Frag} {mg : Str -> Option Value} {base : Heap}
noncomputable def lZ : Sp := fun vs H Q _ => ∃ (p : Addr) (m : Nat), vs = [.ref p, .int m] /\ Pot H p /\ m <= 40 /\
 ∀ (q : Addr) (ns : List Str) (H' : Hp), Pot H' p -> H' q = some (.lst (ns.map V.str)) -> H q = none -> (∀ x ∈ ns, aH x) -> ns.Nodup -> ns.length = m -> Kp [p] H H' -> Q (.ref q) H'
noncomputable abbrev N39 : List Str := ["_law_pot_here", "_law_many", "_law_letters", "_law_ahead", "_law_first", "_law_wide", "_law_found", "_law_k", "_law_name"]
theorem dG : aL N39 ["_law_pot_here", "_law_many"] (aB (top 39)) := ⟨rfl, rfl, rfl, by decide +kernel, rfl, by decide +kernel, by decide +kernel⟩
theorem rY {f : Addr} {fd : FuncData} (F : Fun K "_law_names" "_law_names" (top 39) f fd) (B : Bl mg) (Ft : Fn P w K mg base 1 "_law_take" ["_law_pot_here", "_law_many"] eX) : aE P w K mg base CX0 2 f fd ["_law_pot_here", "_law_many"] lZ := by
 refine F.ok dG (fun vs H Q E h => ?_) (fun cdv A outer s H vs Q E hr h => ?_)
 ·obtain ⟨p, m, rfl, _⟩ := h
  rfl
 ·obtain ⟨p, m, rfl, hp, hm, k⟩ := h
  refine ⟨_, am (aM (i := 2) dG.nd rfl (Or.inr rfl) eV)
   (am (aM (i := 3) dG.nd rfl (Or.inl rfl) (cY PySem.F.plainAttrs_str PySem.F.slot_str_join PySem.F.type_str_join uv eV (aa (bq (N := ["_law_k", "_law_letters", "_law_pot_here"]) (ix := [none, some 2, some 0]) ⟨rfl, rfl, rfl, by decide⟩ rfl
    (df rfl B.range (aa (aG bh (bC (aa ak (aa ak (aa ak (aa ak ae))))) (ax Ft hr (aa (pv 0) (aa ak ae))) (fun _ _ => rfl)) ae)) (fun _ _ _ _ => aS 0 (by decide) rfl rfl) (fun _ _ _ _ => bz)
    (fun _ _ _ _ => aG (bx K) (pv 1) (ax Ft hr (aa (pv 2) (aa ak ae))) (fun _ _ => rfl))) ae)))
   (am (vv (i := 4) (j := 5) rfl dG.nd rfl rfl (by decide) rfl rfl (aa (ax Ft hr (aa (pv 0) (aa ak ae))) (aa (aG bh (bC (aa ak (aa ak (aa ak (aa ak (aa ak (aa ak ae))))))) (ax Ft hr (aa (pv 0) (aa ak ae))) (fun _ _ => rfl)) ae)) rfl)
   (am (aM (i := 6) dG.nd rfl (Or.inl rfl) (bC ae))
   (am (bO PassesOwn.never rfl (df rfl B.range (aa (pv 1) ae)) (aW (i := 7) dG.nd rfl (Or.inl rfl))
    (am (aM (i := 8) dG.nd rfl (Or.inl rfl) (aD jQ (dQ uG (pv 3) dX (dW (ax Ft hr (aa (pv 0) (aa (aD b8 (ay jK rfl B.len PySem.boot_len (aa (pv 3) ae)) ak) ae)))))
     (aG bh (pv 2) (aD dB (aD b8 (pv 4) (aD eZ (pv 5) (pv 7))) ak) (fun _ _ => rfl))))
    (am (bj (aR cX (pv 1) ak (aT _)) (aw (aM (i := 8) dG.nd rfl (Or.inl rfl) (aD jQ (pv 8) (aG bh (pv 2) (aD dB (aD b8 (pv 4) (aD iO (pv 7) ak)) ak) (fun _ _ => rfl))))) be)
    (aw (cD (cY PySem.F.plainAttrs_list PySem.F.slot_list_append PySem.F.type_list_append dN (pv 6) (aa (pv 8) ae)))))))
   (aw (aN (pv 6))))))), ?_⟩
  refine ⟨rfl, by show 4 <= sizeLine; decide, fun l4 hl4 => ?_⟩
  have P0 := hp.new (o := .lst [.int 0, .int 0, .int 1, .int 6]) hl4
  have K0 := (Kp.refl [p] H).new (o := .lst [.int 0, .int 0, .int 1, .int 6]) hl4
  have L0 : upd H l4 (.lst [.int 0, .int 0, .int 1, .int 6]) l4 = some (.lst [.int 0, .int 0, .int 1, .int 6]) := ai
  have nl4 := hp.ne_new hl4
  generalize upd H l4 (.lst [.int 0, .int 0, .int 1, .int 6]) = H0 at P0 K0 L0 ⊢
  refine ⟨_, rfl, p, 4, rfl, P0, by decide, by decide, fun r1 H1 a0 a1 P1 K1 => ?_⟩
  have L1 := K1.at nl4 L0
  have hm1 : ∃ c : Int, ([V.int 0, V.int 0, V.int 1, V.int 6] : List V)[r1.toNat]? = some (.int c) /\ 0 <= c /\ c <= 6 := by
   have : r1 = 0 \/ r1 = 1 \/ r1 = 2 \/ r1 = 3 := by omega
   rcases this with rfl | rfl | rfl | rfl
   ·exact ⟨0, rfl, by decide, by decide⟩
   ·exact ⟨0, rfl, by decide, by decide⟩
   ·exact ⟨1, rfl, by decide, by decide⟩
   ·exact ⟨6, rfl, by decide, by decide⟩
  obtain ⟨c, hc, c0, c6⟩ := hm1
  refine aJ (j := r1.toNat) (.inl (SqL.of L1)) (by omega) hc ⟨_, rfl, by omega, by omega, ?_⟩
  have K01 := K0.trans K1
  refine fi (fits (by omega)) (fun i ys σ H3 => (∃ cs : List Nat, cs.length = i /\ (∀ c ∈ cs, 97 <= c /\ c <= 122) /\ ys = cs.map fun c => V.str ⟨#[c]⟩) /\ Pot H3 p /\ Kp [p] H H3 /\ ∃ x, σ = [x, some (.str dw), some (.ref p)])
   ⟨⟨[], rfl, by simp, rfl⟩, P1, K01, _, rfl⟩ (fun i ys σ H3 _ q => by obtain ⟨⟨cs, rfl, _, rfl⟩, _⟩ := q; simp) ?_ ?_
  ·rintro i ys σ H3 hi ⟨⟨cs, rfl, hcs, rfl⟩, P3, K3, v, rfl⟩
   refine ⟨_, rfl, _, rfl, p, 26, rfl, P3, by decide, by decide, fun r H4 r0 r1 P4 K4 => .inr (.inr ⟨dw, r, 97 + r.toNat, rfl, rfl, gT, fH (j := r.toNat) (by omega) (ig (by omega)), ⟨cs ++ [97 + r.toNat], by simp, fun c hc => ?_, by simp⟩, P4, K3.trans K4, _, rfl⟩)⟩
   rcases List.mem_append.mp hc with z | z
   ·exact hcs c z
   ·simp at z
    omega
  rintro ys σ H3 ⟨⟨cs, hlen, hcs, rfl⟩, P3, K3, v, rfl⟩ q hq
  have hx : (Txt.join (Str.ofString "") (cs.map fun c => (⟨#[c]⟩ : Str))).cps.toList = cs := join_one cs
  have hmap : (cs.map fun c => V.str ⟨#[c]⟩) = (cs.map fun c => (⟨#[c]⟩ : Str)).map V.str := by rw [List.map_map]; rfl
  refine ⟨Str.ofString "", q, cs.map fun c => (⟨#[c]⟩ : Str), rfl, rfl, SqL.of (by rw [ai, hmap]), ?_, ?_⟩
  ·have hs : ∀ l : List Nat, ((l.map fun c => (⟨#[c]⟩ : Str)).map (·.length)).sum = l.length := fun l => by
    induction l with
    | nil => rfl
    | cons c r ih => simp only [List.map_cons, List.sum_cons, ih, List.length_cons]; show 1 + r.length = _; omega
   have e0 : (Str.ofString "").length = 0 := by decide
   rw [hs, e0]
   omega
  have hah : (Txt.join (Str.ofString "") (cs.map fun c => (⟨#[c]⟩ : Str))).length <= 6 := by
   have : (Txt.join (Str.ofString "") (cs.map fun c => (⟨#[c]⟩ : Str))).length = cs.length := by rw [<- congrArg List.length hx]; simp [Str.length]
   omega
  have hac : ∀ d ∈ (Txt.join (Str.ofString "") (cs.map fun c => (⟨#[c]⟩ : Str))).cps.toList, 97 <= d /\ d <= 122 := by rw [hx]; exact hcs
  generalize Txt.join (Str.ofString "") (cs.map fun c => (⟨#[c]⟩ : Str)) = ah at hah hac ⊢
  have P4 := P3.new (o := .lst (cs.map fun c => V.str ⟨#[c]⟩)) hq
  have K4 := K3.new (o := .lst (cs.map fun c => V.str ⟨#[c]⟩)) hq
  generalize upd H3 q (.lst (cs.map fun c => V.str ⟨#[c]⟩)) = H4 at P4 K4 ⊢
  refine ⟨_, rfl, p, 26, rfl, P4, by decide, by decide, fun ft H5 f0 f1 P5 K5 => ?_⟩
  refine ⟨by show 6 <= sizeLine; decide, fun l6 hl6 => ?_⟩
  have P6 := P5.new (o := .lst [.int 1, .int 3, .int 5, .int 7, .int 9, .int 11]) hl6
  have K6 := (K4.trans K5).new (o := .lst [.int 1, .int 3, .int 5, .int 7, .int 9, .int 11]) hl6
  have L6 : upd H5 l6 (.lst [.int 1, .int 3, .int 5, .int 7, .int 9, .int 11]) l6 = some (.lst [.int 1, .int 3, .int 5, .int 7, .int 9, .int 11]) := ai
  have nl6 := P5.ne_new hl6
  generalize upd H5 l6 (.lst [.int 1, .int 3, .int 5, .int 7, .int 9, .int 11]) = H6 at P6 K6 L6 ⊢
  refine ⟨_, rfl, p, 6, rfl, P6, by decide, by decide, fun r6 H7 g0 g1 P7 K7 => ?_⟩
  have L7 := K7.at nl6 L6
  have hw : ∃ c : Nat, ([V.int 1, V.int 3, V.int 5, V.int 7, V.int 9, V.int 11] : List V)[r6.toNat]? = some (.int c) /\ c ∈ [1, 3, 5, 7, 9, 11] := by
   have : r6 = 0 \/ r6 = 1 \/ r6 = 2 \/ r6 = 3 \/ r6 = 4 \/ r6 = 5 := by omega
   rcases this with rfl | rfl | rfl | rfl | rfl | rfl
   ·exact ⟨1, rfl, by decide⟩
   ·exact ⟨3, rfl, by decide⟩
   ·exact ⟨5, rfl, by decide⟩
   ·exact ⟨7, rfl, by decide⟩
   ·exact ⟨9, rfl, by decide⟩
   ·exact ⟨11, rfl, by decide⟩
  obtain ⟨wd, hwd, hwm⟩ := hw
  have hw11 : wd <= 11 := by
   simp only [List.mem_cons, List.not_mem_nil, or_false] at hwm
   omega
  refine aJ (j := r6.toNat) (.inl (SqL.of L7)) (by omega) hwd ⟨_, _, rfl, ?_⟩
  have P8 := P7
  have K8 := K6.trans K7
  clear P7 K7 L7 P6 K6 L6
  revert H7
  intro H8 P8 K8
  obtain ⟨fn, rfl⟩ := Int.eq_ofNat_of_zero_le f0
  have hfn : fn < 26 := by omega
  refine ⟨Nat.zero_le _, fun fo hfo => ?_⟩
  have fo0 : H fo = none := K8.free1 P8 hfo
  have nfp := P8.ne_new hfo
  have P9 := P8.new (o := .lst []) hfo
  have K9 := K8.new (o := .lst []) hfo
  have F9 : upd H8 fo (.lst []) fo = some (.lst ((([] : List Str)).map V.str)) := ai
  generalize upd H8 fo (.lst []) = H9 at P9 K9 F9 ⊢
  refine ⟨_, rfl, _, rfl, by omega, by omega, fj (fun i σ H1 => ∃ (ns : List Str) (g1 g2 : Option V), σ = [some (.ref p), some (.int m), some (.str dw), some (.str ah), some (.int fn), some (.int wd), some (.ref fo), g1, g2] /\ Pot H1 p /\ H1 fo = some (.lst (ns.map V.str)) /\ ns.length = i /\ Drawn fn wd (decide (26 < m)) ns /\ Kp [p] H H1)
   ⟨[], none, none, rfl, P9, F9, rfl, ⟨fun j x hj => by simp at hj⟩, K9⟩ ?_ ?_⟩
  ·rintro i σ H1 hi ⟨ns, g1, g2, rfl, P1, F1, hl, D, K1⟩
   have him : i < m := by omega
   refine ⟨_, rfl, _, rfl, _, rfl, ah, rfl, by rw [sizeLine_eq]; omega, _, _, rfl, rfl, p, _, rfl, P1, by omega, by omega, fun r H2 r0 r1 P2 K2 => ?_⟩
   have F2 := K2.at nfp F1
   have K12 := K1.trans K2
   have hsl : (Txt.slice ah none (some r)).length <= 6 := Nat.le_trans (Txt.slice_le ah _ _) hah
   have hsc : ∀ d ∈ (Txt.slice ah none (some r)).cps.toList, 97 <= d /\ d <= 122 := fun d hd => hac d (qp ah r d hd)
   have hsn : (Txt.slice ah none (some r)).cps.toList.length <= 6 := by simpa [Str.length] using hsl
   refine ⟨_, rfl, ah, rfl, by rw [sizeLine_eq]; omega, ?_⟩
   generalize Txt.slice ah none (some r) = sl at hsl hsc hsn ⊢
   have hidx : (((fn : Nat) : Int) + ((wd : Nat) : Int) * (0 + (i : Int))) % 26 = (((fn + wd * i) % 26 : Nat) : Int) := by push_cast; rw [Int.zero_add]
   have hidx2 : (((fn : Nat) : Int) + (0 + (i : Int)) / 26) % 26 = (((fn + i / 26) % 26 : Nat) : Int) := by push_cast; rw [Int.zero_add]
   refine ⟨_, rfl, _, rfl, _, rfl, _, rfl, _, _, rfl, rfl, .inl ⟨by omega, by omega⟩, _, _, rfl, rfl, _, _, rfl, rfl, by show (0 : Int) < 26; decide, ?_⟩
   refine .inr (.inr ⟨dw, _, 97 + (fn + wd * i) % 26, rfl, rfl, gT, fH (j := (fn + wd * i) % 26) hidx (ig (Nat.mod_lt _ (by decide))), _, _, rfl, rfl, by rw [sizeLine_eq]; show sl.length + 1 <= _; omega, ?_⟩)
   have hlen1 : (sl ++ (⟨#[97 + (fn + wd * i) % 26]⟩ : Str)).length = sl.length + 1 := by rw [Str.length_append]; rfl
   refine ⟨_, rfl, _, _, rfl, rfl, _, rfl, ?_⟩
   refine bb (fun c => ?_) (fun c => ?_)
   ·have c' : 26 < m := by have := of_decide_eq_true c; omega
    refine ⟨_, rfl, _, rfl, _, rfl, _, rfl, _, _, rfl, rfl, ⟨by decide, by decide⟩, _, _, rfl, rfl, _, _, rfl, rfl, by show (0 : Int) < 26; decide, ?_⟩
    refine .inr (.inr ⟨dw, _, 97 + (fn + i / 26) % 26, rfl, rfl, gT, fH (j := (fn + i / 26) % 26) hidx2 (ig (Nat.mod_lt _ (by decide))), _, _, rfl, rfl, by rw [hlen1, sizeLine_eq]; show sl.length + 1 + 1 <= _; omega, ?_⟩)
    refine ⟨_, rfl, .inl ⟨rfl, _, SqL.of F2⟩, _, rfl, fo, ns.map V.str, _, rfl, rfl, F2, by rw [List.length_map]; exact fits (by omega), ?_⟩
    refine ⟨ns ++ [sl ++ (⟨#[97 + (fn + wd * i) % 26]⟩ : Str) ++ (⟨#[97 + (fn + i / 26) % 26]⟩ : Str)], _, _, rfl, P2.upd nfp, by rw [ai, List.map_append]; rfl, by simp [hl], ?_, fun b o e nb => by rw [ag (av e fo0)]; exact K12 b o e nb⟩
    refine D.add (u := sl.cps.toList) ?_ hsn hsc
    rw [ic, ic, hl]
    unfold tlc
    rw [if_pos (decide_eq_true c')]
    simp
   ·have c' : ¬ 26 < m := by simp only [decide_eq_true_eq] at c; omega
    refine ⟨_, rfl, .inl ⟨rfl, _, SqL.of F2⟩, _, rfl, fo, ns.map V.str, _, rfl, rfl, F2, by rw [List.length_map]; exact fits (by omega), ?_⟩
    refine ⟨ns ++ [sl ++ (⟨#[97 + (fn + wd * i) % 26]⟩ : Str)], _, _, rfl, P2.upd nfp, by rw [ai, List.map_append]; rfl, by simp [hl], ?_, fun b o e nb => by rw [ag (av e fo0)]; exact K12 b o e nb⟩
    refine D.add (u := sl.cps.toList) ?_ hsn hsc
    rw [ic, hl]
    unfold tlc
    rw [if_neg (by simpa using c')]
  ·rintro σ H1 ⟨ns, g1, g2, rfl, P1, F1, hl, D, K1⟩
   have hl' : ns.length = m := by omega
   exact ⟨_, rfl, k fo ns H1 P1 F1 fo0 D.name (D.nodup hwm (by omega) (fun c => by have := of_decide_eq_false c; omega)) hl' K1⟩
end
noncomputable abbrev Pr := Addr × Int × Int
noncomputable abbrev ba (prs : List Pr) : List V := prs.map fun x => V.ref x.1
noncomputable def br (H : Hp) (prs : List Pr) : Prop := ∀ x ∈ prs, H x.1 = some (.tup [.int x.2.1, .int x.2.2])
noncomputable def cx (m : Nat) (prs : List Pr) : Prop := ∀ x ∈ prs, 0 <= x.2.1 /\ x.2.1 < m /\ 0 <= x.2.2 /\ x.2.2 < m /\ x.2.1 ≠ x.2.2
theorem br.kp {H H1 : Hp} {p : Addr} {prs : List Pr} (h : br H prs) (k : Kp [p] H H1) (hp : Pot H p) : br H1 prs := fun x hx => k.tup hp (h x hx)
theorem br.new {H : Hp} {q : Addr} {o : HO} {prs : List Pr} (h : br H prs) (hq : H q = none) : br (upd H q o) prs := fun x hx => by
 rw [ag (av (h x hx) hq)]; exact h x hx
theorem br.over {H : Hp} {q : Addr} {o : HO} {ys : List V} {prs : List Pr} (h : br H prs) (hq : H q = some (.lst ys)) : br (upd H q o) prs := fun x hx => by
 rw [ag (tup_ne (h x hx) hq)]; exact h x hx
theorem br.app {H : Hp} {a b : List Pr} (h : br H a) (g : br H b) : br H (a ++ b) := fun x hx => (List.mem_append.mp hx).elim (h x) (g x)
theorem cx.app {m : Nat} {a b : List Pr} (h : cx m a) (g : cx m b) : cx m (a ++ b) := fun x hx => (List.mem_append.mp hx).elim (h x) (g x)
theorem br.one {H : Hp} {t : Addr} {a b : Int} (h : H t = some (.tup [.int a, .int b])) : br H [(t, a, b)] := fun x hx => by
 have e : x = (t, a, b) := by simpa using hx
 subst e; exact h
theorem cx.one {m : Nat} {t : Addr} {a b : Int} (h : 0 <= a /\ a < m /\ 0 <= b /\ b < m /\ a ≠ b) : cx m [(t, a, b)] := fun x hx => by
 have e : x = (t, a, b) := by simpa using hx
 subst e; exact h
theorem vC {a r n : Int} (h1 : 0 <= a) (h2 : a < n) (h3 : 0 <= r) (h4 : r < n - 1) : (a + 1 + r) % n ≠ a /\ 0 <= (a + 1 + r) % n /\ (a + 1 + r) % n < n := by
 refine ⟨fun e => ?_, Int.emod_nonneg _ (by omega), Int.emod_lt_of_pos _ (by omega)⟩
 have q := Int.mul_ediv_add_emod (a + 1 + r) n
 rw [e] at q
 generalize (a + 1 + r) / n = k at q
 have hk : k <= 0 \/ 1 <= k := by omega
 rcases hk with hk | hk
 ·have := Int.mul_nonpos_of_nonneg_of_nonpos (show 0 <= n by omega) hk
  omega
 ·have := Int.mul_le_mul_of_nonneg_left hk (show 0 <= n by omega)
  omega
section
variable {P : Program} {w : World} {K : PySem.W.Frag} {mg : Str -> Option Value} {base : Heap}
end
noncomputable def pick (S : List Str) (t p : Str) : Str := if decide (p ∈ S) = true then t else p
noncomputable def bE (S ts ps : List Str) : List Str := List.zipWith (pick S) ts ps ++ ts.drop (min ts.length ps.length)
theorem ie (S : List Str) : ∀ (ts ps : List Str) (x : Str), x ∈ bE S ts ps -> x ∈ ts \/ (x ∈ ps /\ x ∉ S)
 | [], ps, x, h => by simp [bE] at h
 | t :: ts, [], x, h => by simp [bE] at h; exact .inl (List.mem_cons.mpr h)
 | t :: ts, p :: ps, x, h => by
  have e : bE S (t :: ts) (p :: ps) = pick S t p :: bE S ts ps := by
   unfold bE
   simp [Nat.succ_min_succ]
  rw [e] at h
  rcases List.mem_cons.mp h with z | z
  ·unfold pick at z
   split at z
   ·exact .inl (by rw [z]; exact List.mem_cons_self)
   ·next c => exact .inr ⟨by rw [z]; exact List.mem_cons_self, by rw [z]; simpa using c⟩
  ·rcases ie S ts ps x z with q | ⟨q, r⟩
   ·exact .inl (List.mem_cons_of_mem _ q)
   ·exact .inr ⟨List.mem_cons_of_mem _ q, r⟩
theorem jL (S : List Str) : ∀ (ts ps : List Str), ts.Nodup -> ps.Nodup -> (∀ t ∈ ts, t ∈ S) -> (bE S ts ps).Nodup
 | [], ps, _, _, _ => by simp [bE]
 | t :: ts, [], h, _, _ => by simpa [bE] using h
 | t :: ts, p :: ps, h1, h2, hS => by
  have e : bE S (t :: ts) (p :: ps) = pick S t p :: bE S ts ps := by
   unfold bE
   simp [Nat.succ_min_succ]
  rw [e]
  have n1 := List.nodup_cons.mp h1
  have n2 := List.nodup_cons.mp h2
  refine List.nodup_cons.mpr ⟨fun hm => ?_, jL S ts ps n1.2 n2.2 fun x hx => hS x (List.mem_cons_of_mem _ hx)⟩
  rcases ie S ts ps _ hm with q | ⟨q, r⟩
  ·unfold pick at q
   split at q
   ·exact n1.1 q
   ·next c => exact absurd (hS p (List.mem_cons_of_mem _ q)) (by simpa using c)
  ·unfold pick at q r
   split at q
   ·next c => rw [if_pos c] at r; exact r (hS t List.mem_cons_self)
   ·exact n2.1 q
theorem pj (S : List Str) (ts ps : List Str) : (bE S ts ps).length = ts.length := by
 unfold bE
 rw [List.length_append, List.length_zipWith, List.length_drop]
 omega
theorem oH {S ts ps : List Str} (h1 : ∀ x ∈ ts, aH x) (h2 : ∀ x ∈ ps, aH x) : ∀ x ∈ bE S ts ps, aH x := fun x hx => by
 rcases ie S ts ps x hx with q | ⟨q, _⟩
 ·exact h1 x q
 ·exact h2 x q
theorem kU (xs : List V) {n : Nat} (h : n <= xs.length) : bF xs (some (n : Int)) none = xs.drop n := by
 unfold bF
 have h0 : ¬ ((n : Int) < 0) := by omega
 have h1 : min n xs.length = n := by omega
 simp [HT.sIx, h0]
 rw [List.take_of_length_le (by simp)]
 rw [h1]
theorem kS {K : PySem.W.Frag} {g : TG} {te : TE} {σ' : St} {fin : List V -> Hp -> Prop} {H1 : Hp} {a b : Addr} {xs ys : List V} (hn : min xs.length ys.length < sizeLine) (Pv : Nat -> List V -> St -> Hp -> Prop) (h0 : Pv 0 [] σ' H1)
  (hl : ∀ i zs σ H, i <= min xs.length ys.length -> Pv i zs σ H -> zs.length <= i /\ SqL K H a xs /\ SqL K H b ys)
  (hs : ∀ i x y zs σ H T, xs[i]? = some x -> ys[i]? = some y -> Pv i zs σ H -> H T = none -> g (.ref T) σ (upd H T (.tup [x, y])) fun σ2 H2 => te σ2 H2 (fun v H4 => Pv (i + 1) (zs ++ [v]) σ2 H4))
  (hd : ∀ zs σ H, Pv (min xs.length ys.length) zs σ H -> fin zs H) : LcW (Itz K a b) g bU te σ' fin H1 :=
 sY hn Pv h0 hl (fun i x y zs σ H T hx hy p hT => by
  have e : (fun σ2 H2 => bU σ2 H2 fun b H3 => if b = true then te σ2 H3 (fun v H4 => Pv (i + 1) (zs ++ [v]) σ2 H4) else Pv (i + 1) zs σ2 H3) = fun σ2 H2 => te σ2 H2 (fun v H4 => Pv (i + 1) (zs ++ [v]) σ2 H4) := by
   funext σ2 H2
   show (if true = true then te σ2 H2 (fun v H4 => Pv (i + 1) (zs ++ [v]) σ2 H4) else Pv (i + 1) zs σ2 H2) = _
   rw [if_pos rfl]
  rw [e]
  exact hs i x y zs σ H T hx hy p hT) hd
section
variable {P : Program} {w : World} {K : PySem.W.Frag} {mg : Str -> Option Value} {base : Heap}
noncomputable def lw : Sp := fun vs H Q _ => ∃ (p ta pa : Addr) (ts ps : List Str), vs = [.ref p, .ref ta, .ref pa] /\ Pot H p /\ H ta = some (.lst (ts.map V.str)) /\ H pa = some (.lst (ps.map V.str)) /\ ts.length <= 40 /\ ps.length <= 8 /\ ts.Nodup /\ ps.Nodup /\ (∀ x ∈ ts, aH x) /\ (∀ x ∈ ps, aH x) /\
 ∀ (q : Addr) (ns : List Str) (H' : Hp), Pot H' p -> H' q = some (.lst (ns.map V.str)) -> (∀ x ∈ ns, aH x) -> ns.Nodup -> ns.length = ts.length -> Kp [p] H H' -> Q (.ref q) H'
noncomputable abbrev N41 : List Str := ["_law_pot_here", "_law_ties", "_law_places", "_law_found"]
theorem nM : aL N41 ["_law_pot_here", "_law_ties", "_law_places"] (aB (top 41)) := ⟨rfl, rfl, rfl, by decide +kernel, rfl, by decide +kernel, by decide +kernel⟩
theorem qA {f : Addr} {fd : FuncData} (F : Fun K "_law_called" "_law_called" (top 41) f fd) (B : Bl mg) (Ft : Fn P w K mg base 1 "_law_take" ["_law_pot_here", "_law_many"] eX) : aE P w K mg base CX0 2 f fd ["_law_pot_here", "_law_ties", "_law_places"] lw := by
 refine F.ok nM (fun vs H Q E h => ?_) (fun cdv A outer s H vs Q E hr h => ?_)
 ·obtain ⟨p, ta, pa, ts, ps, rfl, _⟩ := h
  rfl
 ·obtain ⟨p, ta, pa, ts, ps, rfl, hp, ht, hpl, t40, p8, tn, pn, tnm, pnm, k⟩ := h
  refine ⟨_, am (bj (aR cX (ax Ft hr (aa (pv 0) (aa ak ae))) ak (aT _)) (aw (aN (pv 1))) be)
   (am (dS (i := 3) (N := ["_law_tie", "_law_place", "_law_ties"]) (ix := [none, none, some 1]) nM.nd rfl (Or.inl rfl) ⟨rfl, rfl, rfl, by decide⟩ rfl (mB rfl B.zip (aa (pv 1) (aa (pv 2) ae)))
    (fun _ _ _ _ => iS K rfl (n := 2) (bv (aS 0 (by decide) rfl rfl) (bv (aS 1 (by decide) rfl rfl) cV))) (fun _ _ _ _ => bz)
    (fun _ _ _ _ => kT (aR (eG K) (pv 1) (pv 2) (by with_unfolding_all rfl)) (pv 1) (pv 0)))
   (aw (aN (aD ef (pv 3) (dQ fA (pv 1) (dW (ay bo rfl B.len PySem.boot_len (aa (pv 3) ae))) dX))))), ?_⟩
  refine ⟨_, rfl, p, 4, rfl, hp, by decide, by decide, fun r H1 r0 r1 P1 K1 => ⟨_, _, rfl, rfl, _, rfl, ?_⟩⟩
  have ntp := cF hp ht
  have npp := cF hp hpl
  have t1 := K1.at ntp ht
  have p1 := K1.at npp hpl
  refine bb (fun c => ⟨_, rfl, k ta ts H1 P1 t1 tnm tn rfl K1⟩) (fun c => ?_)
  refine ⟨_, rfl, _, rfl, ta, pa, _, _, rfl, SqL.of t1, SqL.of p1, ?_⟩
  refine kS (xs := ts.map V.str) (ys := ps.map V.str) (fits (by simp; omega)) (fun i zs σ H2 => zs = ((List.zipWith (pick ts) ts ps).take i).map V.str /\ aj H1 H2 /\ ∃ g1 g2, σ = [g1, g2, some (.ref ta)]) ⟨rfl, aj.refl _, _, _, rfl⟩
   (fun i zs σ H2 _ q => ⟨by rw [q.1]; simp; omega, SqL.of (q.2.1 _ _ t1), SqL.of (q.2.1 _ _ p1)⟩) ?_ ?_
  ·rintro i x y zs σ H2 T hx hy ⟨rfl, s2, g1, g2, rfl⟩ hT
   rw [List.getElem?_map] at hx hy
   cases hc : ts[i]? with
   | none => rw [hc] at hx; cases hx
   | some t =>
    cases hd : ps[i]? with
    | none => rw [hd] at hy; cases hy
    | some q =>
     rw [hc] at hx
     rw [hd] at hy
     cases hx
     cases hy
     have s3 := ar (o := .tup [.str t, .str q]) s2 hT
     have hz : (List.zipWith (pick ts) ts ps)[i]? = some (pick ts t q) := by
      rw [List.getElem?_zipWith, hc, hd]
     have hst : ((List.zipWith (pick ts) ts ps).take (i + 1)).map V.str = ((List.zipWith (pick ts) ts ps).take i).map V.str ++ [V.str (pick ts t q)] := jH _ _ _ _ hz
     refine ⟨T, _, rfl, SqT.of ai, rfl, _, _, rfl, _, _, rfl, rfl, ?_⟩
     refine ⟨_, rfl, _, rfl, ta, ts.map V.str, rfl, .inl (SqL.of (s3 _ _ t1)), rfl, bW ts, _, rfl, ?_⟩
     show if (!inV (.str q) (ts.map V.str)) = true then _ else _
     rw [bY]
     refine bb (fun c => ⟨_, rfl, ?_, s3, _, _, rfl⟩) (fun c => ⟨_, rfl, ?_, s3, _, _, rfl⟩)
     ·rw [hst]
      have c' : decide (q ∈ ts) = false := by simpa using c
      unfold pick
      rw [c']
      rfl
     ·rw [hst]
      have c' : decide (q ∈ ts) = true := by simpa using c
      unfold pick
      rw [if_pos c']
  ·rintro zs σ H2 ⟨rfl, s2, g1, g2, rfl⟩ fo hfo
   have hzl : (List.zipWith (pick ts) ts ps).length = min ts.length ps.length := List.length_zipWith
   rw [take_all (List.zipWith (pick ts) ts ps) (by simp)]
   have s3 := ar (o := .lst ((List.zipWith (pick ts) ts ps).map V.str)) s2 hfo
   have f3 : upd H2 fo (.lst ((List.zipWith (pick ts) ts ps).map V.str)) fo = some (.lst ((List.zipWith (pick ts) ts ps).map V.str)) := ai
   generalize upd H2 fo (.lst ((List.zipWith (pick ts) ts ps).map V.str)) = H3 at s3 f3 ⊢
   refine ⟨_, rfl, _, rfl, _, rfl, fo, _, rfl, .inl (SqL.of f3), _, rfl, ta, _, rfl, SqL.of (s3 _ _ t1), fun c2 hc2 => ?_⟩
   rw [kU _ (by simp [hzl]; omega)]
   have f4 : upd H3 c2 (.lst ((ts.map V.str).drop ((List.zipWith (pick ts) ts ps).map V.str).length)) fo = some (.lst ((List.zipWith (pick ts) ts ps).map V.str)) := by rw [ag (av f3 hc2)]; exact f3
   have s4 := ar (o := .lst ((ts.map V.str).drop ((List.zipWith (pick ts) ts ps).map V.str).length)) s3 hc2
   refine ⟨fo, c2, _, _, rfl, rfl, f4, ai, by rw [sizeLine_eq]; simp [hzl]; omega, fun q hq => ?_⟩
   have eL : (List.zipWith (pick ts) ts ps).map V.str ++ (ts.map V.str).drop ((List.zipWith (pick ts) ts ps).map V.str).length = (bE ts ts ps).map V.str := by
    unfold bE
    rw [List.map_append, List.map_drop, List.length_map, hzl]
   rw [eL]
   have s5 := ar (o := .lst ((bE ts ts ps).map V.str)) s4 hq
   refine k q (bE ts ts ps) _ (P1.keep fun o e => s5 _ _ e) ai (oH tnm pnm) (jL ts ts ps tn pn fun t ht => ht) (pj ts ts ps) (K1.of_same s5)
end
end K42
namespace K42
open PySem L2 PySem.Spec PyProof.Rows
theorem snoc_ind {P : List Str -> Prop} (h0 : P []) (hs : ∀ l x, P l -> P (l ++ [x])) : ∀ l, P l := by
 have q : ∀ (l pre : List Str), P pre -> P (pre ++ l) := by
  intro l
  induction l with
  | nil => intro pre hp; simpa using hp
  | cons x r ih =>
   intro pre hp
   have := ih (pre ++ [x]) (hs pre x hp)
   simpa using this
 intro l
 simpa using q l [] h0
noncomputable def subs (ps : List Str) : List (List Str) := ps.foldl (fun f p => f ++ f.map fun l => l ++ [p]) [[]]
theorem dM (ps : List Str) (p : Str) : subs (ps ++ [p]) = subs ps ++ (subs ps).map fun l => l ++ [p] := by
 unfold subs
 rw [List.foldl_append]
 rfl
theorem qE : ∀ ps : List Str, ∃ r, subs ps = [] :: r := snoc_ind ⟨[], rfl⟩ fun l x h => by
 obtain ⟨r, e⟩ := h
 rw [dM, e]
 exact ⟨_, rfl⟩
theorem iM : ∀ ps : List Str, (subs ps).length = 2 ^ ps.length := snoc_ind rfl fun l x h => by
 rw [dM, List.length_append, List.length_map, h, List.length_append, List.length_singleton, Nat.pow_succ]
 omega
theorem gh : ∀ ps : List Str, ∀ l ∈ subs ps, l.Sublist ps := snoc_ind (fun l h => by
  have e : l = [] := by simpa [subs] using h
  subst e; exact List.Sublist.refl _) fun ps x h l hl => by
 rw [dM] at hl
 rcases List.mem_append.mp hl with z | z
 ·exact (h l z).trans (List.sublist_append_left _ _)
 ·obtain ⟨m, hm, rfl⟩ := List.mem_map.mp z
  exact (h m hm).append (List.Sublist.refl _)
theorem jT : ∀ ps : List Str, ps.Nodup -> (subs ps).Nodup := snoc_ind (fun _ => by simp [subs]) fun ps x h hn => by
 have hn' := List.nodup_append.mp hn
 have hx : x ∉ ps := fun z => hn'.2.2 x z x (by simp) rfl
 have ih := h hn'.1
 rw [dM]
 refine List.nodup_append.mpr ⟨ih, ?_, fun a ha b hb => ?_⟩
 ·exact List.pairwise_map.mpr (ih.imp fun {a b} hab z => hab (List.append_cancel_right z))
 ·obtain ⟨m, hm, rfl⟩ := List.mem_map.mp hb
  intro z
  exact hx ((gh ps a ha).subset (by rw [z]; simp))
noncomputable def aA (ps : List Str) : List (List Str) := (subs ps).tail
theorem eQ (ps : List Str) : subs ps = [] :: aA ps := by
 obtain ⟨r, e⟩ := qE ps
 unfold aA
 rw [e]; rfl
theorem gZ {ps : List Str} (h : ps.Nodup) : (aA ps).Nodup := by
 have q := jT ps h
 rw [eQ] at q
 exact (List.nodup_cons.mp q).2
theorem iN (ps : List Str) : (aA ps).length + 1 = 2 ^ ps.length := by
 have q := iM ps
 rw [eQ] at q
 simpa using q
theorem kO {ps l : List Str} (h : l ∈ aA ps) : l.Sublist ps := gh ps l (by rw [eQ]; exact List.mem_cons_of_mem _ h)
theorem fG {n : Nat} (h : n <= 8) : 2 ^ n <= 256 := by
 have := Nat.pow_le_pow_right (show 0 < 2 by decide) h
 simpa using this
noncomputable abbrev aq (tss : List (Addr × List Str)) : List V := tss.map fun x => V.ref x.1
theorem cQ {lr : List (Addr × List Str)} {i : Nat} {x : V} (h : (aq lr)[i]? = some x) : ∃ r, lr[i]? = some r /\ x = .ref r.1 := by
 unfold aq at h
 rw [List.getElem?_map] at h
 cases e : lr[i]? with
 | none => rw [e] at h; cases h
 | some r => rw [e] at h; exact ⟨r, rfl, (Option.some.inj h).symm⟩
noncomputable def aO (H : Hp) (lts : List (Addr × List Str)) : Prop := ∀ x ∈ lts, H x.1 = some (.tup (x.2.map V.str))
theorem aO.same {H H' : Hp} {lts : List (Addr × List Str)} (h : aO H lts) (s : aj H H') : aO H' lts := fun x hx => s _ _ (h x hx)
theorem aO.app {H : Hp} {a b : List (Addr × List Str)} (h : aO H a) (g : aO H b) : aO H (a ++ b) := fun x hx => (List.mem_append.mp hx).elim (h x) (g x)
theorem aO.one {H : Hp} {t : Addr} {ls : List Str} (h : H t = some (.tup (ls.map V.str))) : aO H [(t, ls)] := fun x hx => by
 have e : x = (t, ls) := by simpa using hx
 subst e; exact h
theorem gq {H : Hp} {a b : Addr} {ss ts : List Str} (ha : H a = some (.tup (ss.map V.str))) (hb : H b = some (.tup (ts.map V.str))) (e : a = b) : ss = ts := by
 rw [e, hb] at ha
 have := HO.tup.inj (Option.some.inj ha)
 exact ((List.map_inj_right (fun x y h => V.str.inj h)).mp this).symm
noncomputable def lA (K : PySem.W.Frag) : R2 := fun x y H Q => ∃ (a p : Addr) (ss : List Str) (lts : List (Addr × List Str)), x = .ref a /\ y = .ref p /\ H a = some (.tup (ss.map V.str)) /\ (∀ z ∈ ss, aH z) /\ SqL K H p (aq lts) /\ aO H lts /\ (∀ l ∈ lts, ∀ z ∈ l.2, aH z) /\ Q (.bl (!decide (ss ∈ lts.map (·.2)))) H
theorem qb {X : Cx} {k : Nat} (hr : aI k X.A) : OpR X (compareOp .NotIn) (lA X.K) := by
 intro pins s σ H x y v u Q I rx ry h
 obtain ⟨a, p, ss, lts, rfl, rfl, ha, hs, hq, hL, hn, q⟩ := h
 cases rx
 cases ry
 obtain ⟨its, r', pl, hz⟩ := I.list hq
 have hun := hr.un
 obtain ⟨as, r1⟩ := (DV.tup ha (DVs.strs _)).reads I.hok (show RelV (.ref a) (Value.ref a) from rfl)
 have item : ∀ (i : Nat) (v : Value), its[i]? = some v -> ∃ l, lts[i]? = some l /\ v = Value.ref l.1 := fun i v hv => by
  have hlen := r'.length
  rw [List.length_map] at hlen
  have hi : i < lts.length := by rw [hlen]; exact (List.getElem?_eq_some_iff.mp hv).1
  have e1 : (aq lts)[i]? = some (V.ref lts[i].1) := by rw [List.getElem?_map, List.getElem?_eq_getElem hi]; rfl
  obtain ⟨w', e2, rw'⟩ := r'.get e1
  rw [hv] at e2
  cases e2
  exact ⟨lts[i], List.getElem?_eq_getElem hi, rw'⟩
 have data : ∀ y ∈ its, ∃ l ∈ lts, y = Value.ref l.1 := fun y hy => by
  obtain ⟨i, hi⟩ := List.getElem?_of_mem hy
  obtain ⟨l, h1, h2⟩ := item i y hi
  exact ⟨l, List.mem_of_getElem? h1, h2⟩
 let e : Value -> Bool := fun y => match y with | .ref c => lts.any fun l => decide (l.1 = c) && decide (l.2 = ss) | _ => false
 have ee : ∀ c, e (.ref c) = true ↔ ∃ l ∈ lts, l.1 = c /\ l.2 = ss := fun c => by
  show (lts.any fun l => decide (l.1 = c) && decide (l.2 = ss)) = true ↔ _
  rw [List.any_eq_true]
  simp only [Bool.and_eq_true, decide_eq_true_eq]
 refine SeqAt.notIn_listAt e pl.isList (fun y hy => ?_) ?_
 ·obtain ⟨l, hl, rfl⟩ := data y (by simpa using hy)
  have el : e (.ref l.1) = decide (l.2 = ss) := by
   rw [Bool.eq_iff_iff, ee, decide_eq_true_iff]
   constructor
   ·rintro ⟨m, hm, em, es⟩
    rw [gq (hL l hl) (hL m hm) em.symm]; exact es
   ·exact fun q => ⟨l, hl, rfl, q⟩
  rw [el]
  by_cases hab : l.1 = a
  ·rw [decide_eq_true (gq (hL l hl) ha hab), hab]
   exact SeqAt.EqAt.same _
  ·refine SeqAt.EqAt.of_refs hab fun prog w E Q hq => ?_
   obtain ⟨bs, r2⟩ := (DV.tup (hL l hl) (DVs.strs _)).reads I.hok (show RelV (.ref l.1) (Value.ref l.1) from rfl)
   have ev : PyData.eqv (.tuple (l.2.map PyData.str)) (.tuple (ss.map PyData.str)) = decide (l.2 = ss) := eE _ _
   refine (eq_dataH (A := X.A.in1) r2 r1 (cJ (hn l hl)).2 (cJ hs).2 (by show X.A.units + 1 + 64 < cLine; omega) ?_ : wpAny (model prog w) X.A.in1 (compareOp .Eq (.ref l.1) (.ref a)) Q E _)
   rw [ev]; exact hq
 ·have ea : its.toArray.any e = decide (ss ∈ lts.map (·.2)) := by
   rw [Bool.eq_iff_iff, List.any_toArray, List.any_eq_true, decide_eq_true_iff]
   constructor
   ·rintro ⟨y, hy, ey⟩
    obtain ⟨m, hm, rfl⟩ := data y hy
    obtain ⟨l, hl, _, es⟩ := (ee _).mp ey
    exact es ▸ List.mem_map_of_mem hl
   ·intro hm
    obtain ⟨l, hl, es⟩ := List.mem_map.mp hm
    obtain ⟨i, hi⟩ := List.getElem?_of_mem hl
    obtain ⟨w', e2, rw'⟩ := r'.get (show (aq lts)[i]? = some (V.ref l.1) by rw [List.getElem?_map, hi]; rfl)
    cases rw'
    exact ⟨_, List.mem_of_getElem? e2, (ee _).mpr ⟨l, hl, rfl, es⟩⟩
  rw [ea]
  exact ⟨V.bl (!decide (ss ∈ lts.map (fun z : Addr × List Str => z.2))), H, I, rfl, q⟩
theorem kZ (K : PySem.W.Frag) {X : Cx} (h : X.K = K := by rfl) : OpR X (binaryOp .Add) (ng K) := by subst h; exact tR
theorem jS (x : V) (r : List V) : bF (x :: r) (some 1) none = r := by
 unfold bF
 simp [HT.sIx]
section
variable {P : Program} {w : World} {K : PySem.W.Frag} {mg : Str -> Option Value} {base : Heap}
noncomputable def iE : Sp := fun vs H Q _ => ∃ (pa : Addr) (ps : List Str), vs = [.ref pa] /\ (H pa = some (.lst (ps.map V.str)) \/ H pa = some (.tup (ps.map V.str))) /\ ps.length <= 8 /\
 ∀ (q : Addr) (lts : List (Addr × List Str)) (H' : Hp), aj H H' -> H' q = some (.lst (aq lts)) -> aO H' lts -> lts.map (·.2) = aA ps -> Q (.ref q) H'
theorem gL : aL ["places", "lots", "place"] ["places"] (aB (top 25)) := ⟨rfl, rfl, rfl, by decide +kernel, rfl, by decide +kernel, by decide +kernel⟩
theorem oq {f : Addr} {fd : FuncData} (F : Fun K "lots_among" "lots_among" (top 25) f fd) (B : Bl mg) : aE P w K mg base CX0 1 f fd ["places"] iE := by
 refine F.ok gL (fun vs H Q E h => ?_) (fun cdv A outer s H vs Q E hr h => ?_)
 ·obtain ⟨pa, ps, rfl, _⟩ := h
  rfl
 ·obtain ⟨pa, ps, rfl, hp, p8, k⟩ := h
  refine ⟨_, am (aM (i := 1) gL.nd rfl (Or.inl rfl) (bC (aa (cq ae) ae)))
   (am (bO PassesOwn.never rfl (gx (bB (pv 0)) (b7 (pv 0))) (aW (i := 2) gL.nd rfl (Or.inr rfl))
    (aw (aM (i := 1) gL.nd rfl (Or.inl rfl) (aD ef (pv 1) (bq (N := ["lot", "place"]) (ix := [none, some 2]) ⟨rfl, rfl, rfl, by decide⟩ rfl (bB (pv 1)) (fun _ _ _ _ => aS 0 (by decide) rfl rfl) (fun _ _ _ _ => bz)
     (fun _ _ _ _ => aD (kZ K) (pv 0) (cq (aa (pv 1) ae))))))))
   (aw (aN (dQ fA (pv 1) (dW ak) dX)))), ?_⟩
  refine ⟨Nat.zero_le _, fun e0 he0 => ⟨by show 1 <= sizeLine; decide, fun f0 hf0 => ?_⟩⟩
  have s0 := ar (o := .lst [.ref e0]) (ar (o := .tup []) (aj.refl H) he0) hf0
  have E0 : upd (upd H e0 (.tup [])) f0 (.lst [.ref e0]) e0 = some (.tup ((([] : List Str)).map V.str)) := by
   rw [ag (fun z => by rw [<- z, ai] at hf0; cases hf0), ai]; rfl
  have F0 : upd (upd H e0 (.tup [])) f0 (.lst [.ref e0]) f0 = some (.lst (aq [(e0, [])])) := ai
  generalize upd (upd H e0 (.tup [])) f0 (.lst [.ref e0]) = H0 at s0 E0 F0 ⊢
  refine iC (K := K) (Hb := H) (a := pa) (xs := ps.map V.str) (fun Q q => ⟨_, rfl, q⟩) hp s0 (fun i σ H1 => aj H H1 /\ ∃ (fo : Addr) (lts : List (Addr × List Str)) (g : Option V), σ = [some (.ref pa), some (.ref fo), g] /\ H1 fo = some (.lst (aq lts)) /\ aO H1 lts /\ lts.map (·.2) = subs (ps.take i))
   ⟨s0, f0, [(e0, [])], none, rfl, F0, aO.one E0, rfl⟩ (fun i σ H1 _ q => q.1) ?_ ?_
  ·rintro i x σ H1 hx ⟨s1, fo, lts, g, rfl, F1, A1, e1⟩
   rw [List.getElem?_map] at hx
   cases hc : ps[i]? with
   | none => rw [hc] at hx; cases hx
   | some pl =>
    rw [hc] at hx
    cases hx
    have hi : i < ps.length := (List.getElem?_eq_some_iff.mp hc).1
    have hlen : lts.length <= 256 := by
     have q := congrArg List.length e1
     rw [List.length_map, iM] at q
     rw [q]
     exact fG (by rw [List.length_take]; omega)
    have hz8 : ∀ x ∈ lts, x.2.length <= 8 := fun x hx => by
     have q := (gh (ps.take i) x.2 (by rw [<- e1]; exact List.mem_map_of_mem hx)).length_le
     rw [List.length_take] at q
     omega
    refine ⟨_, rfl, _, rfl, fo, rfl, ⟨_, SqL.of F1⟩, eI (xs := aq lts) (fits (by rw [List.length_map]; omega)) (fun j ys σ H2 => (∃ qs : List (Addr × List Str), ys = aq qs /\ aO H2 qs /\ qs.map (·.2) = ((lts.take j).map (·.2)).map fun l => l ++ [pl]) /\ aj H1 H2 /\ ∃ v, σ = [v, some (.str pl)])
     ⟨⟨[], rfl, by simp [aO], rfl⟩, aj.refl _, _, rfl⟩ (fun j ys σ H2 _ q => ?_) ?_ ?_⟩
    ·obtain ⟨⟨qs, rfl, _, e⟩, s2, _⟩ := q
     have q := congrArg List.length e
     simp only [List.length_map, List.length_take] at q
     exact ⟨by rw [List.length_map]; omega, SqL.of (s2 _ _ F1)⟩
    ·rintro j y ys σ H2 hy ⟨⟨qs, rfl, A2, e2⟩, s2, v, rfl⟩
     obtain ⟨lt, hlt, rfl⟩ := cQ hy
     have hm := List.mem_of_getElem? hlt
     refine ⟨_, rfl, _, rfl, by show 1 <= sizeLine; decide, fun t ht => ?_⟩
     have s3 := ar (o := .tup [.str pl]) s2 ht
     have s3' := ar (o := .tup [.str pl]) (aj.refl H2) ht
     have t3 : upd H2 t (.tup [.str pl]) t = some (.tup ([pl].map V.str)) := ai
     generalize upd H2 t (.tup [.str pl]) = H3 at s3 s3' t3 ⊢
     have hz := hz8 lt hm
     have est : ∀ z, qs.map (·.2) ++ [z] = ((lts.take j).map (·.2)).map (fun l => l ++ [pl]) ++ [z] := fun z => by rw [e2]
     have etk : ((lts.take (j + 1)).map (·.2)).map (fun l => l ++ [pl]) = ((lts.take j).map (·.2)).map (fun l => l ++ [pl]) ++ [lt.2 ++ [pl]] := by
      rw [List.take_add_one, hlt, List.map_append, List.map_append]; rfl
     refine ⟨lt.1, t, lt.2.map V.str, [.str pl], rfl, rfl, SqT.of (s3 _ _ (A1 lt hm)), SqT.of t3, by rw [sizeLine_eq]; simp; omega, fun e => ?_, fun e => (by cases e), fun p hp => ?_⟩
     ·have e' : lt.2 = [] := by simpa using e
      exact ⟨⟨qs ++ [(t, lt.2 ++ [pl])], by simp [aq], (A2.same s3').app (aO.one (by rw [e']; exact t3)), by rw [List.map_append, etk]; exact est _⟩, s3, _, rfl⟩
     ·have s4' := ar (o := .tup (lt.2.map V.str ++ [.str pl])) s3' hp
      exact ⟨⟨qs ++ [(p, lt.2 ++ [pl])], by simp [aq], (A2.same s4').app (aO.one (by rw [ai, List.map_append]; rfl)), by rw [List.map_append, etk]; exact est _⟩, ar s3 hp, _, rfl⟩
    ·rintro ys σ H2 ⟨⟨qs, rfl, A2, e2⟩, s2, v, rfl⟩ q hq
     rw [take_all lts (by simp)] at e2
     have hql : qs.length = lts.length := by
      have q := congrArg List.length e2
      simpa using q
     have s3' := ar (o := .lst (aq qs)) (aj.refl H2) hq
     refine ⟨fo, q, _, _, rfl, rfl, s3' _ _ (s2 _ _ F1), ai, by rw [sizeLine_eq, List.length_map, List.length_map]; omega, fun q2 hq2' => ?_⟩
     have s4' := ar (o := .lst (aq lts ++ aq qs)) s3' hq2'
     refine ⟨s1.trans (s2.trans s4'), q2, lts ++ qs, _, rfl, by rw [ai]; simp [aq], (A1.same (s2.trans s4')).app (A2.same s4'), ?_⟩
     have ets : ps.take (i + 1) = ps.take i ++ [pl] := by rw [List.take_add_one, hc]; rfl
     rw [List.map_append, e2, e1, ets, dM]
  ·rintro σ H1 ⟨s1, fo, lts, g, rfl, F1, A1, e1⟩
   rw [take_all ps (by simp), eQ] at e1
   cases lts with
   | nil => cases e1
   | cons h0 rest =>
    obtain ⟨eh, er⟩ := List.cons.inj (show h0.2 :: rest.map (·.2) = [] :: aA ps from e1)
    refine ⟨_, rfl, _, rfl, fo, _, rfl, SqL.of F1, fun q hq => ?_⟩
    rw [show aq (h0 :: rest) = V.ref h0.1 :: aq rest from rfl, jS]
    have s2 := ar (o := .lst (aq rest)) (aj.refl H1) hq
    exact k q rest _ (s1.trans s2) ai (fun x hx => s2 _ _ (A1 x (List.mem_cons_of_mem _ hx))) er
noncomputable def mh : Sp := fun vs H Q _ => ∃ (v l pa ra : Addr) (ps ls : List Str) (rs : List (Addr × Row)), vs = [.ref v, .ref l] /\ bL H v pa ra ps rs /\ rs.length <= 60 /\ H l = some (.tup (ls.map V.str)) /\ ∀ H', aj H H' -> Q (.int ((rs.filter (lead ls)).length)) H'
end
end K42
namespace K42
open PySem L2
noncomputable def others (ps : List Str) (root : Str) : List Str := ps.filter fun y => !decide (y = root)
noncomputable def cnt (rs : List (Addr × Row)) (l : List Str) : Nat := (rs.filter (lead l)).length
theorem rq {rs : List (Addr × Row)} {i : Nat} {r : Addr × Row} (h : rs[i]? = some r) (l : List Str) : cnt (rs.take (i + 1)) l = cnt (rs.take i) l + if lead l r = true then 1 else 0 := by
 unfold cnt
 rw [cz _ _ _ _ h, List.length_append]
 congr 1
 split <;> rfl
noncomputable def aQ (l : List Str) : List Key := l.map Sum.inr
theorem cS (l : List Str) : (aQ l).map kV = l.map V.str := by unfold aQ; rw [List.map_map]; rfl
theorem fv {a b : List Str} (h : aQ a = aQ b) : a = b := (List.map_inj_right (fun x y h => Sum.inr.inj h)).mp h
theorem sG {κ : Type} [DecidableEq κ] {kvs : List (κ × V)} {k : κ} {v w : V} (h : aV kvs k = some w) : (putK kvs k v).length = kvs.length := by
 unfold putK
 rw [dU, h]
 rw [if_pos (show (some w).isSome = true from rfl), List.length_map]
theorem dv {H H' : Hp} {p : Addr} {o : HO} (h : aj H H') (hp : H p = none) : aj H (upd H' p o) := fun b ob e => by
 rw [ag (av e hp)]; exact h b ob e
theorem j6 {K : PySem.W.Frag} {a D : Addr} {xs : List V} {tk tv : TE} {j : Nat} {σ' : St} {fin : Hp -> Prop} {H1 : Hp} (Pv : Nat -> St -> Hp -> Prop) (h0 : Pv 0 σ' H1) (hl : ∀ i σ H, i <= xs.length -> Pv i σ H -> SqL K H a xs)
  (hs : ∀ i x σ H, xs[i]? = some x -> Pv i σ H -> tk (σ.set j (some x)) H (fun y H4 => tv (σ.set j (some x)) H4 fun v H5 => ∃ H6, jn H5 D y v H6 /\ Pv (i + 1) (σ.set j (some x)) H6)) (hd : ∀ σ H, Pv xs.length σ H -> fin H) : DcW D (Itl K a) (bS j) bU tk tv σ' fin H1 := by
 refine ⟨fun i m σ H => m = xs.length - i /\ i <= xs.length /\ Pv i σ H, ⟨xs.length, by simp, Nat.zero_le _, h0⟩, ?_⟩
 rintro i m σ H ⟨rfl, hi, p⟩
 have q := hl i σ H hi p
 by_cases hlt : i < xs.length
 ·refine .inr ⟨⟨xs, xs[i], q, by simp [hlt]⟩, Pv (i + 1), fun σ' H' p' => ⟨xs.length - (i + 1), by omega, rfl, hlt, p'⟩, fun x H' y => ?_⟩
  obtain ⟨e, y⟩ := y
  subst e
  unfold bS bU
  exact bG (hs i x σ _ (y xs q) p)
 ·have e : i = xs.length := by omega
  subst e
  exact .inl ⟨⟨xs, q, Nat.le_refl _⟩, hd σ H p⟩
section
variable {P : Program} {w : World} {K : PySem.W.Frag} {mg : Str -> Option Value} {base : Heap}
noncomputable def lu : Sp := fun vs H Q _ => ∃ (ra lo : Addr) (rs : List (Addr × Row)) (lts : List (Addr × List Str)), vs = [.ref ra, .ref lo] /\ (H ra = some (.lst (au rs)) \/ H ra = some (.tup (au rs))) /\ (∀ r ∈ rs, dj H r.1 r.2) /\ rs.length <= 60 /\ H lo = some (.lst (aq lts)) /\ aO H lts /\ (lts.map (·.2)).Nodup /\ lts.length <= 255 /\
 ∀ (q : Addr) (kvs : List (List Key × V)) (H' : Hp), aj H H' -> H' q = some (.dT kvs) -> (∀ x ∈ lts, aV kvs (aQ x.2) = some (.int (cnt rs x.2))) -> Q (.ref q) H'
noncomputable abbrev N26 : List Str := ["rows", "lots", "counts", "row", "lot"]
theorem gO : aL N26 ["rows", "lots"] (aB (top 26)) := ⟨rfl, rfl, rfl, by decide +kernel, rfl, by decide +kernel, by decide +kernel⟩
theorem qC {f : Addr} {fd : FuncData} (F : Fun K "counts_into" "counts_into" (top 26) f fd) (F1 : Fn P w K mg base 1 "leads_into" ["row", "lot"] i5) : aE P w K mg base CX0 2 f fd ["rows", "lots"] lu := by
 refine F.ok gO (fun vs H Q E h => ?_) (fun cdv A outer s H vs Q E hr h => ?_)
 ·obtain ⟨ra, lo, rs, lts, rfl, _⟩ := h
  rfl
 ·obtain ⟨ra, lo, rs, lts, rfl, hra, hrow, hz, hlo, hL, hnd, hl255, k⟩ := h
  have hun := hr.un
  refine ⟨_, am (rV (i := 2) (N := ["lot"]) (ix := [none]) (lt0 hr) gO.nd rfl (Or.inl rfl) ⟨rfl, rfl, rfl, by decide⟩ rfl (bB (pv 1)) (fun _ _ _ _ => aS 0 (by decide) rfl rfl) (fun _ _ _ _ => bz) (fun _ _ _ _ => pv 0) (fun _ _ _ _ => ak))
   (am (bO PassesOwn.never rfl (gx (bB (pv 0)) (b7 (pv 0))) (aW (i := 3) gO.nd rfl (Or.inl rfl)) (aw (bO PassesOwn.never rfl (bB (pv 1)) (aW (i := 4) gO.nd rfl (Or.inl rfl))
    (aw (bj (bA (ax F1 hr (aa (pv 3) (aa (pv 4) ae)))) (aw (mj (fP hr) (pv 2) (pv 4) ak vc (fun _ _ _ => rfl))) be)))))
   (aw (aN (pv 2)))), ?_⟩
  have htl : (aq lts).length = lts.length := by simp
  refine ⟨_, rfl, lo, rfl, ⟨_, SqL.of hlo⟩, fun D hD => ?_⟩
  have s0 := ar (o := .dT []) (aj.refl H) hD
  refine j6 (K := K) (a := lo) (xs := aq lts) (fun i σ H2 => aj H H2 /\ (∃ x, σ = [x]) /\ ∃ kvs, H2 D = some (.dT kvs) /\ kvs.length <= i /\ ∀ m x, m < i -> lts[m]? = some x -> aV kvs (aQ x.2) = some (.int 0)) ⟨s0, ⟨_, rfl⟩, [], ai, Nat.le_refl _, fun m x hm => absurd hm (Nat.not_lt_zero _)⟩
   (fun i σ H2 _ q => SqL.of (q.1 _ _ hlo)) ?_ ?_
  ·rintro i x σ H2 hx ⟨s2, ⟨g, rfl⟩, kvs, d2, z2, v2⟩
   obtain ⟨lt, hlt, rfl⟩ := cQ hx
   have hm := List.mem_of_getElem? hlt
   have hi : i < lts.length := (List.getElem?_eq_some_iff.mp hlt).1
   refine ⟨_, rfl, upd H2 D (.dT (putK kvs (aQ lt.2) (.int 0))), ⟨kvs, aQ lt.2, lt.1, d2, rfl, by rw [cS]; exact s2 _ _ (hL lt hm), by rw [sizeLine_eq]; omega, rfl⟩, dv s2 hD, ⟨_, rfl⟩, _, ai, by have := fV kvs (aQ lt.2) (.int 0); omega, fun m y hmi hy => ?_⟩
   rw [kF]
   by_cases e : aQ y.2 = aQ lt.2
   ·rw [if_pos e]
   ·rw [if_neg e]
    refine v2 m y ?_ hy
    have : m ≠ i := fun q => by rw [q, hlt] at hy; cases hy; exact e rfl
    omega
  rintro σ0 H2 ⟨s2, _, kvs0, d2, z2, v2⟩
  rw [htl] at z2 v2
  refine iC (K := K) (Hb := H) (a := ra) (xs := au rs) (fun Q q => ⟨_, rfl, q⟩) hra s2 (fun i σ H3 => aj H H3 /\ (∃ g1 g2, σ = [some (.ref ra), some (.ref lo), some (.ref D), g1, g2]) /\ ∃ kvs, H3 D = some (.dT kvs) /\ kvs.length <= 255 /\ ∀ x ∈ lts, aV kvs (aQ x.2) = some (.int (cnt (rs.take i) x.2)))
   ⟨s2, ⟨_, _, rfl⟩, kvs0, d2, by omega, fun x hx => ?_⟩ (fun i σ H3 _ q => q.1) ?_ ?_
  ·obtain ⟨m, hm⟩ := List.getElem?_of_mem hx
   exact v2 m x (List.getElem?_eq_some_iff.mp hm).1 hm
  ·rintro i x σ H3 hx ⟨s3, ⟨g1, g2, rfl⟩, kvs, d3, z3, v3⟩
   obtain ⟨r, hr', rfl⟩ := cO hx
   have hrm := List.mem_of_getElem? hr'
   refine ⟨_, rfl, lo, rfl, ⟨_, SqL.of (s3 _ _ hlo)⟩, eK (K := K) (a := lo) (xs := aq lts) (fun j σ H4 => aj H H4 /\ (∃ g2, σ = [some (.ref ra), some (.ref lo), some (.ref D), some (.ref r.1), g2]) /\ ∃ kvs, H4 D = some (.dT kvs) /\ kvs.length <= 255 /\ ∀ m x, lts[m]? = some x -> aV kvs (aQ x.2) = some (.int (if m < j then cnt (rs.take (i + 1)) x.2 else cnt (rs.take i) x.2 : Nat)))
    ⟨s3, ⟨_, rfl⟩, kvs, d3, z3, fun m x hm => ?_⟩ (fun j σ H4 _ q => SqL.of (q.1 _ _ hlo)) ?_ ?_⟩
   ·rw [if_neg (Nat.not_lt_zero _)]
    exact v3 x (List.mem_of_getElem? hm)
   ·rintro j y σ H4 hy ⟨s4, ⟨g2, rfl⟩, kvs, d4, z4, v4⟩
    obtain ⟨lt, hlt, rfl⟩ := cQ hy
    have hm := List.mem_of_getElem? hlt
    have cs := rq hr' lt.2
    refine ⟨_, rfl, _, rfl, lt.1, r, lt.2, rfl, s4 _ _ (hrow r hrm), s4 _ _ (hL lt hm), _, rfl, ?_⟩
    have vj := v4 j lt hlt
    rw [if_neg (Nat.lt_irrefl _)] at vj
    have stay : ∀ m x, m ≠ j -> lts[m]? = some x -> (if m < j then cnt (rs.take (i + 1)) x.2 else cnt (rs.take i) x.2) = (if m < j + 1 then cnt (rs.take (i + 1)) x.2 else cnt (rs.take i) x.2) := fun m x hmj _ => by
     by_cases h1 : m < j
     ·rw [if_pos h1, if_pos (by omega)]
     ·rw [if_neg h1, if_neg (by omega)]
    refine bb (fun c => ?_) (fun c => ⟨s4, ⟨_, rfl⟩, kvs, d4, z4, fun m x hx => ?_⟩)
    ·rw [if_pos c] at cs
     refine ⟨_, rfl, _, rfl, D, .int (cnt (rs.take i) lt.2), rfl, ?_, _, _, rfl, rfl, upd H4 D (.dT (putK kvs (aQ lt.2) (.int ((cnt (rs.take i) lt.2 : Int) + 1)))), fg.t d4 (by rw [cS]; exact s4 _ _ (hL lt hm)) (by rw [sizeLine_eq]; omega), dv s4 hD, ⟨_, rfl⟩, _, ai, by rw [sG vj]; exact z4, fun m x hx => ?_⟩
     ·have g := cf.t (k := aQ lt.2) (b := lt.1) d4 (by rw [cS]; exact s4 _ _ (hL lt hm))
      rw [vj] at g
      exact g
     ·rw [kF]
      by_cases hmj : m = j
      ·subst hmj
       rw [hlt] at hx
       cases hx
       rw [if_pos rfl, if_pos (Nat.lt_succ_self _), cs]
       rfl
      ·have hne : aQ x.2 ≠ aQ lt.2 := fun e => by
        have e' := fv e
        obtain ⟨hmi, em⟩ := List.getElem?_eq_some_iff.mp hx
        obtain ⟨hji, ej⟩ := List.getElem?_eq_some_iff.mp hlt
        have hp := List.pairwise_iff_getElem.mp hnd
        have h1 : (lts.map (·.2))[m]'(by simpa using hmi) = x.2 := by rw [List.getElem_map, em]
        have h2 : (lts.map (·.2))[j]'(by simpa using hji) = lt.2 := by rw [List.getElem_map, ej]
        rcases Nat.lt_or_gt_of_ne hmj with q | q
        ·exact hp m j _ _ q (by rw [h1, h2]; exact e')
        ·exact hp j m _ _ q (by rw [h1, h2]; exact e'.symm)
       rw [if_neg hne, v4 m x hx, stay m x hmj hx]
    ·rw [if_neg c] at cs
     rw [v4 m x hx]
     by_cases hmj : m = j
     ·subst hmj
      rw [hlt] at hx
      cases hx
      rw [if_neg (Nat.lt_irrefl _), if_pos (Nat.lt_succ_self _), cs]
      rfl
     ·rw [stay m x hmj hx]
   ·rintro σ H4 ⟨s4, ⟨g2, rfl⟩, kvs, d4, z4, v4⟩
    refine ⟨s4, ⟨_, _, rfl⟩, kvs, d4, z4, fun x hx => ?_⟩
    obtain ⟨m, hm⟩ := List.getElem?_of_mem hx
    have q := v4 m x hm
    rw [if_pos (by rw [htl]; exact (List.getElem?_eq_some_iff.mp hm).1)] at q
    exact q
  ·rintro σ H3 ⟨s3, ⟨g1, g2, rfl⟩, kvs, d3, z3, v3⟩
   rw [take_all rs (by simp)] at v3
   exact ⟨_, rfl, k D kvs H3 s3 d3 v3⟩
end
noncomputable def need (rts ls : List Str) : Nat := (rts.filter fun r => !decide (r ∈ ls)).length
section
variable {P : Program} {w : World} {K : PySem.W.Frag} {mg : Str -> Option Value} {base : Heap}
noncomputable def kY : Sp := fun vs H Q _ => ∃ (a l : Addr) (rts ls : List Str), vs = [.ref a, .ref l] /\ H a = some (.tup (rts.map V.str)) /\ H l = some (.tup (ls.map V.str)) /\ rts.length <= 100 /\ ∀ H', aj H H' -> Q (.int (need rts ls)) H'
theorem v9 : aL ["roots", "lot"] ["roots", "lot"] (aB (top 27)) := ⟨rfl, rfl, rfl, by decide +kernel, rfl, by decide +kernel, by decide +kernel⟩
theorem pB {f : Addr} {fd : FuncData} (F : Fun K "need_of" "need_of" (top 27) f fd) (B : Bl mg) : aE P w K mg base CX0 1 f fd ["roots", "lot"] kY := by
 refine F.ok v9 (fun vs H Q E h => ?_) (fun cdv A outer s H vs Q E hr h => ?_)
 ·obtain ⟨a, l, rts, ls, rfl, _⟩ := h
  rfl
 ·obtain ⟨a, l, rts, ls, rfl, ha, hl, hz, k⟩ := h
  refine ⟨_, aw (aN (ay bo rfl B.len PySem.boot_len (aa (bq (N := ["root", "lot"]) (ix := [none, some 1]) ⟨rfl, rfl, rfl, by decide⟩ rfl (b7 (pv 0)) (fun _ _ _ _ => aS 0 (by decide) rfl rfl)
   (fun _ _ _ _ => cK (aR (eG K) (pv 0) (pv 1) (by with_unfolding_all rfl))) (fun _ _ _ _ => pv 0)) ae))), ?_⟩
  refine ⟨_, rfl, a, rfl, ⟨_, SqT.of ha⟩, fu (xs := rts.map V.str) (fits (by simp; omega)) (fun i ys σ H1 => ys = ((rts.take i).filter fun r => !decide (r ∈ ls)).map V.str /\ H1 = H /\ ∃ x, σ = [x, some (.ref l)]) ⟨rfl, rfl, _, rfl⟩
   (fun i ys σ H1 _ q => ⟨by rw [q.1, List.length_map]; exact Nat.le_trans (List.length_filter_le _ _) (by simp; omega), by rw [q.2.1]; exact SqT.of ha⟩) ?_ ?_⟩
  ·rintro i x ys σ H1 hx ⟨rfl, rfl, v, rfl⟩
   rw [List.getElem?_map] at hx
   cases hc : rts[i]? with
   | none => rw [hc] at hx; cases hx
   | some z =>
    rw [hc] at hx
    cases hx
    have tf := cz (fun r : Str => !decide (r ∈ ls)) rts i z hc
    refine ⟨_, rfl, _, rfl, l, ls.map V.str, rfl, .inr (SqT.of hl), rfl, bW ls, _, rfl, ?_⟩
    show if (!inV (.str z) (ls.map V.str)) = true then _ else _
    rw [bY]
    refine bb (fun c => ⟨_, rfl, ?_, rfl, _, rfl⟩) (fun c => ⟨?_, rfl, _, rfl⟩)
    ·rw [tf, c]; simp
    ·rw [tf]; simp only [Bool.not_eq_true] at c; rw [c]; simp
  ·rintro ys σ H1 ⟨rfl, rfl, v, rfl⟩ q hq
   rw [take_all rts (by simp)]
   refine ⟨q, _, rfl, .inl (SqL.of ai), ?_⟩
   have e : (((rts.filter fun r => !decide (r ∈ ls)).map V.str).length : Int) = (need rts ls : Int) := by rw [List.length_map]; rfl
   rw [e]
   exact k _ (ar (aj.refl _) hq)
end
end K42
namespace L2
open PySem
noncomputable def mth (s : Stmt) (j : Nat) : Stmt := match s with
 | .ClassDef _ _ _ body _ _ _ _ _ _ _ => body.getD j (.Pass ⟨0, 0, 0, 0⟩)
 | _ => .Pass ⟨0, 0, 0, 0⟩
noncomputable def mI (C : Addr) : Sp := fun vs H Q _ => ∃ (e : Addr) (v : V), vs = [.ref e, v] /\ H e = some (c9 e C none) /\ ∀ dx, H dx = none -> dx ≠ e -> Q .non (upd (upd H e (c9 e C (some dx))) dx (.xd [(Str.ofString "lot", v)]))
end L2
namespace K42
open PySem L2
noncomputable def spr (rs : List (Addr × Row)) (rts l : List Str) : Int := (cnt rs l : Int) - (need rts l : Int)
noncomputable abbrev cG (rs : List (Addr × Row)) (rts : List Str) (ls : List (List Str)) : List (List Key × V) := ls.map fun l => (aQ l, V.int (spr rs rts l))
theorem j5 {rs : List (Addr × Row)} {rts : List Str} : ∀ {ls : List (List Str)} {l : List Str}, l ∉ ls -> aV (cG rs rts ls) (aQ l) = none
 | [], l, _ => rfl
 | m :: r, l, h => by
  have h' : l ≠ m /\ l ∉ r := by simpa using h
  show aV ((aQ m, V.int (spr rs rts m)) :: cG rs rts r) (aQ l) = none
  rw [bX (fun e => h'.1 (fv e).symm)]
  exact j5 h'.2
theorem j9 {rs : List (Addr × Row)} {rts : List Str} : ∀ {ls : List (List Str)} {l : List Str}, l ∈ ls -> aV (cG rs rts ls) (aQ l) = some (.int (spr rs rts l))
 | m :: r, l, h => by
  show aV ((aQ m, V.int (spr rs rts m)) :: cG rs rts r) (aQ l) = _
  by_cases e : m = l
  ·subst e; exact ck rfl
  ·rw [bX (fun z => e (fv z))]
   exact j9 ((List.mem_cons.mp h).resolve_left fun z => e z.symm)
section
variable {P : Program} {w : World} {K : PySem.W.Frag} {mg : Str -> Option Value} {base : Heap}
theorem scI : aL ["self", "lot"] ["self", "lot"] (aB (mth (top 12) 0)) := ⟨rfl, rfl, rfl, by decide +kernel, rfl, by decide +kernel, by decide +kernel⟩
theorem ux {f C : Addr} {fd : FuncData} (F : Fun K "__init__" "TooFew.__init__" (mth (top 12) 0) f fd) (hC : dH dq base C f) : aE P w K mg base CX0 1 f fd ["self", "lot"] (mI C) := by
 refine F.ok scI (fun vs H Q E h => ?_) (fun cdv A outer s H vs Q E hr h => ?_)
 ·obtain ⟨e, v, rfl, _⟩ := h
  rfl
 ·obtain ⟨e, v, rfl, he, k⟩ := h
  refine ⟨_, aw (sS (n := Str.ofString "lot") hC (by decide) (by decide) (by decide) (pv 0) (pv 1)), ?_⟩
  exact ⟨_, rfl, _, rfl, e, rfl, he, fun dx h1 h2 => k dx h1 h2⟩
noncomputable def iR : Sp := fun vs H Q _ => ∃ (ra lo a : Addr) (rs : List (Addr × Row)) (lts : List (Addr × List Str)) (rts : List Str), vs = [.ref ra, .ref lo, .ref a] /\ (H ra = some (.lst (au rs)) \/ H ra = some (.tup (au rs))) /\ (∀ r ∈ rs, dj H r.1 r.2) /\ rs.length <= 60 /\ H lo = some (.lst (aq lts)) /\ aO H lts /\ (lts.map (·.2)).Nodup /\ lts.length <= 255 /\
 H a = some (.tup (rts.map V.str)) /\ rts.length <= 100 /\ ∀ (q : Addr) (H' : Hp), aj H H' -> H q = none -> H' q = some (.dT (cG rs rts (lts.map (·.2)))) -> Q (.ref q) H'
noncomputable abbrev N28 : List Str := ["rows", "lots", "roots", "counts"]
theorem nD : aL N28 ["rows", "lots", "roots"] (aB (top 28)) := ⟨rfl, rfl, rfl, by decide +kernel, rfl, by decide +kernel, by decide +kernel⟩
theorem sy {f : Addr} {fd : FuncData} (F : Fun K "spare_into" "spare_into" (top 28) f fd) (F1 : Fn P w K mg base 2 "counts_into" ["rows", "lots"] lu) (F2 : Fn P w K mg base 1 "need_of" ["roots", "lot"] kY) : aE P w K mg base CX0 3 f fd ["rows", "lots", "roots"] iR := by
 refine F.ok nD (fun vs H Q E h => ?_) (fun cdv A outer s H vs Q E hr h => ?_)
 ·obtain ⟨ra, lo, a, rs, lts, rts, rfl, _⟩ := h
  rfl
 ·obtain ⟨ra, lo, a, rs, lts, rts, rfl, hra, hrow, hz, hlo, hL, hnd, hl255, ha, hr100, k⟩ := h
  have hr1 : aI 1 _ := hr.mono (by decide)
  refine ⟨_, am (aM (i := 3) nD.nd rfl (Or.inr rfl) (ax F1 hr (aa (pv 0) (aa (pv 1) ae))))
   (aw (aN (vR (N := ["lot", "counts", "roots"]) (ix := [none, some 3, some 2]) (lt0 hr) ⟨rfl, rfl, rfl, by decide⟩ rfl (bB (pv 1)) (fun _ _ _ _ => aS 0 (by decide) rfl rfl) (fun _ _ _ _ => bz) (fun _ _ _ _ => pv 0)
    (fun _ _ _ _ => aD eW (iV (fP hr) (pv 1) (pv 0) (fun _ _ => rfl)) (ax F2 hr1 (aa (pv 2) (aa (pv 0) ae))))))), ?_⟩
  refine ⟨_, rfl, _, rfl, ra, lo, rs, lts, rfl, hra, hrow, hz, hlo, hL, hnd, hl255, fun c kvs H1 s1 c1 v1 => ?_⟩
  refine ⟨_, rfl, lo, rfl, ⟨_, SqL.of (s1 _ _ hlo)⟩, fun D hD => ?_⟩
  have s2 := ar (o := .dT []) (aj.refl H1) hD
  have htl : (aq lts).length = lts.length := by simp
  have hD0 : H1 D = none := hD
  refine j6 (K := K) (a := lo) (xs := aq lts) (fun i σ H2 => aj H1 H2 /\ (∃ x, σ = [x, some (.ref c), some (.ref a)]) /\ H2 D = some (.dT (cG rs rts ((lts.take i).map (·.2))))) ⟨s2, ⟨_, rfl⟩, ai⟩
   (fun i σ H2 _ q => SqL.of (q.1 _ _ (s1 _ _ hlo))) ?_ ?_
  ·rintro i x σ H2 hx ⟨s2, ⟨g, rfl⟩, d2⟩
   obtain ⟨lt, hlt, rfl⟩ := cQ hx
   have hm := List.mem_of_getElem? hlt
   have hi : i < lts.length := (List.getElem?_eq_some_iff.mp hlt).1
   have hlt2 := s2 _ _ (s1 _ _ (hL lt hm))
   have gc : cf H2 c (.ref lt.1) (some (.int (cnt rs lt.2))) := by
    rw [<- v1 lt hm]; exact cf.t (s2 _ _ c1) (by rw [cS]; exact hlt2)
   refine ⟨_, rfl, _, rfl, _, rfl, c, _, rfl, gc, ?_⟩
   refine ⟨_, rfl, _, rfl, a, lt.1, rts, lt.2, rfl, s2 _ _ (s1 _ _ ha), hlt2, hr100, fun H3 s3 => ?_⟩
   have d3 := s3 _ _ d2
   have hfresh : lt.2 ∉ (lts.take i).map (·.2) := fun hmm => by
    have nd := hnd.sublist ((List.take_sublist (i + 1) lts).map (fun x : Addr × List Str => x.2))
    rw [List.take_add_one, hlt, List.map_append] at nd
    exact (List.nodup_append.mp nd).2.2 _ hmm lt.2 (by simp) rfl
   refine ⟨_, _, rfl, rfl, _, ⟨_, aQ lt.2, lt.1, d3, rfl, by rw [cS]; exact s3 _ _ hlt2, by rw [List.length_map, List.length_map, List.length_take, sizeLine_eq]; omega, rfl⟩, dv (s2.trans s3) hD0, ⟨_, rfl⟩, ?_⟩
   rw [ai, rD _ (j5 hfresh), List.take_add_one, hlt]
   simp [cG, spr]
  ·rintro σ H2 ⟨s2, ⟨g, rfl⟩, d2⟩
   rw [htl, take_all lts rfl] at d2
   exact k D H2 (s1.trans s2) (s1.free hD0) d2
end
section
variable {P : Program} {w : World} {K : PySem.W.Frag} {mg : Str -> Option Value} {base : Heap}
noncomputable def kL (C : Addr) : Sp := fun vs H Q E => ∃ (v pa ra a : Addr) (ps rts : List Str) (rs : List (Addr × Row)), vs = [.ref v, .ref a] /\ bL H v pa ra ps rs /\ ps.Nodup /\ ps.length <= 8 /\ rs.length <= 60 /\ H a = some (.tup (rts.map V.str)) /\ rts.length <= 100 /\
 ∀ H', aj H H' -> ((∀ l ∈ aA ps, 0 <= spr rs rts l) -> Q .non H') /\ (∀ l ∈ aA ps, spr rs rts l < 0 -> ∀ dx u, H' dx = some (.xd [(Str.ofString "lot", .ref u)]) -> H' u = some (.tup (l.map V.str)) -> E (.ref C) (some dx) H')
noncomputable abbrev N31 : List Str := ["web", "roots", "spare", "lot"]
theorem jC : aL N31 ["web", "roots"] (aB (top 31)) := ⟨rfl, rfl, rfl, by decide +kernel, rfl, by decide +kernel, by decide +kernel⟩
theorem qx {f C fI : Addr} {fd fdI : FuncData} (F : Fun K "need_enough" "need_enough" (top 31) f fd) (hx : mg "TooFew" = some (.ref C)) (hC : dH dq base C fI) (FI : aE P w K mg base CX0 1 fI fdI ["self", "lot"] (mI C)) (bI : Binds K fdI ["self", "lot"] [])
  (F1 : Fn P w K mg base 3 "spare_into" ["rows", "lots", "roots"] iR) (F2 : Fn P w K mg base 1 "lots_among" ["places"] iE) : aE P w K mg base (CXE P w) 4 f fd ["web", "roots"] (kL C) := by
 refine F.okX jC (fun vs H Q E h => ?_) (fun cdv A outer s H vs Q E hr h => ?_)
 ·obtain ⟨v, pa, ra, a, ps, rts, rs, rfl, _⟩ := h
  rfl
 ·obtain ⟨v, pa, ra, a, ps, rts, rs, rfl, W, hnd, h7, hrz, ha, hr100, k⟩ := h
  have hr1 : aI 1 _ := hr.mono (by decide)
  have hr2 : aI 2 _ := hr.mono (by decide)
  refine ⟨_, am (aM (i := 2) jC.nd rfl (Or.inl rfl) (ax F1 hr (aa (aG bh (pv 0) ak (fun _ _ => rfl)) (aa (ax F2 hr1 (aa (aG bh (pv 0) ak (fun _ _ => rfl)) ae)) (aa (pv 1) ae)))))
   (aw (bO PassesOwn.leaving rfl (ma (pv 2)) (aW (i := 3) jC.nd rfl (Or.inl rfl))
    (aw (bj (aR gw (iV (fP hr) (pv 2) (pv 3) (fun _ _ => rfl)) ak (aT _)) (aw (p4 (W := E) hx hC FI hr2 bI hr.hd (aa (pv 3) ae) (fun pins σ H s ea oe vs a0 I h1 h2 h3 h4 h5 h6 hW => va I h1 h2 h3 h4 h5 h6 hW) rfl)) be)))), ?_⟩
  refine ⟨_, rfl, aJ (j := 1) (.inr (SqT.of W.tp)) rfl rfl ⟨_, rfl, aJ (j := 0) (.inr (SqT.of W.tp)) rfl rfl ⟨pa, ps, rfl, .inr W.pl, by omega, fun q lts H1 s1 q1 A1 e1 => ?_⟩⟩⟩
  have W1 := W.same s1
  have hll : lts.length <= 255 := by
   have e2 := congrArg List.length e1
   rw [List.length_map] at e2
   have e3 := iN ps
   have e4 := fG (show ps.length <= 8 by omega)
   omega
  refine ⟨_, rfl, ra, q, a, rs, lts, rts, rfl, .inr W1.rl, W1.rows, hrz, q1, A1, by rw [e1]; exact gZ hnd, hll, s1 _ _ ha, hr100, fun sd H2 s2 hsd0 d2 => ?_⟩
  rw [e1] at d2
  have s02 := s1.trans s2
  have hsd : H sd = none := s1.free hsd0
  refine ⟨_, rfl, sd, _, rfl, d2, fun o => ?_⟩
  have s3 : aj H (upd H2 sd (.frz o (.dT (cG rs rts (aA ps))))) := aj.upd0 s02 hsd
  have d3 : upd H2 sd (.frz o (.dT (cG rs rts (aA ps)))) sd = some (.frz o (.dT (cG rs rts (aA ps)))) := ai
  generalize upd H2 sd (.frz o (.dT (cG rs rts (aA ps)))) = H3 at s3 d3 ⊢
  refine sj (a := sd) (o := o) (kvs := cG rs rts (aA ps)) (fun i σ H4 => (∃ g, σ = [some (.ref v), some (.ref a), some (.ref sd), g]) /\ aj H3 H4 /\ ∀ l ∈ (aA ps).take i, 0 <= spr rs rts l)
   ⟨⟨_, rfl⟩, aj.refl _, by simp⟩ (fun i σ H4 _ p => p.2.1 _ _ d3) ?_ ?_
  ·rintro i p b σ H4 hp hb ⟨⟨g, rfl⟩, s4, hge⟩
   rw [List.getElem?_map] at hp
   cases hc : (aA ps)[i]? with
   | none => rw [hc] at hp; cases hp
   | some l =>
    rw [hc] at hp
    cases hp
    have hl : l ∈ aA ps := List.mem_of_getElem? hc
    have hb' : H4 b = some (.tup (l.map V.str)) := by rw [<- cS]; exact hb
    have gd : cf H4 sd (.ref b) (some (.int (spr rs rts l))) := .inr ⟨_, aQ l, b, .inr ⟨o, s4 _ _ d3⟩, rfl, hb, (j9 hl).symm⟩
    refine ⟨_, rfl, _, rfl, sd, _, rfl, gd, _, _, rfl, rfl, _, rfl, bb (fun c => ?_) (fun c => ?_)⟩
    ·have hneg : spr rs rts l < 0 := of_decide_eq_true c
     refine ⟨_, rfl, by show 1 <= sizeLine; decide, fun e he => ⟨e, .ref b, rfl, ai, fun dx h1 h2 => ⟨rfl, some dx, ?_, ?_⟩⟩⟩
     ·rw [ag h2.symm, ai]
     ·have hdx3 : H4 dx = none := by rw [ag h2] at h1; exact h1
      have nu : b ≠ e := av hb' he
      have ndu : b ≠ dx := av hb' hdx3
      refine (k _ (fun c' o' ec => ?_)).2 l hl hneg dx b ?_ ?_
      ·have b3 := s4 _ _ (s3 c' o' ec)
       have n1 : c' ≠ e := av b3 he
       have n2 : c' ≠ dx := av b3 hdx3
       rw [cW n1, ag n2, ag n1, ag n1]
       exact b3
      ·rw [cW h2, ai]
      ·rw [cW nu, ag ndu, ag nu, ag nu]
       exact hb'
    ·have hge' : 0 <= spr rs rts l := by
      have : ¬ (spr rs rts l < 0) := fun z => c (decide_eq_true z)
      omega
     refine ⟨⟨_, rfl⟩, s4, fun m hm => ?_⟩
     rw [List.take_add_one, hc] at hm
     rcases List.mem_append.mp hm with z | z
     ·exact hge m z
     ·have e : m = l := by simpa using z
      subst e; exact hge'
  ·rintro σ H4 ⟨⟨g, rfl⟩, s4, hge⟩
   rw [take_all (aA ps) (by simp)] at hge
   exact (k H4 (s3.trans s4)).1 hge
end
theorem sub_one {l : List Str} {x : Str} (h : l.Sublist [x]) : l = [] \/ l = [x] := by
 cases h with
 | cons _ h => cases h; exact .inl rfl
 | cons_cons _ h => cases h; exact .inr rfl
theorem rO : ∀ ps l : List Str, l.Sublist ps -> l ∈ subs ps := snoc_ind (fun l h => by
  cases h
  simp [subs]) fun ps x ih l hl => by
 rw [dM]
 obtain ⟨a, b, rfl, ha, hb⟩ := List.sublist_append_iff.mp hl
 rcases sub_one hb with rfl | rfl
 ·rw [List.append_nil]
  exact List.mem_append_left _ (ih a ha)
 ·exact List.mem_append_right _ (List.mem_map_of_mem (f := fun l => l ++ [x]) (ih a ha))
theorem eM {ps l : List Str} (hn : ps.Nodup) : l ∈ aA ps ↔ l.Sublist ps /\ l ≠ [] := by
 have e := eQ ps
 have nd := jT ps hn
 rw [e] at nd
 constructor
 ·intro h
  exact ⟨kO h, fun z => (List.nodup_cons.mp nd).1 (z ▸ h)⟩
 ·rintro ⟨h1, h2⟩
  have := rO ps l h1
  rw [e] at this
  exact (List.mem_cons.mp this).resolve_left h2
section
variable {P : Program} {w : World} {K : PySem.W.Frag} {mg : Str -> Option Value} {base : Heap}
end
theorem lL {x : Str} : ¬ nlt x x := List.lt_irrefl _
noncomputable def ind (b : Bool) : Nat := if b = true then 1 else 0
theorem cnt_cons (r : Addr × Row) (rs : List (Addr × Row)) (l : List Str) : cnt (r :: rs) l = ind (lead l r) + cnt rs l := by
 unfold cnt ind
 rw [List.filter_cons]
 split <;> simp <;> omega
theorem ml {a b i u : List Str} (hi : ∀ x, x ∈ i ↔ x ∈ a /\ x ∈ b) (hu : ∀ x, x ∈ u ↔ x ∈ a \/ x ∈ b) : ∀ rs : List (Addr × Row), cnt rs i + cnt rs u <= cnt rs a + cnt rs b
 | [] => Nat.le_refl _
 | r :: rs => by
  have ih := ml hi hu rs
  rw [cnt_cons, cnt_cons, cnt_cons, cnt_cons]
  have h : ind (lead i r) + ind (lead u r) <= ind (lead a r) + ind (lead b r) := by
   have e1 := hi r.2.2.2
   have e2 := hi r.2.2.1
   have e3 := hu r.2.2.2
   have e4 := hu r.2.2.1
   unfold lead ind
   by_cases c1 : r.2.2.2 ∈ a <;> by_cases c2 : r.2.2.2 ∈ b <;> by_cases c3 : r.2.2.1 ∈ a <;> by_cases c4 : r.2.2.1 ∈ b <;> simp_all
  omega
section
variable {P : Program} {w : World} {K : PySem.W.Frag} {mg : Str -> Option Value} {base : Heap}
end
noncomputable abbrev T := Addr × Row
theorem kJ {a b : List T} (h : a.Perm b) (l : List Str) : cnt a l = cnt b l := by
 unfold cnt
 exact (h.filter _).length_eq
theorem du (r : Str) (rts l : List Str) : need (r :: rts) l = ind (!decide (r ∈ l)) + need rts l := by
 unfold need ind
 rw [List.filter_cons]
 split <;> simp <;> omega
theorem kR {a b i u : List Str} (hi : ∀ x, x ∈ i ↔ x ∈ a /\ x ∈ b) (hu : ∀ x, x ∈ u ↔ x ∈ a \/ x ∈ b) : ∀ rts : List Str, need rts i + need rts u = need rts a + need rts b
 | [] => rfl
 | r :: rts => by
  have ih := kR hi hu rts
  rw [du, du, du, du]
  have h : ind (!decide (r ∈ i)) + ind (!decide (r ∈ u)) = ind (!decide (r ∈ a)) + ind (!decide (r ∈ b)) := by
   have e1 := hi r
   have e2 := hu r
   unfold ind
   by_cases c1 : r ∈ a <;> by_cases c2 : r ∈ b <;> simp_all
  omega
theorem j3 {x y : List Str} (h : ∀ z, z ∈ y -> z ∈ x) : ∀ rts : List Str, need rts x <= need rts y
 | [] => Nat.le_refl _
 | r :: rts => by
  have ih := j3 h rts
  rw [du, du]
  have : ind (!decide (r ∈ x)) <= ind (!decide (r ∈ y)) := by
   have e := h r
   unfold ind
   by_cases c1 : r ∈ x <;> by_cases c2 : r ∈ y <;> simp_all
  omega
theorem lx {x y : List Str} : ∀ {rs : List T}, cnt rs x < cnt rs y -> ∃ r ∈ rs, lead y r = true /\ lead x r = false
 | [], h => absurd h (Nat.lt_irrefl _)
 | r :: rs, h => by
  by_cases c : lead y r = true /\ lead x r = false
  ·exact ⟨r, List.mem_cons_self, c⟩
  ·have : cnt rs x < cnt rs y := by
    rw [cnt_cons, cnt_cons] at h
    have : ind (lead y r) <= ind (lead x r) := by
     unfold ind
     cases e1 : lead y r <;> cases e2 : lead x r <;> simp_all
    omega
   obtain ⟨q, hq, h1⟩ := lx this
   exact ⟨q, List.mem_cons_of_mem _ hq, h1⟩
theorem k7 {y : List Str} : ∀ {rs : List T}, 0 < cnt rs y -> ∃ r ∈ rs, lead y r = true
 | [], h => absurd h (Nat.lt_irrefl _)
 | r :: rs, h => by
  by_cases c : lead y r = true
  ·exact ⟨r, List.mem_cons_self, c⟩
  ·have : 0 < cnt rs y := by
    rw [cnt_cons] at h
    unfold ind at h
    rw [if_neg c] at h
    omega
   obtain ⟨q, hq, h1⟩ := k7 this
   exact ⟨q, List.mem_cons_of_mem _ hq, h1⟩
theorem eJ {l : List Str} {r : T} : lead l r = true ↔ r.2.2.2 ∈ l /\ r.2.2.1 ∉ l := by
 unfold lead
 simp
theorem shortest {P : List Str -> Prop} : ∀ (n : Nat), (∃ x, P x /\ x.length <= n) -> ∃ x, P x /\ ∀ y, P y -> x.length <= y.length
 | 0, ⟨x, h, z⟩ => ⟨x, h, fun y _ => by omega⟩
 | n + 1, ⟨x, h, z⟩ => by
  by_cases c : ∃ x, P x /\ x.length <= n
  ·exact shortest n c
  ·exact ⟨x, h, fun y hy => by
    have : ¬ y.length <= n := fun q => c ⟨y, hy, q⟩
    omega⟩
structure cZ (ps rts fs : List Str) (rem : List T) : Prop where
 nd : ps.Nodup
 st : ∀ r ∈ rem, r.2.2.1 ∈ ps /\ r.2.2.2 ∈ ps
 ge : ∀ l ∈ aA ps, 0 <= spr rem rts l
 gt : ∀ l ∈ aA ps, (∀ x ∈ l, x ∉ fs) -> 1 <= spr rem rts l
noncomputable def lY (ps rts fs : List Str) (rem : List T) (r : T) : Prop := r.2.2.1 ∈ fs /\ r.2.2.2 ∉ fs /\ ∀ l ∈ aA ps, lead l r = true -> 0 < spr rem rts l
theorem cZ.ex {ps rts fs : List Str} {rem : List T} (G : cZ ps rts fs rem) (hx : ∃ x ∈ ps, x ∉ fs) : ∃ r ∈ rem, lY ps rts fs rem r := by
 by_cases tight : ∃ X, (X ∈ aA ps /\ spr rem rts X = 0 /\ ∃ x ∈ X, x ∉ fs)
 ·obtain ⟨X0, h0⟩ := tight
  obtain ⟨X, ⟨hX, hX0, x, hxX, hxf⟩, hmin⟩ := shortest (P := fun X => X ∈ aA ps /\ spr rem rts X = 0 /\ ∃ x ∈ X, x ∉ fs) X0.length ⟨X0, h0, Nat.le_refl _⟩
  obtain ⟨sX, _⟩ := (eM G.nd).mp hX
  have memY : ∀ z, z ∈ (X.filter fun p => !decide (p ∈ fs)) ↔ z ∈ X /\ z ∉ fs := fun z => by simp
  have hY : (X.filter fun p => !decide (p ∈ fs)) ∈ aA ps := (eM G.nd).mpr ⟨List.filter_sublist.trans sX, fun e => by
   have := (memY x).mpr ⟨hxX, hxf⟩
   rw [e] at this; cases this⟩
  have gY := G.gt _ hY fun z hz => ((memY z).mp hz).2
  have nY := j3 (x := X) (y := X.filter fun p => !decide (p ∈ fs)) (fun z hz => ((memY z).mp hz).1) rts
  have hlt : cnt rem X < cnt rem (X.filter fun p => !decide (p ∈ fs)) := by
   unfold spr at gY hX0
   omega
  obtain ⟨r, hr, h1, h2⟩ := lx hlt
  obtain ⟨e1, e2⟩ := eJ.mp h1
  obtain ⟨e3, e4⟩ := (memY _).mp e1
  have e5 : r.2.2.1 ∈ X := by
   by_cases c : r.2.2.1 ∈ X
   ·exact c
   ·have := eJ.mpr ⟨e3, c⟩
    rw [h2] at this; cases this
  have e6 : r.2.2.1 ∈ fs := by
   by_cases c : r.2.2.1 ∈ fs
   ·exact c
   ·exact absurd ((memY _).mpr ⟨e5, c⟩) e2
  refine ⟨r, hr, e6, e4, fun Z hZ hl => ?_⟩
  obtain ⟨z1, z2⟩ := eJ.mp hl
  have hZ0 := G.ge Z hZ
  by_cases c : spr rem rts Z = 0
  ·exfalso
   obtain ⟨sZ, _⟩ := (eM G.nd).mp hZ
   have memI : ∀ p, p ∈ (X.filter fun p => decide (p ∈ Z)) ↔ p ∈ X /\ p ∈ Z := fun p => by simp
   have memU : ∀ p, p ∈ (ps.filter fun p => decide (p ∈ X \/ p ∈ Z)) ↔ p ∈ X \/ p ∈ Z := fun p => by
    simp only [List.mem_filter, decide_eq_true_eq]
    exact ⟨fun h => h.2, fun h => ⟨h.elim (fun q => sX.subset q) (fun q => sZ.subset q), h⟩⟩
   have hI : (X.filter fun p => decide (p ∈ Z)) ∈ aA ps := (eM G.nd).mpr ⟨List.filter_sublist.trans sX, fun e => by
    have := (memI _).mpr ⟨e3, z1⟩
    rw [e] at this; cases this⟩
   have hU : (ps.filter fun p => decide (p ∈ X \/ p ∈ Z)) ∈ aA ps := (eM G.nd).mpr ⟨List.filter_sublist, fun e => by
    have := (memU _).mpr (.inl e3)
    rw [e] at this; cases this⟩
   have sm := ml memI memU rem
   have nm := kR memI memU rts
   have gI := G.ge _ hI
   have gU := G.ge _ hU
   have hI0 : spr rem rts (X.filter fun p => decide (p ∈ Z)) = 0 := by
    unfold spr at *
    omega
   have hm := hmin _ ⟨hI, hI0, r.2.2.2, (memI _).mpr ⟨e3, z1⟩, e4⟩
   have hls : (X.filter fun p => decide (p ∈ Z)).length < X.length := List.length_filter_lt_length_iff_exists.mpr ⟨r.2.2.1, e5, by simpa using z2⟩
   omega
  ·omega
 ·obtain ⟨x, hxp, hxf⟩ := hx
  have memW : ∀ z, z ∈ (ps.filter fun p => !decide (p ∈ fs)) ↔ z ∈ ps /\ z ∉ fs := fun z => by simp
  have hW : (ps.filter fun p => !decide (p ∈ fs)) ∈ aA ps := (eM G.nd).mpr ⟨List.filter_sublist, fun e => by
   have := (memW x).mpr ⟨hxp, hxf⟩
   rw [e] at this; cases this⟩
  have gW := G.gt _ hW fun z hz => ((memW z).mp hz).2
  have hpos : 0 < cnt rem (ps.filter fun p => !decide (p ∈ fs)) := by
   unfold spr at gW
   omega
  obtain ⟨r, hr, h1⟩ := k7 hpos
  obtain ⟨e1, e2⟩ := eJ.mp h1
  obtain ⟨e3, e4⟩ := (memW _).mp e1
  have e6 : r.2.2.1 ∈ fs := by
   by_cases c : r.2.2.1 ∈ fs
   ·exact c
   ·exact absurd ((memW _).mpr ⟨(G.st r hr).1, c⟩) e2
  refine ⟨r, hr, e6, e4, fun Z hZ hl => ?_⟩
  obtain ⟨z1, z2⟩ := eJ.mp hl
  have hZ0 := G.ge Z hZ
  by_cases c : spr rem rts Z = 0
  ·exact absurd ⟨Z, hZ, c, r.2.2.2, z1, e4⟩ tight
  ·omega
theorem iG {rem : List T} {r : T} {rem' : List T} (h : rem.Perm (r :: rem')) (rts l : List Str) : spr rem' rts l = spr rem rts l - (ind (lead l r) : Nat) := by
 unfold spr
 rw [kJ h, cnt_cons]
 omega
theorem cZ.step {ps rts fs : List Str} {rem rem' : List T} {r : T} (G : cZ ps rts fs rem) (g : lY ps rts fs rem r) (h : rem.Perm (r :: rem')) : cZ ps rts (fs ++ [r.2.2.2]) rem' where
 nd := G.nd
 st := fun q hq => G.st q (h.mem_iff.mpr (List.mem_cons_of_mem _ hq))
 ge := fun l hl => by
  rw [iG h]
  have := G.ge l hl
  unfold ind
  cases c : lead l r with
  | true => have := g.2.2 l hl c; simp; omega
  | false => simp; omega
 gt := fun l hl hd => by
  rw [iG h]
  have h1 := G.gt l hl fun x hx hf => hd x hx (List.mem_append_left _ hf)
  have c : lead l r = false := by
   cases c : lead l r with
   | false => rfl
   | true => exact absurd (List.mem_append_right _ (by simp)) (hd _ (eJ.mp c).1)
  rw [c]
  unfold ind
  simp
  omega
theorem cZ.start {ps rts : List Str} {root : Str} {rs : List T} (nd : ps.Nodup) (st : ∀ r ∈ rs, r.2.2.1 ∈ ps /\ r.2.2.2 ∈ ps) (h : ∀ l ∈ aA ps, 0 <= spr rs (root :: rts) l) : cZ ps rts [root] rs where
 nd := nd
 st := st
 ge := fun l hl => by
  have := h l hl
  unfold spr at this ⊢
  rw [du] at this
  omega
 gt := fun l hl hd => by
  have := h l hl
  unfold spr at this ⊢
  have c : root ∉ l := fun z => hd root z (by simp)
  rw [du, decide_eq_false c] at this
  unfold ind at this
  simp at this
  omega
noncomputable abbrev kvF (f : List Str -> Int) (ls : List (List Str)) : List (List Key × V) := ls.map fun l => (aQ l, V.int (f l))
theorem gf {f : List Str -> Int} : ∀ {ls : List (List Str)} {l : List Str}, l ∈ ls -> aV (kvF f ls) (aQ l) = some (.int (f l))
 | m :: r, l, h => by
  show aV ((aQ m, V.int (f m)) :: kvF f r) (aQ l) = _
  by_cases e : m = l
  ·subst e; exact ck rfl
  ·rw [bX (fun z => e (fv z))]
   exact gf ((List.mem_cons.mp h).resolve_left fun z => e z.symm)
noncomputable def e8 (f : List Str -> Int) (ls : List (List Str)) (fs : List Str) (r : T) : Bool := decide (r.2.2.1 ∈ fs) && !decide (r.2.2.2 ∈ fs) && ls.all fun l => !lead l r || decide (0 < f l)
noncomputable def cL (f : List Str -> Int) (ls : List (List Str)) (fs : List Str) (r : T) : Prop := r.2.2.1 ∈ fs /\ r.2.2.2 ∉ fs /\ ∀ l ∈ ls, lead l r = true -> 0 < f l
theorem kj {f : List Str -> Int} {ls : List (List Str)} {fs : List Str} {r : T} : e8 f ls fs r = true ↔ cL f ls fs r := by
 unfold e8 cL
 rw [Bool.and_eq_true, Bool.and_eq_true, List.all_eq_true, decide_eq_true_iff]
 constructor
 ·rintro ⟨⟨h1, h2⟩, h3⟩
  refine ⟨h1, by simpa using h2, fun l hl hle => ?_⟩
  have := h3 l hl
  rw [hle] at this
  simpa using this
 ·rintro ⟨h1, h2, h3⟩
  refine ⟨⟨h1, by simpa using h2⟩, fun l hl => ?_⟩
  cases c : lead l r with
  | false => rfl
  | true => simpa using h3 l hl c
theorem uh {f : List Str -> Int} {ls : List (List Str)} {fs : List Str} {rs : List T} {i : Nat} {r : T} (hi : rs[i]? = some r) (hno : ∀ q ∈ rs.take i, ¬ cL f ls fs q) (hg : cL f ls fs r) : rs.find? (e8 f ls fs) = some r := by
 obtain ⟨hlt, e⟩ := List.getElem?_eq_some_iff.mp hi
 have es : rs = rs.take i ++ r :: rs.drop (i + 1) := by
  conv => lhs; rw [<- List.take_append_drop i rs, List.drop_eq_getElem_cons hlt, e]
 rw [es, List.find?_append, List.find?_eq_none.mpr fun q hq c => hno q hq (kj.mp c), List.find?_cons_of_pos (kj.mpr hg)]
 rfl
section
variable {P : Program} {w : World} {K : PySem.W.Frag} {mg : Str -> Option Value} {base : Heap}
noncomputable def mC : Sp := fun vs H Q _ => ∃ (ra fo sd : Addr) (rs : List T) (fs : List Str) (f : List Str -> Int) (ls : List (List Str)), vs = [.ref ra, .ref fo, .ref sd] /\ (H ra = some (.lst (au rs)) \/ H ra = some (.tup (au rs))) /\ (∀ r ∈ rs, dj H r.1 r.2) /\
 H fo = some (.lst (fs.map V.str)) /\ H sd = some (.dT (kvF f ls)) /\ ls.length <= 255 /\ (∃ r ∈ rs, cL f ls fs r) /\
 ∀ (r : T) (t en : Addr) (lts : List (Addr × List Str)) (H' : Hp), aj H H' -> r ∈ rs -> cL f ls fs r -> rs.find? (e8 f ls fs) = some r -> H' t = some (.tup [.ref r.1, .ref en]) -> H' en = some (.lst (aq lts)) -> aO H' lts -> lts.map (·.2) = ls.filter (fun l => lead l r) -> H en = none -> Q (.ref t) H'
noncomputable abbrev N29 : List Str := ["rows", "found", "spare", "row", "entered"]
theorem jB : aL N29 ["rows", "found", "spare"] (aB (top 29)) := ⟨rfl, rfl, rfl, by decide +kernel, rfl, by decide +kernel, by decide +kernel⟩
theorem sO {f : Addr} {fd : FuncData} (F : Fun K "next_row" "next_row" (top 29) f fd) (B : Bl mg) (F1 : Fn P w K mg base 1 "leads_into" ["row", "lot"] i5) : aE P w K mg base CX0 2 f fd ["rows", "found", "spare"] mC := by
 refine F.ok jB (fun vs H Q E h => ?_) (fun cdv A outer s H vs Q E hr h => ?_)
 ·obtain ⟨ra, fo, sd, rs, fs, f, ls, rfl, _⟩ := h
  rfl
 ·obtain ⟨ra, fo, sd, rs, fs, f, ls, rfl, hra, hrow, hfo, hsd, hl255, hex, k⟩ := h
  have hr1 : aI 1 _ := hr.mono (by decide)
  refine ⟨_, am (bO PassesOwn.never rfl (gx (bB (pv 0)) (b7 (pv 0))) (aW (i := 3) jB.nd rfl (Or.inr rfl))
    (aw (bj (PW.pt (dZ (aR fW (aG bh (pv 3) ak (fun _ _ => rfl)) (pv 1) (by with_unfolding_all rfl)) (eP (aR gS (aG bh (pv 3) ak (fun _ _ => rfl)) (pv 1) (by with_unfolding_all rfl)))))
     (am (sI (dS (i := 4) (N := ["lot", "row"]) (ix := [none, some 3]) jB.nd rfl (Or.inl rfl) ⟨rfl, rfl, rfl, by decide⟩ rfl (ma (pv 2)) (fun _ _ _ _ => aS 0 (by decide) rfl rfl) (fun _ _ _ _ => cK (bA (ax F1 hr1 (aa (pv 1) (aa (pv 0) ae))))) (fun _ _ _ _ => pv 0)))
     (aw (bj (bA (ay (dO rfl) rfl B.all eo (aa (bq (N := ["lot", "spare"]) (ix := [none, some 2]) ⟨rfl, rfl, rfl, by decide⟩ rfl (bB (pv 4)) (fun _ _ _ _ => aS 0 (by decide) rfl rfl) (fun _ _ _ _ => bz)
      (fun _ _ _ _ => b5 cX (iV (fP hr) (pv 1) (pv 0) (fun _ _ => rfl)) ak (aT _))) ae)))
      (aw (aN (cq (aa (pv 3) (aa (pv 4) ae))))) be))) be)))
   (aw (aN gs)), ?_⟩
  refine iC (K := K) (Hb := H) (a := ra) (xs := au rs) (fun Q q => ⟨_, rfl, q⟩) hra (aj.refl H) (fun i σ H1 => aj H H1 /\ (∃ g1 g2, σ = [some (.ref ra), some (.ref fo), some (.ref sd), g1, g2]) /\ ∀ r ∈ rs.take i, ¬ cL f ls fs r)
   ⟨aj.refl _, ⟨_, _, rfl⟩, by simp⟩ (fun i σ H1 _ q => q.1) ?_ ?_
  ·rintro i x σ H1 hx ⟨s1, ⟨g1, g2, rfl⟩, hno⟩
   obtain ⟨r, hri, rfl⟩ := cO hx
   have hrm := List.mem_of_getElem? hri
   have hrr := s1 _ _ (hrow r hrm)
   have f1 := s1 _ _ hfo
   have step : ¬ cL f ls fs r -> ∀ q ∈ rs.take (i + 1), ¬ cL f ls fs q := fun hn q hq => by
    rw [List.take_add_one, hri] at hq
    rcases List.mem_append.mp hq with z | z
    ·exact hno q z
    ·have e : q = r := by simpa using z
     rw [e]; exact hn
   refine ⟨_, rfl, aJ (j := 1) (.inr (SqT.of hrr)) rfl rfl ⟨_, rfl, fo, _, rfl, .inl (SqL.of f1), rfl, bW _, _, rfl, ?_⟩⟩
   rw [bY]
   show if decide (r.2.2.1 ∈ fs) = true then _ else _
   by_cases c1 : r.2.2.1 ∈ fs
   ·rw [decide_eq_true c1]
    refine bG ⟨_, rfl, aJ (j := 2) (.inr (SqT.of hrr)) rfl rfl ⟨_, rfl, fo, _, rfl, .inl (SqL.of f1), rfl, bW _, _, rfl, ?_⟩⟩
    rw [bY]
    show if (!decide (r.2.2.2 ∈ fs)) = true then _ else _
    by_cases c2 : r.2.2.2 ∈ fs
    ·rw [decide_eq_true c2]
     exact bc ⟨s1, ⟨_, _, rfl⟩, step fun g => g.2.1 c2⟩
    ·rw [decide_eq_false c2]
     refine bG ⟨_, rfl, sd, _, rfl, s1 _ _ hsd, fun o => ?_⟩
     have hd1 := s1 _ _ hsd
     have e1 : upd H1 sd (.frz o (.dT (kvF f ls))) sd = some (.frz o (.dT (kvF f ls))) := ai
     have row1 : upd H1 sd (.frz o (.dT (kvF f ls))) r.1 = some (.tup [.str r.2.1, .str r.2.2.1, .str r.2.2.2]) := by
      rw [ag (fun z => by rw [z, hd1] at hrr; cases hrr)]; exact hrr
     refine qT (a := sd) (o := o) (kvs := kvF f ls) (fits (by rw [List.length_map]; omega)) (fun j ys σ H2 => H2 = upd H1 sd (.frz o (.dT (kvF f ls))) /\ (∃ x, σ = [x, some (.ref r.1)]) /\ ∃ lts : List (Addr × List Str), ys = aq lts /\ lts.length <= j /\ aO H1 lts /\ lts.map (·.2) = (ls.take j).filter (fun l => lead l r))
      ⟨rfl, ⟨_, rfl⟩, [], rfl, Nat.le_refl _, (fun x hx => nomatch hx), rfl⟩ (fun j ys σ H2 _ p => by obtain ⟨rfl, _, lts, rfl, hz, _⟩ := p; exact ⟨by simpa using hz, e1⟩) ?_ ?_
     ·rintro j p b ys σ H2 hp hb ⟨rfl, ⟨x, rfl⟩, lts, rfl, hz, hA, hm⟩
      rw [List.getElem?_map] at hp
      cases hc : ls[j]? with
      | none => rw [hc] at hp; cases hp
      | some l =>
       rw [hc] at hp
       cases hp
       have hb' : upd H1 sd (.frz o (.dT (kvF f ls))) b = some (.tup (l.map V.str)) := by rw [<- cS]; exact hb
       have hb1 : H1 b = some (.tup (l.map V.str)) := by
        rw [ag (fun z => by rw [z, ai] at hb'; cases hb')] at hb'; exact hb'
       have tf := cz (fun l : List Str => lead l r) ls j l hc
       refine ⟨_, rfl, _, rfl, b, r, l, rfl, row1, hb', _, rfl, bb (fun c => ⟨_, rfl, rfl, ⟨_, rfl⟩, lts ++ [(b, l)], ?_, ?_, ?_, ?_⟩) (fun c => ⟨rfl, ⟨_, rfl⟩, lts, rfl, by omega, hA, ?_⟩)⟩
       ·simp
       ·rw [List.length_append]; simp; omega
       ·intro x hx
        rcases List.mem_append.mp hx with z | z
        ·exact hA x z
        ·have e : x = (b, l) := by simpa using z
         subst e; exact hb1
       ·rw [List.map_append, hm, tf, c]; simp
       ·rw [hm, tf]; simp only [Bool.not_eq_true] at c; rw [c]; simp
     rintro ys σ H2 ⟨rfl, ⟨x, rfl⟩, lts, rfl, hz, hA, hm⟩ en hen
     rw [take_all ls (by simp)] at hm
     have nen : en ≠ sd := fun z => by rw [z, ai] at hen; cases hen
     have hen1 : H1 en = none := by rw [ag nen] at hen; exact hen
     refine ⟨sd, o, _, by rw [ag nen.symm]; exact ai, fun o' u' (z : H sd = _) => (by rw [hsd] at z; cases z), ?_⟩
     have s2 : aj H1 (upd (upd (upd H1 sd (.frz o (.dT (kvF f ls)))) en (.lst (aq lts))) sd (.dT (kvF f ls))) := fun b ob e => by
      by_cases z : b = sd
      ·subst z; rw [ai, <- e, hd1]
      ·rw [ag z, ag (av e hen1), ag z]; exact e
     have en2 : (upd (upd (upd H1 sd (.frz o (.dT (kvF f ls)))) en (.lst (aq lts))) sd (.dT (kvF f ls))) en = some (.lst (aq lts)) := by rw [ag nen, ai]
     generalize upd (upd (upd H1 sd (.frz o (.dT (kvF f ls)))) en (.lst (aq lts))) sd (.dT (kvF f ls)) = H3 at s2 en2 ⊢
     have hd3 := s2 _ _ hd1
     have hz' : lts.length <= 255 := by
      have e2 := congrArg List.length hm
      rw [List.length_map] at e2
      have := List.length_filter_le (fun l : List Str => lead l r) ls
      omega
     have hmem : ∀ x ∈ lts, x.2 ∈ ls /\ lead x.2 r = true := fun x hx => by
      have : x.2 ∈ lts.map (·.2) := List.mem_map_of_mem hx
      rw [hm] at this
      exact List.mem_filter.mp this
     refine ⟨_, rfl, en, rfl, ⟨_, SqL.of en2⟩, eI (xs := aq lts) (fits (by rw [List.length_map]; omega)) (fun j ys σ H4 => ys = ((lts.take j).map fun x => decide (0 < f x.2)).map V.bl /\ H4 = H3 /\ ∃ x, σ = [x, some (.ref sd)]) ⟨rfl, rfl, _, rfl⟩
      (fun j ys σ H4 _ p => ⟨by rw [p.1]; simp; omega, by rw [p.2.1]; exact SqL.of en2⟩) ?_ ?_⟩
     ·rintro j y ys σ H4 hy ⟨rfl, rfl, x, rfl⟩
      obtain ⟨lt, hlt, rfl⟩ := cQ hy
      have hm' := List.mem_of_getElem? hlt
      have gd : cf H4 sd (.ref lt.1) (some (.int (f lt.2))) := by
       rw [<- gf (f := f) (hmem lt hm').1]; exact cf.t hd3 (by rw [cS]; exact s2 _ _ (hA lt hm'))
      refine ⟨_, rfl, _, rfl, sd, _, rfl, gd, _, _, rfl, rfl, ?_, rfl, _, rfl⟩
      rw [List.take_add_one, hlt]; simp
     ·rintro ys σ H4 ⟨rfl, rfl, x, rfl⟩ al hal
      rw [take_all lts (by simp)]
      refine ⟨al, _, rfl, SqL.of ai, _, rfl, ?_⟩
      have s4 := ar (o := .lst ((lts.map fun x => decide (0 < f x.2)).map V.bl)) (aj.refl H4) hal
      generalize upd H4 al (.lst ((lts.map fun x => decide (0 < f x.2)).map V.bl)) = H5 at s4 ⊢
      have s05 := s1.trans (s2.trans s4)
      refine bb (fun c => ?_) (fun c => ⟨s05, ⟨_, _, rfl⟩, step fun g => c ?_⟩)
      ·refine ⟨_, rfl, _, rfl, by show 2 <= sizeLine; decide, fun t ht => ?_⟩
       have s6 := ar (o := .tup [.ref r.1, .ref en]) (aj.refl H5) ht
       have hgood : cL f ls fs r := ⟨c1, c2, fun l hl hle => by
        have hin : l ∈ lts.map (·.2) := by rw [hm]; exact List.mem_filter.mpr ⟨hl, hle⟩
        obtain ⟨x, hx, rfl⟩ := List.mem_map.mp hin
        have := List.all_eq_true.mp c (decide (0 < f x.2)) (List.mem_map_of_mem (f := fun x : Addr × List Str => decide (0 < f x.2)) hx)
        exact of_decide_eq_true this⟩
       exact k r t en lts _ (s05.trans s6) hrm hgood (uh hri hno hgood) ai (s6 _ _ (s4 _ _ en2)) (fun x hx => s6 _ _ (s4 _ _ (s2 _ _ (hA x hx)))) hm (s1.free hen1)
      ·refine List.all_eq_true.mpr fun b hb => ?_
       obtain ⟨x, hx, rfl⟩ := List.mem_map.mp hb
       obtain ⟨h1, h2⟩ := hmem x hx
       exact decide_eq_true (g.2.2 _ h1 h2)
   ·rw [decide_eq_false c1]
    exact bc (bc ⟨s1, ⟨_, _, rfl⟩, step fun g => c1 g.1⟩)
  ·rintro σ H1 ⟨s1, ⟨g1, g2, rfl⟩, hno⟩
   rw [take_all rs (by simp)] at hno
   obtain ⟨r, hr', hg⟩ := hex
   exact absurd hg (hno r hr')
end
theorem sg {f : List Str -> Int} {ls : List (List Str)} {l : List Str} {z : Int} (h : l ∈ ls) : putK (kvF f ls) (aQ l) (.int z) = kvF (fun m => if m = l then z else f m) ls := by
 unfold putK
 have ha : ((kvF f ls).any fun kv => decide (kv.1 = aQ l)) = true := by rw [dU, gf h]; rfl
 rw [if_pos ha]
 unfold kvF
 rw [List.map_map]
 refine List.map_congr_left fun m _ => ?_
 show (if aQ m = aQ l then (aQ m, V.int z) else (aQ m, V.int (f m))) = _
 by_cases e : m = l
 ·subst e; simp
 ·rw [if_neg (fun q => e (fv q))]
  show _ = (aQ m, V.int (if m = l then z else f m))
  rw [if_neg e]
theorem il {f g : List Str -> Int} {ls : List (List Str)} (h : ∀ l ∈ ls, f l = g l) : kvF f ls = kvF g ls := List.map_congr_left fun l hl => by rw [h l hl]
noncomputable abbrev ends (tr : List T) : List Str := tr.map fun r => r.2.2.2
structure SpT (root : Str) (ps : List Str) (tr : List T) : Prop where
 nd : (root :: ends tr).Nodup
 sub : ∀ x ∈ root :: ends tr, x ∈ ps
 ord : ∀ i r, tr[i]? = some r -> r.2.2.1 ∈ root :: ends (tr.take i)
theorem SpT.start {root : Str} {ps : List Str} (h : root ∈ ps) : SpT root ps [] := ⟨by simp, by simpa using h, fun i r e => by simp at e⟩
theorem SpT.add {root : Str} {ps : List Str} {tr : List T} {r : T} (S : SpT root ps tr) (h1 : r.2.2.1 ∈ root :: ends tr) (h2 : r.2.2.2 ∉ root :: ends tr) (h3 : r.2.2.2 ∈ ps) : SpT root ps (tr ++ [r]) where
 nd := by
  have e : root :: ends (tr ++ [r]) = (root :: ends tr) ++ [r.2.2.2] := by simp [ends]
  rw [e]
  exact List.nodup_append.mpr ⟨S.nd, by simp, fun a ha b hb => by
   have : b = r.2.2.2 := by simpa using hb
   rw [this]
   exact fun z => h2 (z ▸ ha)⟩
 sub := fun x hx => by
  have e : root :: ends (tr ++ [r]) = (root :: ends tr) ++ [r.2.2.2] := by simp [ends]
  rw [e] at hx
  rcases List.mem_append.mp hx with z | z
  ·exact S.sub x z
  ·have : x = r.2.2.2 := by simpa using z
   rw [this]; exact h3
 ord := fun i q hq => by
  by_cases hi : i < tr.length
  ·rw [List.getElem?_append_left hi] at hq
   rw [List.take_append_of_le_length (by omega)]
   exact S.ord i q hq
  ·rw [List.getElem?_append_right (by omega)] at hq
   have hz : i - tr.length = 0 := by
    cases hc : i - tr.length with
    | zero => rfl
    | succ n => rw [hc] at hq; simp at hq
   rw [hz] at hq
   have e : q = r := by simpa using hq.symm
   subst e
   have : i = tr.length := by omega
   subst this
   rw [List.take_left']
   ·exact h1
   ·rfl
theorem eY : ∀ {a b : List Str}, a.Nodup -> (∀ x ∈ a, x ∈ b) -> a.length <= b.length
 | [], _, _, _ => Nat.zero_le _
 | x :: a, b, hn, hs => by
  obtain ⟨h1, h2⟩ := List.nodup_cons.mp hn
  have hx := hs x List.mem_cons_self
  have ih := eY (a := a) (b := b.erase x) h2 (fun y hy => (List.mem_erase_of_ne (a := y) (b := x) (fun z : y = x => h1 (z ▸ hy))).mpr (hs y (List.mem_cons_of_mem _ hy)))
  rw [List.length_erase_of_mem hx] at ih
  have := List.length_pos_of_mem hx
  simp
  omega
theorem uP {a b : List Str} (hb : b.Nodup) (hl : a.length < b.length) : ∃ x ∈ b, x ∉ a := by
 by_cases c : ∃ x ∈ b, x ∉ a
 ·exact c
 ·have : ∀ x ∈ b, x ∈ a := fun x hx => by
   by_cases d : x ∈ a
   ·exact d
   ·exact absurd ⟨x, hx, d⟩ c
  have := eY hb this
  omega
noncomputable def ce (ps later : List Str) (rs : List T) (root : Str) : Nat -> List T × List T
 | 0 => ([], rs)
 | n + 1 => match rs.find? (e8 (spr (ce ps later rs root n).2 later) (aA ps) (root :: ends (ce ps later rs root n).1)) with
  | some r => ((ce ps later rs root n).1 ++ [r], (ce ps later rs root n).2.erase r)
  | none => ce ps later rs root n
theorem pE {ps later : List Str} {rs tr rem : List T} {root : Str} {n : Nat} {r : T} (h : ce ps later rs root n = (tr, rem)) (hf : rs.find? (e8 (spr rem later) (aA ps) (root :: ends tr)) = some r) : ce ps later rs root (n + 1) = (tr ++ [r], rem.erase r) := by
 unfold ce
 rw [h]
 dsimp only
 rw [hf]
section
variable {P : Program} {w : World} {K : PySem.W.Frag} {mg : Str -> Option Value} {base : Heap}
noncomputable def lR : Sp := fun vs H Q _ => ∃ (pa ra la : Addr) (root : Str) (ps later : List Str) (rs : List T), vs = [.ref pa, .ref ra, .str root, .ref la] /\ H pa = some (.tup (ps.map V.str)) /\ (H ra = some (.lst (au rs)) \/ H ra = some (.tup (au rs))) /\ (∀ r ∈ rs, dj H r.1 r.2) /\ rs.length <= 60 /\
 ps.Nodup /\ ps.length <= 8 /\ root ∈ ps /\ (∀ r ∈ rs, r.2.2.1 ∈ ps /\ r.2.2.2 ∈ ps) /\ H la = some (.tup (later.map V.str)) /\ later.length <= 100 /\ (∀ l ∈ aA ps, 0 <= spr rs (root :: later) l) /\
 ∀ (q : Addr) (tr rem : List T) (H' : Hp), aj H H' -> H q = none -> H' q = some (.lst (au tr)) -> rs.Perm (tr ++ rem) -> (∀ l ∈ aA ps, 0 <= spr rem later l) -> SpT root ps tr -> tr.length + 1 = ps.length -> ce ps later rs root (ps.length - 1) = (tr, rem) -> Q (.ref q) H'
noncomputable abbrev N30 : List Str := ["places", "rows", "root", "later", "spare", "found", "tree", "row", "entered", "lot"]
theorem eD : aL N30 ["places", "rows", "root", "later"] (aB (top 30)) := ⟨rfl, rfl, rfl, by decide +kernel, rfl, by decide +kernel, by decide +kernel⟩
theorem qR {f : Addr} {fd : FuncData} (F : Fun K "grown" "grown" (top 30) f fd) (B : Bl mg) (F1 : Fn P w K mg base 3 "spare_into" ["rows", "lots", "roots"] iR) (F2 : Fn P w K mg base 1 "lots_among" ["places"] iE) (F3 : Fn P w K mg base 2 "next_row" ["rows", "found", "spare"] mC) : aE P w K mg base CX0 4 f fd ["places", "rows", "root", "later"] lR := by
 refine F.ok eD (fun vs H Q E h => ?_) (fun cdv A outer s H vs Q E hr h => ?_)
 ·obtain ⟨pa, ra, la, root, ps, later, rs, rfl, _⟩ := h
  rfl
 ·obtain ⟨pa, ra, la, root, ps, later, rs, rfl, hpa, hra, hrow, hrz, hnd, h8, hroot, hst, hla, hl100, hge, k⟩ := h
  have hr1 : aI 1 _ := hr.mono (by decide)
  have hr2 : aI 2 _ := hr.mono (by decide)
  refine ⟨_, am (aM (i := 4) eD.nd rfl (Or.inl rfl) (ax F1 hr (aa (pv 1) (aa (ax F2 hr1 (aa (pv 0) ae)) (aa (pv 3) ae)))))
   (am (aM (i := 5) eD.nd rfl (Or.inl rfl) (bC (aa (pv 2) ae)))
   (am (aM (i := 6) eD.nd rfl (Or.inl rfl) (bC ae))
   (am (rP PassesOwn.never (aR gw (ay bo rfl B.len PySem.boot_len (aa (pv 5) ae)) (ay bo rfl B.len PySem.boot_len (aa (pv 0) ae)) (aT _))
    (am (dC (ax F3 hr2 (aa (pv 1) (aa (pv 5) (aa (pv 4) ae)))) (dz rfl (n := 2) (bv (aW (i := 7) eD.nd rfl (Or.inl rfl)) (bv (aW (i := 8) eD.nd rfl (Or.inl rfl)) cV))))
    (am (cD (cY PySem.F.plainAttrs_list PySem.F.slot_list_append PySem.F.type_list_append dN (pv 5) (aa (aG bh (pv 7) ak (fun _ _ => rfl)) ae)))
    (am (cD (cY PySem.F.plainAttrs_list PySem.F.slot_list_append PySem.F.type_list_append dN (pv 6) (aa (pv 7) ae)))
    (aw (bO PassesOwn.never rfl (bB (pv 8)) (aW (i := 9) eD.nd rfl (Or.inl rfl)) (aw (mj (fP hr) (pv 4) (pv 9) ak vo (fun _ _ _ => rfl)))))))))
   (aw (aN (pv 6)))))), ?_⟩
  refine ⟨_, rfl, _, rfl, pa, ps, rfl, .inr hpa, h8, fun q lts H1 s1 q1 A1 e1 => ?_⟩
  have hll : lts.length <= 255 := by
   have e2 := congrArg List.length e1
   rw [List.length_map] at e2
   have e3 := iN ps
   have e4 := fG h8
   omega
  refine ⟨_, rfl, ra, q, la, rs, lts, later, rfl, hra.imp (s1 _ _) (s1 _ _), fun r hr => s1 _ _ (hrow r hr), hrz, q1, A1, by rw [e1]; exact gZ hnd, hll, s1 _ _ hla, hl100, fun sd H2 s2 hsd0 d2 => ?_⟩
  rw [e1] at d2
  have hl256 : (aA ps).length <= 255 := by rw [<- e1, List.length_map]; exact hll
  have s02 := s1.trans s2
  have hsd : H sd = none := s1.free hsd0
  refine ⟨_, rfl, by show 1 <= sizeLine; decide, fun fo hfo => ?_⟩
  have s3 := ar (o := .lst [.str root]) s02 hfo
  have f3 : upd H2 fo (.lst [.str root]) fo = some (.lst ((root :: ends []).map V.str)) := ai
  have nsf : sd ≠ fo := av d2 hfo
  have d3 : upd H2 fo (.lst [.str root]) sd = some (.dT (kvF (spr rs later) (aA ps))) := by rw [ag nsf]; exact d2
  generalize upd H2 fo (.lst [.str root]) = H3 at s3 f3 d3 ⊢
  refine ⟨Nat.zero_le _, fun tk htk => ?_⟩
  have hfo0 : H fo = none := s02.free hfo
  have htk0 : H tk = none := s3.free htk
  have nst : sd ≠ tk := av d3 htk
  have nft : fo ≠ tk := av f3 htk
  have s4 := ar (o := .lst []) s3 htk
  have d4 : upd H3 tk (.lst []) sd = some (.dT (kvF (spr rs later) (aA ps))) := by rw [ag nst]; exact d3
  have f4 : upd H3 tk (.lst []) fo = some (.lst ((root :: ends []).map V.str)) := by rw [ag nft]; exact f3
  have t4 : upd H3 tk (.lst []) tk = some (.lst (au [])) := ai
  generalize upd H3 tk (.lst []) = H4 at s4 d4 f4 t4 ⊢
  refine ⟨fun m σ H5 => ∃ (tr rem : List T) (g1 g2 g3 : Option V), σ = [some (.ref pa), some (.ref ra), some (.str root), some (.ref la), some (.ref sd), some (.ref fo), some (.ref tk), g1, g2, g3] /\ m = 100 - tr.length /\ rs.Perm (tr ++ rem) /\ cZ ps later (root :: ends tr) rem /\ SpT root ps tr /\ ce ps later rs root tr.length = (tr, rem) /\ aj H H5 /\ H5 sd = some (.dT (kvF (spr rem later) (aA ps))) /\ H5 fo = some (.lst ((root :: ends tr).map V.str)) /\ H5 tk = some (.lst (au tr)),
   ⟨_, [], rs, none, none, none, rfl, rfl, List.Perm.refl _, cZ.start hnd hst hge, SpT.start hroot, rfl, s4, d4, f4, t4⟩, ?_⟩
  rintro m σ H5 ⟨tr, rem, g1, g2, g3, rfl, rfl, hp, G, S, gF, s5, d5, f5, t5⟩
  have htl : tr.length + 1 <= ps.length := by
   have := eY S.nd S.sub
   simpa using this
  refine ⟨_, rfl, fo, _, rfl, .inl (SqL.of f5), _, rfl, pa, _, rfl, .inr (SqT.of (s5 _ _ hpa)), _, _, rfl, rfl, _, rfl, bb (fun c => ?_) (fun c => ?_)⟩
  ·have hlt : tr.length + 1 < ps.length := by
    have := of_decide_eq_true c
    simp at this
    omega
   refine ⟨fun σ' H' => ∃ m', m' < 100 - tr.length /\ ∃ (tr rem : List T) (g1 g2 g3 : Option V), σ' = [some (.ref pa), some (.ref ra), some (.str root), some (.ref la), some (.ref sd), some (.ref fo), some (.ref tk), g1, g2, g3] /\ m' = 100 - tr.length /\ rs.Perm (tr ++ rem) /\ cZ ps later (root :: ends tr) rem /\ SpT root ps tr /\ ce ps later rs root tr.length = (tr, rem) /\ aj H H' /\ H' sd = some (.dT (kvF (spr rem later) (aA ps))) /\ H' fo = some (.lst ((root :: ends tr).map V.str)) /\ H' tk = some (.lst (au tr)), fun σ' H' q => q, ?_⟩
   have hex : ∃ r ∈ rs, cL (spr rem later) (aA ps) (root :: ends tr) r := by
    obtain ⟨r, hr, hg⟩ := G.ex (uP hnd (by simpa using hlt))
    exact ⟨r, hp.mem_iff.mpr (List.mem_append_right _ hr), hg⟩
   refine ⟨_, rfl, _, rfl, _, rfl, ra, fo, sd, rs, root :: ends tr, spr rem later, aA ps, rfl, hra.imp (s5 _ _) (s5 _ _), fun r hr => s5 _ _ (hrow r hr), f5, d5, hl256, hex, fun r t en lts H6 s6 hr hg hfind t6 en6 A6 m6 hen => ?_⟩
   have s06 := s5.trans s6
   have hrow6 := s06 _ _ (hrow r hr)
   have hrem : r ∈ rem := by
    rcases List.mem_append.mp (hp.mem_iff.mp hr) with z | z
    ·exact absurd (List.mem_cons_of_mem _ (List.mem_map_of_mem (f := fun r : T => r.2.2.2) z)) hg.2.1
    ·exact z
   have hpr := List.perm_cons_erase hrem
   have G' := G.step hg hpr
   have S' := S.add hg.1 hg.2.1 (hst r hr).2
   have hp' : rs.Perm ((tr ++ [r]) ++ rem.erase r) := by
    rw [List.append_assoc]
    exact hp.trans (hpr.append_left tr)
   have ee : (root :: ends tr) ++ [r.2.2.2] = root :: ends (tr ++ [r]) := by simp [ends]
   rw [ee] at G'
   have d6 := s6 _ _ d5
   have f6 := s6 _ _ f5
   have t6' := s6 _ _ t5
   have nen1 : en ≠ sd := fun z => by rw [z, d5] at hen; cases hen
   have nen2 : en ≠ fo := fun z => by rw [z, f5] at hen; cases hen
   have nen3 : en ≠ tk := fun z => by rw [z, t5] at hen; cases hen
   refine ⟨t, _, rfl, SqT.of t6, rfl, _, _, rfl, _, _, rfl, rfl, ?_⟩
   have hel : (root :: ends tr).length <= 8 := by simp; omega
   refine ⟨_, rfl, .inl ⟨rfl, _, SqL.of f6⟩, _, rfl, aJ (j := 2) (.inr (SqT.of hrow6)) rfl rfl ⟨fo, _, _, rfl, rfl, f6, fits (by rw [List.length_map]; omega), ?_⟩⟩
   have s7 := dv (o := .lst ((root :: ends tr).map V.str ++ [V.str r.2.2.2])) s06 hfo0
   have f7 : upd H6 fo (.lst ((root :: ends tr).map V.str ++ [V.str r.2.2.2])) fo = some (.lst ((root :: ends (tr ++ [r])).map V.str)) := by rw [ai]; simp [ends]
   have d7 : upd H6 fo (.lst ((root :: ends tr).map V.str ++ [V.str r.2.2.2])) sd = some (.dT (kvF (spr rem later) (aA ps))) := by rw [ag nsf]; exact d6
   have t7 : upd H6 fo (.lst ((root :: ends tr).map V.str ++ [V.str r.2.2.2])) tk = some (.lst (au tr)) := by rw [ag nft.symm]; exact t6'
   have en7 : upd H6 fo (.lst ((root :: ends tr).map V.str ++ [V.str r.2.2.2])) en = some (.lst (aq lts)) := by rw [ag nen2]; exact en6
   have A7 : aO (upd H6 fo (.lst ((root :: ends tr).map V.str ++ [V.str r.2.2.2]))) lts := fun x hx => by
    have := A6 x hx
    rw [ag (fun z => by rw [z, f6] at this; cases this)]; exact this
   generalize upd H6 fo (.lst ((root :: ends tr).map V.str ++ [V.str r.2.2.2])) = H7 at s7 f7 d7 t7 en7 A7 ⊢
   refine ⟨_, rfl, .inl ⟨rfl, _, SqL.of t7⟩, _, rfl, tk, _, _, rfl, rfl, t7, fits (by rw [List.length_map]; omega), ?_⟩
   have s8 := dv (o := .lst (au tr ++ [V.ref r.1])) s7 htk0
   have t8 : upd H7 tk (.lst (au tr ++ [V.ref r.1])) tk = some (.lst (au (tr ++ [r]))) := by rw [ai]; simp [au]
   have d8 : upd H7 tk (.lst (au tr ++ [V.ref r.1])) sd = some (.dT (kvF (spr rem later) (aA ps))) := by rw [ag nst]; exact d7
   have f8 : upd H7 tk (.lst (au tr ++ [V.ref r.1])) fo = some (.lst ((root :: ends (tr ++ [r])).map V.str)) := by rw [ag nft]; exact f7
   have en8 : upd H7 tk (.lst (au tr ++ [V.ref r.1])) en = some (.lst (aq lts)) := by rw [ag nen3]; exact en7
   have A8 : aO (upd H7 tk (.lst (au tr ++ [V.ref r.1]))) lts := fun x hx => by
    have := A7 x hx
    rw [ag (fun z => by rw [z, t7] at this; cases this)]; exact this
   generalize upd H7 tk (.lst (au tr ++ [V.ref r.1])) = H8 at s8 t8 d8 f8 en8 A8 ⊢
   have lnd : (lts.map (·.2)).Nodup := by rw [m6]; exact (gZ hnd).filter _
   have hmem : ∀ x ∈ lts, x.2 ∈ aA ps /\ lead x.2 r = true := fun x hx => by
    have : x.2 ∈ lts.map (·.2) := List.mem_map_of_mem hx
    rw [m6] at this
    exact List.mem_filter.mp this
   refine ⟨_, rfl, en, rfl, ⟨_, SqL.of en8⟩, eK (K := K) (a := en) (xs := aq lts) (fun j σ H9 => (∃ g3, σ = [some (.ref pa), some (.ref ra), some (.str root), some (.ref la), some (.ref sd), some (.ref fo), some (.ref tk), some (.ref r.1), some (.ref en), g3]) /\ aj H H9 /\ H9 sd = some (.dT (kvF (fun l => spr rem later l - (if l ∈ (lts.take j).map (·.2) then 1 else 0)) (aA ps))) /\ H9 fo = some (.lst ((root :: ends (tr ++ [r])).map V.str)) /\ H9 tk = some (.lst (au (tr ++ [r]))) /\ H9 en = some (.lst (aq lts)) /\ aO H9 lts)
    ⟨⟨_, rfl⟩, s8, ?_, f8, t8, en8, A8⟩ (fun j σ H9 _ p => SqL.of p.2.2.2.2.2.1) ?_ ?_⟩
   ·rw [d8]
    refine congrArg (fun x => some (HO.dT x)) (il fun l _ => ?_)
    simp
   ·rintro j x σ H9 hx ⟨⟨g3, rfl⟩, s9, d9, f9, t9, en9, A9⟩
    obtain ⟨lt, hlt, rfl⟩ := cQ hx
    have hm := List.mem_of_getElem? hlt
    have hnew : lt.2 ∉ (lts.take j).map (·.2) := fun hmm => by
     have nd := lnd.sublist ((List.take_sublist (j + 1) lts).map (fun x : Addr × List Str => x.2))
     rw [List.take_add_one, hlt, List.map_append] at nd
     exact (List.nodup_append.mp nd).2.2 _ hmm lt.2 (by simp) rfl
    have hA9 := A9 lt hm
    have gd : cf H9 sd (.ref lt.1) (some (.int (spr rem later lt.2))) := by
     have g := cf.t (k := aQ lt.2) (b := lt.1) d9 (by rw [cS]; exact hA9)
     rw [gf (hmem lt hm).1] at g
     simp only [hnew, if_false, Int.sub_zero] at g
     exact g
    refine ⟨_, rfl, _, rfl, sd, _, rfl, gd, _, _, rfl, rfl, _, fg.t d9 (by rw [cS]; exact hA9) (fits (by rw [List.length_map]; omega)), ⟨_, rfl⟩, dv s9 hsd, ?_, ?_, ?_, ?_, ?_⟩
    ·rw [ai, sg (hmem lt hm).1]
     refine congrArg (fun x => some (HO.dT x)) (il fun l _ => ?_)
     rw [List.take_add_one, hlt]
     by_cases e : l = lt.2
     ·subst e
      simp
     ·simp [e]
    ·rw [ag nsf.symm]; exact f9
    ·rw [ag nst.symm]; exact t9
    ·rw [ag nen1]; exact en9
    ·intro x hx
     have := A9 x hx
     rw [ag (fun z => by rw [z, d9] at this; cases this)]; exact this
   ·rintro σ H9 ⟨⟨g3, rfl⟩, s9, d9, f9, t9, en9, A9⟩
    refine ⟨_, ?_, tr ++ [r], rem.erase r, _, _, _, rfl, rfl, hp', G', S', by rw [List.length_append]; exact pE gF hfind, s9, ?_, f9, t9⟩
    ·rw [List.length_append]; simp; omega
    ·rw [d9]
     refine congrArg (fun x => some (HO.dT x)) (il fun l hl => ?_)
     rw [take_all lts (by simp), m6, iG hpr]
     unfold ind
     cases hc : lead l r with
     | true =>
      have : l ∈ (aA ps).filter fun l => lead l r := List.mem_filter.mpr ⟨hl, hc⟩
      simp [this]
     | false =>
      have : l ∉ (aA ps).filter fun l => lead l r := fun z => by
       have := (List.mem_filter.mp z).2
       rw [hc] at this; cases this
      simp [this]
  ·have hle : ps.length <= tr.length + 1 := by
    have : ¬ (((root :: ends tr).map V.str).length : Int) < ((ps.map V.str).length : Int) := fun z => c (decide_eq_true z)
    simp at this
    omega
   exact ⟨_, rfl, k tk tr rem H5 s5 htk0 t5 hp G.ge S (by omega) (by rw [show ps.length - 1 = tr.length by omega]; exact gF)⟩
end
end K42
namespace L2
open PySem
theorem rC {K : PySem.W.Frag} {tl : TE} {g : TG} {tt : TT} {te : TE} {ix : List (Option Nat)} {n : Nat} {D : Ends} {σ : St} {H Hb : Hp} {a : Addr} {xs : List V} (hn : xs.length < sizeLine) (htl : ∀ Q : VK, Q (.ref a) H -> tl σ H Q) (hb : Hb a = some (.lst xs) \/ Hb a = some (.tup xs)) (s0 : aj Hb H) (Pv : Nat -> List V -> St -> Hp -> Prop) (h0 : Pv 0 [] (emb ix σ) H)
  (hl : ∀ i ys σ' H', i <= xs.length -> Pv i ys σ' H' -> ys.length <= i /\ aj Hb H')
  (hs : ∀ i x ys σ H, xs[i]? = some x -> Pv i ys σ H -> g x σ H fun σ2 H2 => tt σ2 H2 fun b H3 => if b = true then te σ2 H3 (fun v H4 => Pv (i + 1) (ys ++ [v]) σ2 H4) else Pv (i + 1) ys σ2 H3)
  (hd : ∀ ys σ' H, Pv xs.length ys σ' H -> ∀ p, H p = none -> D.nx (σ.set n (some (.ref p))) (upd H p (.lst ys))) : mx n (iOr (jk K tl) (jA K tl)) g tt te ix D σ H := by
 rcases hb with hb | hb
 ·exact .inl (htl _ ⟨a, rfl, ⟨xs, SqL.of (s0 _ _ hb)⟩, iK hn Pv h0 (fun i ys σ H' hi p => ⟨(hl i ys σ H' hi p).1, SqL.of ((hl i ys σ H' hi p).2 _ _ hb)⟩) hs hd⟩)
 ·exact .inr (htl _ ⟨a, rfl, ⟨xs, SqT.of (s0 _ _ hb)⟩, i4 hn Pv h0 (fun i ys σ H' hi p => ⟨(hl i ys σ H' hi p).1, SqT.of ((hl i ys σ H' hi p).2 _ _ hb)⟩) hs hd⟩)
end L2
namespace K42
open PySem L2
theorem sT (K : PySem.W.Frag) {X : Cx} {k : Nat} (hr : aI k X.A) (h : X.K = K := by rfl) : OpR X (compareOp .NotIn) (lA K) := by subst h; exact qb hr
noncomputable abbrev tri (r : T) : List Str := [r.2.1, r.2.2.1, r.2.2.2]
noncomputable abbrev tna (tr : List T) : List Str := tr.map fun r => r.2.1
theorem qy {cur tr rem : List T} (hp : cur.Perm (tr ++ rem)) (hn : (tna cur).Nodup) : (cur.filter fun r => !decide (tri r ∈ tr.map tri)).Perm rem := by
 have h1 := hp.filter (fun r => !decide (tri r ∈ tr.map tri))
 rw [List.filter_append] at h1
 have hn' : (tna (tr ++ rem)).Nodup := (hp.map _).nodup_iff.mp hn
 have e1 : tr.filter (fun r => !decide (tri r ∈ tr.map tri)) = [] := List.filter_eq_nil_iff.mpr fun r hr => by
  have : tri r ∈ tr.map tri := List.mem_map_of_mem hr
  simp [this]
 have e2 : rem.filter (fun r => !decide (tri r ∈ tr.map tri)) = rem := List.filter_eq_self.mpr fun r hr => by
  have : tri r ∉ tr.map tri := fun z => by
   obtain ⟨q, hq, e⟩ := List.mem_map.mp z
   have e' : q.2.1 = r.2.1 := (List.cons.inj e).1
   have hn2 : (tna tr ++ tna rem).Nodup := by rw [<- List.map_append]; exact hn'
   exact (List.nodup_append.mp hn2).2.2 q.2.1 (List.mem_map_of_mem (f := fun r : T => r.2.1) hq) r.2.1 (List.mem_map_of_mem (f := fun r : T => r.2.1) hr) e'
  simp [this]
 rw [e1, e2, List.nil_append] at h1
 exact h1
theorem rG {a b : List T} (h : a.Perm b) (rts l : List Str) : spr a rts l = spr b rts l := by unfold spr; rw [kJ h]
noncomputable def dh (ps rts : List Str) (rs : List T) : Nat -> List (List T) × List T
 | 0 => ([], rs)
 | n + 1 => match rts[n]? with
  | some root => ((dh ps rts rs n).1 ++ [(ce ps (rts.drop (n + 1)) (dh ps rts rs n).2 root (ps.length - 1)).1], (dh ps rts rs n).2.filter fun r => !decide (tri r ∈ ((ce ps (rts.drop (n + 1)) (dh ps rts rs n).2 root (ps.length - 1)).1).map tri))
  | none => dh ps rts rs n
theorem oX {ps rts : List Str} {rs cur tr rem : List T} {trs : List (List T)} {n : Nat} {root : Str} (h : dh ps rts rs n = (trs, cur)) (hn : rts[n]? = some root) (hg : ce ps (rts.drop (n + 1)) cur root (ps.length - 1) = (tr, rem)) : dh ps rts rs (n + 1) = (trs ++ [tr], cur.filter fun r => !decide (tri r ∈ tr.map tri)) := by
 show (match rts[n]? with | some root => _ | none => _) = _
 rw [hn]
 dsimp only
 rw [h]
 dsimp only
 rw [hg]
structure Trs (ps rts : List Str) (rs : List T) (n : Nat) (trs : List (List T)) (tls : List (Addr × List Str)) (cur : List T) : Prop where
 l1 : trs.length = n
 l2 : tls.length = n
 pm : rs.Perm (trs.flatten ++ cur)
 fn : dh ps rts rs n = (trs, cur)
 tr : ∀ (i : Nat) (root : Str) (tr : List T) (x : Addr × List Str), rts[i]? = some root -> trs[i]? = some tr -> tls[i]? = some x -> SpT root ps tr /\ tr.length + 1 = ps.length /\ x.2.Perm (tna tr) /\ PyProof.Rows.sortedS x.2 = true
theorem Trs.add {ps rts : List Str} {rs : List T} {n : Nat} {trs : List (List T)} {tls : List (Addr × List Str)} {cur : List T} (h : Trs ps rts rs n trs tls cur) {root : Str} {tr cur' : List T} {x : Addr × List Str} (hn : rts[n]? = some root) (hp : cur.Perm (tr ++ cur')) (S : SpT root ps tr) (hl : tr.length + 1 = ps.length) (hx : x.2.Perm (tna tr)) (hso : PyProof.Rows.sortedS x.2 = true) (hfn : dh ps rts rs (n + 1) = (trs ++ [tr], cur')) : Trs ps rts rs (n + 1) (trs ++ [tr]) (tls ++ [x]) cur' where
 l1 := by rw [List.length_append, h.l1]; rfl
 l2 := by rw [List.length_append, h.l2]; rfl
 pm := by
  rw [List.flatten_append, List.append_assoc]
  refine h.pm.trans (List.Perm.append_left _ ?_)
  simpa using hp
 fn := hfn
 tr := fun i rt t y hr ht hy => by
  by_cases hi : i < n
  ·rw [List.getElem?_append_left (by rw [h.l1]; exact hi)] at ht
   rw [List.getElem?_append_left (by rw [h.l2]; exact hi)] at hy
   exact h.tr i rt t y hr ht hy
  ·have hlt : i < (trs ++ [tr]).length := (List.getElem?_eq_some_iff.mp ht).1
   rw [List.length_append, h.l1] at hlt
   have e : i = n := by simp at hlt; omega
   subst e
   rw [List.getElem?_append_right (by rw [h.l1]; exact Nat.le_refl _), h.l1, Nat.sub_self] at ht
   rw [List.getElem?_append_right (by rw [h.l2]; exact Nat.le_refl _), h.l2, Nat.sub_self] at hy
   rw [hn] at hr
   cases hr
   have e1 : t = tr := by simpa using ht.symm
   have e2 : y = x := by simpa using hy.symm
   subst e1 e2
   exact ⟨S, hl, hx, hso⟩
section
variable {P : Program} {w : World} {K : PySem.W.Frag} {mg : Str -> Option Value} {base : Heap}
noncomputable def lC (C : Addr) : Sp := fun vs H Q E => ∃ (v pa ra a : Addr) (ps rts : List Str) (rs : List T), vs = [.ref v, .ref a] /\ bL H v pa ra ps rs /\ Good ps (rs.map (·.2)) /\ ps.length <= 8 /\ H a = some (.tup (rts.map V.str)) /\ rts.length <= 100 /\ (∀ x ∈ rts, x ∈ ps) /\
 ∀ H', aj H H' -> ((∀ l ∈ aA ps, 0 <= spr rs rts l) -> ∀ (q : Addr) (trs : List (List T)) (tls : List (Addr × List Str)) (cur : List T), H q = none -> H' q = some (.lst (aq tls)) -> aO H' tls -> Trs ps rts rs rts.length trs tls cur -> Q (.ref q) H') /\
  (∀ l ∈ aA ps, spr rs rts l < 0 -> ∀ dx u, H' dx = some (.xd [(Str.ofString "lot", .ref u)]) -> H' u = some (.tup (l.map V.str)) -> E (.ref C) (some dx) H')
noncomputable abbrev N32 : List Str := ["web", "roots", "places", "rows", "trees", "at", "root", "tree"]
theorem dJ : aL N32 ["web", "roots"] (aB (top 32)) := ⟨rfl, rfl, rfl, by decide +kernel, rfl, by decide +kernel, by decide +kernel⟩
theorem sh {f C : Addr} {fd : FuncData} (F : Fun K "trees_from" "trees_from" (top 32) f fd) (B : Bl mg) (F1 : FnX P w K mg base 4 "need_enough" ["web", "roots"] (kL C)) (F2 : Fn P w K mg base 4 "grown" ["places", "rows", "root", "later"] lR) : aE P w K mg base (CXE P w) 5 f fd ["web", "roots"] (lC C) := by
 refine F.okX dJ (fun vs H Q E h => ?_) (fun cdv A outer s H vs Q E hr h => ?_)
 ·obtain ⟨v, pa, ra, a, ps, rts, rs, rfl, _⟩ := h
  rfl
 ·obtain ⟨v, pa, ra, a, ps, rts, rs, rfl, W, G, h8, ha, hr100, hin, k⟩ := h
  refine ⟨_, am (cD (mG (E := E) F1 hr mQ (aa (pv 0) (aa (pv 1) ae))))
   (am (dC (pv 0) (dz rfl (n := 2) (bv (aW (i := 2) dJ.nd rfl (Or.inl rfl)) (bv (aW (i := 3) dJ.nd rfl (Or.inl rfl)) cV))))
   (am (aM (i := 4) dJ.nd rfl (Or.inl rfl) (bC ae))
   (am (bO PassesOwn.leaving rfl (uY rfl B.enumerate (aa (pv 1) ae)) (dz rfl (n := 2) (bv (aW (i := 5) dJ.nd rfl (Or.inl rfl)) (bv (aW (i := 6) dJ.nd rfl (Or.inl rfl)) cV)))
    (am (aM (i := 7) dJ.nd rfl (Or.inr rfl) (ax F2 hr (aa (pv 2) (aa (pv 3) (aa (pv 6) (aa (dQ uq (pv 1) (dW (aD b8 (pv 5) ak)) dX) ae))))))
    (am (dS (i := 3) (N := ["row", "tree"]) (ix := [none, some 7]) dJ.nd rfl (Or.inl rfl) ⟨rfl, rfl, rfl, by decide⟩ rfl (gx (bB (pv 3)) (b7 (pv 3))) (fun _ _ _ _ => aS 0 (by decide) rfl rfl) (fun _ _ _ _ => cK (aR (sT K hr) (pv 0) (pv 1) (by with_unfolding_all rfl))) (fun _ _ _ _ => pv 0))
    (aw (cD (cY PySem.F.plainAttrs_list PySem.F.slot_list_append PySem.F.type_list_append dN (pv 4) (aa (cj fS rfl B.tuple cU (aa (ay fU rfl B.sorted eO (aa (PE.nox (bq (N := ["row"]) (ix := [none]) ⟨rfl, rfl, rfl, by decide⟩ rfl (bB (pv 7)) (fun _ _ _ _ => aS 0 (by decide) rfl rfl) (fun _ _ _ _ => bz) (fun _ _ _ _ => aG (bx K) (pv 0) ak (fun _ _ => rfl)))) ae)) ae)) ae)))))))
   (aw (aN (pv 4)))))), ?_⟩
  have hnd := eN G.so
  have hrz : rs.length <= 60 := by have := G.rz; simpa using this
  have hst : ∀ r ∈ rs, aH r.2.1 /\ r.2.2.1 ∈ ps /\ r.2.2.2 ∈ ps := fun r hr => by
   obtain ⟨h1, h2, h3, _⟩ := G.rn r.2 (List.mem_map_of_mem hr)
   exact ⟨h1, h2, h3⟩
  have htn : (tna rs).Nodup := by
   have := eN G.rso
   rw [List.map_map] at this
   exact this
  refine ⟨_, rfl, _, rfl, v, pa, ra, a, ps, rts, rs, rfl, W, hnd, h8, hrz, ha, hr100, fun H1 s1 => ⟨fun hge => ?_, fun l hl hneg dx u hdx hu => (k H1 s1).2 l hl hneg dx u hdx hu⟩⟩
  have W1 := W.same s1
  have a1 := s1 _ _ ha
  refine ⟨_, rfl, v, _, rfl, SqT.of W1.tp, rfl, _, _, rfl, _, _, rfl, rfl, Nat.zero_le _, fun tk htk => ?_⟩
  have s2 := ar (o := .lst []) s1 htk
  have htk0 := s1.free htk
  have t2 : upd H1 tk (.lst []) tk = some (.lst (aq [])) := ai
  generalize upd H1 tk (.lst []) = H2 at s2 t2 ⊢
  refine ⟨_, rfl, a, _, rfl, SqT.of (s2 _ _ ha), sR (K := K) (a := a) (xs := rts.map V.str) (fun i σ H3 => ∃ (rc : Addr) (trs : List (List T)) (tls : List (Addr × List Str)) (cur : List T) (g1 g2 g3 : Option V), σ = [some (.ref v), some (.ref a), some (.ref pa), some (.ref rc), some (.ref tk), g1, g2, g3] /\ aj H H3 /\ H3 tk = some (.lst (aq tls)) /\ aO H3 tls /\ (H3 rc = some (.lst (au cur)) \/ H3 rc = some (.tup (au cur))) /\ rc ≠ tk /\ cur.Sublist rs /\ Trs ps rts rs i trs tls cur /\ ∀ l ∈ aA ps, 0 <= spr cur (rts.drop i) l)
   ⟨ra, [], [], rs, none, none, none, rfl, s2, t2, (fun x hx => nomatch hx), .inr (s2 _ _ W.rl), (fun z => by have := W.rl; rw [z, htk0] at this; cases this), List.Sublist.refl _, ⟨rfl, rfl, by simp, rfl, fun i rt t x _ ht => by simp at ht⟩, hge⟩
   (fun i σ H3 _ p => by obtain ⟨_, _, _, _, _, _, _, _, s3, _⟩ := p; exact SqT.of (s3 _ _ ha)) ?_ ?_⟩
  ·rintro i x σ H3 T0 hx ⟨rc, trs, tls, cur, g1, g2, g3, rfl, s3, t3, A3, c3, nct, hsub, R3, hge3⟩ hT0
   rw [List.getElem?_map] at hx
   cases hc : rts[i]? with
   | none => rw [hc] at hx; cases hx
   | some root =>
    rw [hc] at hx
    cases hx
    have hi : i < rts.length := (List.getElem?_eq_some_iff.mp hc).1
    have s4 := ar (o := .tup [.int i, .str root]) (aj.refl H3) hT0
    have T4 : upd H3 T0 (.tup [.int i, .str root]) T0 = some (.tup [.int i, .str root]) := ai
    generalize upd H3 T0 (.tup [.int i, .str root]) = H4 at s4 T4 ⊢
    have s04 := s3.trans s4
    refine ⟨T0, _, rfl, SqT.of T4, rfl, _, _, rfl, _, _, rfl, rfl, ?_⟩
    have hdrop : rts.drop i = root :: rts.drop (i + 1) := by
     rw [List.drop_eq_getElem_cons hi]
     have := (List.getElem?_eq_some_iff.mp hc).2
     rw [this]
    have hcut : bF (rts.map V.str) (some ((i : Int) + 1)) none = (rts.drop (i + 1)).map V.str := by
     have := kU (rts.map V.str) (n := i + 1) (by rw [List.length_map]; omega)
     rw [List.map_drop]
     exact this
    refine ⟨_, rfl, _, rfl, _, rfl, _, rfl, _, rfl, _, _, rfl, rfl, _, rfl, a, _, rfl, SqT.of (s04 _ _ ha), fun e => ?_, fun la hla => ?_⟩
    ·rw [hcut] at e
     have := congrArg List.length e
     simp at this
     omega
    rw [hcut]
    have s5 := ar (o := .tup ((rts.drop (i + 1)).map V.str)) (aj.refl H4) hla
    have l5 : upd H4 la (.tup ((rts.drop (i + 1)).map V.str)) la = some (.tup ((rts.drop (i + 1)).map V.str)) := ai
    generalize upd H4 la (.tup ((rts.drop (i + 1)).map V.str)) = H5 at s5 l5 ⊢
    have s05 := s04.trans s5
    have s35 := s4.trans s5
    have hcl : cur.length <= 60 := Nat.le_trans hsub.length_le hrz
    have hcn : (tna cur).Nodup := htn.sublist (hsub.map _)
    refine ⟨pa, rc, la, root, ps, rts.drop (i + 1), cur, rfl, s05 _ _ W.pl, c3.imp (s35 _ _) (s35 _ _), fun r hr => s05 _ _ (W.rows r (hsub.subset hr)), hcl, hnd, h8, hin root (List.mem_of_getElem? hc), fun r hr => (hst r (hsub.subset hr)).2, l5, by rw [List.length_drop]; omega, by rw [<- hdrop]; exact hge3, fun q tr rem H6 s6 hq q6 hp hge6 S hl hgF => ?_⟩
    have s36 := s35.trans s6
    have s06 := s3.trans s36
    have htr : ∀ r ∈ tr, r ∈ rs := fun r hr => hsub.subset (hp.mem_iff.mpr (List.mem_append_left _ hr))
    have hnm3 : ∀ r ∈ rs, ∀ z ∈ tri r, aH z := fun r hr z hz => by
     obtain ⟨h1, h2, h3⟩ := hst r hr
     simp [tri] at hz
     rcases hz with e | e | e
     ·rw [e]; exact h1
     ·rw [e]; exact G.nm _ h2
     ·rw [e]; exact G.nm _ h3
    have htrl : tr.length <= 8 := by omega
    refine rC (K := K) (Hb := H6) (a := rc) (xs := au cur) (fits (by rw [List.length_map]; omega)) (fun Q q => ⟨_, rfl, q⟩) (c3.imp (s36 _ _) (s36 _ _)) (aj.refl H6) (fun j ys σ H7 => ys = au ((cur.take j).filter fun r => !decide (tri r ∈ tr.map tri)) /\ H7 = H6 /\ ∃ x, σ = [x, some (.ref q)]) ⟨rfl, rfl, _, rfl⟩
     (fun j ys σ H7 _ p => ⟨by rw [p.1, List.length_map]; exact Nat.le_trans (List.length_filter_le _ _) (by rw [List.length_take]; omega), by rw [p.2.1]; exact aj.refl H6⟩) ?_ ?_
    ·rintro j y ys σ H7 hy ⟨rfl, rfl, x, rfl⟩
     obtain ⟨r, hrj, rfl⟩ := cO hy
     have hrm := hsub.subset (List.mem_of_getElem? hrj)
     have tf := cz (fun r : T => !decide (tri r ∈ tr.map tri)) cur j r hrj
     refine ⟨_, rfl, _, rfl, r.1, q, tri r, tr.map (fun r => (r.1, tri r)), rfl, rfl, s06 _ _ (W.rows r hrm), hnm3 r hrm, SqL.of (by rw [q6]; simp [aq, au]), ?_, ?_, _, rfl, ?_⟩
     ·intro x hx
      obtain ⟨t, ht, rfl⟩ := List.mem_map.mp hx
      exact s06 _ _ (W.rows t (htr t ht))
     ·intro x hx z hz
      obtain ⟨t, ht, rfl⟩ := List.mem_map.mp hx
      exact hnm3 t (htr t ht) z hz
     ·have e : (tr.map fun r => (r.1, tri r)).map (·.2) = tr.map tri := by rw [List.map_map]; rfl
      rw [e]
      refine bb (fun c => ⟨_, rfl, ?_, rfl, _, rfl⟩) (fun c => ⟨?_, rfl, _, rfl⟩)
      ·rw [tf, if_pos c]; simp [au]
      ·rw [tf, if_neg c]; simp
    rintro ys σ' H7 ⟨rfl, rfl, x, rfl⟩ rn hrn
    rw [take_all cur (by simp)]
    have hlp := qy hp hcn
    have hsub' := (List.filter_sublist (l := cur) (p := fun r => !decide (tri r ∈ tr.map tri))).trans hsub
    generalize hcur' : (cur.filter fun r => !decide (tri r ∈ tr.map tri)) = cur' at hlp hsub' ⊢
    have s8 := ar (o := .lst (au cur')) (aj.refl H7) hrn
    have n8 : upd H7 rn (.lst (au cur')) rn = some (.lst (au cur')) := ai
    generalize upd H7 rn (.lst (au cur')) = H8 at s8 n8 ⊢
    have s38 := s36.trans s8
    have s08 := s3.trans s38
    have t8 := s38 _ _ t3
    have q8 := s8 _ _ q6
    have nrt : rn ≠ tk := fun z => by rw [z, s36 _ _ t3] at hrn; cases hrn
    refine ⟨_, rfl, .inl ⟨rfl, _, SqL.of t8⟩, _, rfl, q, rfl, ⟨_, SqL.of q8⟩, eI (xs := au tr) (fits (by rw [List.length_map]; omega)) (fun j ys σ H9 => ys = (tna (tr.take j)).map V.str /\ H9 = H8 /\ ∃ x, σ = [x]) ⟨rfl, rfl, _, rfl⟩
     (fun j ys σ H9 _ p => ⟨by rw [p.1]; simp; omega, by rw [p.2.1]; exact SqL.of q8⟩) ?_ ?_⟩
    ·rintro j y ys σ H9 hy ⟨rfl, rfl, x, rfl⟩
     obtain ⟨r, hrj, rfl⟩ := cO hy
     refine ⟨_, rfl, aJ (j := 0) (.inr (SqT.of (s08 _ _ (W.rows r (htr r (List.mem_of_getElem? hrj)))))) rfl rfl ⟨?_, rfl, _, rfl⟩⟩
     rw [List.take_add_one, hrj]; simp
    rintro ys σ H9 ⟨rfl, rfl, x, rfl⟩ l9 hl9
    rw [take_all tr (by simp)]
    have s10 := ar (o := .lst ((tna tr).map V.str)) (aj.refl H9) hl9
    have l10 : upd H9 l9 (.lst ((tna tr).map V.str)) l9 = some (.lst ((tna tr).map V.str)) := ai
    generalize upd H9 l9 (.lst ((tna tr).map V.str)) = H10 at s10 l10 ⊢
    refine ⟨l9, tna tr, rfl, SqL.of l10, by simp; omega, fun ss q11 hpm hso hq11 => ?_⟩
    have s11 := ar (o := .lst (ss.map V.str)) (aj.refl H10) hq11
    have q11' : upd H10 q11 (.lst (ss.map V.str)) q11 = some (.lst (ss.map V.str)) := ai
    generalize upd H10 q11 (.lst (ss.map V.str)) = H11 at s11 q11' ⊢
    refine ⟨q11, _, rfl, .inl ⟨SqL.of q11', fun tt htt => ?_⟩⟩
    have s12 := ar (o := .tup (ss.map V.str)) (aj.refl H11) htt
    have t12 : upd H11 tt (.tup (ss.map V.str)) tt = some (.tup (ss.map V.str)) := ai
    generalize upd H11 tt (.tup (ss.map V.str)) = H12 at s12 t12 ⊢
    have s812 := s10.trans (s11.trans s12)
    have s312 := s38.trans s812
    have hti : tls.length <= 100 := by rw [R3.l2]; omega
    refine ⟨tk, _, _, rfl, rfl, s312 _ _ t3, fits (by rw [List.length_map]; omega), ?_⟩
    refine ⟨rn, trs ++ [tr], tls ++ [(tt, ss)], cur', _, _, _, rfl, dv (s3.trans s312) htk0, ?_, ?_, .inl ?_, nrt, hsub', R3.add hc (hp.trans (hlp.symm.append_left tr)) S hl hpm hso (by rw [<- hcur']; exact oX R3.fn hc hgF), fun l hl => ?_⟩
    ·rw [ai]; simp [aq]
    ·intro y hy
     rcases List.mem_append.mp hy with z | z
     ·have := s312 _ _ (A3 y z)
      rw [ag (fun e => by rw [e, s312 _ _ t3] at this; cases this)]; exact this
     ·have e : y = (tt, ss) := by simpa using z
      subst e
      rw [ag (fun e : tt = tk => by rw [e, s312 _ _ t3] at t12; cases t12)]; exact t12
    ·rw [ag nrt]; exact s812 _ _ n8
    ·rw [rG hlp]; exact hge6 l hl
  ·rintro σ H3 ⟨rc, trs, tls, cur, g1, g2, g3, rfl, s3, t3, A3, c3, nct, hsub, R3, hge3⟩
   rw [List.length_map] at R3
   exact ⟨_, rfl, (k H3 s3).1 hge tk trs tls cur htk0 t3 A3 R3⟩
end
mutual
theorem ly : ∀ d : PyData, d.canLay0 = true -> PyData.eqv d d = true
 | .none, _ => by simp [PyData.eqv]
 | .bool b, _ => by simp [PyData.eqv]
 | .int i, _ => by simp [PyData.eqv]
 | .str x, _ => by simp [PyData.eqv]
 | .list xs, h => by rw [PyData.eqv]; exact gX xs (by simpa [PyData.canLay0] using h)
 | .tuple xs, h => by rw [PyData.eqv]; exact gX xs (by simpa [PyData.canLay0] using h)
 | .dict _, h => by simp [PyData.canLay0] at h
theorem gX : ∀ ds : List PyData, PyData.canLayAll0 ds = true -> PyData.eqvAll ds ds = true
 | [], _ => by simp [PyData.eqvAll]
 | d :: ds, h => by
  simp only [PyData.canLayAll0, Bool.and_eq_true] at h
  rw [PyData.eqvAll, ly d h.1, gX ds h.2]
  rfl
end
noncomputable abbrev gK (ts : List Str) : PyData := .tuple (ts.map PyData.str)
noncomputable abbrev tlD (tl : List (List Str)) : PyData := .list (tl.map gK)
theorem gB {H : Hp} : ∀ {tss : List (Addr × List Str)}, aO H tss -> DVs H (aq tss) ((tss.map (·.2)).map gK)
 | [], _ => .nil
 | r :: t, h => .cons (.tup (h r List.mem_cons_self) (DVs.strs _)) (gB fun x hx => h x (List.mem_cons_of_mem _ hx))
theorem iQ : ∀ {tl : List (List Str)}, (∀ ts ∈ tl, ∀ y ∈ ts, aH y) -> PyData.canLayAll0 (tl.map gK) = true /\ PyData.depthAll (tl.map gK) <= 1
 | [], _ => ⟨rfl, Nat.zero_le _⟩
 | ts :: t, h => by
  have ih := iQ (tl := t) fun x hx => h x (List.mem_cons_of_mem _ hx)
  have q := kP (h ts List.mem_cons_self)
  rw [List.map_cons]
  have i2 := ih.2
  simp only [PyData.canLayAll0, PyData.canLay0, PyData.depthAll, PyData.depth, q.1, q.2, ih.1]
  exact ⟨rfl, by omega⟩
theorem shT {tl : List (List Str)} (h : ∀ ts ∈ tl, ∀ y ∈ ts, aH y) : SeqAt.shaped (tlD tl) = true := by
 have q := iQ h
 have i2 := q.2
 have hc : (tlD tl).canLay0 = true := by simp only [tlD, PyData.canLay0, q.1]
 have hd : (tlD tl).depth <= 2 := by simp only [tlD, PyData.depth]; omega
 unfold SeqAt.shaped
 rw [hc, decide_eq_true (by omega)]
 rfl
theorem rM (tl : List (List Str)) : PyData.eqv (tlD tl) (.list []) = decide (tl = []) := by
 cases tl with
 | nil => simp [PyData.eqv, PyData.eqvAll]
 | cons x r => simp [PyData.eqv, PyData.eqvAll]
section
variable {P : Program} {w : World} {K : PySem.W.Frag} {mg : Str -> Option Value} {base : Heap}
end
theorem uO (xs : List V) {n : Nat} (h : n <= xs.length) : bF xs none (some (n : Int)) = xs.take n := by
 unfold bF
 have h0 : ¬ ((n : Int) < 0) := by omega
 have h1 : min n xs.length = n := by omega
 simp [HT.sIx, h0]
 first | done | (rw [h1]) | skip
theorem wb {c : Const} {k : Nat} {p : Pos} {es : List Expr} {env : Env} : starEach (.Constant c k p :: es) env = (false, eval (.Constant c k p) env) :: starEach es env := rfl
theorem cE {X : Cx} {x : Str} {j : Nat} {p : Pos} {es : List Expr} {t : TA} (h : PA X es t) : PA X (.Constant (.str x) j p :: es) (nr (tC (.str x)) t) := aa eV h wb
noncomputable def bK : List Str := ["root", "source", "sink", "new", "extra", "start", "end", "tie", "place", "point", "from", "super"].map Str.ofString
theorem pQ : ∀ x ∈ bK, aH x := by
 intro x hx
 simp only [bK, List.map_cons, List.map_nil, List.mem_cons, List.not_mem_nil, or_false] at hx
 rcases hx with rfl | rfl | rfl | rfl | rfl | rfl | rfl | rfl | rfl | rfl | rfl | rfl
 all_goals exact aH.of_codes rfl (by decide) (by decide) (by decide)
theorem o9 : bK.Nodup := by decide
noncomputable def rot (b n : Nat) : List Str := (List.range n).filterMap fun k => bK[(b + k) % 12]?
theorem iB : bK.length = 12 := rfl
theorem lP (b k : Nat) : bK[(b + k) % 12]? = some (bK[(b + k) % 12]'(by rw [iB]; exact Nat.mod_lt _ (by decide))) := List.getElem?_eq_getElem _
theorem iH (b n : Nat) : rot b (n + 1) = rot b n ++ [bK[(b + n) % 12]'(by rw [iB]; exact Nat.mod_lt _ (by decide))] := by
 unfold rot
 rw [List.range_succ, List.filterMap_append]
 simp [lP]
theorem i0 (b : Nat) : ∀ n, (rot b n).length = n
 | 0 => rfl
 | n + 1 => by rw [iH, List.length_append, i0 b n]; rfl
theorem md {b : Nat} : ∀ {n : Nat} {x : Str}, x ∈ rot b n -> ∃ k, k < n /\ bK[(b + k) % 12]? = some x
 | n, x, h => by
  unfold rot at h
  obtain ⟨k, hk, e⟩ := List.mem_filterMap.mp h
  exact ⟨k, List.mem_range.mp hk, e⟩
theorem j0 (b : Nat) : ∀ {n : Nat}, n <= 12 -> (rot b n).Nodup
 | 0, _ => List.nodup_nil
 | n + 1, h => by
  rw [iH]
  refine List.nodup_append.mpr ⟨j0 b (by omega), by simp, fun x hx y hy => ?_⟩
  have ey : y = bK[(b + n) % 12]'(by rw [iB]; exact Nat.mod_lt _ (by decide)) := by simpa using hy
  obtain ⟨k, hk, e⟩ := md hx
  obtain ⟨h1, e'⟩ := List.getElem?_eq_some_iff.mp e
  intro z
  rw [ey, <- e'] at z
  have hp := List.pairwise_iff_getElem.mp o9
  have hne : (b + k) % 12 ≠ (b + n) % 12 := by omega
  rcases Nat.lt_or_gt_of_ne hne with q | q
  ·exact hp _ _ _ _ q z
  ·exact hp _ _ _ _ q z.symm
theorem rK (b n : Nat) : ∀ x ∈ rot b n, aH x := fun x hx => by
 obtain ⟨k, _, e⟩ := md hx
 exact pQ x (List.mem_of_getElem? e)
noncomputable def dm (fo ns : List Str) : List Str := (fo ++ ns.filter fun x => !decide (x ∈ fo)).take ns.length
theorem r8 {fo ns : List Str} (hf : fo.length <= ns.length) (hn : ns.Nodup) : (dm fo ns).length = ns.length := by
 unfold dm
 rw [List.length_take, List.length_append]
 have h1 : ns.length = (ns.filter fun x => decide (x ∈ fo)).length + (ns.filter fun x => !decide (x ∈ fo)).length := by
  have := List.length_eq_countP_add_countP (l := ns) (fun x => decide (x ∈ fo))
  rw [List.countP_eq_length_filter, List.countP_eq_length_filter] at this
  simpa using this
 have h2 : (ns.filter fun x => decide (x ∈ fo)).length <= fo.length := eY (hn.filter _) fun x hx => by simpa using (List.mem_filter.mp hx).2
 omega
theorem pT {fo ns : List Str} (hf : fo.Nodup) (hn : ns.Nodup) : (dm fo ns).Nodup := by
 unfold dm
 refine List.Nodup.sublist (List.take_sublist _ _) (List.nodup_append.mpr ⟨hf, hn.filter _, fun x hx y hy z => ?_⟩)
 have := (List.mem_filter.mp hy).2
 rw [<- z] at this
 simp [hx] at this
theorem qI {fo ns : List Str} (hf : ∀ x ∈ fo, aH x) (hn : ∀ x ∈ ns, aH x) : ∀ x ∈ dm fo ns, aH x := fun x hx => by
 rcases List.mem_append.mp (List.mem_of_mem_take hx) with z | z
 ·exact hf x z
 ·exact hn x (List.mem_filter.mp z).1
section
variable {P : Program} {w : World} {K : PySem.W.Frag} {mg : Str -> Option Value} {base : Heap}
noncomputable def lJ : Sp := fun vs H Q _ => ∃ (p na : Addr) (ns : List Str), vs = [.ref p, .ref na] /\ Pot H p /\ H na = some (.lst (ns.map V.str)) /\ ns.length <= 40 /\ ns.Nodup /\ (∀ x ∈ ns, aH x) /\
 ∀ (q : Addr) (ms : List Str) (H' : Hp), Pot H' p -> H' q = some (.lst (ms.map V.str)) -> (∀ x ∈ ms, aH x) -> ms.Nodup -> ms.length = ns.length -> Kp [p] H H' -> Q (.ref q) H'
noncomputable abbrev N40 : List Str := ["_law_pot_here", "_law_names_here", "_law_words", "_law_begin", "_law_found"]
theorem gD : aL N40 ["_law_pot_here", "_law_names_here"] (aB (top 40)) := ⟨rfl, rfl, rfl, by decide +kernel, rfl, by decide +kernel, by decide +kernel⟩
theorem sk {f : Addr} {fd : FuncData} (F : Fun K "_law_named" "_law_named" (top 40) f fd) (B : Bl mg) (Ft : Fn P w K mg base 1 "_law_take" ["_law_pot_here", "_law_many"] eX) : aE P w K mg base CX0 2 f fd ["_law_pot_here", "_law_names_here"] lJ := by
 refine F.ok gD (fun vs H Q E h => ?_) (fun cdv A outer s H vs Q E hr h => ?_)
 ·obtain ⟨p, na, ns, rfl, _⟩ := h
  rfl
 ·obtain ⟨p, na, ns, rfl, hp, hna, hn40, hnd, hnm, k⟩ := h
  refine' ⟨_, am ?s1 ?r1, ?main⟩
  case s1 =>
   refine' aM (i := 2) ?nd ?x ?y ?z ?hs ?hf
   case nd => exact gD.nd
   case x => exact rfl
   case y => exact Or.inr rfl
   case hf => first | exact .inl rfl | exact .inr rfl
   case' z => refine' bC ?l0
   case l0 => exact cE (cE (cE (cE (cE (cE (cE (cE (cE (cE (cE (cE ae)))))))))))
   case hs => kernel_rfl
  case r1 => exact (am (bj (aR cX (ax Ft hr (aa (pv 0) (aa ak ae))) ak (aT _)) (aw (aN (pv 1))) be)
   (am (aM (i := 3) gD.nd rfl (Or.inr rfl) (ax Ft hr (aa (pv 0) (aa ak ae))))
   (am (aM (i := 4) gD.nd rfl (Or.inr rfl) (bq (N := ["_law_k", "_law_words", "_law_begin"]) (ix := [none, some 2, some 3]) ⟨rfl, rfl, rfl, by decide⟩ rfl
    (df rfl B.range (aa (ay (ij rfl) rfl B.min jg (aa (ay bo rfl B.len PySem.boot_len (aa (pv 1) ae)) (aa (aD b8 ak (ax Ft hr (aa (pv 0) (aa ak ae)))) ae))) ae)) (fun _ _ _ _ => aS 0 (by decide) rfl rfl) (fun _ _ _ _ => bz)
    (fun _ _ _ _ => aG (bx K) (pv 1) (aD dB (aD b8 (pv 2) (pv 0)) ak) (fun _ _ => rfl))))
   (aw (aN (dQ fA (aD ef (pv 4) (bq (N := ["_law_name", "_law_found"]) (ix := [none, some 4]) ⟨rfl, rfl, rfl, by decide⟩ rfl (bB (pv 1)) (fun _ _ _ _ => aS 0 (by decide) rfl rfl) (fun _ _ _ _ => cK (aR (eG K) (pv 0) (pv 1) (by with_unfolding_all rfl))) (fun _ _ _ _ => pv 0))) dX (dW (ay bo rfl B.len PySem.boot_len (aa (pv 1) ae)))))))))
  case main =>
   refine ⟨by show 12 <= sizeLine; decide, fun wd hwd => ?_⟩
   have nwp := hp.ne_new hwd
   have P1 := hp.new (o := .lst (bK.map V.str)) hwd
   have K1 := (Kp.refl [p] H).new (o := .lst (bK.map V.str)) hwd
   have w1 : upd H wd (.lst (bK.map V.str)) wd = some (.lst (bK.map V.str)) := ai
   have nnp := cF hp hna
   have n1 : upd H wd (.lst (bK.map V.str)) na = some (.lst (ns.map V.str)) := by rw [ag (av hna hwd)]; exact hna
   change jD _ _ _ _ (upd H wd (.lst (bK.map V.str)))
   generalize upd H wd (.lst (bK.map V.str)) = H1 at P1 K1 w1 n1 ⊢
   refine ⟨_, rfl, p, 4, rfl, P1, by decide, by decide, fun r H2 r0 r1 P2 K2 => ⟨_, _, rfl, rfl, _, rfl, ?_⟩⟩
   have K12 := K1.trans K2
   have n2 := K2.at nnp n1
   have w2 := K2.at nwp w1
   refine bb (fun c => ⟨_, rfl, k na ns H2 P2 n2 hnm hnd rfl K12⟩) (fun c => ?_)
   refine ⟨_, rfl, p, 12, rfl, P2, by decide, by decide, fun b H3 b0 b1 P3 K3 => ?_⟩
   have K13 := K12.trans K3
   have n3 := K3.at nnp n2
   have w3 := K3.at nwp w2
   refine ⟨_, rfl, na, _, rfl, .inl (SqL.of n3), _, rfl, p, 6, rfl, P3, by decide, by decide, fun r6 H4 q0 q1 P4 K4 => ⟨_, _, rfl, rfl, _, _, rfl, _, rfl, ?_, ?_, ?_⟩⟩
   ·split <;> omega
   ·rw [List.length_map]; split <;> omega
   have K14 := K13.trans K4
   have n4 := K4.at nnp n3
   have w4 := K4.at nwp w3
   obtain ⟨bn, rfl⟩ := Int.eq_ofNat_of_zero_le b0
   have hcn : ∃ c : Nat, (if (1 + r6 : Int) < ((ns.map V.str).length : Int) then 1 + r6 else ((ns.map V.str).length : Int)).toNat = c /\ c <= ns.length /\ c <= 12 := ⟨_, rfl, by rw [List.length_map]; split <;> omega, by rw [List.length_map]; split <;> omega⟩
   obtain ⟨cn, ecn, hc1, hc2⟩ := hcn
   rw [ecn]
   refine fi (fits (by omega)) (fun i ys σ H5 => ys = (rot bn i).map V.str /\ H5 = H4 /\ ∃ x, σ = [x, some (.ref wd), some (.int bn)]) ⟨rfl, rfl, _, rfl⟩ (fun i ys σ H5 _ z => by rw [z.1, List.length_map, i0]; exact Nat.le_refl _) ?_ ?_
   ·rintro i ys σ H5 hi ⟨rfl, rfl, x, rfl⟩
    refine ⟨_, rfl, _, rfl, _, rfl, _, _, rfl, rfl, _, _, rfl, rfl, by show (0 : Int) < 12; decide, ?_⟩
    refine aJ (j := (bn + i) % 12) (.inl (SqL.of w4)) (by push_cast; rw [Int.zero_add]) (by rw [List.getElem?_map, lP]; rfl) ⟨?_, rfl, _, rfl⟩
    rw [iH]; simp
   rintro ys σ H5 ⟨rfl, rfl, x, rfl⟩ fo hfo
   have nfp := P4.ne_new hfo
   have P6 := P4.new (o := .lst ((rot bn cn).map V.str)) hfo
   have K6 := K14.new (o := .lst ((rot bn cn).map V.str)) hfo
   have f6 : upd H5 fo (.lst ((rot bn cn).map V.str)) fo = some (.lst ((rot bn cn).map V.str)) := ai
   have n6 : upd H5 fo (.lst ((rot bn cn).map V.str)) na = some (.lst (ns.map V.str)) := by rw [ag (av n4 hfo)]; exact n4
   generalize upd H5 fo (.lst ((rot bn cn).map V.str)) = H6 at P6 K6 f6 n6 ⊢
   refine ⟨_, rfl, _, rfl, na, rfl, ⟨_, SqL.of n6⟩, iy (xs := ns.map V.str) (fits (by rw [List.length_map]; omega)) (fun i ys σ H7 => ys = ((ns.take i).filter fun x => !decide (x ∈ rot bn cn)).map V.str /\ H7 = H6 /\ ∃ x, σ = [x, some (.ref fo)]) ⟨rfl, rfl, _, rfl⟩
    (fun i ys σ H7 _ z => ⟨by rw [z.1, List.length_map]; exact Nat.le_trans (List.length_filter_le _ _) (by rw [List.length_take]; omega), by rw [z.2.1]; exact SqL.of n6⟩) ?_ ?_⟩
   ·rintro i y ys σ H7 hy ⟨rfl, rfl, x, rfl⟩
    rw [List.getElem?_map] at hy
    cases hc : ns[i]? with
    | none => rw [hc] at hy; cases hy
    | some z =>
     rw [hc] at hy
     cases hy
     have tf := cz (fun x : Str => !decide (x ∈ rot bn cn)) ns i z hc
     refine ⟨_, rfl, _, rfl, fo, _, rfl, .inl (SqL.of f6), rfl, bW _, _, rfl, ?_⟩
     rw [bY]
     show if (!decide (z ∈ rot bn cn)) = true then _ else _
     refine bb (fun c => ⟨_, rfl, ?_, rfl, _, rfl⟩) (fun c => ⟨?_, rfl, _, rfl⟩)
     ·rw [tf, c]; simp
     ·rw [tf]; simp only [Bool.not_eq_true] at c; rw [c]; simp
   rintro ys σ H7 ⟨rfl, rfl, x, rfl⟩ l8 hl8
   rw [take_all ns (by simp)]
   have P8 := P6.new (o := .lst ((ns.filter fun x => !decide (x ∈ rot bn cn)).map V.str)) hl8
   have K8 := K6.new (o := .lst ((ns.filter fun x => !decide (x ∈ rot bn cn)).map V.str)) hl8
   have l9 : upd H7 l8 (.lst ((ns.filter fun x => !decide (x ∈ rot bn cn)).map V.str)) l8 = some (.lst ((ns.filter fun x => !decide (x ∈ rot bn cn)).map V.str)) := ai
   have f9 : upd H7 l8 (.lst ((ns.filter fun x => !decide (x ∈ rot bn cn)).map V.str)) fo = some (.lst ((rot bn cn).map V.str)) := by rw [ag (av f6 hl8)]; exact f6
   have n9 : upd H7 l8 (.lst ((ns.filter fun x => !decide (x ∈ rot bn cn)).map V.str)) na = some (.lst (ns.map V.str)) := by rw [ag (av n6 hl8)]; exact n6
   generalize upd H7 l8 (.lst ((ns.filter fun x => !decide (x ∈ rot bn cn)).map V.str)) = H9 at P8 K8 l9 f9 n9 ⊢
   have hfl := List.length_filter_le (fun x => !decide (x ∈ rot bn cn)) ns
   have hrl := i0 bn cn
   refine ⟨fo, l8, _, _, rfl, rfl, f9, l9, by rw [List.length_map, List.length_map, sizeLine_eq]; omega, fun ct hct => ?_⟩
   have P10 := P8.new (o := .lst ((rot bn cn).map V.str ++ (ns.filter fun x => !decide (x ∈ rot bn cn)).map V.str)) hct
   have K10 := K8.new (o := .lst ((rot bn cn).map V.str ++ (ns.filter fun x => !decide (x ∈ rot bn cn)).map V.str)) hct
   have c10 : upd H9 ct (.lst ((rot bn cn).map V.str ++ (ns.filter fun x => !decide (x ∈ rot bn cn)).map V.str)) ct = some (.lst ((rot bn cn).map V.str ++ (ns.filter fun x => !decide (x ∈ rot bn cn)).map V.str)) := ai
   have n10 : upd H9 ct (.lst ((rot bn cn).map V.str ++ (ns.filter fun x => !decide (x ∈ rot bn cn)).map V.str)) na = some (.lst (ns.map V.str)) := by rw [ag (av n9 hct)]; exact n9
   generalize upd H9 ct (.lst ((rot bn cn).map V.str ++ (ns.filter fun x => !decide (x ∈ rot bn cn)).map V.str)) = H10 at P10 K10 c10 n10 ⊢
   refine ⟨_, rfl, na, _, rfl, .inl (SqL.of n10), _, rfl, ct, _, rfl, SqL.of c10, fun q hq => ?_⟩
   have hlen : (dm (rot bn cn) ns).length = ns.length := r8 (by rw [hrl]; exact hc1) hnd
   have hle : (ns.map V.str).length <= ((rot bn cn).map V.str ++ (ns.filter fun x => !decide (x ∈ rot bn cn)).map V.str).length := by
    unfold dm at hlen
    rw [List.length_take] at hlen
    rw [List.length_map, <- List.map_append, List.length_map]
    omega
   have ec : bF ((rot bn cn).map V.str ++ (ns.filter fun x => !decide (x ∈ rot bn cn)).map V.str) none (some ((ns.map V.str).length : Int)) = (dm (rot bn cn) ns).map V.str := by
    rw [uO _ hle, <- List.map_append, <- List.map_take, List.length_map]
    rfl
   rw [ec]
   exact k q (dm (rot bn cn) ns) _ (P10.new hq) ai (qI (rK bn cn) hnm) (pT (j0 bn hc2) hnd) hlen (K10.new hq)
end
section
variable {P : Program} {w : World} {K : PySem.W.Frag} {mg : Str -> Option Value} {base : Heap}
noncomputable def jM : Sp := fun vs H Q _ => ∃ (v pa ra a : Addr) (ps rts : List Str) (rs : List (Addr × Row)), vs = [.ref v, .ref a] /\ bL H v pa ra ps rs /\ H a = some (.tup (rts.map V.str)) /\ rts.length <= 6 /\ (∀ x ∈ rts, x ∈ ps) /\ ∀ H', aj H H' -> Q .non H'
theorem wc : aL ["web", "thing"] ["web", "thing"] (aB (top 34)) := ⟨rfl, rfl, rfl, by decide +kernel, rfl, by decide +kernel, by decide +kernel⟩
theorem ou {f : Addr} {fd : FuncData} (F : Fun K "need_roots" "need_roots" (top 34) f fd) (B : Bl mg) (F1 : Fn P w K mg base 1 "is_among" ["thing", "names"] (iZ K)) : aE P w K mg base CX0 2 f fd ["web", "thing"] jM := by
 refine F.ok wc (fun vs H Q E h => ?_) (fun cdv A outer s H vs Q E hr h => ?_)
 ·obtain ⟨v, pa, ra, a, ps, rts, rs, rfl, _⟩ := h
  rfl
 ·obtain ⟨v, pa, ra, a, ps, rts, rs, rfl, W, ha, h6, hin, k⟩ := h
  obtain ⟨tl, hmost⟩ := B.most
  refine ⟨_, am (bj (PW.pt (di (bP (bA (ay (de (T := "tuple")) rfl B.isinstance cg (aa (pv 1) (aa (cT (v := .ty "tuple") rfl B.tuple cU rfl) ae)))))
    (dD (aR cX (ay bo rfl B.len PySem.boot_len (aa (pv 1) ae)) (cm (v := .int 6) rfl hmost ⟨_, rfl⟩) (aT _))))) cP be)
   (aw (bj (bP (bA (ay (dO rfl) rfl B.all eo (aa (bq (N := ["place", "web"]) (ix := [none, some 0]) ⟨rfl, rfl, rfl, by decide⟩ rfl (b7 (pv 1)) (fun _ _ _ _ => aS 0 (by decide) rfl rfl) (fun _ _ _ _ => bz)
    (fun _ _ _ _ => ax F1 hr (aa (pv 0) (aa (aG (bx K) (pv 1) ak (fun _ _ => rfl)) ae)))) ae)))) cP be)), ?_⟩
  refine ⟨_, rfl, _, _, true, rfl, .tup ha, rfl, true, rfl, bc ⟨_, rfl, a, _, rfl, .inr (SqT.of ha), _, _, rfl, rfl, _, rfl, mY ?_ ?_⟩⟩
  ·rw [List.length_map]; omega
  refine ⟨_, rfl, a, rfl, ⟨_, SqT.of ha⟩, fY (xs := rts.map V.str) (fits (by simp; omega)) (fun i ys σ H1 => ys = List.replicate i (.bl true) /\ H1 = H /\ ∃ x, σ = [x, some (.ref v)]) ⟨rfl, rfl, _, rfl⟩
   (fun i ys σ H1 _ q => ⟨by rw [q.1]; simp, by rw [q.2.1]; exact SqT.of ha⟩) ?_ ?_⟩
  ·rintro i x ys σ H1 hx ⟨rfl, rfl, z, rfl⟩
   obtain ⟨y, hy, rfl⟩ := List.mem_map.mp (List.mem_of_getElem? hx)
   refine ⟨_, rfl, _, rfl, aJ (j := 0) (.inr (SqT.of W.tp)) rfl rfl ⟨y, pa, ps, rfl, .inr (SqT.of W.pl), ?_, rfl, _, rfl⟩⟩
   rw [decide_eq_true (hin y hy), List.replicate_succ']
  ·rintro ys σ H1 ⟨rfl, rfl, z, rfl⟩ q hq
   refine ⟨q, List.replicate _ true, rfl, SqL.of (by rw [ai, List.map_replicate]), true, ?_⟩
   have e' : ∀ m : Nat, (List.replicate m true).all id = true := by simp
   rw [e']
   exact ⟨rfl, bc (k _ (ar (aj.refl _) hq))⟩
end
section
variable {P : Program} {w : World} {K : PySem.W.Frag} {mg : Str -> Option Value} {base : Heap}
noncomputable def iw (C : Addr) : Sp := fun vs H Q E => ∃ (v pa ra a : Addr) (ps rts : List Str) (rs : List T), vs = [.ref v, .ref a] /\ bL H v pa ra ps rs /\ Good ps (rs.map (·.2)) /\ ps.length <= 8 /\ H a = some (.tup (rts.map V.str)) /\ rts.length <= 6 /\ (∀ x ∈ rts, x ∈ ps) /\
 ∀ H', aj H H' -> ((∀ l ∈ aA ps, 0 <= spr rs rts l) -> ∀ (q : Addr) (trs : List (List T)) (tls : List (Addr × List Str)) (cur : List T), H q = none -> H' q = some (.lst (aq tls)) -> aO H' tls -> Trs ps rts rs rts.length trs tls cur -> Q (.ref q) H') /\
  (∀ l ∈ aA ps, spr rs rts l < 0 -> ∀ dx u, H' dx = some (.xd [(Str.ofString "lot", .ref u)]) -> H' u = some (.tup (l.map V.str)) -> E (.ref C) (some dx) H')
theorem wY : aL ["web", "roots"] ["web", "roots"] (aB (top 35)) := ⟨rfl, rfl, rfl, by decide +kernel, rfl, by decide +kernel, by decide +kernel⟩
theorem pN {f C : Addr} {fd : FuncData} (F : Fun K "shares_from" "shares_from" (top 35) f fd) (B : Bl mg)
  (F1 : Fn P w K mg base 4 "need_web" ["thing"] (gA .non)) (F2 : Fn P w K mg base 2 "need_roots" ["web", "thing"] jM) (F4 : FnX P w K mg base 5 "trees_from" ["web", "roots"] (lC C)) : aE P w K mg base (CXE P w) 6 f fd ["web", "roots"] (iw C) := by
 refine F.okX wY (fun vs H Q E h => ?_) (fun cdv A outer s H vs Q E hr h => ?_)
 ·obtain ⟨v, pa, ra, a, ps, rts, rs, rfl, _⟩ := h
  rfl
 ·obtain ⟨v, pa, ra, a, ps, rts, rs, rfl, W, G, h8, ha, hr6, hin, k⟩ := h
  have hr4 : aI 4 _ := hr.mono (by decide)
  have hr2 : aI 2 _ := hr.mono (by decide)
  refine ⟨_, am (cD (ax F1 hr4 (aa (pv 0) ae))) (am (cD (ax F2 hr2 (aa (pv 0) (aa (pv 1) ae))))
   (aw (aN (mG (E := E) F4 hr mQ (aa (pv 0) (aa (pv 1) ae)))))), ?_⟩
  refine ⟨_, rfl, v, pa, ra, ps, rs, rfl, W, G, fun H1 s1 => ?_⟩
  have W1 := W.same s1
  refine ⟨_, rfl, _, rfl, v, pa, ra, a, ps, rts, rs, rfl, W1, s1 _ _ ha, hr6, hin, fun H2 s2 => ?_⟩
  have s02 := s1.trans s2
  refine ⟨_, rfl, _, rfl, v, pa, ra, a, ps, rts, rs, rfl, W.same s02, G, h8, s02 _ _ ha, by omega, hin, fun H3 s3 => ⟨fun hge q trs tls cur hq q3 A3 R3 => ?_, fun l hl hneg dx u hdx hu => ?_⟩⟩
  ·exact (k H3 (s02.trans s3)).1 hge q trs tls cur (s02.free hq) q3 A3 R3
  ·exact (k H3 (s02.trans s3)).2 l hl hneg dx u hdx hu
end
end K42
namespace K42
open PySem L2 PySem.Spec PyProof.Rows
section
variable {P : Program} {w : World} {K : PySem.W.Frag} {mg : Str -> Option Value} {base : Heap}
noncomputable def lK : Sp := fun vs H Q _ => ∃ (pa : Addr) (ps : List Str), vs = [.ref pa] /\ H pa = some (.tup (ps.map V.str)) /\ ps.length <= 8 /\
 ∀ (q : Addr) (lts : List (Addr × List Str)) (H' : Hp), aj H H' -> H' q = some (.lst (aq lts)) -> aO H' lts -> lts.map (·.2) = aA ps -> Q (.ref q) H'
theorem gE : aL ["_law_places", "_law_found", "_law_place"] ["_law_places"] (aB (top 43)) := ⟨rfl, rfl, rfl, by decide +kernel, rfl, by decide +kernel, by decide +kernel⟩
theorem rF {f : Addr} {fd : FuncData} (F : Fun K "_law_lots" "_law_lots" (top 43) f fd) (B : Bl mg) : aE P w K mg base CX0 1 f fd ["_law_places"] lK := by
 refine F.ok gE (fun vs H Q E h => ?_) (fun cdv A outer s H vs Q E hr h => ?_)
 ·obtain ⟨pa, ps, rfl, _⟩ := h
  rfl
 ·obtain ⟨pa, ps, rfl, hp, p8, k⟩ := h
  refine ⟨_, am (aM (i := 1) gE.nd rfl (Or.inl rfl) (bC (aa (cq ae) ae)))
   (am (bO PassesOwn.never rfl (b7 (pv 0)) (aW (i := 2) gE.nd rfl (Or.inr rfl))
    (aw (aM (i := 1) gE.nd rfl (Or.inl rfl) (aD ef (pv 1) (bq (N := ["_law_lot", "_law_place"]) (ix := [none, some 2]) ⟨rfl, rfl, rfl, by decide⟩ rfl (bB (pv 1)) (fun _ _ _ _ => aS 0 (by decide) rfl rfl) (fun _ _ _ _ => bz)
     (fun _ _ _ _ => aD (kZ K) (pv 0) (cq (aa (pv 1) ae))))))))
   (aw (aN (dQ fA (pv 1) (dW ak) dX)))), ?_⟩
  refine ⟨Nat.zero_le _, fun e0 he0 => ⟨by show 1 <= sizeLine; decide, fun f0 hf0 => ?_⟩⟩
  have s0 := ar (o := .lst [.ref e0]) (ar (o := .tup []) (aj.refl H) he0) hf0
  have E0 : upd (upd H e0 (.tup [])) f0 (.lst [.ref e0]) e0 = some (.tup ((([] : List Str)).map V.str)) := by
   rw [ag (fun z => by rw [<- z, ai] at hf0; cases hf0), ai]; rfl
  have F0 : upd (upd H e0 (.tup [])) f0 (.lst [.ref e0]) f0 = some (.lst (aq [(e0, [])])) := ai
  generalize upd (upd H e0 (.tup [])) f0 (.lst [.ref e0]) = H0 at s0 E0 F0 ⊢
  refine ⟨_, rfl, pa, rfl, ⟨_, SqT.of (s0 _ _ hp)⟩, lX (K := K) (a := pa) (xs := ps.map V.str) (fun i σ H1 => aj H H1 /\ ∃ (fo : Addr) (lts : List (Addr × List Str)) (g : Option V), σ = [some (.ref pa), some (.ref fo), g] /\ H1 fo = some (.lst (aq lts)) /\ aO H1 lts /\ lts.map (·.2) = subs (ps.take i))
   ⟨s0, f0, [(e0, [])], none, rfl, F0, aO.one E0, rfl⟩ (fun i σ H1 _ q => SqT.of (q.1 _ _ hp)) ?_ ?_⟩
  ·rintro i x σ H1 hx ⟨s1, fo, lts, g, rfl, F1, A1, e1⟩
   rw [List.getElem?_map] at hx
   cases hc : ps[i]? with
   | none => rw [hc] at hx; cases hx
   | some pl =>
    rw [hc] at hx
    cases hx
    have hi : i < ps.length := (List.getElem?_eq_some_iff.mp hc).1
    have hlen : lts.length <= 256 := by
     have q := congrArg List.length e1
     rw [List.length_map, iM] at q
     rw [q]
     exact fG (by rw [List.length_take]; omega)
    have hz8 : ∀ x ∈ lts, x.2.length <= 8 := fun x hx => by
     have q := (gh (ps.take i) x.2 (by rw [<- e1]; exact List.mem_map_of_mem hx)).length_le
     rw [List.length_take] at q
     omega
    refine ⟨_, rfl, _, rfl, fo, rfl, ⟨_, SqL.of F1⟩, eI (xs := aq lts) (fits (by rw [List.length_map]; omega)) (fun j ys σ H2 => (∃ qs : List (Addr × List Str), ys = aq qs /\ aO H2 qs /\ qs.map (·.2) = ((lts.take j).map (·.2)).map fun l => l ++ [pl]) /\ aj H1 H2 /\ ∃ v, σ = [v, some (.str pl)])
     ⟨⟨[], rfl, by simp [aO], rfl⟩, aj.refl _, _, rfl⟩ (fun j ys σ H2 _ q => ?_) ?_ ?_⟩
    ·obtain ⟨⟨qs, rfl, _, e⟩, s2, _⟩ := q
     have q := congrArg List.length e
     simp only [List.length_map, List.length_take] at q
     exact ⟨by rw [List.length_map]; omega, SqL.of (s2 _ _ F1)⟩
    ·rintro j y ys σ H2 hy ⟨⟨qs, rfl, A2, e2⟩, s2, v, rfl⟩
     obtain ⟨lt, hlt, rfl⟩ := cQ hy
     have hm := List.mem_of_getElem? hlt
     refine ⟨_, rfl, _, rfl, by show 1 <= sizeLine; decide, fun t ht => ?_⟩
     have s3 := ar (o := .tup [.str pl]) s2 ht
     have s3' := ar (o := .tup [.str pl]) (aj.refl H2) ht
     have t3 : upd H2 t (.tup [.str pl]) t = some (.tup ([pl].map V.str)) := ai
     generalize upd H2 t (.tup [.str pl]) = H3 at s3 s3' t3 ⊢
     have hz := hz8 lt hm
     have est : ∀ z, qs.map (·.2) ++ [z] = ((lts.take j).map (·.2)).map (fun l => l ++ [pl]) ++ [z] := fun z => by rw [e2]
     have etk : ((lts.take (j + 1)).map (·.2)).map (fun l => l ++ [pl]) = ((lts.take j).map (·.2)).map (fun l => l ++ [pl]) ++ [lt.2 ++ [pl]] := by
      rw [List.take_add_one, hlt, List.map_append, List.map_append]; rfl
     refine ⟨lt.1, t, lt.2.map V.str, [.str pl], rfl, rfl, SqT.of (s3 _ _ (A1 lt hm)), SqT.of t3, by rw [sizeLine_eq]; simp; omega, fun e => ?_, fun e => (by cases e), fun p hp => ?_⟩
     ·have e' : lt.2 = [] := by simpa using e
      exact ⟨⟨qs ++ [(t, lt.2 ++ [pl])], by simp [aq], (A2.same s3').app (aO.one (by rw [e']; exact t3)), by rw [List.map_append, etk]; exact est _⟩, s3, _, rfl⟩
     ·have s4' := ar (o := .tup (lt.2.map V.str ++ [.str pl])) s3' hp
      exact ⟨⟨qs ++ [(p, lt.2 ++ [pl])], by simp [aq], (A2.same s4').app (aO.one (by rw [ai, List.map_append]; rfl)), by rw [List.map_append, etk]; exact est _⟩, ar s3 hp, _, rfl⟩
    ·rintro ys σ H2 ⟨⟨qs, rfl, A2, e2⟩, s2, v, rfl⟩ q hq
     rw [take_all lts (by simp)] at e2
     have hql : qs.length = lts.length := by
      have q := congrArg List.length e2
      simpa using q
     have s3' := ar (o := .lst (aq qs)) (aj.refl H2) hq
     refine ⟨fo, q, _, _, rfl, rfl, s3' _ _ (s2 _ _ F1), ai, by rw [sizeLine_eq, List.length_map, List.length_map]; omega, fun q2 hq2' => ?_⟩
     have s4' := ar (o := .lst (aq lts ++ aq qs)) s3' hq2'
     refine ⟨s1.trans (s2.trans s4'), q2, lts ++ qs, _, rfl, by rw [ai]; simp [aq], (A1.same (s2.trans s4')).app (A2.same s4'), ?_⟩
     have ets : ps.take (i + 1) = ps.take i ++ [pl] := by rw [List.take_add_one, hc]; rfl
     rw [List.map_append, e2, e1, ets, dM]
  ·rintro σ H1 ⟨s1, fo, lts, g, rfl, F1, A1, e1⟩
   rw [take_all ps (by simp), eQ] at e1
   cases lts with
   | nil => cases e1
   | cons h0 rest =>
    obtain ⟨eh, er⟩ := List.cons.inj (show h0.2 :: rest.map (·.2) = [] :: aA ps from e1)
    refine ⟨_, rfl, _, rfl, fo, _, rfl, SqL.of F1, fun q hq => ?_⟩
    rw [show aq (h0 :: rest) = V.ref h0.1 :: aq rest from rfl, jS]
    have s2 := ar (o := .lst (aq rest)) (aj.refl H1) hq
    exact k q rest _ (s1.trans s2) ai (fun x hx => s2 _ _ (A1 x (List.mem_cons_of_mem _ hx))) er
noncomputable abbrev N44 : List Str := ["_law_web", "_law_lot"]
theorem we : aL N44 ["_law_web", "_law_lot"] (aB (top 44)) := ⟨rfl, rfl, rfl, by decide +kernel, rfl, by decide +kernel, by decide +kernel⟩
theorem sN {f : Addr} {fd : FuncData} (F : Fun K "_law_into" "_law_into" (top 44) f fd) (B : Bl mg) : aE P w K mg base CX0 1 f fd ["_law_web", "_law_lot"] mh := by
 refine F.ok we (fun vs H Q E h => ?_) (fun cdv A outer s H vs Q E hr h => ?_)
 ·obtain ⟨v, l, pa, ra, ps, ls, rs, rfl, _⟩ := h
  rfl
 ·obtain ⟨v, l, pa, ra, ps, ls, rs, rfl, W, hz, hl, k⟩ := h
  refine ⟨_, aw (aN (ay bo rfl B.len PySem.boot_len (aa (bq (N := ["_law_row", "_law_lot"]) (ix := [none, some 1]) ⟨rfl, rfl, rfl, by decide⟩ rfl (b7 (aG bh (pv 0) ak (fun _ _ => rfl))) (fun _ _ _ _ => aS 0 (by decide) rfl rfl)
    (fun _ _ _ _ => cK (PW.pt (dZ (aR (i3 K) (aG (bx K) (pv 0) ak (fun _ _ => rfl)) (pv 1) (by with_unfolding_all rfl)) (eP (aR (eG K) (aG (bx K) (pv 0) ak (fun _ _ => rfl)) (pv 1) (by with_unfolding_all rfl))))))
    (fun _ _ _ _ => pv 0)) ae))), ?_⟩
  refine ⟨_, rfl, aJ (j := 1) (.inr (SqT.of W.tp)) rfl rfl ⟨ra, rfl, ⟨_, SqT.of W.rl⟩, fu (xs := au rs) (fits (by simp; omega)) (fun i ys σ H3 => ys = au ((rs.take i).filter (lead ls)) /\ H3 = H /\ ∃ x, σ = [x, some (.ref l)]) ⟨rfl, rfl, _, rfl⟩
    (fun i ys σ H3 _ q => ⟨by rw [q.1]; simp only [au, List.length_map]; exact Nat.le_trans (List.length_filter_le _ _) (by simp; omega), by rw [q.2.1]; exact SqT.of W.rl⟩) ?_ ?_⟩⟩
  ·rintro i x ys σ H3 hx ⟨rfl, rfl, z, rfl⟩
   obtain ⟨r, hr', rfl⟩ := cO hx
   have hm := List.mem_of_getElem? hr'
   have hrow := W.rows r hm
   have tf := cz (lead ls) rs i r hr'
   have hS : Sq K H3 l (ls.map V.str) := .inr (SqT.of hl)
   refine ⟨_, rfl, aJ (j := 2) (.inr (SqT.of hrow)) rfl rfl ⟨_, rfl, l, ls.map V.str, rfl, hS, rfl, bW ls, _, rfl, ?_⟩⟩
   show if inV (.str r.2.2.2) (ls.map V.str) = true then _ else _
   rw [bY]
   refine bb (fun c => ⟨_, rfl, aJ (j := 1) (.inr (SqT.of hrow)) rfl rfl ⟨_, rfl, l, ls.map V.str, rfl, hS, rfl, bW ls, _, rfl, ?_⟩⟩) (fun c => bc ⟨?_, rfl, _, rfl⟩)
   ·show if (!inV (.str r.2.2.1) (ls.map V.str)) = true then _ else _
    rw [bY]
    refine bb (fun d => ⟨_, rfl, ?_, rfl, _, rfl⟩) (fun d => ⟨?_, rfl, _, rfl⟩)
    ·rw [tf]; unfold lead; rw [c, d]; simp [au]
    ·rw [tf]; simp only [Bool.not_eq_true] at d; unfold lead; rw [c, d]; simp [au]
   ·rw [tf]; simp only [Bool.not_eq_true] at c; unfold lead; rw [c]; simp [au]
  ·rintro ys σ H3 ⟨rfl, rfl, z, rfl⟩ q hq
   rw [take_all rs (by simp)]
   refine ⟨q, _, rfl, .inl (SqL.of ai), ?_⟩
   have e : ((au (rs.filter (lead ls))).length : Int) = ((rs.filter (lead ls)).length : Int) := by simp [au]
   rw [e]
   exact k _ (ar (aj.refl _) hq)
end
end K42
namespace K42
open PySem L2
theorem sQ {x y : Str} (h : nlt x y) (h' : nlt y x) : False := List.lt_irrefl _ (List.lt_trans h h')
theorem gv : ∀ {a b : List Str}, a.Pairwise nlt -> b.Pairwise nlt -> (∀ x, x ∈ a ↔ x ∈ b) -> a = b := by
 intro a
 induction a with
 | nil =>
  intro b _ _ h
  cases b with
  | nil => rfl
  | cons y s => exact absurd ((h y).mpr List.mem_cons_self) (by simp)
 | cons x r ih =>
  intro b ha hb h
  obtain ⟨ha1, ha2⟩ := List.pairwise_cons.mp ha
  cases b with
  | nil => exact absurd ((h x).mp List.mem_cons_self) (by simp)
  | cons y s =>
   obtain ⟨hb1, hb2⟩ := List.pairwise_cons.mp hb
   have e : x = y := by
    rcases List.mem_cons.mp ((h x).mp List.mem_cons_self) with e | e
    ·exact e
    ·rcases List.mem_cons.mp ((h y).mpr List.mem_cons_self) with e' | e'
     ·exact e'.symm
     ·exact (sQ (hb1 x e) (ha1 y e')).elim
   subst e
   rw [ih ha2 hb2 fun z => ⟨fun hz => ?_, fun hz => ?_⟩]
   ·rcases List.mem_cons.mp ((h z).mp (List.mem_cons_of_mem _ hz)) with e | e
    ·subst e; exact (lL (ha1 _ hz)).elim
    ·exact e
   ·rcases List.mem_cons.mp ((h z).mpr (List.mem_cons_of_mem _ hz)) with e | e
    ·subst e; exact (lL (hb1 _ hz)).elim
    ·exact e
theorem iz {α : Type} {l : List α} (h : l.Nodup) : l.reverse.Nodup := (List.reverse_perm l).nodup_iff.mpr h
theorem o6 (w : World) {X : Cx} (hc : X.calm = true) (h : X.w = w := by rfl) : bp X (.type "set") (fun xs H Q => ∃ (p : Addr) (ss : List Str), xs = [.ref p] /\ SqT X.K H p (ss.map V.str) /\ ss.length < 3000 /\
  ∀ (a : Addr), H a = none -> Q (.ref a) (upd H a (bN w a (aY ss.reverse)))) := by subst h; exact pS hc
theorem oZ (w : World) {X : Cx} (hc : X.calm = true) (h : X.w = w := by rfl) : bp X (.type "set") (fun xs H Q => ∃ (p : Addr) (ss : List Str), xs = [.ref p] /\ SqL X.K H p (ss.map V.str) /\ ss.length < 3000 /\
  ∀ (a : Addr), H a = none -> Q (.ref a) (upd H a (bN w a (aY ss.reverse)))) := by subst h; exact pV hc
theorem pZ (w : World) {X : Cx} (h : X.w = w := by rfl) : bp X (.builtin "len") (fun xs H Q => ∃ (a : Addr) (ss : List Str), xs = [.ref a] /\ H a = some (bN w a ss) /\ Q (.int ss.length) H) := by subst h; exact qL
theorem nZ (w : World) {X : Cx} (hc : X.calm = true) (h : X.w = w := by rfl) : bp X (.builtin "sorted") (fun xs H Q => ∃ (a : Addr) (ss : List Str), xs = [.ref a] /\ H a = some (bN w a ss) /\ ss.length < 64 /\
  ∀ (ss' : List Str) (q : Addr), ss'.Perm ss -> PyProof.Rows.sortedS ss' = true -> H q = none -> Q (.ref q) (upd H q (.lst (ss'.map V.str)))) := by subst h; exact n0 hc
noncomputable abbrev aK (rs : List T) (ss : List Str) : List T := rs.filter fun r => decide (r.2.1 ∈ ss)
theorem sE {rs tr rest : List T} {ss : List Str} (hp : rs.Perm (tr ++ rest)) (hn : (tna rs).Nodup) (hs : ss.Perm (tna tr)) : (aK rs ss).Perm tr := by
 have h1 := hp.filter (fun r => decide (r.2.1 ∈ ss))
 rw [List.filter_append] at h1
 have hn' : (tna tr ++ tna rest).Nodup := by rw [<- List.map_append]; exact (hp.map _).nodup_iff.mp hn
 have e1 : tr.filter (fun r => decide (r.2.1 ∈ ss)) = tr := List.filter_eq_self.mpr fun r hr => decide_eq_true (hs.mem_iff.mpr (List.mem_map_of_mem (f := fun r : T => r.2.1) hr))
 have e2 : rest.filter (fun r => decide (r.2.1 ∈ ss)) = [] := List.filter_eq_nil_iff.mpr fun r hr => by
  have : r.2.1 ∉ ss := fun z => (List.nodup_append.mp hn').2.2 r.2.1 (hs.mem_iff.mp z) r.2.1 (List.mem_map_of_mem (f := fun r : T => r.2.1) hr) rfl
  simp [this]
 rw [e1, e2, List.append_nil] at h1
 exact h1
theorem tm {trs : List (List T)} {i : Nat} {tr : List T} (h : trs[i]? = some tr) : ∃ rest, trs.flatten.Perm (tr ++ rest) := by
 obtain ⟨hi, e⟩ := List.getElem?_eq_some_iff.mp h
 have es : trs = trs.take i ++ tr :: trs.drop (i + 1) := by
  conv => lhs; rw [<- List.take_append_drop i trs, List.drop_eq_getElem_cons hi, e]
 refine ⟨(trs.take i).flatten ++ (trs.drop (i + 1)).flatten, ?_⟩
 conv => lhs; rw [es, List.flatten_append, List.flatten_cons]
 rw [<- List.append_assoc, <- List.append_assoc]
 exact List.Perm.append_right _ List.perm_append_comm
noncomputable def stepT (rows : List T) (th : List Str) : List Str := th ++ (rows.filter fun r => decide (r.2.2.1 ∈ th) && !decide (r.2.2.2 ∈ th)).map fun r => r.2.2.2
noncomputable def bw (rows : List T) (root : Str) : Nat -> List Str
 | 0 => [root]
 | n + 1 => stepT rows (bw rows root n)
theorem kQ {rows tr : List T} {root : Str} {ps : List Str} (S : SpT root ps tr) (hp : rows.Perm tr) : ∀ n, (bw rows root n).Nodup /\ (∀ x ∈ bw rows root n, x ∈ root :: ends tr) /\ (∀ x ∈ root :: ends (tr.take n), x ∈ bw rows root n)
 | 0 => ⟨by simp [bw], fun x hx => by simp [bw] at hx; simp [hx], fun x hx => by simpa [bw] using hx⟩
 | n + 1 => by
  obtain ⟨h1, h2, h3⟩ := kQ S hp n
  have he : (ends rows).Nodup := (hp.map _).nodup_iff.mpr (List.nodup_cons.mp S.nd).2
  refine ⟨?_, fun x hx => ?_, fun x hx => ?_⟩
  ·show List.Nodup (_ ++ _)
   refine List.nodup_append.mpr ⟨h1, he.sublist (List.filter_sublist.map _), fun a ha b hb z => ?_⟩
   obtain ⟨r, hr, rfl⟩ := List.mem_map.mp hb
   have := (Bool.and_eq_true_iff.mp (List.mem_filter.mp hr).2).2
   rw [<- z] at this
   simp [ha] at this
  ·rcases List.mem_append.mp (show x ∈ _ ++ _ from hx) with z | z
   ·exact h2 x z
   ·obtain ⟨r, hr, rfl⟩ := List.mem_map.mp z
    exact List.mem_cons_of_mem _ (List.mem_map_of_mem (f := fun r : T => r.2.2.2) (hp.mem_iff.mp (List.mem_filter.mp hr).1))
  ·show x ∈ _ ++ _
   by_cases c : x ∈ bw rows root n
   ·exact List.mem_append_left _ c
   ·refine List.mem_append_right _ ?_
    have hx' : x ∈ root :: ends (tr.take n) ++ ends ((tr[n]?).toList) := by
     rw [List.take_add_one] at hx
     simpa [ends] using hx
    rcases List.mem_append.mp hx' with z | z
    ·exact absurd (h3 x z) c
    ·obtain ⟨r, hr, rfl⟩ := List.mem_map.mp z
     have hr' : tr[n]? = some r := by simpa using hr
     refine List.mem_map.mpr ⟨r, List.mem_filter.mpr ⟨hp.mem_iff.mpr (List.mem_of_getElem? hr'), ?_⟩, rfl⟩
     rw [Bool.and_eq_true]
     exact ⟨decide_eq_true (h3 _ (S.ord n r hr')), by simpa using c⟩
theorem kE {tr : List T} {root : Str} {ps : List Str} (S : SpT root ps tr) (hl : tr.length + 1 = ps.length) (x : Str) : x ∈ ps ↔ x ∈ root :: ends tr := by
 refine ⟨fun h => ?_, S.sub x⟩
 refine Classical.byContradiction fun c => ?_
 have := eY (a := x :: root :: ends tr) (b := ps) (List.nodup_cons.mpr ⟨c, S.nd⟩) fun y hy => by
  rcases List.mem_cons.mp hy with e | e
  ·rw [e]; exact h
  ·exact S.sub y e
 simp [ends] at this
 omega
section
variable {P : Program} {w : World} {K : PySem.W.Frag} {mg : Str -> Option Value} {base : Heap}
noncomputable def lh : Sp := fun vs H Q _ => ∃ (v pa ra th : Addr) (ps : List Str) (rs tr rest : List T) (root : Str) (ss : List Str), vs = [.ref v, .str root, .ref th] /\ bL H v pa ra ps rs /\ Good ps (rs.map (·.2)) /\ ps.length <= 8 /\ root ∈ ps /\ H th = some (.tup (ss.map V.str)) /\
 rs.Perm (tr ++ rest) /\ SpT root ps tr /\ tr.length + 1 = ps.length /\ ss.Perm (tna tr) /\ PyProof.Rows.sortedS ss = true /\ ∀ H', aj H H' -> Q (.bl true) H'
noncomputable abbrev N45 : List Str := ["_law_web", "_law_root", "_law_thing", "_law_rows", "_law_others", "_law_there", "_law_turn"]
theorem fh : aL N45 ["_law_web", "_law_root", "_law_thing"] (aB (top 45)) := ⟨rfl, rfl, rfl, by decide +kernel, rfl, by decide +kernel, by decide +kernel⟩
theorem pF {f : Addr} {fd : FuncData} (F : Fun K "_law_is_tree" "_law_is_tree" (top 45) f fd) (B : Bl mg) : aE P w K mg base CX0 1 f fd ["_law_web", "_law_root", "_law_thing"] lh := by
 refine F.ok fh (fun vs H Q E h => ?_) (fun cdv A outer s H vs Q E hr h => ?_)
 ·obtain ⟨v, pa, ra, th, ps, rs, tr, rest, root, ss, rfl, _⟩ := h
  rfl
 ·obtain ⟨v, pa, ra, th, ps, rs, tr, rest, root, ss, rfl, W, G, h8, hroot, hth, hpm, S, hlen, hss, hso, k⟩ := h
  refine ⟨_, am (bj (PW.pt (di (bP (bA (ay (de (T := "tuple")) rfl B.isinstance cg (aa (pv 2) (aa (cT (v := .ty "tuple") rfl B.tuple cU rfl) ae)))))
    (dD (aR (gr hr) (cj fT rfl B.list fC (aa (pv 2) ae)) (ay (nZ w rfl) rfl B.sorted eO (aa (cj (o6 w rfl) rfl B.set mR (aa (pv 2) ae)) ae)) (aT _))))) cP be)
   (am (dS (i := 3) (N := ["_law_row", "_law_thing"]) (ix := [none, some 2]) fh.nd rfl (Or.inl rfl) ⟨rfl, rfl, rfl, by decide⟩ rfl (b7 (aG bh (pv 0) ak (fun _ _ => rfl))) (fun _ _ _ _ => aS 0 (by decide) rfl rfl) (fun _ _ _ _ => cK (aR (i3 K) (aG (bx K) (pv 0) ak (fun _ _ => rfl)) (pv 1) (by with_unfolding_all rfl))) (fun _ _ _ _ => pv 0))
   (am (dS (i := 4) (N := ["_law_place", "_law_root"]) (ix := [none, some 1]) fh.nd rfl (Or.inl rfl) ⟨rfl, rfl, rfl, by decide⟩ rfl (b7 (aG bh (pv 0) ak (fun _ _ => rfl))) (fun _ _ _ _ => aS 0 (by decide) rfl rfl) (fun _ _ _ _ => cK (aR eB (pv 0) (pv 1) (aT _))) (fun _ _ _ _ => pv 0))
   (am (bj (PW.pt (di (aR eB (ay bo rfl B.len PySem.boot_len (aa (pv 3) ae)) (ay bo rfl B.len PySem.boot_len (aa (pv 2) ae)) (aT _))
    (dD (aR (gr hr) (ay fU rfl B.sorted eO (aa (bq (N := ["_law_row"]) (ix := [none]) ⟨rfl, rfl, rfl, by decide⟩ rfl (bB (pv 3)) (fun _ _ _ _ => aS 0 (by decide) rfl rfl) (fun _ _ _ _ => bz) (fun _ _ _ _ => aG (bx K) (pv 0) ak (fun _ _ => rfl))) ae)) (pv 4) (aT _))))) cP be)
   (am (aM (i := 5) fh.nd rfl (Or.inr rfl) (bC (aa (pv 1) ae)))
   (am (bO PassesOwn.never rfl (df rfl B.range (aa (ay bo rfl B.len PySem.boot_len (aa (pv 3) ae)) ae)) (aW (i := 6) fh.nd rfl (Or.inl rfl))
    (aw (aM (i := 5) fh.nd rfl (Or.inr rfl) (aD ef (pv 5) (bq (N := ["_law_row", "_law_there"]) (ix := [none, some 5]) ⟨rfl, rfl, rfl, by decide⟩ rfl (bB (pv 3)) (fun _ _ _ _ => aS 0 (by decide) rfl rfl)
     (fun _ _ _ _ => cK (PW.pt (dZ (aR (i3 K) (aG (bx K) (pv 0) ak (fun _ _ => rfl)) (pv 1) (by with_unfolding_all rfl)) (eP (aR (eG K) (aG (bx K) (pv 0) ak (fun _ _ => rfl)) (pv 1) (by with_unfolding_all rfl))))))
     (fun _ _ _ _ => aG (bx K) (pv 0) ak (fun _ _ => rfl)))))))
   (aw (aN (b5 (mL hr) (ay fU rfl B.sorted eO (aa (pv 5) ae)) (cj fT rfl B.list fC (aa (aG bh (pv 0) ak (fun _ _ => rfl)) ae)) (aT _))))))))), ?_⟩
  have hnd := eN G.so
  have hrz : rs.length <= 60 := by have := G.rz; simpa using this
  have htn : (tna rs).Nodup := by
   have := eN G.rso
   rw [List.map_map] at this
   exact this
  have htr : ∀ r ∈ tr, r ∈ rs := fun r hr => hpm.mem_iff.mpr (List.mem_append_left _ hr)
  have htl : tr.length <= 7 := by omega
  have hsl : ss.length = tr.length := by rw [hss.length_eq, List.length_map]
  have snd : ss.Nodup := hss.nodup_iff.mpr (by
   have : (tna tr ++ tna rest).Nodup := by rw [<- List.map_append]; exact (hpm.map _).nodup_iff.mp htn
   exact (List.nodup_append.mp this).1)
  have so := dP hso snd
  have nmo : ∀ x ∈ ss, aH x := fun x hx => by
   obtain ⟨r, hr', e⟩ := List.mem_map.mp (hss.mem_iff.mp hx)
   rw [<- e]; exact (G.rn r.2 (List.mem_map_of_mem (htr r hr'))).1
  have hfp := sE hpm htn hss
  have hfl : (aK rs ss).length = tr.length := hfp.length_eq
  have hpin : ∀ x ∈ root :: ends tr, aH x := fun x hx => G.nm x (S.sub x hx)
  refine ⟨_, rfl, _, _, true, rfl, .tup hth, rfl, true, rfl, bc ?_⟩
  refine ⟨_, rfl, th, _, rfl, .inr (SqT.of hth), fun l hl => ?_⟩
  have s5 := ar (o := .lst (ss.map V.str)) (aj.refl H) hl
  have l5 : upd H l (.lst (ss.map V.str)) l = some (.lst (ss.map V.str)) := ai
  generalize upd H l (.lst (ss.map V.str)) = H5 at s5 l5 ⊢
  refine ⟨_, rfl, th, ss, rfl, SqT.of (s5 _ _ hth), by omega, fun st hst => ?_⟩
  have hme : aY ss.reverse = ss.reverse := jZ (iz snd)
  rw [hme]
  have s6 := ar (o := bN w st ss.reverse) s5 hst
  have l6 : upd H5 st (bN w st ss.reverse) l = some (.lst (ss.map V.str)) := by rw [ag (av l5 hst)]; exact l5
  refine ⟨st, ss.reverse, rfl, ai, by rw [List.length_reverse]; omega, fun so' q7 hpm7 hso7 hq7 => ?_⟩
  have eso : so' = ss := gv (dP hso7 (hpm7.nodup_iff.mpr (iz snd))) so fun x => by rw [hpm7.mem_iff, List.mem_reverse]
  subst eso
  have s7 := ar (o := .lst (so'.map V.str)) s6 hq7
  have l7 : upd (upd H5 st (bN w st so'.reverse)) q7 (.lst (so'.map V.str)) l = some (.lst (so'.map V.str)) := by rw [ag (av l6 hq7)]; exact l6
  have q7' : upd (upd H5 st (bN w st so'.reverse)) q7 (.lst (so'.map V.str)) q7 = some (.lst (so'.map V.str)) := ai
  generalize upd (upd H5 st (bN w st so'.reverse)) q7 (.lst (so'.map V.str)) = H7 at s7 l7 q7' ⊢
  refine ⟨.list (so'.map PyData.str), .list (so'.map PyData.str), .lst l7 (DVs.strs so'), .lst q7' (DVs.strs so'), (cJ nmo).1, (cJ nmo).1, _, rfl, ?_⟩
  have ev : PyData.eqv (.list (so'.map PyData.str)) (.list (so'.map PyData.str)) = true := (eE so' so').trans (by simp)
  rw [ev]
  refine bc ?_
  have W7 := W.same s7
  refine ⟨_, rfl, aJ (j := 1) (.inr (SqT.of W7.tp)) rfl rfl ⟨ra, rfl, ⟨_, SqT.of W7.rl⟩, fu (xs := au rs) (fits (by rw [List.length_map]; omega)) (fun i ys σ H8 => ys = au (aK (rs.take i) so') /\ H8 = H7 /\ ∃ x, σ = [x, some (.ref th)]) ⟨rfl, rfl, _, rfl⟩
   (fun i ys σ H8 _ q => ⟨by rw [q.1, List.length_map]; exact Nat.le_trans (List.length_filter_le _ _) (by rw [List.length_take]; omega), by rw [q.2.1]; exact SqT.of W7.rl⟩) ?_ ?_⟩⟩
  ·rintro i x ys σ H8 hx ⟨rfl, rfl, z, rfl⟩
   obtain ⟨r, hr', rfl⟩ := cO hx
   have hrow := W7.rows r (List.mem_of_getElem? hr')
   have tf := cz (fun r : T => decide (r.2.1 ∈ so')) rs i r hr'
   refine ⟨_, rfl, aJ (j := 0) (.inr (SqT.of hrow)) rfl rfl ⟨_, rfl, th, _, rfl, .inr (SqT.of (s7 _ _ hth)), rfl, bW _, _, rfl, ?_⟩⟩
   show if inV (.str r.2.1) (so'.map V.str) = true then _ else _
   rw [bY]
   refine bb (fun c => ⟨_, rfl, ?_, rfl, _, rfl⟩) (fun c => ⟨?_, rfl, _, rfl⟩)
   ·unfold aK; rw [tf, c]; simp [au]
   ·unfold aK; rw [tf]; simp only [Bool.not_eq_true] at c; rw [c]; simp
  rintro ys σ H8 ⟨rfl, rfl, z, rfl⟩ rw8 hrw8
  rw [take_all rs (by simp)]
  have s9 := ar (o := .lst (au (aK rs so'))) s7 hrw8
  have w9 : upd H8 rw8 (.lst (au (aK rs so'))) rw8 = some (.lst (au (aK rs so'))) := ai
  generalize upd H8 rw8 (.lst (au (aK rs so'))) = H9 at s9 w9 ⊢
  have W9 := W.same s9
  refine ⟨_, rfl, aJ (j := 0) (.inr (SqT.of W9.tp)) rfl rfl ⟨pa, rfl, ⟨_, SqT.of W9.pl⟩, fu (xs := ps.map V.str) (fits (by rw [List.length_map]; omega)) (fun i ys σ H10 => ys = (others (ps.take i) root).map V.str /\ H10 = H9 /\ ∃ x, σ = [x, some (.str root)]) ⟨rfl, rfl, _, rfl⟩
   (fun i ys σ H10 _ q => ⟨by rw [q.1, List.length_map]; exact Nat.le_trans (List.length_filter_le _ _) (by rw [List.length_take]; omega), by rw [q.2.1]; exact SqT.of W9.pl⟩) ?_ ?_⟩⟩
  ·rintro i x ys σ H10 hx ⟨rfl, rfl, z, rfl⟩
   rw [List.getElem?_map] at hx
   cases hc : ps[i]? with
   | none => rw [hc] at hx; cases hx
   | some p =>
    rw [hc] at hx
    cases hx
    have tf := cz (fun y : Str => !decide (y = root)) ps i p hc
    refine ⟨_, rfl, _, rfl, rfl, _, rfl, ?_⟩
    have ed : decide (V.str p = V.str root) = decide (p = root) := by
     by_cases c : p = root
     ·rw [c]; simp
     ·have : V.str p ≠ V.str root := fun z => c (V.str.inj z)
      rw [decide_eq_false this, decide_eq_false c]
    show if (!decide (V.str p = V.str root)) = true then _ else _
    rw [ed]
    refine bb (fun c => ⟨_, rfl, ?_, rfl, _, rfl⟩) (fun c => ⟨?_, rfl, _, rfl⟩)
    ·unfold others; rw [tf, c]; simp
    ·unfold others; rw [tf]; simp only [Bool.not_eq_true] at c; rw [c]; simp
  rintro ys σ H10 ⟨rfl, rfl, z, rfl⟩ ot hot
  rw [take_all ps (by simp)]
  have s11 := ar (o := .lst ((others ps root).map V.str)) s9 hot
  have o11 : upd H10 ot (.lst ((others ps root).map V.str)) ot = some (.lst ((others ps root).map V.str)) := ai
  have w11 : upd H10 ot (.lst ((others ps root).map V.str)) rw8 = some (.lst (au (aK rs so'))) := by rw [ag (av w9 hot)]; exact w9
  generalize upd H10 ot (.lst ((others ps root).map V.str)) = H11 at s11 o11 w11 ⊢
  have W11 := W.same s11
  refine ⟨_, rfl, rw8, _, rfl, .inl (SqL.of w11), _, rfl, th, _, rfl, .inr (SqT.of (s11 _ _ hth)), rfl, _, rfl, ?_⟩
  have en : (!decide (V.int ((au (aK rs so')).length : Int) = V.int ((so'.map V.str).length : Int))) = false := by
   rw [List.length_map, List.length_map, hfl, hsl]; simp
  rw [en]
  refine bc ?_
  refine ⟨_, rfl, rw8, rfl, ⟨_, SqL.of w11⟩, eI (xs := au (aK rs so')) (fits (by rw [List.length_map]; omega)) (fun i ys σ H12 => ys = (ends ((aK rs so').take i)).map V.str /\ H12 = H11 /\ ∃ x, σ = [x]) ⟨rfl, rfl, _, rfl⟩
   (fun i ys σ H12 _ q => ⟨by rw [q.1, List.length_map, List.length_map, List.length_take]; omega, by rw [q.2.1]; exact SqL.of w11⟩) ?_ ?_⟩
  ·rintro i x ys σ H12 hx ⟨rfl, rfl, z, rfl⟩
   obtain ⟨r, hr', rfl⟩ := cO hx
   have hrow := W11.rows r (List.mem_filter.mp (List.mem_of_getElem? hr')).1
   refine ⟨_, rfl, aJ (j := 2) (.inr (SqT.of hrow)) rfl rfl ⟨?_, rfl, _, rfl⟩⟩
   rw [List.take_add_one, hr']; simp [ends]
  rintro ys σ H12 ⟨rfl, rfl, z, rfl⟩ en12 hen
  rw [take_all (aK rs so') (by simp)]
  have s13 := ar (o := .lst ((ends (aK rs so')).map V.str)) s11 hen
  have e13 : upd H12 en12 (.lst ((ends (aK rs so')).map V.str)) en12 = some (.lst ((ends (aK rs so')).map V.str)) := ai
  have o13 : upd H12 en12 (.lst ((ends (aK rs so')).map V.str)) ot = some (.lst ((others ps root).map V.str)) := by rw [ag (av o11 hen)]; exact o11
  have w13 : upd H12 en12 (.lst ((ends (aK rs so')).map V.str)) rw8 = some (.lst (au (aK rs so'))) := by rw [ag (av w11 hen)]; exact w11
  generalize upd H12 en12 (.lst ((ends (aK rs so')).map V.str)) = H13 at s13 e13 o13 w13 ⊢
  refine ⟨en12, _, rfl, SqL.of e13, by rw [List.length_map, hfl]; omega, fun se q14 hpm14 hso14 hq14 => ?_⟩
  have hme : ∀ x, x ∈ se ↔ x ∈ ends tr := fun x => by rw [hpm14.mem_iff]; exact (hfp.map _).mem_iff
  have ese : se = others ps root := by
   refine gv (dP hso14 (hpm14.nodup_iff.mpr ((hfp.map _).nodup_iff.mpr (List.nodup_cons.mp S.nd).2))) (G.so.sublist List.filter_sublist) fun x => ?_
   rw [hme x]
   unfold others
   rw [List.mem_filter, kE S hlen x, List.mem_cons]
   constructor
   ·intro h
    refine ⟨.inr h, ?_⟩
    have : x ≠ root := fun z => (List.nodup_cons.mp S.nd).1 (z ▸ h)
    simp [this]
   ·rintro ⟨h | h, c⟩
    ·simp [h] at c
    ·exact h
  rw [ese]
  have s15 := ar (o := .lst ((others ps root).map V.str)) s13 hq14
  have q15 : upd H13 q14 (.lst ((others ps root).map V.str)) q14 = some (.lst ((others ps root).map V.str)) := ai
  have o15 : upd H13 q14 (.lst ((others ps root).map V.str)) ot = some (.lst ((others ps root).map V.str)) := by rw [ag (av o13 hq14)]; exact o13
  have w15 : upd H13 q14 (.lst ((others ps root).map V.str)) rw8 = some (.lst (au (aK rs so'))) := by rw [ag (av w13 hq14)]; exact w13
  generalize upd H13 q14 (.lst ((others ps root).map V.str)) = H15 at s15 q15 o15 w15 ⊢
  have nmot : ∀ x ∈ others ps root, aH x := fun x hx => G.nm x (List.mem_filter.mp hx).1
  refine ⟨_, rfl, .list ((others ps root).map PyData.str), .list ((others ps root).map PyData.str), .lst q15 (DVs.strs _), .lst o15 (DVs.strs _), (cJ nmot).1, (cJ nmot).1, _, rfl, ?_⟩
  have ev2 : PyData.eqv (.list ((others ps root).map PyData.str)) (.list ((others ps root).map PyData.str)) = true := (eE _ _).trans (by simp)
  rw [ev2]
  refine bc ?_
  refine ⟨_, rfl, by show 1 <= sizeLine; decide, fun t0 ht0 => ?_⟩
  have s16 := ar (o := .lst [.str root]) s15 ht0
  have t16 : upd H15 t0 (.lst [.str root]) t0 = some (.lst ((bw (aK rs so') root 0).map V.str)) := ai
  have w16 : upd H15 t0 (.lst [.str root]) rw8 = some (.lst (au (aK rs so'))) := by rw [ag (av w15 ht0)]; exact w15
  generalize upd H15 t0 (.lst [.str root]) = H16 at s16 t16 w16 ⊢
  have TO := kQ S hfp
  have thl : ∀ n, (bw (aK rs so') root n).length <= 8 := fun n => Nat.le_trans (eY (TO n).1 fun x hx => S.sub x ((TO n).2.1 x hx)) h8
  have hnn : (((au (aK rs so')).length : Int)).toNat = tr.length := by rw [List.length_map, hfl]; simp
  refine ⟨_, rfl, rw8, _, rfl, .inl (SqL.of w16), _, rfl, by omega, by rw [List.length_map, hfl]; omega, ?_⟩
  refine fj (fun i σ H17 => ∃ (t1 : Addr) (g : Option V), σ = [some (.ref v), some (.str root), some (.ref th), some (.ref rw8), some (.ref ot), some (.ref t1), g] /\ aj H16 H17 /\ H17 t1 = some (.lst ((bw (aK rs so') root i).map V.str)))
   ⟨t0, none, rfl, aj.refl _, t16⟩ ?_ ?_
  ·rintro i σ H17 hi ⟨t1, g, rfl, s17, t17⟩
   have w17 := s17 _ _ w16
   have W17 := W.same (s16.trans s17)
   have hS : Sq K H17 t1 ((bw (aK rs so') root i).map V.str) := .inl (SqL.of t17)
   refine ⟨_, rfl, _, rfl, rw8, rfl, ⟨_, SqL.of w17⟩, iy (xs := au (aK rs so')) (fits (by rw [List.length_map]; omega)) (fun j ys σ H18 => ys = (ends (((aK rs so').take j).filter fun r => decide (r.2.2.1 ∈ bw (aK rs so') root i) && !decide (r.2.2.2 ∈ bw (aK rs so') root i))).map V.str /\ H18 = H17 /\ ∃ x, σ = [x, some (.ref t1)]) ⟨rfl, rfl, _, rfl⟩
    (fun j ys σ H18 _ q => ⟨by rw [q.1, List.length_map, List.length_map]; exact Nat.le_trans (List.length_filter_le _ _) (by rw [List.length_take]; omega), by rw [q.2.1]; exact SqL.of w17⟩) ?_ ?_⟩
   ·rintro j x ys σ H18 hx ⟨rfl, rfl, z, rfl⟩
    obtain ⟨r, hr', rfl⟩ := cO hx
    have hrow := W17.rows r (List.mem_filter.mp (List.mem_of_getElem? hr')).1
    have tf := cz (fun r : T => decide (r.2.2.1 ∈ bw (aK rs so') root i) && !decide (r.2.2.2 ∈ bw (aK rs so') root i)) (aK rs so') j r hr'
    refine ⟨_, rfl, aJ (j := 1) (.inr (SqT.of hrow)) rfl rfl ⟨_, rfl, t1, _, rfl, hS, rfl, bW _, _, rfl, ?_⟩⟩
    show if inV (.str r.2.2.1) ((bw (aK rs so') root i).map V.str) = true then _ else _
    rw [bY]
    refine bb (fun c => ⟨_, rfl, aJ (j := 2) (.inr (SqT.of hrow)) rfl rfl ⟨_, rfl, t1, _, rfl, hS, rfl, bW _, _, rfl, ?_⟩⟩) (fun c => bc ⟨?_, rfl, _, rfl⟩)
    ·show if (!inV (.str r.2.2.2) ((bw (aK rs so') root i).map V.str)) = true then _ else _
     rw [bY]
     refine bb (fun d => ⟨_, rfl, aJ (j := 2) (.inr (SqT.of hrow)) rfl rfl ⟨?_, rfl, _, rfl⟩⟩) (fun d => ⟨?_, rfl, _, rfl⟩)
     ·rw [tf, c, d]; simp [ends]
     ·rw [tf]; simp only [Bool.not_eq_true] at d; rw [c, d]; simp
    ·rw [tf]; simp only [Bool.not_eq_true] at c; rw [c]; simp
   rintro ys σ H18 ⟨rfl, rfl, z, rfl⟩ q hq
   rw [take_all (aK rs so') (by simp)]
   have s19 := ar (o := .lst ((ends ((aK rs so').filter fun r => decide (r.2.2.1 ∈ bw (aK rs so') root i) && !decide (r.2.2.2 ∈ bw (aK rs so') root i))).map V.str)) (aj.refl H18) hq
   have hfz := List.length_filter_le (fun r : T => decide (r.2.2.1 ∈ bw (aK rs so') root i) && !decide (r.2.2.2 ∈ bw (aK rs so') root i)) (aK rs so')
   have htz := thl i
   refine ⟨t1, q, _, _, rfl, rfl, s19 _ _ t17, ai, by rw [sizeLine_eq, List.length_map, List.length_map, List.length_map]; omega, fun q2 hq2 => ?_⟩
   exact ⟨q2, _, rfl, s17.trans (ar s19 hq2), by rw [ai, <- List.map_append]; rfl⟩
  ·rintro σ H17 ⟨t1, g, rfl, s17, t17⟩
   rw [hnn] at t17
   obtain ⟨n1, n2, n3⟩ := TO tr.length
   rw [List.take_length] at n3
   have htz := thl tr.length
   refine ⟨_, rfl, t1, _, rfl, SqL.of t17, by omega, fun sp q18 hpm18 hso18 hq18 => ?_⟩
   have esp : sp = ps := gv (dP hso18 (hpm18.nodup_iff.mpr n1)) G.so fun x => by
    rw [hpm18.mem_iff, kE S hlen x]
    exact ⟨n2 x, n3 x⟩
   rw [esp]
   have s18 := ar (o := .lst (ps.map V.str)) (s16.trans s17) hq18
   have q18' : upd H17 q18 (.lst (ps.map V.str)) q18 = some (.lst (ps.map V.str)) := ai
   generalize upd H17 q18 (.lst (ps.map V.str)) = H18 at s18 q18' ⊢
   have W18 := W.same s18
   refine ⟨_, rfl, aJ (j := 0) (.inr (SqT.of W18.tp)) rfl rfl ⟨pa, _, rfl, .inr (SqT.of W18.pl), fun l19 hl19 => ?_⟩⟩
   have s19 := ar (o := .lst (ps.map V.str)) s18 hl19
   refine ⟨.list (ps.map PyData.str), .list (ps.map PyData.str), .lst (ar (aj.refl H18) hl19 _ _ q18') (DVs.strs ps), .lst ai (DVs.strs ps), (cJ G.nm).1, (cJ G.nm).1, ?_⟩
   have ev3 : PyData.eqv (.list (ps.map PyData.str)) (.list (ps.map PyData.str)) = true := (eE ps ps).trans (by simp)
   rw [ev3]
   exact k _ s19
end
theorem wA : bootBuiltins "ValueError" = some (.type "ValueError") := by decide +kernel
structure Oth (K : PySem.W.Frag) (mg : Str -> Option Value) (C d1 d2 d3 d4 d5 d6 d7 d8 d9 d10 : Addr) : Prop where
 m1 : mg "NoCosts" = some (.ref d1)
 m2 : mg "NoLot" = some (.ref d2)
 m3 : mg "NoNumber" = some (.ref d3)
 m4 : mg "NoPlace" = some (.ref d4)
 m5 : mg "NoRoots" = some (.ref d5)
 m6 : mg "NoText" = some (.ref d6)
 m7 : mg "NoTie" = some (.ref d7)
 m8 : mg "NoTree" = some (.ref d8)
 m9 : mg "NoWeb" = some (.ref d9)
 m10 : mg "TooMany" = some (.ref d10)
 k1 : PySem.W.kitAny K (.ref C) ([d1, d2, d3, d4, d5].map Value.ref) = some false
 k2 : PySem.W.kitAny K (.ref C) ([d6, d7, d8, d9, d10].map Value.ref) = some false
 ve : mg "ValueError" = none
 kv : PySem.W.kitOne K (.ref C) (.type "ValueError") = some true
 ke : fN K C
section
variable {P : Program} {w : World} {K : PySem.W.Frag} {mg : Str -> Option Value} {base : Heap} {C d1 d2 d3 d4 d5 d6 d7 d8 d9 d10 : Addr}
noncomputable def lV (C : Addr) : Sp := fun vs H Q _ => ∃ (a dx : Addr) (fs : List (Str × V)), vs = [.ref a] /\ H a = some (bM a C (some dx)) /\ H dx = some (.xd fs) /\ ∀ H', aj H H' -> Q (.bl false) H'
theorem wO : aL ["_law_e"] ["_law_e"] (aB (top 47)) := ⟨rfl, rfl, rfl, by decide +kernel, rfl, by decide +kernel, by decide +kernel⟩
theorem sA {f : Addr} {fd : FuncData} (F : Fun K "_law_is_other" "_law_is_other" (top 47) f fd) (B : Bl mg) (O : Oth K mg C d1 d2 d3 d4 d5 d6 d7 d8 d9 d10) : eu P w K mg base CX0 1 f fd ["_law_e"] (lV C) := by
 refine F.okH wO (fun vs H Q E h => ?_) (fun cdv A outer s H vs Q E hr h => ?_)
 ·obtain ⟨a, dx, fs, rfl, _⟩ := h
  rfl
 ·obtain ⟨a, dx, fs, rfl, ha, hdx, k⟩ := h
  refine ⟨_, am (bj (bA (ay (jJ O.ke O.k1) rfl B.isinstance cg (aa (pv 0) (aa (cq (aa (cm (v := .ref d1) rfl O.m1 rfl) (aa (cm (v := .ref d2) rfl O.m2 rfl) (aa (cm (v := .ref d3) rfl O.m3 rfl) (aa (cm (v := .ref d4) rfl O.m4 rfl) (aa (cm (v := .ref d5) rfl O.m5 rfl) ae)))))) ae)))) cP be)
   (aw (aN (ay (jJ O.ke O.k2) rfl B.isinstance cg (aa (pv 0) (aa (cq (aa (cm (v := .ref d6) rfl O.m6 rfl) (aa (cm (v := .ref d7) rfl O.m7 rfl) (aa (cm (v := .ref d8) rfl O.m8 rfl) (aa (cm (v := .ref d9) rfl O.m9 rfl) (aa (cm (v := .ref d10) rfl O.m10 rfl) ae)))))) ae))))), ?_⟩
  refine ⟨_, rfl, by show 5 <= sizeLine; decide, fun t1 ht1 => ?_⟩
  have s1 := ar (o := .tup ([d1, d2, d3, d4, d5].map V.ref)) (aj.refl H) ht1
  refine ⟨a, some dx, t1, rfl, s1 _ _ ha, fun d hd => ⟨fs, by cases hd; exact s1 _ _ hdx⟩, ai, _, rfl, bc ?_⟩
  refine ⟨_, rfl, by show 5 <= sizeLine; decide, fun t2 ht2 => ?_⟩
  have s2 := ar (o := .tup ([d6, d7, d8, d9, d10].map V.ref)) s1 ht2
  exact ⟨a, some dx, t2, rfl, s2 _ _ ha, fun d hd => ⟨fs, by cases hd; exact s2 _ _ hdx⟩, ai, k _ s2⟩
end
theorem sD {prs : List Pr} {i : Nat} {x : V} (h : (ba prs)[i]? = some x) : ∃ r, prs[i]? = some r /\ x = .ref r.1 := by
 unfold ba at h
 rw [List.getElem?_map] at h
 cases e : prs[i]? with
 | none => rw [e] at h; cases h
 | some r => rw [e] at h; exact ⟨r, rfl, (Option.some.inj h).symm⟩
theorem rX {H : Hp} {p t : Addr} {prs : List Pr} (h1 : Pot H p) (h2 : H t = some (.lst (ba prs))) : t ≠ p := by
 rintro rfl
 obtain ⟨a, b, e, _⟩ := h1
 rw [e] at h2
 have h3 := HO.lst.inj (Option.some.inj h2)
 cases prs with
 | nil => cases h3
 | cons x r => cases (List.cons.inj h3).1
theorem tJ {m n : Nat} (h1 : 1 <= m) (h8 : m <= 8) {T : Int} (hT : T <= 24 / (if (m : Int) - 1 > 1 then (m : Int) - 1 else 1)) (hn : (n : Int) <= T) : n * (m - 1) <= 24 := by
 have : m = 1 \/ m = 2 \/ m = 3 \/ m = 4 \/ m = 5 \/ m = 6 \/ m = 7 \/ m = 8 := by omega
 rcases this with rfl | rfl | rfl | rfl | rfl | rfl | rfl | rfl <;> simp at hT <;> omega
noncomputable def bu (b m : Nat) : List Nat := b :: (List.range m).filter fun x => !decide (x = b)
theorem ki (b m : Nat) : (bu b m).Nodup := List.nodup_cons.mpr ⟨fun h => by simp at h, (List.nodup_range).filter _⟩
theorem mm {b m : Nat} (h : b < m) : ∀ x ∈ bu b m, x < m := fun x hx => by
 rcases List.mem_cons.mp hx with e | e
 ·omega
 ·exact List.mem_range.mp (List.mem_filter.mp e).1
theorem tZ {b m : Nat} (h : b < m) : (bu b m).length = m := by
 have h1 : (bu b m).length <= m := by
  have := List.Nodup.length_le_of_subset (l₁ := bu b m) (l₂ := List.range m) (ki b m) fun x hx => List.mem_range.mpr (mm h x hx)
  simpa using this
 have h2 : m <= (bu b m).length := by
  have := List.Nodup.length_le_of_subset (l₁ := List.range m) (l₂ := bu b m) List.nodup_range fun x hx => by
   by_cases e : x = b
   ·rw [e]; exact List.mem_cons_self
   ·exact List.mem_cons_of_mem _ (List.mem_filter.mpr ⟨hx, by simpa using e⟩)
  simpa using this
 omega
section
variable {P : Program} {w : World} {K : PySem.W.Frag} {mg : Str -> Option Value} {base : Heap}
noncomputable def lj : Sp := fun vs H Q _ => ∃ (p : Addr), vs = [.ref p] /\ Pot H p /\
 ∀ (v u pl bg pa ra : Addr) (ns ps bs : List Str) (rs : List (Addr × Row)) (H' : Hp), Pot H' p -> H' v = some (.tup [.ref u, .ref pl, .ref bg]) -> bL H' u pa ra ps rs -> Good ps (rs.map (·.2)) -> ps.length <= 8 -> rs.length <= 40 -> H' pl = some (.lst (ns.map V.str)) -> (∀ x ∈ ns, x ∈ ps) -> 1 <= ns.length -> ns.length <= 8 ->
  H' bg = some (.lst (bs.map V.str)) -> (∀ x ∈ bs, x ∈ ps) -> bs.length <= 6 -> Kp [p] H H' -> Q (.ref v) H'
noncomputable abbrev N42 : List Str := ["_law_pot_here", "_law_many", "_law_places", "_law_begins", "_law_pairs", "_law_begin", "_law_order", "_law_k", "_law_a", "_law_ties", "_law_rows"]
theorem cN : aL N42 ["_law_pot_here"] (aB (top 42)) := ⟨rfl, rfl, rfl, by decide +kernel, rfl, by decide +kernel, by decide +kernel⟩
theorem qO {f : Addr} {fd : FuncData} (F : Fun K "_law_rooted_web" "_law_rooted_web" (top 42) f fd) (B : Bl mg) (Ft : Fn P w K mg base 1 "_law_take" ["_law_pot_here", "_law_many"] eX) (Fn' : Fn P w K mg base 2 "_law_names" ["_law_pot_here", "_law_many"] lZ)
  (Fd : Fn P w K mg base 2 "_law_named" ["_law_pot_here", "_law_names_here"] lJ) (Fc : Fn P w K mg base 2 "_law_called" ["_law_pot_here", "_law_ties", "_law_places"] lw) : aE P w K mg base CX0 3 f fd ["_law_pot_here"] lj := by
 refine F.ok cN (fun vs H Q E h => ?_) (fun cdv A outer s H vs Q E hr h => ?_)
 ·obtain ⟨p, rfl, _⟩ := h
  rfl
 ·obtain ⟨p, rfl, hp, k⟩ := h
  have hr1 : aI 1 _ := hr.mono (by decide)
  refine ⟨_, am (aM (i := 1) cN.nd rfl (Or.inr rfl) (aG bh (bC (aa (aD b8 ak (ax Ft hr1 (aa (pv 0) (aa ak ae)))) (aa (aD b8 ak (ax Ft hr1 (aa (pv 0) (aa ak ae)))) ae)))
    (cj ik rfl B.int jl (aa (b5 e9 (ax Ft hr1 (aa (pv 0) (aa ak ae))) ak (aT _)) ae)) (fun _ _ => rfl)))
   (am (aM (i := 2) cN.nd rfl (Or.inr rfl) (ax Fd hr (aa (pv 0) (aa (ax Fn' hr (aa (pv 0) (aa (pv 1) ae))) ae))))
   (am (dS (i := 3) (N := ["_law_k", "_law_many", "_law_pot_here"]) (ix := [none, some 1, some 0]) cN.nd rfl (Or.inl rfl) ⟨rfl, rfl, rfl, by decide⟩ rfl
    (df rfl B.range (aa (ay (ij rfl) rfl B.min jg (aa (aG bh (bC (aa ak (aa ak (aa ak (aa ak (aa ak (aa ak ae))))))) (ax Ft hr1 (aa (pv 0) (aa ak ae))) (fun _ _ => rfl))
     (aa (aD iO ak (ay (iA rfl) rfl B.max jq (aa ak (aa (aD eW (pv 1) ak) ae)))) ae))) ae))
    (fun _ _ _ _ => aS 0 (by decide) rfl rfl) (fun _ _ _ _ => bz) (fun _ _ _ _ => ax Ft hr1 (aa (pv 2) (aa (pv 1) ae))))
   (am (aM (i := 4) cN.nd rfl (Or.inl rfl) (bC ae))
   (am (bO PassesOwn.never rfl (bB (aD vg (pv 3) (cj ik rfl B.int jl (aa (b5 cX (pv 1) ak (aT _)) ae)))) (aW (i := 5) cN.nd rfl (Or.inr rfl))
    (am (aM (i := 6) cN.nd rfl (Or.inr rfl) (aD ef (bC (aa (pv 5) ae)) (bq (N := ["_law_k", "_law_begin"]) (ix := [none, some 5]) ⟨rfl, rfl, rfl, by decide⟩ rfl (df rfl B.range (aa (pv 1) ae)) (fun _ _ _ _ => aS 0 (by decide) rfl rfl) (fun _ _ _ _ => cK (aR eB (pv 0) (pv 1) (aT _))) (fun _ _ _ _ => pv 0))))
    (aw (cD (cY PySem.F.plainAttrs_list PySem.F.slot_list_extend PySem.F.type_list_extend qa (pv 4) (aa (bq (N := ["_law_k", "_law_order", "_law_pot_here"]) (ix := [none, some 6, some 0]) ⟨rfl, rfl, rfl, by decide⟩ rfl
     (km rfl B.range (aa ak (aa (pv 1) ae))) (fun _ _ _ _ => aS 0 (by decide) rfl rfl) (fun _ _ _ _ => bz) (fun _ _ _ _ => cq (aa (aG (bx K) (pv 1) (ax Ft hr1 (aa (pv 2) (aa (pv 0) ae))) (fun _ _ => rfl)) (aa (aG (bx K) (pv 1) (pv 0) (fun _ _ => rfl)) ae)))) ae))))))
   (am (bO PassesOwn.never rfl (df rfl B.range (aa (aD eZ (aG bh (bC (aa (ax Ft hr1 (aa (pv 0) (aa ak ae))) (aa (ax Ft hr1 (aa (pv 0) (aa ak ae))) ae))) (ax Ft hr1 (aa (pv 0) (aa ak ae))) (fun _ _ => rfl)) (cj ik rfl B.int jl (aa (b5 cX (pv 1) ak (aT _)) ae))) ae)) (aW (i := 7) cN.nd rfl (Or.inl rfl))
    (am (aM (i := 8) cN.nd rfl (Or.inl rfl) (ax Ft hr1 (aa (pv 0) (aa (pv 1) ae))))
    (aw (cD (cY PySem.F.plainAttrs_list PySem.F.slot_list_append PySem.F.type_list_append dN (pv 4) (aa (cq (aa (pv 8) (aa (aD dB (aD b8 (aD b8 (pv 8) ak) (ax Ft hr1 (aa (pv 0) (aa (aD eW (pv 1) ak) ae)))) (pv 1)) ae))) ae))))))
   (am (aM (i := 9) cN.nd rfl (Or.inl rfl) (ax Fc hr (aa (pv 0) (aa (ax Fd hr (aa (pv 0) (aa (ax Fn' hr (aa (pv 0) (aa (ay bo rfl B.len PySem.boot_len (aa (pv 4) ae)) ae))) ae))) (aa (pv 2) ae)))))
   (am (dS (i := 10) (N := ["_law_tie", "_law_pair", "_law_places"]) (ix := [none, none, some 2]) cN.nd rfl (Or.inl rfl) ⟨rfl, rfl, rfl, by decide⟩ rfl (mB rfl B.zip (aa (pv 9) (aa (pv 4) ae)))
    (fun _ _ _ _ => iS K rfl (n := 2) (bv (aS 0 (by decide) rfl rfl) (bv (aS 1 (by decide) rfl rfl) cV))) (fun _ _ _ _ => bz)
    (fun _ _ _ _ => cq (aa (pv 0) (aa (aG (bx K) (pv 2) (aG (bx K) (pv 1) ak (fun _ _ => rfl)) (fun _ _ => rfl)) (aa (aG (bx K) (pv 2) (aG (bx K) (pv 1) ak (fun _ _ => rfl)) (fun _ _ => rfl)) ae)))))
   (aw (aN (cq (aa (cq (aa (cj fS rfl B.tuple cU (aa (ay fU rfl B.sorted eO (aa (pv 2) ae)) ae)) (aa (cj fS rfl B.tuple cU (aa (ay oS rfl B.sorted eO (aa (pv 10) ae)) ae)) ae))) (aa (pv 2)
    (aa (bq (N := ["_law_begin", "_law_places"]) (ix := [none, some 2]) ⟨rfl, rfl, rfl, by decide⟩ rfl (bB (pv 3)) (fun _ _ _ _ => aS 0 (by decide) rfl rfl) (fun _ _ _ _ => bz) (fun _ _ _ _ => aG (bx K) (pv 1) (pv 0) (fun _ _ => rfl))) ae))))))))))))), ?_⟩
  refine ⟨_, rfl, p, 6, rfl, hp, by decide, by decide, fun r1 H1 a0 a1 P1 K1 => ⟨_, _, rfl, rfl, _, rfl, p, 2, rfl, P1, by decide, by decide, fun r2 H2 b0 b1 P2 K2' => ⟨_, _, rfl, rfl, by show 2 <= sizeLine; decide, fun l2 hl2 => ?_⟩⟩⟩
  have nl2 := P2.ne_new hl2
  have P3 := P2.new (o := .lst [.int (1 + r1), .int (7 + r2)]) hl2
  have K3 := (K1.trans K2').new (o := .lst [.int (1 + r1), .int (7 + r2)]) hl2
  have L3 : upd H2 l2 (.lst [.int (1 + r1), .int (7 + r2)]) l2 = some (.lst [.int (1 + r1), .int (7 + r2)]) := ai
  generalize upd H2 l2 (.lst [.int (1 + r1), .int (7 + r2)]) = H3 at P3 K3 L3 ⊢
  refine ⟨_, rfl, p, 8, rfl, P3, by decide, by decide, fun r3 H4 c0 c1 P4 K4' => ⟨rfl, .inr ⟨_, rfl, ?_⟩⟩⟩
  have L4 := K4'.at nl2 L3
  have K4 := K3.trans K4'
  have hn : ∀ b : Bool, ∃ m : Nat, ([V.int (1 + r1), V.int (7 + r2)] : List V)[((if b = true then 1 else 0 : Int)).toNat]? = some (.int m) /\ 1 <= m /\ m <= 8 := fun b => by
   cases b
   ·exact ⟨(1 + r1).toNat, by show some (V.int (1 + r1)) = _; rw [Int.toNat_of_nonneg (by omega)], by omega, by omega⟩
   ·exact ⟨(7 + r2).toNat, by show some (V.int (7 + r2)) = _; rw [Int.toNat_of_nonneg (by omega)], by omega, by omega⟩
  obtain ⟨m, hm, m1, m8⟩ := hn (decide (V.int r3 = V.int 0))
  refine aJ (j := ((if decide (V.int r3 = V.int 0) = true then 1 else 0 : Int)).toNat) (.inl (SqL.of L4)) (by split <;> rfl) hm ?_
  refine ⟨_, rfl, _, rfl, _, rfl, p, m, rfl, P4, by omega, fun pl0 ns0 H5a P5a n5a _ nnm0 nnd0 nlen0 K5a => ⟨p, pl0, ns0, rfl, P5a, n5a, by omega, nnd0, nnm0, fun pl ns H5 P5 n5 nnm nnd nlen' K5b => ?_⟩⟩
  have nlen : ns.length = m := by omega
  have K5' := K5a.trans K5b
  have K5 := K4.trans K5'
  have npl := cF P5 n5
  clear L4 L3 K4 K3 K4' P3 P4 nl2 hl2 K1 K2' P1 P2 K5a K5b K5' hm hn n5a P5a
  refine ⟨by show 6 <= sizeLine; decide, fun l6 hl6 => ?_⟩
  have nl6 := P5.ne_new hl6
  have P6 := P5.new (o := .lst [.int 0, .int 1, .int 2, .int 3, .int 4, .int 6]) hl6
  have K6 := K5.new (o := .lst [.int 0, .int 1, .int 2, .int 3, .int 4, .int 6]) hl6
  have L6 : upd H5 l6 (.lst [.int 0, .int 1, .int 2, .int 3, .int 4, .int 6]) l6 = some (.lst [.int 0, .int 1, .int 2, .int 3, .int 4, .int 6]) := ai
  have n6 : upd H5 l6 (.lst [.int 0, .int 1, .int 2, .int 3, .int 4, .int 6]) pl = some (.lst (ns.map V.str)) := by rw [ag (av n5 hl6)]; exact n5
  generalize upd H5 l6 (.lst [.int 0, .int 1, .int 2, .int 3, .int 4, .int 6]) = H6 at P6 K6 L6 n6 ⊢
  refine ⟨_, rfl, p, 6, rfl, P6, by decide, by decide, fun rc H7 d0 d1 P7 K7' => ?_⟩
  have L7 := K7'.at nl6 L6
  have n7 := K7'.at npl n6
  have K7 := K6.trans K7'
  have hc : ∃ c : Int, ([V.int 0, V.int 1, V.int 2, V.int 3, V.int 4, V.int 6] : List V)[rc.toNat]? = some (.int c) /\ 0 <= c /\ c <= 6 := by
   have : rc = 0 \/ rc = 1 \/ rc = 2 \/ rc = 3 \/ rc = 4 \/ rc = 5 := by omega
   rcases this with rfl | rfl | rfl | rfl | rfl | rfl
   ·exact ⟨0, rfl, by decide, by decide⟩
   ·exact ⟨1, rfl, by decide, by decide⟩
   ·exact ⟨2, rfl, by decide, by decide⟩
   ·exact ⟨3, rfl, by decide, by decide⟩
   ·exact ⟨4, rfl, by decide, by decide⟩
   ·exact ⟨6, rfl, by decide, by decide⟩
  obtain ⟨c1, hc1, c10, c16⟩ := hc
  have hdp : 0 < (if (m : Int) - 1 > 1 then (m : Int) - 1 else 1) /\ (if (m : Int) - 1 > 1 then (m : Int) - 1 else 1) <= 8 := by split <;> omega
  have hdiv : (0 : Int) <= 24 / (if (m : Int) - 1 > 1 then (m : Int) - 1 else 1) := Int.ediv_nonneg (by decide) (by omega)
  refine aJ (j := rc.toNat) (.inl (SqL.of L7)) (by omega) hc1 ⟨_, rfl, _, _, rfl, rfl, _, _, rfl, _, _, rfl, rfl, ⟨by omega, by omega⟩, _, _, rfl, ?_⟩
  have hT : ∀ D : Int, 0 <= D -> ∃ T : Int, (if D < c1 then D else c1) = T /\ 0 <= T /\ T <= 6 /\ T <= D := fun D hD => by
   by_cases c : D < c1
   ·exact ⟨D, if_pos c, hD, by omega, Int.le_refl _⟩
   ·exact ⟨c1, if_neg c, c10, c16, by omega⟩
  obtain ⟨T, eT, T0, T6, Td⟩ := hT _ hdiv
  rw [eT]
  refine ⟨_, rfl, by omega, by omega, ?_⟩
  refine fi (fits (by omega)) (fun j ys σ H8 => (∃ bs : List Nat, ys = bs.map (fun b : Nat => V.int b) /\ (∀ b ∈ bs, b < m) /\ bs.length = j) /\ Pot H8 p /\ Kp [p] H7 H8 /\ ∃ x, σ = [x, some (.int m), some (.ref p)])
   ⟨⟨[], rfl, by simp, rfl⟩, P7, Kp.refl _ _, _, rfl⟩ (fun j ys σ H8 _ q => by obtain ⟨⟨bs, rfl, _, rfl⟩, _⟩ := q; simp) ?_ ?_
  ·rintro j ys σ H8 hj ⟨⟨bs, rfl, hb, rfl⟩, P8, K8, v, rfl⟩
   refine ⟨_, rfl, _, rfl, p, _, rfl, P8, by omega, by omega, fun r H9 r0 r1 P9 K9 => ⟨⟨bs ++ [r.toNat], ?_, fun b hb' => ?_, by simp⟩, P9, K8.trans K9, _, rfl⟩⟩
   ·rw [List.map_append]
    show _ ++ [V.int r] = _ ++ [V.int (r.toNat : Int)]
    rw [Int.toNat_of_nonneg r0]
   ·rcases List.mem_append.mp hb' with z | z
    ·exact hb b z
    ·have e : b = r.toNat := by simpa using z
     omega
  rintro ys σ H8 ⟨⟨bs, rfl, hbs, hbl⟩, P8, K8', v8, rfl⟩ bg hbg
  have hb6 : bs.length <= 6 := by omega
  have hb24 : bs.length * (m - 1) <= 24 := tJ m1 m8 Td (by omega)
  have nbg := P8.ne_new hbg
  have P9 := P8.new (o := .lst (bs.map (fun b : Nat => V.int b))) hbg
  have K9 := (K7.trans K8').new (o := .lst (bs.map (fun b : Nat => V.int b))) hbg
  have g9 : upd H8 bg (.lst (bs.map (fun b : Nat => V.int b))) bg = some (.lst (bs.map (fun b : Nat => V.int b))) := ai
  have n8 := K8'.at npl n7
  have n9 : upd H8 bg (.lst (bs.map (fun b : Nat => V.int b))) pl = some (.lst (ns.map V.str)) := by rw [ag (av n8 hbg)]; exact n8
  generalize upd H8 bg (.lst (bs.map (fun b : Nat => V.int b))) = H9 at P9 K9 g9 n9 ⊢
  clear n8 K8' P8 hbg n7 L7 K7 K7' P7 n6 L6 K6 P6 nl6 hl6 hc1 K5 P5 n5
  refine ⟨Nat.zero_le _, fun fo hfo => ?_⟩
  have nfp := P9.ne_new hfo
  have P10 := P9.new (o := .lst []) hfo
  have K10 := K9.new (o := .lst []) hfo
  have K910 := (Kp.refl [p] H9).new (o := .lst []) hfo
  have F10 : upd H9 fo (.lst []) fo = some (.lst (ba [])) := ai
  have g10 : upd H9 fo (.lst []) bg = some (.lst (bs.map (fun b : Nat => V.int b))) := by rw [ag (av g9 hfo)]; exact g9
  generalize upd H9 fo (.lst []) = H10 at P10 K10 K910 F10 g10 ⊢
  have hk1 : ∀ q : Int, q = (if decide ((m : Int) > 1) = true then 1 else 0 : Int) -> 0 <= q /\ q <= 1 /\ (0 < q -> 2 <= m) := fun q hq => by
   subst hq
   by_cases c : (m : Int) > 1
   ·rw [decide_eq_true c]; simp; omega
   ·rw [decide_eq_false c]; simp
  refine ⟨_, rfl, _, rfl, _, _, rfl, rfl, .inr ⟨_, rfl, ?_⟩⟩
  generalize hkq : (if decide ((m : Int) > 1) = true then 1 else 0 : Int) = kq
  obtain ⟨kq0, kq1, kq2⟩ := hk1 kq hkq.symm
  have hbr : ∃ bl : List Nat, (List.replicate kq.toNat (bs.map (fun b : Nat => V.int b))).flatten = bl.map (fun b : Nat => V.int b) /\ (∀ b ∈ bl, b < m) /\ bl.length * (m - 1) <= 24 /\ bl.length <= 6 /\ (bl ≠ [] -> 2 <= m) := by
   have : kq = 0 \/ kq = 1 := by omega
   rcases this with e | e
   ·exact ⟨[], by rw [e]; rfl, by simp, by simp, by simp, fun z => absurd rfl z⟩
   ·exact ⟨bs, by rw [e]; simp, hbs, hb24, hb6, fun _ => kq2 (by omega)⟩
  obtain ⟨bl, ebl, hbl1, hbl2, hbl3, hbl4⟩ := hbr
  refine ⟨bg, kq, _, rfl, rfl, g10, by omega, by omega, ?_, fun rp hrp => ?_⟩
  ·rw [List.length_map, sizeLine_eq]
   have : bs.length * kq.toNat <= 6 * 1 := Nat.mul_le_mul hb6 (by omega)
   omega
  rw [ebl]
  have nrp := P10.ne_new hrp
  have P11 := P10.new (o := .lst (bl.map (fun b : Nat => V.int b))) hrp
  have K11 := K10.new (o := .lst (bl.map (fun b : Nat => V.int b))) hrp
  have K911 := K910.new (o := .lst (bl.map (fun b : Nat => V.int b))) hrp
  have F11 : upd H10 rp (.lst (bl.map (fun b : Nat => V.int b))) fo = some (.lst (ba [])) := by rw [ag (av F10 hrp)]; exact F10
  have R11 : upd H10 rp (.lst (bl.map (fun b : Nat => V.int b))) rp = some (.lst (bl.map (fun b : Nat => V.int b))) := ai
  have nrf : fo ≠ rp := fun z => by rw [<- z, F10] at hrp; cases hrp
  generalize upd H10 rp (.lst (bl.map (fun b : Nat => V.int b))) = H11 at P11 K11 K911 F11 R11 ⊢
  refine ⟨rp, rfl, ⟨_, SqL.of R11⟩, eK (K := K) (a := rp) (xs := bl.map (fun b : Nat => V.int b)) (fun i σ H12 => ∃ (prs : List Pr) (g1 g2 : Option V), σ = [some (.ref p), some (.int m), some (.ref pl), some (.ref bg), some (.ref fo), g1, g2, none, none, none, none] /\ Pot H12 p /\ H12 fo = some (.lst (ba prs)) /\ H12 rp = some (.lst (bl.map (fun b : Nat => V.int b))) /\ br H12 prs /\ cx m prs /\ prs.length = i * (m - 1) /\ Kp [p] H9 H12)
   ⟨[], none, none, rfl, P11, F11, R11, by simp [br], by simp [cx], by simp, K911⟩ (fun i σ H12 _ q => by obtain ⟨_, _, _, _, _, _, R12, _⟩ := q; exact SqL.of R12) ?_ ?_⟩
  ·rintro i x σ H12 hx ⟨prs, g1, g2, rfl, P12, F12, R12, A12, O12, hl, K12⟩
   rw [List.getElem?_map] at hx
   cases hci : bl[i]? with
   | none => rw [hci] at hx; cases hx
   | some b =>
    rw [hci] at hx
    cases hx
    have hbm : b < m := hbl1 b (List.mem_of_getElem? hci)
    have hil : i < bl.length := (List.getElem?_eq_some_iff.mp hci).1
    have m2 : 2 <= m := hbl4 fun z => by rw [z] at hil; simp at hil
    have hlb : prs.length + (m - 1) <= 24 := by
     have := Nat.mul_le_mul_right (m - 1) (show i + 1 <= bl.length from hil)
     rw [Nat.succ_mul] at this
     omega
    refine ⟨_, rfl, by show 1 <= sizeLine; decide, fun o1 ho1 => ?_⟩
    have no1 := P12.ne_new ho1
    have P13 := P12.new (o := .lst [.int b]) ho1
    have K13 := K12.new (o := .lst [.int b]) ho1
    have A13 := A12.new (o := .lst [.int b]) ho1
    have F13 : upd H12 o1 (.lst [.int b]) fo = some (.lst (ba prs)) := by rw [ag (av F12 ho1)]; exact F12
    have R13 : upd H12 o1 (.lst [.int b]) rp = some (.lst (bl.map (fun b : Nat => V.int b))) := by rw [ag (av R12 ho1)]; exact R12
    have o13 : upd H12 o1 (.lst [.int b]) o1 = some (.lst [.int b]) := ai
    generalize upd H12 o1 (.lst [.int b]) = H13 at P13 K13 A13 F13 R13 o13 ⊢
    refine ⟨_, rfl, _, rfl, by omega, by omega, ?_⟩
    rw [Int.toNat_natCast]
    refine kh (fits (by omega)) (fun j ys σ H14 => ys = (((List.range m).take j).filter fun x => !decide (x = b)).map (fun b : Nat => V.int b) /\ H14 = H13 /\ ∃ x, σ = [x, some (.int b)]) ⟨rfl, rfl, _, rfl⟩
     (fun j ys σ H14 _ q => by rw [q.1, List.length_map]; exact Nat.le_trans (List.length_filter_le _ _) (by rw [List.length_take]; omega)) ?_ ?_
    ·rintro j ys σ H14 hj ⟨rfl, rfl, z, rfl⟩
     have tf := cz (fun x : Nat => !decide (x = b)) (List.range m) j j (by rw [List.getElem?_range hj])
     refine ⟨_, rfl, _, rfl, rfl, _, rfl, ?_⟩
     have ed : (!decide (V.int (0 + (j : Int)) = V.int (b : Int))) = !decide (j = b) := by
      by_cases c : j = b
      ·rw [c]; simp
      ·have : V.int (0 + (j : Int)) ≠ V.int (b : Int) := fun z => by have := V.int.inj z; omega
       rw [decide_eq_false this, decide_eq_false c]
     rw [ed]
     refine bb (fun c => ⟨_, rfl, ?_, rfl, _, rfl⟩) (fun c => ⟨?_, rfl, _, rfl⟩)
     ·rw [tf, c]; simp
     ·rw [tf]; simp only [Bool.not_eq_true] at c; rw [c]; simp
    rintro ys σ H14 ⟨rfl, rfl, z, rfl⟩ o2 ho2
    rw [take_all (List.range m) (by simp)]
    have P15 := P13.new (o := .lst (((List.range m).filter fun x => !decide (x = b)).map (fun b : Nat => V.int b))) ho2
    have K15 := K13.new (o := .lst (((List.range m).filter fun x => !decide (x = b)).map (fun b : Nat => V.int b))) ho2
    have A15 := A13.new (o := .lst (((List.range m).filter fun x => !decide (x = b)).map (fun b : Nat => V.int b))) ho2
    have F15 : upd H14 o2 (.lst (((List.range m).filter fun x => !decide (x = b)).map (fun b : Nat => V.int b))) fo = some (.lst (ba prs)) := by rw [ag (av F13 ho2)]; exact F13
    have R15 : upd H14 o2 (.lst (((List.range m).filter fun x => !decide (x = b)).map (fun b : Nat => V.int b))) rp = some (.lst (bl.map (fun b : Nat => V.int b))) := by rw [ag (av R13 ho2)]; exact R13
    have o15 : upd H14 o2 (.lst (((List.range m).filter fun x => !decide (x = b)).map (fun b : Nat => V.int b))) o1 = some (.lst [.int b]) := by rw [ag (av o13 ho2)]; exact o13
    refine ⟨o1, o2, _, _, rfl, rfl, o15, ai, ?_, fun od hod => ?_⟩
    ·have := List.length_filter_le (fun x => !decide (x = b)) (List.range m)
     rw [List.length_range] at this
     rw [sizeLine_eq, List.length_map]
     simp
     omega
    have eord : [V.int (b : Int)] ++ ((List.range m).filter fun x => !decide (x = b)).map (fun b : Nat => V.int b) = (bu b m).map (fun b : Nat => V.int b) := rfl
    rw [eord]
    generalize upd H14 o2 (.lst (((List.range m).filter fun x => !decide (x = b)).map (fun b : Nat => V.int b))) = H15 at P15 K15 A15 F15 R15 o15 hod ⊢
    have nod := P15.ne_new hod
    have P16 := P15.new (o := .lst ((bu b m).map (fun b : Nat => V.int b))) hod
    have K16 := K15.new (o := .lst ((bu b m).map (fun b : Nat => V.int b))) hod
    have A16 := A15.new (o := .lst ((bu b m).map (fun b : Nat => V.int b))) hod
    have F16 : upd H15 od (.lst ((bu b m).map (fun b : Nat => V.int b))) fo = some (.lst (ba prs)) := by rw [ag (av F15 hod)]; exact F15
    have R16 : upd H15 od (.lst ((bu b m).map (fun b : Nat => V.int b))) rp = some (.lst (bl.map (fun b : Nat => V.int b))) := by rw [ag (av R15 hod)]; exact R15
    have d16 : upd H15 od (.lst ((bu b m).map (fun b : Nat => V.int b))) od = some (.lst ((bu b m).map (fun b : Nat => V.int b))) := ai
    generalize upd H15 od (.lst ((bu b m).map (fun b : Nat => V.int b))) = H16 at P16 K16 A16 F16 R16 d16 ⊢
    clear P15 K15 A15 F15 R15 o15 hod P13 K13 A13 F13 R13 o13 P12 K12 A12 F12 R12
    have hlo := tZ hbm
    have hno := ki b m
    have hio : ∀ j, (hj : j < m) -> (bu b m)[j]'(by rw [hlo]; exact hj) < m := fun j hj => mm hbm _ (List.getElem_mem _)
    refine ⟨_, rfl, .inl ⟨rfl, _, SqL.of F16⟩, _, rfl, 1, (m : Int), rfl, ⟨by decide, by decide, by omega, by omega⟩, ?_⟩
    have em : ((m : Int) - 1).toNat = m - 1 := by omega
    rw [em]
    refine fi (fits (by omega)) (fun j ys σ H17 => (∃ qs : List Pr, ys = ba qs /\ br H17 qs /\ cx m qs /\ qs.length = j) /\ Pot H17 p /\ Kp [p] H16 H17 /\ ∃ x, σ = [x, some (.ref od), some (.ref p)])
     ⟨⟨[], rfl, by simp [br], by simp [cx], rfl⟩, P16, Kp.refl _ _, _, rfl⟩ (fun j ys σ H17 _ q => by obtain ⟨⟨qs, rfl, _, _, rfl⟩, _⟩ := q; simp) ?_ ?_
    ·rintro j ys σ H17 hj ⟨⟨qs, rfl, A17, O17, rfl⟩, P17, K17, v, rfl⟩
     have d17 := K17.at nod d16
     refine ⟨_, rfl, _, rfl, _, rfl, p, _, rfl, P17, by omega, by omega, fun r H18 r0 r1 P18 K18 => ?_⟩
     have d18 := K18.at nod d17
     have hr1' : r.toNat < m := by omega
     have hr2' : 1 + qs.length < m := by omega
     have hne : (bu b m)[r.toNat]'(by rw [hlo]; exact hr1') ≠ (bu b m)[1 + qs.length]'(by rw [hlo]; exact hr2') := List.pairwise_iff_getElem.mp hno _ _ _ _ (by omega)
     refine aJ (j := r.toNat) (v := .int ((bu b m)[r.toNat]'(by rw [hlo]; exact hr1') : Nat)) (.inl (SqL.of d18)) (by omega) (by rw [List.getElem?_map, List.getElem?_eq_getElem (by rw [hlo]; exact hr1')]; rfl) ?_
     refine ⟨_, rfl, _, rfl, aJ (j := 1 + qs.length) (v := .int ((bu b m)[1 + qs.length]'(by rw [hlo]; exact hr2') : Nat)) (.inl (SqL.of d18)) (by omega) (by rw [List.getElem?_map, List.getElem?_eq_getElem (by rw [hlo]; exact hr2')]; rfl) ⟨by show 2 <= sizeLine; decide, fun t ht => ?_⟩⟩
     have q1 := hio _ hr1'
     have q2 := hio _ hr2'
     refine ⟨⟨qs ++ [((t, (((bu b m)[r.toNat]'(by rw [hlo]; exact hr1') : Nat) : Int), (((bu b m)[1 + qs.length]'(by rw [hlo]; exact hr2') : Nat) : Int)) : Pr)], by simp [ba], ?_, ?_, by simp⟩, P18.new ht, (K17.trans K18).new ht, _, rfl⟩
     ·exact ((A17.kp K18 P17).new ht).app (br.one ai)
     ·exact O17.app (cx.one ⟨by omega, by omega, by omega, by omega, fun z => hne (by exact_mod_cast z)⟩)
    ·rintro ys σ H17 ⟨⟨qs, rfl, A17, O17, hql⟩, P17, K17, v, rfl⟩ t ht
     have F17 := K17.at nfp F16
     have R17 := K17.at nrp R16
     have F18 : upd H17 t (.lst (ba qs)) fo = some (.lst (ba prs)) := by rw [ag (av F17 ht)]; exact F17
     have R18 : upd H17 t (.lst (ba qs)) rp = some (.lst (bl.map (fun b : Nat => V.int b))) := by rw [ag (av R17 ht)]; exact R17
     have A18 : br (upd H17 t (.lst (ba qs))) (prs ++ qs) := ((A16.kp K17 P16).app A17).new ht
     have P18 := P17.new (o := .lst (ba qs)) ht
     have K18 := (K16.trans K17).new (o := .lst (ba qs)) ht
     refine ⟨fo, t, ba prs, ba qs, rfl, rfl, F18, ai, by rw [sizeLine_eq]; simp; omega, ?_⟩
     refine ⟨prs ++ qs, _, _, rfl, P18.upd nfp, by rw [ai]; simp [ba], by rw [ag nrf.symm]; exact R18, A18.over F18, O12.app O17, by rw [List.length_append, hl, hql, Nat.succ_mul], fun b o e nb => by rw [ag (av e hfo)]; exact K18 b o e nb⟩
  rintro σ H12 ⟨prs, g1, g2, rfl, P12, F12, R12, A12, O12, hl, K12⟩
  rw [List.length_map] at hl
  have hl24 : prs.length <= 24 := by omega
  clear R12 hl R11 F11 K911 K11 P11 nrp hrp nrf g10 F10 K910 K10 P10
  refine ⟨_, rfl, p, 3, rfl, P12, by decide, by decide, fun e1 H13 a0 a1 P13 K13' => ⟨_, rfl, p, 13, rfl, P13, by decide, by decide, fun e2 H14 b0 b1 P14 K14' => ⟨by show 2 <= sizeLine; decide, fun l2 hl2 => ?_⟩⟩⟩
  have F14 := K14'.at nfp (K13'.at nfp F12)
  have A14 := (A12.kp K13' P12).kp K14' P13
  have K14 := (K12.trans K13').trans K14'
  have nl2 := P14.ne_new hl2
  have P15 := P14.new (o := .lst [.int e1, .int e2]) hl2
  have K15 := K14.new (o := .lst [.int e1, .int e2]) hl2
  have A15 := A14.new (o := .lst [.int e1, .int e2]) hl2
  have F15 : upd H14 l2 (.lst [.int e1, .int e2]) fo = some (.lst (ba prs)) := by rw [ag (av F14 hl2)]; exact F14
  have L15 : upd H14 l2 (.lst [.int e1, .int e2]) l2 = some (.lst [.int e1, .int e2]) := ai
  generalize upd H14 l2 (.lst [.int e1, .int e2]) = H15 at P15 K15 A15 F15 L15 ⊢
  refine ⟨_, rfl, p, 2, rfl, P15, by decide, by decide, fun e3 H16 c0 c1' P16 K16' => ?_⟩
  have L16 := K16'.at nl2 L15
  have F16 := K16'.at nfp F15
  have A16 := A15.kp K16' P15
  have K16 := K15.trans K16'
  have hn : ∃ e : Int, ([V.int e1, V.int e2] : List V)[e3.toNat]? = some (.int e) /\ 0 <= e /\ e <= 12 := by
   have : e3 = 0 \/ e3 = 1 := by omega
   rcases this with rfl | rfl
   ·exact ⟨e1, rfl, by omega, by omega⟩
   ·exact ⟨e2, rfl, by omega, by omega⟩
  obtain ⟨e, he, e0, e1'⟩ := hn
  refine aJ (j := e3.toNat) (.inl (SqL.of L16)) (by omega) he ⟨_, rfl, _, _, rfl, rfl, .inr ⟨_, rfl, ?_⟩⟩
  have ex : ∃ n : Nat, e * kq = (n : Int) /\ n <= 12 /\ (0 < n -> 2 <= m) := by
   have : kq = 0 \/ kq = 1 := by omega
   rcases this with z | z
   ·exact ⟨0, by rw [z]; simp, by omega, fun h => absurd h (by omega)⟩
   ·exact ⟨e.toNat, by rw [z]; omega, by omega, fun _ => kq2 (by omega)⟩
  obtain ⟨en, een, en12, en2⟩ := ex
  rw [hkq]
  have eln : (e * kq).toNat = en := by rw [een]; simp
  refine ⟨e, kq, rfl, rfl, .inl ⟨by omega, by omega⟩, ?_⟩
  refine ⟨_, rfl, by rw [een]; omega, by rw [een]; omega, ?_⟩
  refine fj (fun i σ H17 => ∃ (prs : List Pr) (g1 g2 g3 g4 : Option V), σ = [some (.ref p), some (.int m), some (.ref pl), some (.ref bg), some (.ref fo), g1, g2, g3, g4, none, none] /\ Pot H17 p /\ H17 fo = some (.lst (ba prs)) /\ br H17 prs /\ cx m prs /\ prs.length <= 24 + i /\ Kp [p] H9 H17)
   ⟨prs, _, _, _, _, rfl, P16, F16, A16, O12, by omega, K16⟩ ?_ ?_
  ·rintro i σ H17 hi ⟨prs, g1, g2, g3, g4, rfl, P17, F17, A17, O17, hl17, K17⟩
   rw [eln] at hi
   have m2 : 2 <= m := en2 (by omega)
   refine ⟨_, rfl, _, rfl, p, _, rfl, P17, by omega, by omega, fun a H18 ha0 ha1 P18 K18' => ?_⟩
   have F18 := K18'.at nfp F17
   have A18 := A17.kp K18' P17
   refine ⟨_, rfl, .inl ⟨rfl, _, SqL.of F18⟩, _, rfl, _, rfl, _, _, rfl, rfl, _, rfl, _, rfl, _, _, rfl, rfl, p, _, rfl, P18, by omega, by omega, fun r H19 hr0 hr1 P19 K19' => ?_⟩
   have F19 := K19'.at nfp F18
   have A19 := A18.kp K19' P18
   have K19 := (K17.trans K18').trans K19'
   refine ⟨_, _, rfl, rfl, _, rfl, _, _, rfl, rfl, by omega, by show 2 <= sizeLine; decide, fun t ht => ?_⟩
   obtain ⟨z1, z2, z3⟩ := vC ha0 ha1 hr0 hr1
   have F20 : upd H19 t (.tup [.int a, .int ((a + 1 + r) % (m : Int))]) fo = some (.lst (ba prs)) := by rw [ag (av F19 ht)]; exact F19
   refine ⟨fo, ba prs, _, rfl, rfl, F20, fits (by simp; omega), prs ++ [(t, a, (a + 1 + r) % (m : Int))], _, _, _, _, rfl, (P19.new ht).upd nfp, by rw [ai]; simp [ba], ?_, O17.app (cx.one ⟨ha0, ha1, z2, z3, z1.symm⟩), by simp; omega, ?_⟩
   ·exact ((A19.new ht).app (br.one ai)).over F20
   ·exact fun b o e nb => by rw [ag (av e hfo)]; exact (K19.new ht) b o e nb
  rintro σ H17 ⟨prs, g1, g2, g3, g4, rfl, P17, q6, A6, O6, hl17, K17'⟩
  rw [eln] at hl17
  clear L16 F16 A16 K16 K16' P16 L15 F15 A15 K15 P15 nl2 hl2 F14 A14 K14 K14' K13' P13 P14 P12 F12 A12 O12 K12 he
  have n6 := K17'.at npl n9
  have g6 := K17'.at nbg g9
  have K6 := K9.trans K17'
  have npq := rX P17 q6
  have hpz : (ba prs).length = prs.length := by simp
  refine ⟨_, rfl, _, rfl, _, rfl, _, rfl, fo, _, rfl, .inl (SqL.of q6), p, (ba prs).length, rfl, P17, by omega, fun ta0 ts0 H7a P7a t7a _ tnm0 tnd0 tlen0 K7a => ⟨p, ta0, ts0, rfl, P7a, t7a, by omega, tnd0, tnm0, fun ta ts H7 P7 t7 tnm tnd tlen' K7b => ?_⟩⟩
  have tlen : ts.length = (ba prs).length := by omega
  have K7' := K7a.trans K7b
  have K7 := K6.trans K7'
  have n7 := K7'.at npl n6
  have q7 := K7'.at npq q6
  have g7 := K7'.at nbg g6
  have A7 := A6.kp K7' P17
  refine ⟨_, rfl, p, ta, pl, ts, ns, rfl, P7, t7, n7, by omega, by omega, tnd, nnd, tnm, nnm, fun tc tn H8 P8 c8 cnm cnd clen K8' => ?_⟩
  have K8 := K7.trans K8'
  have n8 := K8'.at npl n7
  have q8 := K8'.at npq q7
  have g8 := K8'.at nbg g7
  have A8 := A7.kp K8' P7
  have hcl : tn.length = prs.length := by omega
  refine ⟨_, rfl, _, rfl, tc, fo, _, _, rfl, SqL.of c8, SqL.of q8, ?_⟩
  refine kS (xs := tn.map V.str) (ys := ba prs) (fits (by simp; omega)) (fun i zs σ H2 => (∃ rr : List (Addr × Row), zs = au rr /\ (∀ r ∈ rr, dj H2 r.1 r.2) /\ nms rr = tn.take i /\ (∀ r ∈ rr, r.2.2.1 ∈ ns /\ r.2.2.2 ∈ ns /\ r.2.2.1 ≠ r.2.2.2)) /\ aj H8 H2 /\ ∃ g1 g2, σ = [g1, g2, some (.ref pl)])
   ⟨⟨[], rfl, by simp, rfl, by simp⟩, aj.refl _, _, _, rfl⟩ (fun i zs σ H2 hi q => ?_) ?_ ?_
  ·obtain ⟨⟨rr, rfl, _, e, _⟩, s2, _⟩ := q
   have := congrArg List.length e
   rw [nms, List.length_map, List.length_take] at this
   exact ⟨by simp [this]; omega, SqL.of (s2 _ _ c8), SqL.of (s2 _ _ q8)⟩
  ·rintro i x y zs σ H2 T hx hy ⟨⟨rr, rfl, Ra, e, Ro⟩, s2, g1, g2, rfl⟩ hT
   rw [List.getElem?_map] at hx
   obtain ⟨pr, hpr, rfl⟩ := sD hy
   cases hc : tn[i]? with
   | none => rw [hc] at hx; cases hx
   | some t =>
    rw [hc] at hx
    cases hx
    have hpm := List.mem_of_getElem? hpr
    obtain ⟨o1, o2, o3, o4, o5⟩ := O6 pr hpm
    have s3 := ar (o := .tup [.str t, .ref pr.1]) s2 hT
    have pr3 := s3 _ _ (A8 pr hpm)
    have n3 := s3 _ _ n8
    have ia : pr.2.1.toNat < ns.length := by omega
    have ib : pr.2.2.toNat < ns.length := by omega
    refine ⟨T, _, rfl, SqT.of ai, rfl, _, _, rfl, _, _, rfl, rfl, ?_⟩
    refine ⟨_, rfl, _, rfl, _, rfl, aJ (j := 0) (.inr (SqT.of pr3)) rfl rfl (aJ (j := pr.2.1.toNat) (.inl (SqL.of n3)) (by omega) (strAt ia) ?_)⟩
    refine ⟨_, rfl, _, rfl, aJ (j := 1) (.inr (SqT.of pr3)) rfl rfl (aJ (j := pr.2.2.toNat) (.inl (SqL.of n3)) (by omega) (strAt ib) ?_)⟩
    refine ⟨by show 3 <= sizeLine; decide, fun n hn => ?_⟩
    have hab : ns[pr.2.1.toNat] ≠ ns[pr.2.2.toNat] := by
     have hne : pr.2.1.toNat ≠ pr.2.2.toNat := by omega
     rcases Nat.lt_or_gt_of_ne hne with y | y
     ·exact List.pairwise_iff_getElem.mp nnd _ _ ia ib y
     ·exact fun z => List.pairwise_iff_getElem.mp nnd _ _ ib ia y z.symm
    have s4 := ar (o := .tup [.str t, .str ns[pr.2.1.toNat], .str ns[pr.2.2.toNat]]) s3 hn
    have s24 := ar (o := .tup [.str t, .str ns[pr.2.1.toNat], .str ns[pr.2.2.toNat]]) (ar (o := .tup [.str t, .ref pr.1]) (aj.refl H2) hT) hn
    refine ⟨⟨rr ++ [(n, (t, ns[pr.2.1.toNat], ns[pr.2.2.toNat]))], by simp [au], fun r hr => ?_, ?_, fun r hr => ?_⟩, s4, _, _, rfl⟩
    ·rcases List.mem_append.mp hr with z | z
     ·exact s24 _ _ (Ra r z)
     ·have e' : r = (n, (t, ns[pr.2.1.toNat], ns[pr.2.2.toNat])) := by simpa using z
      subst e'; exact ai
    ·rw [nms, List.map_append]
     show nms rr ++ [t] = _
     rw [e, List.take_add_one, hc]
     rfl
    ·rcases List.mem_append.mp hr with z | z
     ·exact Ro r z
     ·have e' : r = (n, (t, ns[pr.2.1.toNat], ns[pr.2.2.toNat])) := by simpa using z
      subst e'; exact ⟨List.getElem_mem ia, List.getElem_mem ib, hab⟩
  rintro zs σ H9' ⟨⟨rr, rfl, Ra, e, Ro⟩, s9, g1', g2', rfl⟩ rw hrw
  have en : nms rr = tn := by rw [e, take_all tn (by simp; omega)]
  have hrl : rr.length = tn.length := by rw [<- en]; simp
  have s10 := ar (o := .lst (au rr)) s9 hrw
  have Ra10 : ∀ r ∈ rr, dj (upd H9' rw (.lst (au rr))) r.1 r.2 := fun r hr => ar (aj.refl H9') hrw _ _ (Ra r hr)
  have w10 : upd H9' rw (.lst (au rr)) rw = some (.lst (au rr)) := ai
  generalize upd H9' rw (.lst (au rr)) = H10' at s10 Ra10 w10 ⊢
  have n10 := s10 _ _ n8
  refine ⟨_, rfl, pl, ns, rfl, SqL.of n10, by omega, fun ps q hpm hso hq => ?_⟩
  have pnd : ps.Nodup := hpm.nodup_iff.mpr nnd
  have hpl : ps.length = ns.length := hpm.length_eq
  have t1 := ar (o := .lst (ps.map V.str)) (aj.refl H10') hq
  refine ⟨q, _, rfl, .inl ⟨SqL.of ai, fun pa hpa => ?_⟩⟩
  have t2 := ar (o := .tup (ps.map V.str)) t1 hpa
  have a11 : upd (upd H10' q (.lst (ps.map V.str))) pa (.tup (ps.map V.str)) pa = some (.tup (ps.map V.str)) := ai
  generalize upd (upd H10' q (.lst (ps.map V.str))) pa (.tup (ps.map V.str)) = H11' at t2 a11 ⊢
  refine ⟨_, rfl, rw, rr.map fun r => (r.1, r.2.1), rfl, .inl (SqL.of (by rw [kN]; exact t2 _ _ w10)), fun y hy => ?_, by rw [List.length_map]; omega, ?_, fun rs1 q2 hpm2 hpw hq2 => ?_⟩
  ·obtain ⟨x, hx, rfl⟩ := List.mem_map.mp hy
   exact ⟨_, t2 _ _ (Ra10 x hx)⟩
  ·rw [List.map_map]
   show (nms rr).Nodup
   rw [en]; exact cnd
  obtain ⟨rs', hp2, e2'⟩ := kz (fun r : Addr × Row => (r.1, r.2.1)) rs1 _ hpm2
  subst e2'
  rw [kN]
  have u1 := ar (o := .lst (au rs')) (aj.refl H11') hq2
  refine ⟨q2, _, rfl, .inl ⟨SqL.of ai, fun ra hra => ?_⟩⟩
  have u2 := ar (o := .tup (au rs')) u1 hra
  have ra2 : upd (upd H11' q2 (.lst (au rs'))) ra (.tup (au rs')) ra = some (.tup (au rs')) := ai
  generalize upd (upd H11' q2 (.lst (au rs'))) ra (.tup (au rs')) = H12' at u2 ra2 ⊢
  refine ⟨by show 2 <= sizeLine; decide, fun u hu => ?_⟩
  have u3 := ar (o := .tup [.ref pa, .ref ra]) u2 hu
  have u3' := ar (o := .tup [.ref pa, .ref ra]) (aj.refl H12') hu
  have uu : upd H12' u (.tup [.ref pa, .ref ra]) u = some (.tup [.ref pa, .ref ra]) := ai
  generalize upd H12' u (.tup [.ref pa, .ref ra]) = H13' at u3 u3' uu ⊢
  have s813 := s10.trans (t2.trans u3)
  have n13 := s813 _ _ n8
  have g13 := s813 _ _ g8
  refine ⟨_, rfl, _, rfl, bg, rfl, ⟨_, SqL.of g13⟩, eI (xs := bs.map (fun b : Nat => V.int b)) (fits (by rw [List.length_map]; omega)) (fun j ys σ H14 => (∃ zs : List Str, ys = zs.map V.str /\ (∀ z ∈ zs, z ∈ ns) /\ zs.length = j) /\ H14 = H13' /\ ∃ x, σ = [x, some (.ref pl)]) ⟨⟨[], rfl, by simp, rfl⟩, rfl, _, rfl⟩
   (fun j ys σ H14 _ z => by obtain ⟨⟨zs, rfl, _, rfl⟩, rfl, _⟩ := z; exact ⟨by simp, SqL.of g13⟩) ?_ ?_⟩
  ·rintro j x ys σ H14 hx ⟨⟨zs, rfl, hz, rfl⟩, rfl, y, rfl⟩
   rw [List.getElem?_map] at hx
   cases hcb : bs[zs.length]? with
   | none => rw [hcb] at hx; cases hx
   | some b =>
    rw [hcb] at hx
    cases hx
    have hbn : b < ns.length := by have := hbs b (List.mem_of_getElem? hcb); omega
    refine ⟨_, rfl, _, rfl, aJ (j := b) (.inl (SqL.of n13)) rfl (strAt hbn) ⟨⟨zs ++ [ns[b]], by simp, fun z hz' => ?_, by simp⟩, rfl, _, rfl⟩⟩
    rcases List.mem_append.mp hz' with c | c
    ·exact hz z c
    ·have ez : z = ns[b] := by simpa using c
     rw [ez]; exact List.getElem_mem hbn
  rintro ys σ H14 ⟨⟨zs, rfl, hz, hzl⟩, rfl, y, rfl⟩ b9 hb9
  rw [List.length_map] at hzl
  have v1 := ar (o := .lst (zs.map V.str)) (aj.refl H14) hb9
  have b14 : upd H14 b9 (.lst (zs.map V.str)) b9 = some (.lst (zs.map V.str)) := ai
  generalize upd H14 b9 (.lst (zs.map V.str)) = H15' at v1 b14 ⊢
  refine ⟨by show 3 <= sizeLine; decide, fun v hv => ?_⟩
  have v2 := ar (o := .tup [.ref u, .ref pl, .ref b9]) (aj.refl H15') hv
  have s8v := s813.trans (v1.trans v2)
  have v12 := v1.trans v2
  have hin : ∀ x ∈ ns, x ∈ ps := fun x hx => hpm.mem_iff.mpr hx
  refine k v u pl b9 pa ra ns ps zs rs' _ (P8.keep fun o e => s8v _ _ e) ai ⟨v12 _ _ uu, v12 _ _ (u3 _ _ a11), v12 _ _ (u3' _ _ ra2), fun x hx => v12 _ _ (u3 _ _ (t2 _ _ (Ra10 x (hp2.mem_iff.mp hx))))⟩ ⟨?_, fun x hx => nnm x (hpm.mem_iff.mp hx), dP hso pnd, fun r hr => ?_, ?_, by omega, ?_⟩ (by omega) (by rw [hp2.length_eq]; omega) (s8v _ _ n8) hin (by omega) (by omega) (v2 _ _ b14) (fun x hx => hin x (hz x hx)) (by omega) (K8.of_same s8v)
  ·intro z; rw [z] at hpl; simp at hpl; omega
  ·obtain ⟨x, hx, rfl⟩ := List.mem_map.mp hr
   have hxr := hp2.mem_iff.mp hx
   obtain ⟨y1, y2, y3⟩ := Ro x hxr
   exact ⟨cnm _ (by rw [<- en]; exact List.mem_map_of_mem (f := fun z : Addr × Row => z.2.1) hxr), hin _ y1, hin _ y2, y3⟩
  ·rw [List.map_map] at hpw ⊢; exact hpw
  ·rw [List.length_map, hp2.length_eq]; omega
end
theorem jr {c : TT} {x y b : TS} {D : Ends} {σ : St} {H : Hp} (M : St -> Hp -> Prop) (h : ∀ N : St -> Hp -> Prop, (∀ σ H, M σ H -> N σ H) -> jv c x y { D with nx := N } σ H) (k : ∀ σ H, M σ H -> b D σ H) : jD (jv c x y) b D σ H := h (b D) k
theorem si (xs : List V) : bF xs none (some (-1)) = xs.take (xs.length - 1) := by
 unfold bF
 have h0 : ((-1 : Int) < 0) := by decide
 simp [HT.sIx, h0]
 first | done | (congr 1; omega)
theorem uI (ss : List Str) : PyData.eqv (.list (ss.map PyData.str)) (.list []) = decide (ss = []) := by
 cases ss with
 | nil => simp [PyData.eqv, PyData.eqvAll]
 | cons x r => simp [PyData.eqv, PyData.eqvAll]
section
variable {P : Program} {w : World} {K : PySem.W.Frag} {mg : Str -> Option Value} {base : Heap}
noncomputable def lB : Sp := fun vs H Q _ => ∃ (p pl bg : Addr) (ns bs ps : List Str), vs = [.ref p, .ref pl, .ref bg] /\ Pot H p /\ H pl = some (.lst (ns.map V.str)) /\ (∀ x ∈ ns, x ∈ ps) /\ 1 <= ns.length /\ ns.length <= 8 /\ H bg = some (.lst (bs.map V.str)) /\ (∀ x ∈ bs, x ∈ ps) /\ bs.length <= 6 /\ (∀ x ∈ ps, aH x) /\
 ∀ (t : Addr) (rts : List Str) (H' : Hp), Pot H' p -> H' t = some (.tup (rts.map V.str)) -> (∀ x ∈ rts, x ∈ ps) -> rts.length <= 6 -> Kp [p] H H' -> Q (.ref t) H'
noncomputable abbrev N52 : List Str := ["_law_pot_here", "_law_places", "_law_begins", "_law_found", "_law_begin", "_law_way"]
theorem fM : aL N52 ["_law_pot_here", "_law_places", "_law_begins"] (aB (top 52)) := ⟨rfl, rfl, rfl, by decide +kernel, rfl, by decide +kernel, by decide +kernel⟩
theorem rj {f : Addr} {fd : FuncData} (F : Fun K "_law_roots" "_law_roots" (top 52) f fd) (B : Bl mg) (Ft : Fn P w K mg base 1 "_law_take" ["_law_pot_here", "_law_many"] eX) : aE P w K mg base CX0 2 f fd ["_law_pot_here", "_law_places", "_law_begins"] lB := by
 refine F.ok fM (fun vs H Q E h => ?_) (fun cdv A outer s H vs Q E hr h => ?_)
 ·obtain ⟨p, pl, bg, ns, bs, ps, rfl, _⟩ := h
  rfl
 ·obtain ⟨p, pl, bg, ns, bs, ps, rfl, hp, hpl, hns, n1, n8, hbg, hbs, hb6, hnm, k⟩ := h
  refine ⟨_, am (aM (i := 3) fM.nd rfl (Or.inl rfl) (bC ae))
   (am (bO PassesOwn.never rfl (bB (pv 2)) (aW (i := 4) fM.nd rfl (Or.inl rfl))
    (aw (cD (cY PySem.F.plainAttrs_list PySem.F.slot_list_insert PySem.F.type_list_insert qJ (pv 3) (aa (ax Ft hr (aa (pv 0) (aa (aD b8 (ay bo rfl B.len PySem.boot_len (aa (pv 3) ae)) ak) ae))) (aa (pv 4) ae))))))
   (am (aM (i := 5) fM.nd rfl (Or.inl rfl) (ax Ft hr (aa (pv 0) (aa ak ae))))
   (am (bj (aR e9 (pv 5) ak (aT _)) (aw (aM (i := 3) fM.nd rfl (Or.inl rfl) (dQ fA (pv 3) dX (dW (vF vB ak))))) be)
   (am (bj (PW.pt (dZ (aR e9 (pv 5) ak (aT _)) (eP (aR gw (ay bo rfl B.len PySem.boot_len (aa (pv 3) ae)) ak (aT _)))))
    (aw (cD (cY PySem.F.plainAttrs_list PySem.F.slot_list_append PySem.F.type_list_append dN (pv 3) (aa (aG bh (pv 1) (ax Ft hr (aa (pv 0) (aa (ay bo rfl B.len PySem.boot_len (aa (pv 1) ae)) ae))) (fun _ _ => rfl)) ae)))) be)
   (am (bj (PW.pt (dZ (aR e9 (pv 5) ak (aT _)) (eP (aR (gr hr) (pv 3) (bC ae) (aT _)))))
    (aw (dC (aG bh (pv 1) (ax Ft hr (aa (pv 0) (aa (ay bo rfl B.len PySem.boot_len (aa (pv 1) ae)) ae))) (fun _ _ => rfl)) (i9 (pv 3) (ax Ft hr (aa (pv 0) (aa (ay bo rfl B.len PySem.boot_len (aa (pv 3) ae)) ae))) set_list))) be)
   (aw (aN (cj fS rfl B.tuple cU (aa (pv 3) ae))))))))), ?_⟩
  have npl := cF hp hpl
  have nbg := cF hp hbg
  have hnl : (ns.map V.str).length = ns.length := by simp
  refine ⟨Nat.zero_le _, fun fo0 hfo0 => ?_⟩
  have P1 := hp.new (o := .lst []) hfo0
  have K1 := (Kp.refl [p] H).new (o := .lst []) hfo0
  have f1 : upd H fo0 (.lst []) fo0 = some (.lst ((([] : List Str)).map V.str)) := ai
  generalize upd H fo0 (.lst []) = H1 at P1 K1 f1 ⊢
  refine ⟨_, rfl, bg, rfl, ⟨_, SqL.of (K1.at nbg hbg)⟩, eK (K := K) (a := bg) (xs := bs.map V.str) (fun i σ H2 => ∃ (rts : List Str) (g : Option V), σ = [some (.ref p), some (.ref pl), some (.ref bg), some (.ref fo0), g, none] /\ Pot H2 p /\ H2 fo0 = some (.lst (rts.map V.str)) /\ (∀ x ∈ rts, x ∈ ps) /\ rts.length = i /\ Kp [p] H H2)
   ⟨[], none, rfl, P1, f1, by simp, rfl, K1⟩ (fun i σ H2 _ q => by obtain ⟨_, _, _, _, _, _, _, K2⟩ := q; exact SqL.of (K2.at nbg hbg)) ?_ ?_⟩
  ·rintro i x σ H2 hx ⟨rts, g, rfl, P2, f2, hin, rfl, K2⟩
   rw [List.getElem?_map] at hx
   cases hc : bs[rts.length]? with
   | none => rw [hc] at hx; cases hx
   | some b =>
    rw [hc] at hx
    cases hx
    have hi : rts.length < bs.length := (List.getElem?_eq_some_iff.mp hc).1
    have nfo := cF P2 f2
    refine ⟨_, rfl, .inl ⟨rfl, _, SqL.of f2⟩, _, rfl, _, rfl, fo0, _, rfl, .inl (SqL.of f2), _, _, rfl, rfl, p, _, rfl, P2, by omega, by rw [List.length_map]; omega, fun r H3 r0 r1 P3 K3 => ⟨_, rfl, ?_⟩⟩
    rw [List.length_map] at r1
    have f3 := K3.at nfo f2
    refine ⟨fo0, _, r, _, rfl, rfl, f3, fits (by rw [List.length_map]; omega), r0, by rw [List.length_map]; omega, ?_⟩
    refine ⟨rts.take r.toNat ++ b :: rts.drop r.toNat, _, rfl, P3.upd nfo, by rw [ai]; simp, fun z hz => ?_, ?_, ?_⟩
    ·rcases List.mem_append.mp hz with c | c
     ·exact hin z (List.mem_of_mem_take c)
     ·rcases List.mem_cons.mp c with c | c
      ·rw [c]; exact hbs b (List.mem_of_getElem? hc)
      ·exact hin z (List.mem_of_mem_drop c)
    ·rw [List.length_append, List.length_cons, List.length_take, List.length_drop]; omega
    ·exact fun c o e nb => by rw [ag (av e hfo0)]; exact (K2.trans K3) c o e nb
  rintro σ H2 ⟨rts, g, rfl, P2, f2, hin, hrl, K2⟩
  rw [List.length_map] at hrl
  have nfo := cF P2 f2
  refine ⟨_, rfl, p, 4, rfl, P2, by decide, by decide, fun wy H3 w0 w1 P3 K3 => ?_⟩
  have f3 := K3.at nfo f2
  have K03 := K2.trans K3
  let M : St -> Hp -> Prop := fun σ H' => ∃ (fo : Addr) (rts : List Str) (g : Option V), σ = [some (.ref p), some (.ref pl), some (.ref bg), some (.ref fo), g, some (.int wy)] /\ Pot H' p /\ H' fo = some (.lst (rts.map V.str)) /\ H fo = none /\ (∀ x ∈ rts, x ∈ ps) /\ rts.length <= 6 /\ Kp [p] H H'
  dsimp only
  refine jr M (fun N hN => ?_) ?_
  ·refine ⟨_, rfl, rfl, _, rfl, bb (fun c => ?_) (fun c => hN _ _ ⟨fo0, rts, _, rfl, P3, f3, hfo0, hin, by omega, K03⟩)⟩
   refine ⟨_, rfl, _, rfl, _, rfl, fo0, _, rfl, SqL.of f3, fun q hq => hN _ _ ⟨q, rts.take (rts.length - 1), _, rfl, P3.new hq, ?_, K03.free1 P3 hq, fun z hz => hin z (List.mem_of_mem_take hz), by rw [List.length_take]; omega, K03.new hq⟩⟩
   rw [ai, si, List.length_map, List.map_take]
  rintro σ H4 ⟨fo, rts, g, rfl, P4, f4, hfo, hin, hrl, K4⟩
  have nfo := cF P4 f4
  refine jr M (fun N hN => ?_) ?_
  ·refine ⟨_, rfl, rfl, _, rfl, bb (fun c => ⟨_, rfl, fo, _, rfl, .inl (SqL.of f4), _, _, rfl, rfl, _, rfl, bb (fun d => ?_) (fun d => hN _ _ ⟨fo, rts, _, rfl, P4, f4, hfo, hin, hrl, K4⟩)⟩) (fun c => bc (hN _ _ ⟨fo, rts, _, rfl, P4, f4, hfo, hin, hrl, K4⟩))⟩
   have hlt : rts.length < 6 := by
    have := of_decide_eq_true d
    rw [List.length_map] at this
    omega
   refine ⟨_, rfl, .inl ⟨rfl, _, SqL.of f4⟩, _, rfl, _, rfl, _, rfl, pl, _, rfl, .inl (SqL.of (K4.at npl hpl)), p, _, rfl, P4, by omega, by omega, fun r H5 r0 r1 P5 K5 => ?_⟩
   rw [hnl] at r1
   have hrl' : r.toNat < ns.length := by omega
   have f5 := K5.at nfo f4
   refine aJ (j := r.toNat) (.inl (SqL.of ((K4.trans K5).at npl hpl))) (by omega) (strAt hrl') ?_
   refine ⟨fo, _, _, rfl, rfl, f5, fits (by rw [List.length_map]; omega), hN _ _ ⟨fo, rts ++ [ns[r.toNat]], _, rfl, P5.upd nfo, by rw [ai]; simp, hfo, fun z hz => ?_, by rw [List.length_append]; simp; omega, fun c o e nb => by rw [ag (av e hfo)]; exact (K4.trans K5) c o e nb⟩⟩
   rcases List.mem_append.mp hz with c | c
   ·exact hin z c
   ·have ez : z = ns[r.toNat] := by simpa using c
    rw [ez]; exact hns _ (List.getElem_mem hrl')
  rintro σ H4 ⟨fo, rts, g, rfl, P4, f4, hfo, hin, hrl, K4⟩
  have nfo := cF P4 f4
  refine jr M (fun N hN => ?_) ?_
  ·refine ⟨_, rfl, rfl, _, rfl, bb (fun c => ⟨_, rfl, Nat.zero_le _, fun em hem => ?_⟩) (fun c => bc (hN _ _ ⟨fo, rts, _, rfl, P4, f4, hfo, hin, hrl, K4⟩))⟩
   have P5 := P4.new (o := .lst []) hem
   have K5 := K4.new (o := .lst []) hem
   have f5 : upd H4 em (.lst []) fo = some (.lst (rts.map V.str)) := by rw [ag (av f4 hem)]; exact f4
   have e5 : upd H4 em (.lst []) em = some (.lst []) := ai
   generalize upd H4 em (.lst []) = H5 at P5 K5 f5 e5 ⊢
   refine ⟨.list (rts.map PyData.str), .list [], .lst f5 (DVs.strs rts), .lst e5 .nil, (cJ fun x hx => hnm x (hin x hx)).1, rfl, _, rfl, ?_⟩
   rw [uI]
   refine bb (fun d => ?_) (fun d => hN _ _ ⟨fo, rts, _, rfl, P5, f5, hfo, hin, hrl, K5⟩)
   have hne : rts ≠ [] := fun z => by rw [z] at d; simp at d
   have hpos : 0 < rts.length := List.length_pos_iff.mpr hne
   refine ⟨_, rfl, _, rfl, _, rfl, pl, _, rfl, .inl (SqL.of (K5.at npl hpl)), p, _, rfl, P5, by omega, by omega, fun r H6 r0 r1 P6 K6 => ?_⟩
   rw [hnl] at r1
   have hrl' : r.toNat < ns.length := by omega
   have f6 := K6.at nfo f5
   refine aJ (j := r.toNat) (.inl (SqL.of ((K5.trans K6).at npl hpl))) (by omega) (strAt hrl') ?_
   refine ⟨_, rfl, _, rfl, _, rfl, fo, _, rfl, .inl (SqL.of f6), p, _, rfl, P6, by rw [List.length_map]; omega, by rw [List.length_map]; omega, fun r2 H7 q0 q1 P7 K7 => ?_⟩
   rw [List.length_map] at q1
   have f7 := K7.at nfo f6
   obtain ⟨rn, rfl⟩ := Int.eq_ofNat_of_zero_le q0
   have hrn : rn < rts.length := by omega
   refine ⟨fo, _, _, rn, rfl, rfl, f7, ?_, hN _ _ ⟨fo, rts.set rn ns[r.toNat], _, rfl, P7.upd nfo, by rw [ai, List.map_set], hfo, fun z hz => ?_, by rw [List.length_set]; exact hrl, fun c o e nb => by rw [ag (av e hfo)]; exact ((K5.trans K6).trans K7) c o e nb⟩⟩
   ·rw [List.length_map]
    unfold ixN
    simp
    omega
   ·rcases List.mem_or_eq_of_mem_set hz with c | c
    ·exact hin z c
    ·rw [c]; exact hns _ (List.getElem_mem hrl')
  rintro σ H4 ⟨fo, rts, g, rfl, P4, f4, hfo, hin, hrl, K4⟩
  refine ⟨_, rfl, fo, _, rfl, .inl ⟨SqL.of f4, fun t ht => k t rts _ (P4.new ht) ai hin hrl (K4.new ht)⟩⟩
end
end K42
namespace K42
open PySem L2 PySem.Spec PyProof.Rows
noncomputable def wH (K : PySem.W.Frag) : R2 := fun x y H Q => ∃ (a p : Addr) (ss : List Str) (lts : List (Addr × List Str)), x = .ref a /\ y = .ref p /\ H a = some (.tup (ss.map V.str)) /\ (∀ z ∈ ss, aH z) /\ SqL K H p (aq lts) /\ aO H lts /\ (∀ l ∈ lts, ∀ z ∈ l.2, aH z) /\ Q (.bl (decide (ss ∈ lts.map (·.2)))) H
theorem uZ {X : Cx} {k : Nat} (hr : aI k X.A) : OpR X (compareOp .In) (wH X.K) := by
 intro pins s σ H x y v u Q I rx ry h
 obtain ⟨a, p, ss, lts, rfl, rfl, ha, hs, hq, hL, hn, q⟩ := h
 cases rx
 cases ry
 obtain ⟨its, r', pl, hz⟩ := I.list hq
 have hun := hr.un
 obtain ⟨as, r1⟩ := (DV.tup ha (DVs.strs _)).reads I.hok (show RelV (.ref a) (Value.ref a) from rfl)
 have item : ∀ (i : Nat) (v : Value), its[i]? = some v -> ∃ l, lts[i]? = some l /\ v = Value.ref l.1 := fun i v hv => by
  have hlen := r'.length
  rw [List.length_map] at hlen
  have hi : i < lts.length := by rw [hlen]; exact (List.getElem?_eq_some_iff.mp hv).1
  have e1 : (aq lts)[i]? = some (V.ref lts[i].1) := by rw [List.getElem?_map, List.getElem?_eq_getElem hi]; rfl
  obtain ⟨w', e2, rw'⟩ := r'.get e1
  rw [hv] at e2
  cases e2
  exact ⟨lts[i], List.getElem?_eq_getElem hi, rw'⟩
 have data : ∀ y ∈ its, ∃ l ∈ lts, y = Value.ref l.1 := fun y hy => by
  obtain ⟨i, hi⟩ := List.getElem?_of_mem hy
  obtain ⟨l, h1, h2⟩ := item i y hi
  exact ⟨l, List.mem_of_getElem? h1, h2⟩
 let e : Value -> Bool := fun y => match y with | .ref c => lts.any fun l => decide (l.1 = c) && decide (l.2 = ss) | _ => false
 have ee : ∀ c, e (.ref c) = true ↔ ∃ l ∈ lts, l.1 = c /\ l.2 = ss := fun c => by
  show (lts.any fun l => decide (l.1 = c) && decide (l.2 = ss)) = true ↔ _
  rw [List.any_eq_true]
  simp only [Bool.and_eq_true, decide_eq_true_eq]
 refine SeqAt.in_listAt e pl.isList (fun y hy => ?_) ?_
 ·obtain ⟨l, hl, rfl⟩ := data y (by simpa using hy)
  have el : e (.ref l.1) = decide (l.2 = ss) := by
   rw [Bool.eq_iff_iff, ee, decide_eq_true_iff]
   constructor
   ·rintro ⟨m, hm, em, es⟩
    rw [gq (hL l hl) (hL m hm) em.symm]; exact es
   ·exact fun q => ⟨l, hl, rfl, q⟩
  rw [el]
  by_cases hab : l.1 = a
  ·rw [decide_eq_true (gq (hL l hl) ha hab), hab]
   exact SeqAt.EqAt.same _
  ·refine SeqAt.EqAt.of_refs hab fun prog w E Q hq => ?_
   obtain ⟨bs, r2⟩ := (DV.tup (hL l hl) (DVs.strs _)).reads I.hok (show RelV (.ref l.1) (Value.ref l.1) from rfl)
   have ev : PyData.eqv (.tuple (l.2.map PyData.str)) (.tuple (ss.map PyData.str)) = decide (l.2 = ss) := eE _ _
   refine (eq_dataH (A := X.A.in1) r2 r1 (cJ (hn l hl)).2 (cJ hs).2 (by show X.A.units + 1 + 64 < cLine; omega) ?_ : wpAny (model prog w) X.A.in1 (compareOp .Eq (.ref l.1) (.ref a)) Q E _)
   rw [ev]; exact hq
 ·have ea : its.toArray.any e = decide (ss ∈ lts.map (·.2)) := by
   rw [Bool.eq_iff_iff, List.any_toArray, List.any_eq_true, decide_eq_true_iff]
   constructor
   ·rintro ⟨y, hy, ey⟩
    obtain ⟨m, hm, rfl⟩ := data y hy
    obtain ⟨l, hl, _, es⟩ := (ee _).mp ey
    exact es ▸ List.mem_map_of_mem hl
   ·intro hm
    obtain ⟨l, hl, es⟩ := List.mem_map.mp hm
    obtain ⟨i, hi⟩ := List.getElem?_of_mem hl
    obtain ⟨w', e2, rw'⟩ := r'.get (show (aq lts)[i]? = some (V.ref l.1) by rw [List.getElem?_map, hi]; rfl)
    cases rw'
    exact ⟨_, List.mem_of_getElem? e2, (ee _).mpr ⟨l, hl, rfl, es⟩⟩
  rw [ea]
  exact ⟨V.bl (decide (ss ∈ lts.map (fun z : Addr × List Str => z.2))), H, I, rfl, q⟩
theorem jY : ∀ (tls : List (Addr × List Str)) (trs : List (List T)), tls.length = trs.length -> (∀ (i : Nat) (tr : List T) (x : Addr × List Str), trs[i]? = some tr -> tls[i]? = some x -> x.2.Perm (tna tr)) -> ((tls.map (·.2)).flatten).Perm (tna trs.flatten)
 | [], [], _, _ => by simp
 | [], _ :: _, h, _ => by simp at h
 | _ :: _, [], h, _ => by simp at h
 | x :: xs, t :: ts, hl, h => by
  have ih := jY xs ts (by simpa using hl) fun i tr x h1 h2 => h (i + 1) tr x (by simpa using h1) (by simpa using h2)
  have h0 := h 0 t x rfl rfl
  rw [List.map_cons, List.flatten_cons, List.flatten_cons]
  show List.Perm _ (List.map _ (_ ++ _))
  rw [List.map_append]
  exact h0.append ih
theorem eq_self (tl : List (List Str)) (h : ∀ ts ∈ tl, ∀ y ∈ ts, aH y) : PyData.eqv (tlD tl) (tlD tl) = true := by
 have q := iQ h
 exact ly (tlD tl) (by simp only [tlD, PyData.canLay0, q.1])
theorem tS {K : PySem.W.Frag} {g : TG} {te : TE} {σ' : L2.St} {fin : List V -> Hp -> Prop} {H1 : Hp} {a b : Addr} {xs ys : List V} (hxy : xs.length <= ys.length) (hn : min xs.length ys.length < sizeLine) (Pv : Nat -> List V -> L2.St -> Hp -> Prop) (h0 : Pv 0 [] σ' H1)
  (hl : ∀ i zs σ H, i <= min xs.length ys.length -> Pv i zs σ H -> zs.length <= i /\ SqT K H a xs /\ SqL K H b ys)
  (hs : ∀ i x y zs σ H T, xs[i]? = some x -> ys[i]? = some y -> Pv i zs σ H -> H T = none -> g (.ref T) σ (upd H T (.tup [x, y])) fun σ2 H2 => te σ2 H2 (fun v H4 => Pv (i + 1) (zs ++ [v]) σ2 H4))
  (hd : ∀ zs σ H, Pv (min xs.length ys.length) zs σ H -> fin zs H) : LcW (Itm K a b) g bU te σ' fin H1 :=
 vn hxy hn Pv h0 hl (fun i x y zs σ H T hx hy p hT => by
  have e : (fun σ2 H2 => bU σ2 H2 fun b H3 => if b = true then te σ2 H3 (fun v H4 => Pv (i + 1) (zs ++ [v]) σ2 H4) else Pv (i + 1) zs σ2 H3) = fun σ2 H2 => te σ2 H2 (fun v H4 => Pv (i + 1) (zs ++ [v]) σ2 H4) := by
   funext σ2 H2
   show (if true = true then te σ2 H2 (fun v H4 => Pv (i + 1) (zs ++ [v]) σ2 H4) else Pv (i + 1) zs σ2 H2) = _
   rw [if_pos rfl]
  rw [e]
  exact hs i x y zs σ H T hx hy p hT) hd
theorem sv {H : Hp} {p t : Addr} {lts : List (Addr × List Str)} (h1 : Pot H p) (h2 : H t = some (.lst (aq lts))) : t ≠ p := by
 rintro rfl
 obtain ⟨a, b, e, _⟩ := h1
 rw [e] at h2
 have h3 := HO.lst.inj (Option.some.inj h2)
 cases lts with
 | nil => cases h3
 | cons x r => cases (List.cons.inj h3).1
theorem Trs.one {ps rts : List Str} {rs : List T} {trs : List (List T)} {tls : List (Addr × List Str)} {cur : List T} (h : Trs ps rts rs rts.length trs tls cur) {i : Nat} {root : Str} {x : Addr × List Str} (hr : rts[i]? = some root) (hx : tls[i]? = some x) : ∃ tr rest, trs[i]? = some tr /\ rs.Perm (tr ++ rest) /\ SpT root ps tr /\ tr.length + 1 = ps.length /\ x.2.Perm (tna tr) /\ PyProof.Rows.sortedS x.2 = true := by
 have hi : i < rts.length := by rw [<- h.l2]; exact (List.getElem?_eq_some_iff.mp hx).1
 have hi' : i < trs.length := by rw [h.l1]; exact hi
 have ht : trs[i]? = some trs[i] := List.getElem?_eq_getElem hi'
 obtain ⟨h1, h2, h3, h4⟩ := h.tr i root _ x hr ht hx
 obtain ⟨rest, hr⟩ := tm ht
 exact ⟨_, rest ++ cur, ht, (h.pm.trans (hr.append_right cur)).trans (by rw [List.append_assoc]), h1, h2, h3, h4⟩
theorem Trs.root {ps rts : List Str} {rs : List T} {trs : List (List T)} {tls : List (Addr × List Str)} {cur : List T} (h : Trs ps rts rs rts.length trs tls cur) {i : Nat} {x : Addr × List Str} (hx : tls[i]? = some x) : ∃ root, rts[i]? = some root := by
 have hi : i < rts.length := by rw [<- h.l2]; exact (List.getElem?_eq_some_iff.mp hx).1
 exact ⟨_, List.getElem?_eq_getElem hi⟩
theorem Trs.names {ps rts : List Str} {rs : List T} {trs : List (List T)} {tls : List (Addr × List Str)} {cur : List T} (h : Trs ps rts rs rts.length trs tls cur) (hn : (tna rs).Nodup) : ((tls.map (·.2)).flatten).Nodup := by
 have hp := jY tls trs (by rw [h.l1, h.l2]) fun i tr x h1 h2 => by
  obtain ⟨root, hr⟩ := h.root h2
  exact (h.tr i root tr x hr h1 h2).2.2.1
 refine hp.nodup_iff.mpr ?_
 have h2 := (h.pm.map fun r : T => r.2.1).nodup_iff.mp hn
 rw [List.map_append] at h2
 exact (List.nodup_append.mp h2).1
theorem Trs.nameP {ps rts : List Str} {rs : List T} {trs : List (List T)} {tls : List (Addr × List Str)} {cur : List T} (h : Trs ps rts rs rts.length trs tls cur) (G : Good ps (rs.map (·.2))) : ∀ ts ∈ tls.map (·.2), ∀ y ∈ ts, aH y := fun ts hts y hy => by
 obtain ⟨x, hx, rfl⟩ := List.mem_map.mp hts
 obtain ⟨i, hi⟩ := List.getElem?_of_mem hx
 obtain ⟨root, hr⟩ := h.root hi
 obtain ⟨tr, rest, _, hp, _, _, h3, _⟩ := h.one hr hi
 obtain ⟨r, hr, e⟩ := List.mem_map.mp (h3.mem_iff.mp hy)
 rw [<- e]
 exact (G.rn r.2 (List.mem_map_of_mem (hp.mem_iff.mpr (List.mem_append_left _ hr)))).1
theorem Trs.same {ps rts : List Str} {rs : List T} {trs trs' : List (List T)} {tls tls' : List (Addr × List Str)} {cur cur' : List T} (h : Trs ps rts rs rts.length trs tls cur) (h' : Trs ps rts rs rts.length trs' tls' cur') (hn : (tna rs).Nodup) : tls.map (·.2) = tls'.map (·.2) := by
 have et : trs = trs' := (Prod.mk.inj (h.fn.symm.trans h'.fn)).1
 refine List.ext_getElem? fun i => ?_
 rw [List.getElem?_map, List.getElem?_map]
 cases e : tls[i]? with
 | none =>
  have : rts.length <= i := by rw [<- h.l2]; exact List.getElem?_eq_none_iff.mp e
  rw [List.getElem?_eq_none (by rw [h'.l2]; exact this)]
 | some x =>
  have hi : i < rts.length := by rw [<- h.l2]; exact (List.getElem?_eq_some_iff.mp e).1
  have hi' : i < tls'.length := by rw [h'.l2]; exact hi
  have e' : tls'[i]? = some tls'[i] := List.getElem?_eq_getElem hi'
  obtain ⟨root, hr⟩ := h.root e
  obtain ⟨tr, rest, ht, hp, _, _, h3, h4⟩ := h.one hr e
  obtain ⟨tr', rest', ht', hp', _, _, h3', h4'⟩ := h'.one hr e'
  rw [<- et, ht] at ht'
  cases ht'
  rw [e']
  have nd : (tna tr).Nodup := by
   have : (tna tr ++ tna rest).Nodup := by rw [<- List.map_append]; exact (hp.map _).nodup_iff.mp hn
   exact (List.nodup_append.mp this).1
  have ee : x.2 = tls'[i].2 := gv (dP h4 (h3.nodup_iff.mpr nd)) (dP h4' (h3'.nodup_iff.mpr nd)) fun z => by rw [h3.mem_iff, h3'.mem_iff]
  simp [ee]
section
variable {P : Program} {w : World} {K : PySem.W.Frag} {mg : Str -> Option Value} {base : Heap} {C d1 d2 d3 d4 d5 d6 d7 d8 d9 d10 : Addr}
noncomputable def mf : Sp := fun vs H Q _ => ∃ (v a l pa ra : Addr) (ps rts ls : List Str) (rs : List T), vs = [.ref v, .ref a, .ref l] /\ bL H v pa ra ps rs /\ rs.length <= 60 /\ H a = some (.tup (rts.map V.str)) /\ rts.length <= 6 /\ H l = some (.tup (ls.map V.str)) /\ ∀ H', aj H H' -> Q (.int (-(spr rs rts ls))) H'
theorem wF : aL ["_law_web", "_law_roots_here", "_law_lot"] ["_law_web", "_law_roots_here", "_law_lot"] (aB (top 46)) := ⟨rfl, rfl, rfl, by decide +kernel, rfl, by decide +kernel, by decide +kernel⟩
theorem sH {f : Addr} {fd : FuncData} (F : Fun K "_law_lack" "_law_lack" (top 46) f fd) (B : Bl mg) (Fi : Fn P w K mg base 1 "_law_into" ["_law_web", "_law_lot"] mh) : aE P w K mg base CX0 2 f fd ["_law_web", "_law_roots_here", "_law_lot"] mf := by
 refine F.ok wF (fun vs H Q E h => ?_) (fun cdv A outer s H vs Q E hr h => ?_)
 ·obtain ⟨v, a, l, pa, ra, ps, rts, ls, rs, rfl, _⟩ := h
  rfl
 ·obtain ⟨v, a, l, pa, ra, ps, rts, ls, rs, rfl, W, hrz, ha, hz, hl, k⟩ := h
  refine ⟨_, aw (aN (aD eW (ay bo rfl B.len PySem.boot_len (aa (bq (N := ["_law_root", "_law_lot"]) (ix := [none, some 2]) ⟨rfl, rfl, rfl, by decide⟩ rfl (b7 (pv 1)) (fun _ _ _ _ => aS 0 (by decide) rfl rfl)
   (fun _ _ _ _ => cK (aR (eG K) (pv 0) (pv 1) (by with_unfolding_all rfl))) (fun _ _ _ _ => pv 0)) ae)) (ax Fi hr (aa (pv 0) (aa (pv 2) ae))))), ?_⟩
  refine ⟨_, rfl, a, rfl, ⟨_, SqT.of ha⟩, fu (xs := rts.map V.str) (fits (by rw [List.length_map]; omega)) (fun i ys σ H1 => ys = ((rts.take i).filter fun r => !decide (r ∈ ls)).map V.str /\ H1 = H /\ ∃ x, σ = [x, some (.ref l)]) ⟨rfl, rfl, _, rfl⟩
   (fun i ys σ H1 _ q => ⟨by rw [q.1, List.length_map]; exact Nat.le_trans (List.length_filter_le _ _) (by rw [List.length_take]; omega), by rw [q.2.1]; exact SqT.of ha⟩) ?_ ?_⟩
  ·rintro i x ys σ H1 hx ⟨rfl, rfl, y, rfl⟩
   rw [List.getElem?_map] at hx
   cases hc : rts[i]? with
   | none => rw [hc] at hx; cases hx
   | some z =>
    rw [hc] at hx
    cases hx
    have tf := cz (fun r : Str => !decide (r ∈ ls)) rts i z hc
    refine ⟨_, rfl, _, rfl, l, ls.map V.str, rfl, .inr (SqT.of hl), rfl, bW ls, _, rfl, ?_⟩
    show if (!inV (.str z) (ls.map V.str)) = true then _ else _
    rw [bY]
    refine bb (fun c => ⟨_, rfl, ?_, rfl, _, rfl⟩) (fun c => ⟨?_, rfl, _, rfl⟩)
    ·rw [tf, c]; simp
    ·rw [tf]; simp only [Bool.not_eq_true] at c; rw [c]; simp
  rintro ys σ H1 ⟨rfl, rfl, y, rfl⟩ q hq
  rw [take_all rts (by simp)]
  have s2 := ar (o := .lst ((rts.filter fun r => !decide (r ∈ ls)).map V.str)) (aj.refl H1) hq
  refine ⟨q, _, rfl, .inl (SqL.of ai), _, rfl, _, rfl, v, l, pa, ra, ps, ls, rs, rfl, W.same s2, hrz, s2 _ _ hl, fun H3 s3 => ⟨_, _, rfl, rfl, ?_⟩⟩
  have e : (((rts.filter fun r => !decide (r ∈ ls)).map V.str).length : Int) - ((rs.filter (lead ls)).length : Int) = -(spr rs rts ls) := by
   rw [List.length_map]
   unfold spr need cnt
   omega
  show Q (.int ((((rts.filter fun r => !decide (r ∈ ls)).map V.str).length : Int) - ((rs.filter (lead ls)).length : Int))) H3
  rw [e]
  exact k H3 (s2.trans s3)
noncomputable def ni : Sp := fun vs H Q _ => ∃ (v pa ra a : Addr) (ps rts : List Str) (rs : List T) (l0 : List Str), vs = [.ref v, .ref a] /\ bL H v pa ra ps rs /\ Good ps (rs.map (·.2)) /\ ps.length <= 8 /\ H a = some (.tup (rts.map V.str)) /\ rts.length <= 6 /\ (∀ x ∈ rts, x ∈ ps) /\ l0 ∈ aA ps /\ spr rs rts l0 < 0 /\
 ∀ H', aj H H' -> ∀ l ∈ aA ps, spr rs rts l < 0 -> ∀ u, H' u = some (.tup (l.map V.str)) -> Q (.ref u) H'
noncomputable abbrev N48 : List Str := ["_law_web", "_law_roots_here", "_law_found", "_law_e"]
theorem gH : aL N48 ["_law_web", "_law_roots_here"] (aB (top 48)) := ⟨rfl, rfl, rfl, by decide +kernel, rfl, by decide +kernel, by decide +kernel⟩
theorem uS {f R fI : Addr} {fd : FuncData} (F : Fun K "_law_too_few" "_law_too_few" (top 48) f fd) (B : Bl mg) (hx : mg "TooFew" = some (.ref C)) (hC : dH dq base C fI) (hxR : mg "RootError" = some (.ref R)) (hR : eC base R) (hU : Under base C R) (hi : PySem.W.isIn K (.ref C) C = true) (O : Oth K mg C d1 d2 d3 d4 d5 d6 d7 d8 d9 d10)
  (F1 : FnX P w K mg base 6 "shares_from" ["web", "roots"] (iw C)) (F2 : FnH P w K mg base 1 "_law_is_other" ["_law_e"] (lV C)) : aE P w K mg base CX0 7 f fd ["_law_web", "_law_roots_here"] ni := by
 refine F.ok gH (fun vs H Q E h => ?_) (fun cdv A outer s H vs Q E hr h => ?_)
 ·obtain ⟨v, pa, ra, a, ps, rts, rs, l0, rfl, _⟩ := h
  rfl
 ·obtain ⟨v, pa, ra, a, ps, rts, rs, l0, rfl, W, G, h8, ha, hr6, hin, hl0, hlt0, k⟩ := h
  have hr1 : aI 1 _ := hr.mono (by decide)
  refine ⟨_, am (aM (i := 2) gH.nd rfl (Or.inl rfl) gs)
   (am (vA (j := 3) (tH (lS F1 hr (aa (pv 0) (aa (pv 1) ae)))) hxR hR
    (fun ea => aw (bj (PW.pt (dZ (bA (ay (oR hi) rfl B.isinstance cg (aa (pv 3) (aa (cm (v := .ref C) rfl hx rfl) ae))))
     (dZ (bA (ay (oM (c := .ty "ValueError") O.ke (fun _ z => z) O.kv) rfl B.isinstance cg (aa (pv 3) (aa (cT (v := .ty "ValueError") rfl O.ve wA rfl) ae))))
     (eP (bP (bA (uH F2 ⟨hr1.dp, hr1.un, hr1.gd⟩ (aa (pv 3) ae))))))))
     (aw (aM (i := 2) gH.nd rfl (Or.inl rfl) (ue (n := Str.ofString "lot") hC (by decide) (by decide) (by decide) (by decide) (pv 3)))) be)) gH.nd rfl rfl rfl rfl rfl)
   (aw (aN (pv 2)))), ?_⟩
  refine ⟨_, rfl, _, rfl, v, pa, ra, a, ps, rts, rs, rfl, W, G, h8, ha, hr6, hin, fun H2 s2 => ⟨fun hall => absurd (hall l0 hl0) (by omega), fun l hl hlt dx u hdx hu => ⟨C, rfl, hU, fun ea hea => ?_⟩⟩⟩
  have s3 := ar (o := bM ea C (some dx)) (aj.refl H2) hea
  have e3 : upd H2 ea (bM ea C (some dx)) ea = some (bM ea C (some dx)) := ai
  generalize upd H2 ea (bM ea C (some dx)) = H3 at s3 e3 ⊢
  have hdx3 := s3 _ _ hdx
  refine ⟨_, rfl, ea, some dx, rfl, e3, _, rfl, bG ?_⟩
  refine ⟨_, rfl, ea, some dx, rfl, e3, fun d hd => ⟨_, by cases hd; exact hdx3⟩, _, rfl, bG ?_⟩
  refine ⟨_, rfl, ea, dx, _, rfl, e3, hdx3, fun H4 s4 => ⟨_, rfl, bG ?_⟩⟩
  refine ⟨_, rfl, ea, dx, _, .ref u, rfl, s4 _ _ e3, s4 _ _ hdx3, rfl, _, rfl, ?_⟩
  exact k H4 (s2.trans (s3.trans s4)) l hl hlt u (s4 _ _ (s3 _ _ hu))
noncomputable def mz : Sp := fun vs H Q _ => ∃ (v pa ra a : Addr) (ps rts : List Str) (rs : List T), vs = [.ref v, .ref a] /\ bL H v pa ra ps rs /\ Good ps (rs.map (·.2)) /\ ps.length <= 8 /\ H a = some (.tup (rts.map V.str)) /\ rts.length <= 6 /\ (∀ x ∈ rts, x ∈ ps) /\ (∀ l ∈ aA ps, 0 <= spr rs rts l) /\
 ∀ H', aj H H' -> ∀ (q : Addr) (trs : List (List T)) (tls : List (Addr × List Str)) (cur : List T), H q = none -> H' q = some (.lst (aq tls)) -> aO H' tls -> Trs ps rts rs rts.length trs tls cur -> Q (.ref q) H'
noncomputable abbrev N49 : List Str := ["_law_web", "_law_roots_here", "_law_found"]
theorem gM : aL N49 ["_law_web", "_law_roots_here"] (aB (top 49)) := ⟨rfl, rfl, rfl, by decide +kernel, rfl, by decide +kernel, by decide +kernel⟩
theorem uc {f R : Addr} {fd : FuncData} (F : Fun K "_law_told" "_law_told" (top 49) f fd) (hxR : mg "RootError" = some (.ref R)) (hR : eC base R)
  (F1 : FnX P w K mg base 6 "shares_from" ["web", "roots"] (iw C)) : aE P w K mg base CX0 7 f fd ["_law_web", "_law_roots_here"] mz := by
 refine F.ok gM (fun vs H Q E h => ?_) (fun cdv A outer s H vs Q E hr h => ?_)
 ·obtain ⟨v, pa, ra, a, ps, rts, rs, rfl, _⟩ := h
  rfl
 ·obtain ⟨v, pa, ra, a, ps, rts, rs, rfl, W, G, h8, ha, hr6, hin, hall, k⟩ := h
  refine ⟨_, am (aM (i := 2) gM.nd rfl (Or.inl rfl) gs)
   (am (tN (vb (i := 2) gM.nd rfl (Or.inl rfl) (lS F1 hr (aa (pv 0) (aa (pv 1) ae)))) hxR hR.cat
    (fun ea => aw (aM (i := 2) gM.nd rfl (Or.inl rfl) gs)) rfl rfl rfl)
   (aw (aN (pv 2)))), ?_⟩
  exact ⟨_, rfl, _, rfl, v, pa, ra, a, ps, rts, rs, rfl, W, G, h8, ha, hr6, hin, fun H2 s2 => ⟨fun _ q trs tls cur hq q2 A2 R2 => ⟨_, rfl, k H2 s2 q trs tls cur hq q2 A2 R2⟩, fun l hl hlt => absurd (hall l hl) (by omega)⟩⟩
noncomputable def mW : Sp := fun vs H Q _ => ∃ (v pa ra a q : Addr) (ps rts : List Str) (rs : List T) (trs : List (List T)) (tls : List (Addr × List Str)) (cur : List T), vs = [.ref v, .ref a, .ref q] /\ bL H v pa ra ps rs /\ Good ps (rs.map (·.2)) /\ ps.length <= 8 /\ H a = some (.tup (rts.map V.str)) /\ rts.length <= 6 /\ (∀ x ∈ rts, x ∈ ps) /\
 H q = some (.lst (aq tls)) /\ aO H tls /\ Trs ps rts rs rts.length trs tls cur /\ ∀ H', aj H H' -> Q (.bl true) H'
noncomputable abbrev N50 : List Str := ["_law_web", "_law_roots_here", "_law_told_here", "_law_used", "_law_tree"]
theorem gG : aL N50 ["_law_web", "_law_roots_here", "_law_told_here"] (aB (top 50)) := ⟨rfl, rfl, rfl, by decide +kernel, rfl, by decide +kernel, by decide +kernel⟩
theorem vi {f : Addr} {fd : FuncData} (F : Fun K "_law_are_shares" "_law_are_shares" (top 50) f fd) (B : Bl mg) (F1 : Fn P w K mg base 1 "_law_is_tree" ["_law_web", "_law_root", "_law_thing"] lh) : aE P w K mg base CX0 2 f fd ["_law_web", "_law_roots_here", "_law_told_here"] mW := by
 refine F.ok gG (fun vs H Q E h => ?_) (fun cdv A outer s H vs Q E hr h => ?_)
 ·obtain ⟨v, pa, ra, a, q, ps, rts, rs, trs, tls, cur, rfl, _⟩ := h
  rfl
 ·obtain ⟨v, pa, ra, a, q, ps, rts, rs, trs, tls, cur, rfl, W, G, h8, ha, hr6, hin, hq, A0, R, k⟩ := h
  refine ⟨_, am (bj (PW.pt (di (bP (bA (ay (de (T := "list")) rfl B.isinstance cg (aa (pv 2) (aa (cT (v := .ty "list") rfl B.list fC rfl) ae)))))
    (dD (aR eB (ay bo rfl B.len PySem.boot_len (aa (pv 2) ae)) (ay bo rfl B.len PySem.boot_len (aa (pv 1) ae)) (aT _))))) cP be)
   (am (bj (bP (bA (ay (dO rfl) rfl B.all eo (aa (bq (N := ["_law_root", "_law_tree", "_law_web"]) (ix := [none, none, some 0]) ⟨rfl, rfl, rfl, by decide⟩ rfl (vW rfl B.zip (aa (pv 1) (aa (pv 2) ae)))
    (fun _ _ _ _ => iS K rfl (n := 2) (bv (aS 0 (by decide) rfl rfl) (bv (aS 1 (by decide) rfl rfl) cV))) (fun _ _ _ _ => bz)
    (fun _ _ _ _ => ax F1 hr (aa (pv 2) (aa (pv 0) (aa (pv 1) ae))))) ae)))) cP be)
   (am (aM (i := 3) gG.nd rfl (Or.inl rfl) (bC ae))
   (am (bO PassesOwn.never rfl (bB (pv 2)) (aW (i := 4) gG.nd rfl (Or.inl rfl))
    (aw (aM (i := 3) gG.nd rfl (Or.inl rfl) (aD ef (pv 3) (cj fT rfl B.list fC (aa (pv 4) ae))))))
   (aw (aN (b5 e9 (ay (pZ w) rfl B.len PySem.boot_len (aa (cj (oZ w rfl) rfl B.set mR (aa (pv 3) ae)) ae)) (ay bo rfl B.len PySem.boot_len (aa (pv 3) ae)) (aT _))))))), ?_⟩
  have htn : (tna rs).Nodup := by
   have := eN G.rso
   rw [List.map_map] at this
   exact this
  have und := R.names htn
  have htl : tls.length = rts.length := R.l2
  have hx7 : ∀ x ∈ tls, x.2.length <= 7 := fun x hx => by
   obtain ⟨i, hi⟩ := List.getElem?_of_mem hx
   obtain ⟨root, hr'⟩ := R.root hi
   obtain ⟨tr, rest, _, _, _, hl, hp, _⟩ := R.one hr' hi
   rw [hp.length_eq, List.length_map]
   omega
  have hfl : ∀ i, ((tls.take i).map (·.2)).flatten.length <= 7 * i := fun i => by
   induction i with
   | zero => simp
   | succ n ih =>
    rw [List.take_add_one, List.map_append, List.flatten_append, List.length_append]
    cases e : tls[n]? with
    | none => exact Nat.le_trans (by simp [List.length_flatten]) (by omega : ((tls.take n).map (·.2)).flatten.length <= 7 * (n + 1))
    | some x =>
     have := hx7 x (List.mem_of_getElem? e)
     have e1 : ((some x : Option (Addr × List Str)).toList.map (·.2)).flatten.length = x.2.length := by simp
     rw [e1]
     omega
  refine ⟨_, rfl, _, _, true, rfl, .lst hq, rfl, true, rfl, bc ?_⟩
  refine ⟨_, rfl, q, _, rfl, .inl (SqL.of hq), _, rfl, a, _, rfl, .inr (SqT.of ha), rfl, _, rfl, ?_⟩
  have en : (!decide (V.int ((aq tls).length : Int) = V.int ((rts.map V.str).length : Int))) = false := by
   rw [List.length_map, List.length_map, htl]; simp
  rw [en]
  refine bc ?_
  refine ⟨_, rfl, _, rfl, a, q, _, _, rfl, SqT.of ha, SqL.of hq, ?_⟩
  have hmn : min (rts.map V.str).length (aq tls).length = rts.length := by rw [List.length_map, List.length_map, htl]; simp
  refine tS (xs := rts.map V.str) (ys := aq tls) (by rw [List.length_map, List.length_map]; omega) (fits (by rw [hmn]; omega)) (fun i ys σ H1 => ys = (List.replicate i true).map V.bl /\ aj H H1 /\ ∃ x y, σ = [x, y, some (.ref v)]) ⟨rfl, aj.refl _, _, _, rfl⟩
   (fun i ys σ H1 _ p => ⟨by rw [p.1]; simp, SqT.of (p.2.1 _ _ ha), SqL.of (p.2.1 _ _ hq)⟩) ?_ ?_
  ·rintro i x y ys σ H1 T0 hx hy ⟨rfl, s1, g1, g2, rfl⟩ hT
   rw [List.getElem?_map] at hx
   cases hc : rts[i]? with
   | none => rw [hc] at hx; cases hx
   | some root =>
    rw [hc] at hx
    cases hx
    obtain ⟨t, ht, rfl⟩ := cQ hy
    obtain ⟨tr, rest, _, hp, hS, hl, hpm, hso⟩ := R.one hc ht
    have s2 := ar (o := .tup [.str root, .ref t.1]) s1 hT
    refine ⟨T0, _, rfl, SqT.of ai, rfl, _, _, rfl, _, _, rfl, rfl, ?_⟩
    refine ⟨_, rfl, _, rfl, _, rfl, v, pa, ra, t.1, ps, rs, tr, rest, root, t.2, rfl, W.same s2, G, h8, hin root (List.mem_of_getElem? hc), s2 _ _ (A0 t (List.mem_of_getElem? ht)), hp, hS, hl, hpm, hso, fun H2 s3 => ⟨?_, s2.trans s3, _, _, rfl⟩⟩
    rw [List.replicate_succ', List.map_append]; rfl
  rintro ys σ H1 ⟨rfl, s1, g1, g2, rfl⟩ al hal
  rw [hmn]
  have s2 := ar (o := .lst ((List.replicate rts.length true).map V.bl)) s1 hal
  refine ⟨al, List.replicate rts.length true, rfl, SqL.of ai, _, rfl, ?_⟩
  have eall : ∀ n : Nat, (List.replicate n true).all id = true := by simp
  rw [eall]
  refine bc ?_
  generalize upd H1 al (.lst ((List.replicate rts.length true).map V.bl)) = H2 at s2 ⊢
  refine ⟨Nat.zero_le _, fun u0 hu0 => ?_⟩
  have s3 := ar (o := .lst []) s2 hu0
  have u3 : upd H2 u0 (.lst []) u0 = some (.lst ((((tls.take 0).map (·.2)).flatten).map V.str)) := ai
  generalize upd H2 u0 (.lst []) = H3 at s3 u3 ⊢
  refine ⟨_, rfl, q, rfl, ⟨_, SqL.of (s3 _ _ hq)⟩, eK (K := K) (a := q) (xs := aq tls) (fun i σ H4 => ∃ (u : Addr) (g : Option V), σ = [some (.ref v), some (.ref a), some (.ref q), some (.ref u), g] /\ aj H H4 /\ H4 u = some (.lst ((((tls.take i).map (·.2)).flatten).map V.str)))
   ⟨u0, none, rfl, s3, u3⟩ (fun i σ H4 _ p => by obtain ⟨_, _, _, s4, _⟩ := p; exact SqL.of (s4 _ _ hq)) ?_ ?_⟩
  ·rintro i x σ H4 hx ⟨u, g, rfl, s4, u4⟩
   obtain ⟨y, hy, rfl⟩ := cQ hx
   have hym := List.mem_of_getElem? hy
   have hi : i < tls.length := (List.getElem?_eq_some_iff.mp hy).1
   have y4 := s4 _ _ (A0 y hym)
   refine ⟨_, rfl, _, rfl, y.1, _, rfl, .inr (SqT.of y4), fun l hl => ?_⟩
   have s5 := ar (o := .lst (y.2.map V.str)) (aj.refl H4) hl
   have h7 := hx7 y hym
   have h7i := hfl i
   refine ⟨u, l, _, _, rfl, rfl, s5 _ _ u4, ai, by rw [sizeLine_eq, List.length_map, List.length_map]; omega, fun n hn => ?_⟩
   refine ⟨n, _, rfl, s4.trans (ar s5 hn), ?_⟩
   rw [ai, List.take_add_one, hy]
   simp
  ·rintro σ H4 ⟨u, g, rfl, s4, u4⟩
   rw [take_all tls (by simp)] at u4
   have hlen : ((tls.map (·.2)).flatten).length <= 42 := by
    have := hfl tls.length
    rw [List.take_length] at this
    omega
   refine ⟨_, rfl, u, _, rfl, SqL.of u4, by omega, fun st hst => ?_⟩
   rw [jZ (iz und)]
   have s5 := ar (o := bN w st ((tls.map (·.2)).flatten).reverse) (aj.refl H4) hst
   refine ⟨st, _, rfl, ai, _, rfl, u, _, rfl, .inl (SqL.of (s5 _ _ u4)), rfl, ?_⟩
   have ed : decide (V.int ((((tls.map (·.2)).flatten).reverse.length : Nat) : Int) = V.int (((((tls.map (·.2)).flatten).map V.str).length : Nat) : Int)) = true := by
    rw [List.length_reverse, List.length_map]; simp
   rw [ed]
   exact k _ (s4.trans s5)
end
end K42
namespace K42
open PySem L2
section
variable {P : Program} {w : World} {K : PySem.W.Frag} {mg : Str -> Option Value} {base : Heap}
noncomputable def lT : Sp := fun vs H Q _ => ∃ (v pa ra a lo : Addr) (ps rts : List Str) (rs : List T) (lts : List (Addr × List Str)), vs = [.ref v, .ref a, .ref lo] /\ bL H v pa ra ps rs /\ Good ps (rs.map (·.2)) /\ ps.length <= 8 /\ H a = some (.tup (rts.map V.str)) /\ rts.length <= 6 /\ (∀ x ∈ rts, x ∈ ps) /\
 H lo = some (.lst (aq lts)) /\ aO H lts /\ lts.map (·.2) = aA ps /\ ∀ H', aj H H' -> Q (.bl true) H'
noncomputable abbrev N51 : List Str := ["_law_web", "_law_roots_here", "_law_lots_here", "_law_lot", "_law_told_here", "_law_kept"]
theorem gN : aL N51 ["_law_web", "_law_roots_here", "_law_lots_here"] (aB (top 51)) := ⟨rfl, rfl, rfl, by decide +kernel, rfl, by decide +kernel, by decide +kernel⟩
theorem rJ {f : Addr} {fd : FuncData} (F : Fun K "_law_right" "_law_right" (top 51) f fd) (B : Bl mg) (Fi : Fn P w K mg base 2 "_law_lack" ["_law_web", "_law_roots_here", "_law_lot"] mf) (Ff : Fn P w K mg base 7 "_law_too_few" ["_law_web", "_law_roots_here"] ni)
  (Ft : Fn P w K mg base 7 "_law_told" ["_law_web", "_law_roots_here"] mz) (Fa : Fn P w K mg base 2 "_law_are_shares" ["_law_web", "_law_roots_here", "_law_told_here"] mW) : aE P w K mg base CX0 8 f fd ["_law_web", "_law_roots_here", "_law_lots_here"] lT := by
 refine F.ok gN (fun vs H Q E h => ?_) (fun cdv A outer s H vs Q E hr h => ?_)
 ·obtain ⟨v, pa, ra, a, lo, ps, rts, rs, lts, rfl, _⟩ := h
  rfl
 ·obtain ⟨v, pa, ra, a, lo, ps, rts, rs, lts, rfl, W, G, h8, ha, hr6, hin, hlo, A0, eL, k⟩ := h
  have hr2 : aI 2 _ := hr.mono (by decide)
  refine ⟨_, am (bj (aR (gr hr) (bq (N := ["_law_lot", "_law_roots_here", "_law_web"]) (ix := [none, some 1, some 0]) ⟨rfl, rfl, rfl, by decide⟩ rfl (bB (pv 2)) (fun _ _ _ _ => aS 0 (by decide) rfl rfl)
     (fun _ _ _ _ => cK (aR cX (ax Fi hr2 (aa (pv 2) (aa (pv 1) (aa (pv 0) ae)))) ak (aT _))) (fun _ _ _ _ => pv 0)) (bC ae) (aT _))
    (am (aM (i := 3) gN.nd rfl (Or.inl rfl) (ax Ff hr (aa (pv 0) (aa (pv 1) ae))))
    (aw (aN (dE (b5 (uZ hr) (pv 3) (pv 2) (by with_unfolding_all rfl)) (eS (b5 cX (ax Fi hr2 (aa (pv 0) (aa (pv 1) (aa (pv 3) ae)))) ak (aT _))))))) be)
   (am (aM (i := 4) gN.nd rfl (Or.inl rfl) (ax Ft hr (aa (pv 0) (aa (pv 1) ae))))
   (am (bj (bP (bA (ax Fa hr2 (aa (pv 0) (aa (pv 1) (aa (pv 4) ae)))))) cP be)
   (am (aM (i := 5) gN.nd rfl (Or.inl rfl) (cj fT rfl B.list fC (aa (pv 4) ae)))
   (am (cD (cY PySem.F.plainAttrs_list PySem.F.slot_list_append PySem.F.type_list_append dN (pv 4) (aa (cq (aa eV ae)) ae)))
   (aw (aN (b5 (mL hr) (ax Ft hr (aa (pv 0) (aa (pv 1) ae))) (pv 5) (aT _)))))))), ?_⟩
  have hrz : rs.length <= 60 := by have := G.rz; simpa using this
  have htn : (tna rs).Nodup := by
   have := eN G.rso
   rw [List.map_map] at this
   exact this
  have hlz : lts.length <= 256 := by
   have e := congrArg List.length eL
   rw [List.length_map] at e
   have h1 := iN ps
   have h2 := fG h8
   omega
  have hLn : ∀ l ∈ aA ps, ∀ y ∈ l, aH y := fun l hl y hy => G.nm y ((kO hl).subset hy)
  have hln : ∀ x ∈ lts, x.2 ∈ aA ps := fun x hx => by rw [<- eL]; exact List.mem_map_of_mem hx
  refine ⟨_, rfl, lo, rfl, ⟨_, SqL.of hlo⟩, iy (xs := aq lts) (fits (by rw [List.length_map]; omega)) (fun i ys σ H1 => ys = aq ((lts.take i).filter fun x => decide (0 < -(spr rs rts x.2))) /\ aj H H1 /\ ∃ x, σ = [x, some (.ref a), some (.ref v)]) ⟨rfl, aj.refl _, _, rfl⟩
   (fun i ys σ H1 _ p => ⟨by rw [p.1, List.length_map]; exact Nat.le_trans (List.length_filter_le _ _) (by rw [List.length_take]; omega), SqL.of (p.2.1 _ _ hlo)⟩) ?_ ?_⟩
  ·rintro i x ys σ H1 hx ⟨rfl, s1, g, rfl⟩
   obtain ⟨y, hy, rfl⟩ := cQ hx
   have hym := List.mem_of_getElem? hy
   have tf := cz (fun x : Addr × List Str => decide (0 < -(spr rs rts x.2))) lts i y hy
   refine ⟨_, rfl, _, rfl, _, rfl, v, a, y.1, pa, ra, ps, rts, y.2, rs, rfl, W.same s1, hrz, s1 _ _ ha, hr6, s1 _ _ (A0 y hym), fun H2 s2 => ⟨_, _, rfl, rfl, _, rfl, ?_⟩⟩
   show if decide ((-(spr rs rts y.2)) > (0 : Int)) = true then _ else _
   have ed : decide ((-(spr rs rts y.2)) > (0 : Int)) = decide (0 < -(spr rs rts y.2)) := rfl
   rw [ed]
   refine bb (fun c => ⟨_, rfl, ?_, s1.trans s2, _, rfl⟩) (fun c => ⟨?_, s1.trans s2, _, rfl⟩)
   ·rw [tf, c]; simp [aq]
   ·rw [tf]; simp only [Bool.not_eq_true] at c; rw [c]; simp
  rintro ys σ H1 ⟨rfl, s1, g, rfl⟩ fa hfa
  rw [take_all lts (by simp)]
  generalize hfw : (lts.filter fun x => decide (0 < -(spr rs rts x.2))) = fw
  have hfm : ∀ x, x ∈ fw ↔ x ∈ lts /\ 0 < -(spr rs rts x.2) := fun x => by rw [<- hfw, List.mem_filter, decide_eq_true_iff]
  have s2 := ar (o := .lst (aq fw)) s1 hfa
  have f2 : upd H1 fa (.lst (aq fw)) fa = some (.lst (aq fw)) := ai
  generalize upd H1 fa (.lst (aq fw)) = H2 at s2 f2 ⊢
  refine ⟨Nat.zero_le _, fun em hem => ?_⟩
  have s3 := ar (o := .lst []) s2 hem
  have f3 : upd H2 em (.lst []) fa = some (.lst (aq fw)) := by rw [ag (av f2 hem)]; exact f2
  have e3 : upd H2 em (.lst []) em = some (.lst []) := ai
  generalize upd H2 em (.lst []) = H3 at s3 f3 e3 ⊢
  have A3 : aO H3 fw := fun x hx => s3 _ _ (A0 x ((hfm x).mp hx).1)
  refine ⟨tlD (fw.map (·.2)), .list [], .lst f3 (gB A3), .lst e3 .nil, shT fun ts hts y hy => ?_, rfl, _, rfl, ?_⟩
  ·obtain ⟨x, hx, rfl⟩ := List.mem_map.mp hts
   exact hLn _ (hln x ((hfm x).mp hx).1) y hy
  rw [rM]
  have W3 := W.same s3
  cases fw with
  | cons x0 fr =>
   have h0 := (hfm x0).mp List.mem_cons_self
   rw [show decide (List.map (fun x : Addr × List Str => x.2) (x0 :: fr) = []) = false from rfl]
   refine bG ⟨_, rfl, _, rfl, v, pa, ra, a, ps, rts, rs, x0.2, rfl, W3, G, h8, s3 _ _ ha, hr6, hin, hln x0 h0.1, by omega, fun H4 s4 l hl hlt u hu => ?_⟩
   have s04 := s3.trans s4
   refine ⟨_, rfl, _, rfl, u, lo, l, lts, rfl, rfl, hu, hLn l hl, SqL.of (s04 _ _ hlo), A0.same s04, fun x hx => hLn _ (hln x hx), ?_⟩
   rw [decide_eq_true (show l ∈ lts.map (·.2) by rw [eL]; exact hl)]
   refine ⟨true, rfl, bG ⟨_, rfl, _, rfl, _, rfl, v, a, u, pa, ra, ps, rts, l, rs, rfl, W.same s04, hrz, s04 _ _ ha, hr6, hu, fun H5 s5 => ⟨_, _, rfl, rfl, ?_⟩⟩⟩
   have hl5 : (-(spr rs rts l)) > (0 : Int) := by omega
   show Q (.bl (decide ((-(spr rs rts l)) > (0 : Int)))) H5
   rw [decide_eq_true hl5]
   exact k H5 (s04.trans s5)
  | nil =>
   have hall : ∀ l ∈ aA ps, 0 <= spr rs rts l := fun l hl => by
    rw [<- eL] at hl
    obtain ⟨x, hx, rfl⟩ := List.mem_map.mp hl
    refine Int.not_lt.mp fun c => ?_
    have := (hfm x).mpr ⟨hx, by omega⟩
    cases this
   rw [show decide (List.map (fun x : Addr × List Str => x.2) ([] : List (Addr × List Str)) = []) = true from rfl]
   refine bc ⟨_, rfl, _, rfl, v, pa, ra, a, ps, rts, rs, rfl, W3, G, h8, s3 _ _ ha, hr6, hin, hall, fun H4 s4 q trs tls cur hq q4 A4 R => ?_⟩
   have s04 := s3.trans s4
   have hq0 : H q = none := s3.free hq
   have htl : tls.length = rts.length := R.l2
   refine ⟨_, rfl, _, rfl, _, rfl, v, pa, ra, a, q, ps, rts, rs, trs, tls, cur, rfl, W.same s04, G, h8, s04 _ _ ha, hr6, hin, q4, A4, R, fun H5 s5 => ⟨true, rfl, bc ?_⟩⟩
   have s05 := s04.trans s5
   have q5 := s5 _ _ q4
   have A5 := A4.same s5
   refine ⟨_, rfl, q, _, rfl, .inl (SqL.of q5), fun kp hkp => ?_⟩
   have s6 := ar (o := .lst (aq tls)) s05 hkp
   have k6 : upd H5 kp (.lst (aq tls)) kp = some (.lst (aq tls)) := ai
   have q6 : upd H5 kp (.lst (aq tls)) q = some (.lst (aq tls)) := by rw [ag (av q5 hkp)]; exact q5
   have A6 : aO (upd H5 kp (.lst (aq tls))) tls := A5.same (ar (aj.refl H5) hkp)
   have nkq : kp ≠ q := fun z => by rw [z, q5] at hkp; cases hkp
   generalize upd H5 kp (.lst (aq tls)) = H6 at s6 k6 q6 A6 ⊢
   refine ⟨_, rfl, .inl ⟨rfl, _, SqL.of q6⟩, by show 1 <= sizeLine; decide, fun zz hzz => ?_⟩
   have s7 := ar (o := .tup [.str (Str.ofString "zz")]) s6 hzz
   have s67 := ar (o := .tup [.str (Str.ofString "zz")]) (aj.refl H6) hzz
   generalize upd H6 zz (.tup [.str (Str.ofString "zz")]) = H7 at s7 s67 ⊢
   refine ⟨q, _, _, rfl, rfl, s67 _ _ q6, fits (by rw [List.length_map]; omega), ?_⟩
   have s8 := dv (o := .lst (aq tls ++ [.ref zz])) s7 hq0
   have k8 : upd H7 q (.lst (aq tls ++ [.ref zz])) kp = some (.lst (aq tls)) := by rw [ag nkq]; exact s67 _ _ k6
   have A8 : aO (upd H7 q (.lst (aq tls ++ [.ref zz]))) tls := fun x hx => by
    have hx7 := s67 _ _ (A6 x hx)
    rw [ag (fun z => by rw [z, s67 _ _ q6] at hx7; cases hx7)]
    exact hx7
   generalize upd H7 q (.lst (aq tls ++ [.ref zz])) = H8 at s8 k8 A8 ⊢
   refine ⟨_, rfl, _, rfl, v, pa, ra, a, ps, rts, rs, rfl, W.same s8, G, h8, s8 _ _ ha, hr6, hin, hall, fun H9 s9 q' trs' tls' cur' hq' q9 A9 R' => ?_⟩
   have ee := R.same R' htn
   have hN := R.nameP G
   have hN' := R'.nameP G
   refine ⟨_, rfl, tlD (tls'.map (·.2)), tlD (tls.map (·.2)), .lst q9 (gB A9), .lst (s9 _ _ k8) (gB (A8.same s9)), shT hN', shT hN, ?_⟩
   rw [<- ee, eq_self _ hN]
   exact k H9 (s8.trans s9)
noncomputable def gy (K : PySem.W.Frag) : Sp := fun vs H Q _ => ∃ (a : Addr) (ns : List Int), vs = [.ref a] /\ SqL K H a (ns.map V.int) /\ ns.length <= 63 /\ ∀ H', Q (.bl true) H'
noncomputable abbrev N53 : List Str := ["_law_script", "_law_k", "_law_pot_here", "_law_web", "_law_places", "_law_begins", "_law_lots_here", "_law_turn"]
theorem dI : aL N53 ["_law_script"] (aB (top 53)) := ⟨rfl, rfl, rfl, by decide +kernel, rfl, by decide +kernel, by decide +kernel⟩
theorem uW {f : Addr} {fd : FuncData} (F : Fun K "law" "law" (top 53) f fd) (B : Bl mg) (Fp : Fn P w K mg base 1 "_law_pot" ["_law_script", "_law_k"] (mX K)) (Fg : Fn P w K mg base 3 "_law_rooted_web" ["_law_pot_here"] lj)
  (Fl : Fn P w K mg base 1 "_law_lots" ["_law_places"] lK) (Fo : Fn P w K mg base 2 "_law_roots" ["_law_pot_here", "_law_places", "_law_begins"] lB) (Fr : Fn P w K mg base 8 "_law_right" ["_law_web", "_law_roots_here", "_law_lots_here"] lT) : aE P w K mg base CX0 9 f fd ["_law_script"] (gy K) := by
 refine F.ok dI (fun vs H Q E h => ?_) (fun cdv A outer s H vs Q E hr h => ?_)
 ·obtain ⟨a, ns, rfl, _⟩ := h
  rfl
 ·obtain ⟨a, sc, rfl, hS, hlen, k⟩ := h
  have hr1 : aI 1 _ := hr.mono (by decide)
  have hr2 : aI 2 _ := hr.mono (by decide)
  have hr3 : aI 3 _ := hr.mono (by decide)
  refine ⟨_, am (bO PassesOwn.never rfl (df rfl B.range (aa (ay (iA rfl) rfl B.max jq (aa ak (aa (ay (ij rfl) rfl B.min jg (aa (ay bo rfl B.len PySem.boot_len (aa (pv 0) ae)) (aa ak ae))) ae))) ae)) (aW (i := 1) dI.nd rfl (Or.inl rfl))
    (am (aM (i := 2) dI.nd rfl (Or.inl rfl) (ax Fp hr1 (aa (pv 0) (aa (pv 1) ae))))
    (am (dC (ax Fg hr3 (aa (pv 2) ae)) (dz rfl (n := 3) (bv (aW (i := 3) dI.nd rfl (Or.inl rfl)) (bv (aW (i := 4) dI.nd rfl (Or.inl rfl)) (bv (aW (i := 5) dI.nd rfl (Or.inl rfl)) cV)))))
    (am (aM (i := 6) dI.nd rfl (Or.inl rfl) (ax Fl hr1 (aa (aG bh (pv 3) ak (fun _ _ => rfl)) ae)))
    (aw (bO PassesOwn.never rfl (df rfl B.range (aa ak ae)) (aW (i := 7) dI.nd rfl (Or.inl rfl))
     (aw (bj (bP (bA (ax Fr hr (aa (pv 3) (aa (ax Fo hr2 (aa (pv 2) (aa (pv 4) (aa (pv 5) ae)))) (aa (pv 6) ae)))))) cP be))))))))
   (aw (aN fc)), ?_⟩
  refine ⟨_, rfl, a, _, rfl, .inl hS, _, _, rfl, _, _, rfl, _, rfl, ?_, ?_, ?_⟩
  ·repeat' split
   all_goals omega
  ·repeat' split
   all_goals omega
  have hn9 : ∀ x : Int, x = (if (if (2 : Int) < ((sc.map V.int).length : Int) then 2 else ((sc.map V.int).length : Int)) > 1 then (if (2 : Int) < ((sc.map V.int).length : Int) then 2 else ((sc.map V.int).length : Int)) else 1) -> x.toNat <= 8 := fun x hx => by
   subst hx
   repeat' split
   all_goals omega
  refine fj (fun i σ H1 => (∃ g1 g2 g3 g4 g5 g6 g7, σ = [some (.ref a), g1, g2, g3, g4, g5, g6, g7]) /\ aj H H1) ⟨⟨_, _, _, _, _, _, _, rfl⟩, aj.refl _⟩ ?_ (fun σ H1 _ => k H1)
  rintro i σ H1 hi ⟨⟨g1, g2, g3, g4, g5, g6, g7, rfl⟩, s1⟩
  have hi8 : i < 8 := Nat.lt_of_lt_of_le hi (hn9 _ rfl)
  refine ⟨_, rfl, _, rfl, a, sc, _, rfl, s1.seq hS, by omega, by omega, fun p H2 s2 p0 P2 => ?_⟩
  refine ⟨_, rfl, p, rfl, P2, fun w0 u pl bg pa ra ns ps bs rs H3 P3 w3 W3 G p8 r40 n3 nin n1 n8 b3 bin b6 K3 => ?_⟩
  have npl := cF P3 n3
  have nbg := cF P3 b3
  refine ⟨w0, _, rfl, SqT.of w3, rfl, _, _, rfl, _, _, rfl, _, _, rfl, rfl, ?_⟩
  refine ⟨_, rfl, aJ (j := 0) (.inr (SqT.of W3.tp)) rfl rfl ⟨pa, ps, rfl, W3.pl, p8, fun lo lts H4 s4 lo4 A4 eL => ?_⟩⟩
  have P4 : Pot H4 p := P3.keep fun o e => s4 _ _ e
  have W4 := W3.same s4
  have n4 := s4 _ _ n3
  have b4 := s4 _ _ b3
  have nlo : lo ≠ p := sv P4 lo4
  have sH4 : aj H1 H4 := fun b o e => s4 b o (K3 b o (s2 b o e) (by simp; exact av e p0))
  refine ⟨2, rfl, by decide, by decide, fj (n := 2) (fun j σ H5 => (∃ g7, σ = [some (.ref a), some (.int (0 + (i : Int))), some (.ref p), some (.ref u), some (.ref pl), some (.ref bg), some (.ref lo), g7]) /\ Pot H5 p /\ Kp [p] H4 H5) ⟨⟨_, rfl⟩, P4, Kp.refl _ _⟩ ?_ ?_⟩
  ·rintro j σ H5 hj ⟨⟨g8, rfl⟩, P5, K5⟩
   refine ⟨_, rfl, _, rfl, _, rfl, _, rfl, p, pl, bg, ns, bs, ps, rfl, P5, K5.at npl n4, nin, n1, n8, K5.at nbg b4, bin, b6, G.nm, fun t rts H6 P6 t6 hin6 r6 K6 => ?_⟩
   have K46 := K5.trans K6
   have W6 : bL H6 u pa ra ps rs := ⟨K46.tup P4 W4.tp, K46.tup P4 W4.pl, K46.tup P4 W4.rl, fun r hr => K46.tup P4 (W4.rows r hr)⟩
   refine ⟨_, rfl, u, pa, ra, t, lo, ps, rts, rs, lts, rfl, W6, G, p8, t6, r6, hin6, K46.at nlo lo4, fun x hx => K46.tup P4 (A4 x hx), eL, fun H7 s7 => ⟨true, rfl, bc ⟨⟨_, rfl⟩, P6.keep fun o e => s7 _ _ e, K46.of_same s7⟩⟩⟩
  ·rintro σ H5 ⟨⟨g8, rfl⟩, P5, K5⟩
   exact ⟨⟨_, _, _, _, _, _, _, rfl⟩, fun b o e => K5 b o (sH4 b o (s1 b o e)) (by simp; exact av (s1 b o e) p0)⟩
end
noncomputable def aP (K : PySem.W.Frag) (x : Str) (st : Stmt) : Prop := ∃ (f : Addr) (oc : Value) (od : Option Addr) (kV doc pm : Value) (an : Option Addr) (cd ct : Value) (sl : Array (Option Value)),
 PySem.W.nsIn K mainGlobals x = some (some (.ref f)) /\ K.lookup f = some ⟨oc, od, .func (PySem.W.fnOf x x (cA st) (bR st) (aB st) .none kV doc pm an cd ct), sl⟩ /\ PySem.W.codeIn K cd x = true /\ PySem.W.keepIn K (.ref f) = true
theorem xg {K : PySem.W.Frag} {x : Str} {st : Stmt} {f : Addr} {oc : Value} {od : Option Addr} {kV doc pm : Value} {an : Option Addr} {cd ct : Value} {sl : Array (Option Value)} (a : PySem.W.nsIn K mainGlobals x = some (some (.ref f)))
  (l : K.lookup f = some ⟨oc, od, .func (PySem.W.fnOf x x (cA st) (bR st) (aB st) .none kV doc pm an cd ct), sl⟩) (c : PySem.W.codeIn K cd x = true) (k : PySem.W.keepIn K (.ref f) = true) : aP K x st :=
 ⟨f, oc, od, kV, doc, pm, an, cd, ct, sl, a, l, c, k⟩
theorem aZ {P : Program} {w : World} {K : PySem.W.Frag} {mg : Str -> Option Value} {base h : Heap} {x : Str} {st : Stmt} {k : Nat} {ps : List Str} {sp : Sp} (D : aP K x st) (X : K.In h) (G : h.Ns mainGlobals mg)
  (hb : ∀ (kV doc pm : Value) (an : Option Addr) (cdv ct : Value) (us : List Value), us.length = ps.length -> bindArgs (PySem.W.fnOf x x (cA st) (bR st) (aB st) .none kV doc pm an cdv ct) ⟨us, []⟩ = pure (ps.zip us))
  (ok : ∀ (f : Addr) (fd : FuncData), Fun K x x st f fd -> aE P w K mg base CX0 k f fd ps sp) : Fn P w K mg base k x ps sp := by
 obtain ⟨f, oc, od, kV, doc, pm, an, cd, ct, sl, a, l, c, kk⟩ := D
 have F := fE (st := st) l c kk
 exact ⟨f, _, PySem.W.mg_of X G a, kk, F.binds hb, ok f _ F⟩
theorem iX {P : Program} {w : World} {K : PySem.W.Frag} {mg : Str -> Option Value} {base h : Heap} {x : Str} {st : Stmt} {k : Nat} {ps : List Str} {sp : Sp} (D : aP K x st) (X : K.In h) (G : h.Ns mainGlobals mg)
  (hb : ∀ (kV doc pm : Value) (an : Option Addr) (cdv ct : Value) (us : List Value), us.length = ps.length -> bindArgs (PySem.W.fnOf x x (cA st) (bR st) (aB st) .none kV doc pm an cdv ct) ⟨us, []⟩ = pure (ps.zip us))
  (ok : ∀ (f : Addr) (fd : FuncData), Fun K x x st f fd -> aE P w K mg base (CXE P w) k f fd ps sp) : FnX P w K mg base k x ps sp := by
 obtain ⟨f, oc, od, kV, doc, pm, an, cd, ct, sl, a, l, c, kk⟩ := D
 have F := fE (st := st) l c kk
 exact ⟨f, _, PySem.W.mg_of X G a, kk, F.binds hb, ok f _ F⟩
theorem tE {P : Program} {w : World} {K : PySem.W.Frag} {mg : Str -> Option Value} {base h : Heap} {x : Str} {st : Stmt} {k : Nat} {ps : List Str} {sp : Sp} (D : aP K x st) (X : K.In h) (G : h.Ns mainGlobals mg)
  (hb : ∀ (kV doc pm : Value) (an : Option Addr) (cdv ct : Value) (us : List Value), us.length = ps.length -> bindArgs (PySem.W.fnOf x x (cA st) (bR st) (aB st) .none kV doc pm an cdv ct) ⟨us, []⟩ = pure (ps.zip us))
  (ok : ∀ (f : Addr) (fd : FuncData), Fun K x x st f fd -> eu P w K mg base CX0 k f fd ps sp) : FnH P w K mg base k x ps sp := by
 obtain ⟨f, oc, od, kV, doc, pm, an, cd, ct, sl, a, l, c, kk⟩ := D
 have F := fE (st := st) l c kk
 exact ⟨f, _, PySem.W.mg_of X G a, kk, F.binds hb, ok f _ F⟩
noncomputable def nj (K : PySem.W.Frag) (x q : Str) (st : Stmt) (C f : Addr) : Prop := ∃ (oc : Value) (od : Option Addr) (kV doc pm : Value) (an : Option Addr) (cd ct : Value) (sl : Array (Option Value)),
 PySem.W.nsIn K mainGlobals x = some (some (.ref C)) /\ fD K dq C f veM "ValueError.__new__" = true /\ K.lookup f = some ⟨oc, od, .func (PySem.W.fnOf "__init__" q (cA st) (bR st) (aB st) .none kV doc pm an cd ct), sl⟩ /\ PySem.W.codeIn K cd q = true /\ PySem.W.keepIn K (.ref f) = true
theorem xc {K : PySem.W.Frag} {x q : Str} {st : Stmt} {C f : Addr} {oc : Value} {od : Option Addr} {kV doc pm : Value} {an : Option Addr} {cd ct : Value} {sl : Array (Option Value)} (a : PySem.W.nsIn K mainGlobals x = some (some (.ref C))) (i : PySem.W.findIn K (.ref C) "__init__" = some (some (.ref f)))
  (l : K.lookup f = some ⟨oc, od, .func (PySem.W.fnOf "__init__" q (cA st) (bR st) (aB st) .none kV doc pm an cd ct), sl⟩) (c : PySem.W.codeIn K cd q = true) (k : PySem.W.keepIn K (.ref f) = true) (e : fD K dq C f veM "ValueError.__new__" = true) : nj K x q st C f :=
 ⟨oc, od, kV, doc, pm, an, cd, ct, sl, a, e, l, c, k⟩
theorem xh {l : PySem.W.OpenLaw} {w : World} {K : PySem.W.Frag} {h : Heap} {mg : Str -> Option Value} {fa : Addr} (X : K.In h) (G : h.Ns mainGlobals mg) (hfa : mg "law" = some (.ref fa)) (B : Bl mg) {R C fI d1a d2a d3a d4a d5a d6a d7a d8a d9a d10a : Addr}
  (cR : PySem.W.nsIn K mainGlobals "RootError" = some (some (.ref R))) (eR : PySem.W.excIn K R veM "ValueError.__new__" = true)
  (tC : nj K "TooFew" "TooFew.__init__" (mth (top 12) 0) C fI)
  (uCR : iP K C R = true)
  (iCC : PySem.W.isIn K (.ref C) C = true)
  (cd1a : PySem.W.nsIn K mainGlobals "NoCosts" = some (some (.ref d1a)))
  (cd2a : PySem.W.nsIn K mainGlobals "NoLot" = some (some (.ref d2a)))
  (cd3a : PySem.W.nsIn K mainGlobals "NoNumber" = some (some (.ref d3a)))
  (cd4a : PySem.W.nsIn K mainGlobals "NoPlace" = some (some (.ref d4a)))
  (cd5a : PySem.W.nsIn K mainGlobals "NoRoots" = some (some (.ref d5a)))
  (cd6a : PySem.W.nsIn K mainGlobals "NoText" = some (some (.ref d6a)))
  (cd7a : PySem.W.nsIn K mainGlobals "NoTie" = some (some (.ref d7a)))
  (cd8a : PySem.W.nsIn K mainGlobals "NoTree" = some (some (.ref d8a)))
  (cd9a : PySem.W.nsIn K mainGlobals "NoWeb" = some (some (.ref d9a)))
  (cd10a : PySem.W.nsIn K mainGlobals "TooMany" = some (some (.ref d10a)))
  (kq1 : PySem.W.kitAny K (.ref C) ([d1a, d2a, d3a, d4a, d5a].map Value.ref) = some false)
  (kq2 : PySem.W.kitAny K (.ref C) ([d6a, d7a, d8a, d9a, d10a].map Value.ref) = some false)
  (zve : PySem.W.nsIn K mainGlobals "ValueError" = some none)
  (kqv : PySem.W.kitOne K (.ref C) (.type "ValueError") = some true)
  (kqe : i7 K C = true)
  (d15 : aP K "is_name" (top 15))
  (d16 : aP K "is_rising" (top 16))
  (d17 : aP K "is_sorted_names" (top 17))
  (d18 : aP K "is_among" (top 18))
  (d19 : aP K "is_tie_row" (top 19))
  (d20 : aP K "is_web" (top 20))
  (d21 : aP K "need_web" (top 21))
  (d22 : aP K "leads_into" (top 22))
  (d25 : aP K "lots_among" (top 25))
  (d26 : aP K "counts_into" (top 26))
  (d27 : aP K "need_of" (top 27))
  (d28 : aP K "spare_into" (top 28))
  (d29 : aP K "next_row" (top 29))
  (d30 : aP K "grown" (top 30))
  (d31 : aP K "need_enough" (top 31))
  (d32 : aP K "trees_from" (top 32))
  (d34 : aP K "need_roots" (top 34))
  (d35 : aP K "shares_from" (top 35))
  (d37 : aP K "_law_pot" (top 37))
  (d38 : aP K "_law_take" (top 38))
  (d39 : aP K "_law_names" (top 39))
  (d40 : aP K "_law_named" (top 40))
  (d41 : aP K "_law_called" (top 41))
  (d42 : aP K "_law_rooted_web" (top 42))
  (d43 : aP K "_law_lots" (top 43))
  (d44 : aP K "_law_into" (top 44))
  (d45 : aP K "_law_is_tree" (top 45))
  (d46 : aP K "_law_lack" (top 46))
  (d47 : aP K "_law_is_other" (top 47))
  (d48 : aP K "_law_too_few" (top 48))
  (d49 : aP K "_law_told" (top 49))
  (d50 : aP K "_law_are_shares" (top 50))
  (d51 : aP K "_law_right" (top 51))
  (d52 : aP K "_law_roots" (top 52))
  (d53 : aP K "law" (top 53)) :
  ∃ fd : FuncData, (∀ (s : Shared) (v : Value), BindsTo s fd ⟨[v], []⟩ [("_law_script", v)]) /\ ∀ base : Heap, K.In base -> base.Ns mainGlobals mg -> aE l.prog w K mg base CX0 9 fa fd ["_law_script"] (gy K) := by
 obtain ⟨f, oc, od, kV, doc, pm, an, cd, ct, sl, a, lk, c, kk⟩ := d53
 have e := hfa.symm.trans (PySem.W.mg_of X G a)
 cases e
 refine ⟨PySem.W.fnOf "law" "law" (cA (top 53)) (bR (top 53)) (aB (top 53)) .none kV doc pm an cd ct, fun s v => .of_eq rfl, fun base KB _ => ?_⟩
 have gR := PySem.W.mg_of X G cR
 have xR := uA KB eR
 obtain ⟨ocI, odI, kVI, docI, pmI, anI, cdI, ctI, slI, a1, a2, a3, a4, a5⟩ := tC
 have gC := PySem.W.mg_of X G a1
 have xC := rQ KB a2
 have FI := fE (st := mth (top 12) 0) a3 a4 a5
 have bI := FI.binds (ps := ["self", "lot"]) (fun _ _ _ _ _ _ us hl => match us, hl with | [_, _], _ => rfl)
 have nI := ux (P := l.prog) (w := w) (mg := mg) FI xC
 have vCR := qW KB uCR
 have gd1a := PySem.W.mg_of X G cd1a
 have gd2a := PySem.W.mg_of X G cd2a
 have gd3a := PySem.W.mg_of X G cd3a
 have gd4a := PySem.W.mg_of X G cd4a
 have gd5a := PySem.W.mg_of X G cd5a
 have gd6a := PySem.W.mg_of X G cd6a
 have gd7a := PySem.W.mg_of X G cd7a
 have gd8a := PySem.W.mg_of X G cd8a
 have gd9a := PySem.W.mg_of X G cd9a
 have gd10a := PySem.W.mg_of X G cd10a
 have O : Oth K mg C d1a d2a d3a d4a d5a d6a d7a d8a d9a d10a := ⟨gd1a, gd2a, gd3a, gd4a, gd5a, gd6a, gd7a, gd8a, gd9a, gd10a, kq1, kq2, PySem.W.mg_none_of X G zve, kqv, tQ kqe⟩
 have n15 := aZ (P := l.prog) (w := w) (base := base) d15 X G (ps := ["thing"]) (fun _ _ _ _ _ _ us hl => match us, hl with | [_], _ => rfl) fun f fd F => ph F B
 have n16 := aZ (P := l.prog) (w := w) (base := base) d16 X G (ps := ["names"]) (fun _ _ _ _ _ _ us hl => match us, hl with | [_], _ => rfl) fun f fd F => oO F B
 have n17 := aZ (P := l.prog) (w := w) (base := base) d17 X G (ps := ["thing"]) (fun _ _ _ _ _ _ us hl => match us, hl with | [_], _ => rfl) fun f fd F => oQ F B n15 n16
 have n18 := aZ (P := l.prog) (w := w) (base := base) d18 X G (ps := ["thing", "names"]) (fun _ _ _ _ _ _ us hl => match us, hl with | [_, _], _ => rfl) fun f fd F => pd F B
 have n19 := aZ (P := l.prog) (w := w) (base := base) d19 X G (ps := ["thing", "places"]) (fun _ _ _ _ _ _ us hl => match us, hl with | [_, _], _ => rfl) fun f fd F => oy F B n15 n18
 have n20 := aZ (P := l.prog) (w := w) (base := base) d20 X G (ps := ["thing"]) (fun _ _ _ _ _ _ us hl => match us, hl with | [_], _ => rfl) fun f fd F => qc F B n17 n19 n16
 have n21 := aZ (P := l.prog) (w := w) (base := base) d21 X G (ps := ["thing"]) (fun _ _ _ _ _ _ us hl => match us, hl with | [_], _ => rfl) fun f fd F => o7 F n20
 have n22 := aZ (P := l.prog) (w := w) (base := base) d22 X G (ps := ["row", "lot"]) (fun _ _ _ _ _ _ us hl => match us, hl with | [_, _], _ => rfl) fun f fd F => oE F
 have n25 := aZ (P := l.prog) (w := w) (base := base) d25 X G (ps := ["places"]) (fun _ _ _ _ _ _ us hl => match us, hl with | [_], _ => rfl) fun f fd F => oq F B
 have n26 := aZ (P := l.prog) (w := w) (base := base) d26 X G (ps := ["rows", "lots"]) (fun _ _ _ _ _ _ us hl => match us, hl with | [_, _], _ => rfl) fun f fd F => qC F n22
 have n27 := aZ (P := l.prog) (w := w) (base := base) d27 X G (ps := ["roots", "lot"]) (fun _ _ _ _ _ _ us hl => match us, hl with | [_, _], _ => rfl) fun f fd F => pB F B
 have n28 := aZ (P := l.prog) (w := w) (base := base) d28 X G (ps := ["rows", "lots", "roots"]) (fun _ _ _ _ _ _ us hl => match us, hl with | [_, _, _], _ => rfl) fun f fd F => sy F n26 n27
 have n29 := aZ (P := l.prog) (w := w) (base := base) d29 X G (ps := ["rows", "found", "spare"]) (fun _ _ _ _ _ _ us hl => match us, hl with | [_, _, _], _ => rfl) fun f fd F => sO F B n22
 have n30 := aZ (P := l.prog) (w := w) (base := base) d30 X G (ps := ["places", "rows", "root", "later"]) (fun _ _ _ _ _ _ us hl => match us, hl with | [_, _, _, _], _ => rfl) fun f fd F => qR F B n28 n25 n29
 have n31 := iX (P := l.prog) (w := w) (base := base) d31 X G (ps := ["web", "roots"]) (fun _ _ _ _ _ _ us hl => match us, hl with | [_, _], _ => rfl) fun f fd F => qx F gC xC nI bI n28 n25
 have n32 := iX (P := l.prog) (w := w) (base := base) d32 X G (ps := ["web", "roots"]) (fun _ _ _ _ _ _ us hl => match us, hl with | [_, _], _ => rfl) fun f fd F => sh F B n31 n30
 have n34 := aZ (P := l.prog) (w := w) (base := base) d34 X G (ps := ["web", "thing"]) (fun _ _ _ _ _ _ us hl => match us, hl with | [_, _], _ => rfl) fun f fd F => ou F B n18
 have n35 := iX (P := l.prog) (w := w) (base := base) d35 X G (ps := ["web", "roots"]) (fun _ _ _ _ _ _ us hl => match us, hl with | [_, _], _ => rfl) fun f fd F => pN F B n21 n34 n32
 have n37 := aZ (P := l.prog) (w := w) (base := base) d37 X G (ps := ["_law_script", "_law_k"]) (fun _ _ _ _ _ _ us hl => match us, hl with | [_, _], _ => rfl) fun f fd F => uU F B
 have n38 := aZ (P := l.prog) (w := w) (base := base) d38 X G (ps := ["_law_pot_here", "_law_many"]) (fun _ _ _ _ _ _ us hl => match us, hl with | [_, _], _ => rfl) fun f fd F => sJ F B
 have n39 := aZ (P := l.prog) (w := w) (base := base) d39 X G (ps := ["_law_pot_here", "_law_many"]) (fun _ _ _ _ _ _ us hl => match us, hl with | [_, _], _ => rfl) fun f fd F => rY F B n38
 have n40 := aZ (P := l.prog) (w := w) (base := base) d40 X G (ps := ["_law_pot_here", "_law_names_here"]) (fun _ _ _ _ _ _ us hl => match us, hl with | [_, _], _ => rfl) fun f fd F => sk F B n38
 have n41 := aZ (P := l.prog) (w := w) (base := base) d41 X G (ps := ["_law_pot_here", "_law_ties", "_law_places"]) (fun _ _ _ _ _ _ us hl => match us, hl with | [_, _, _], _ => rfl) fun f fd F => qA F B n38
 have n42 := aZ (P := l.prog) (w := w) (base := base) d42 X G (ps := ["_law_pot_here"]) (fun _ _ _ _ _ _ us hl => match us, hl with | [_], _ => rfl) fun f fd F => qO F B n38 n39 n40 n41
 have n43 := aZ (P := l.prog) (w := w) (base := base) d43 X G (ps := ["_law_places"]) (fun _ _ _ _ _ _ us hl => match us, hl with | [_], _ => rfl) fun f fd F => rF F B
 have n44 := aZ (P := l.prog) (w := w) (base := base) d44 X G (ps := ["_law_web", "_law_lot"]) (fun _ _ _ _ _ _ us hl => match us, hl with | [_, _], _ => rfl) fun f fd F => sN F B
 have n45 := aZ (P := l.prog) (w := w) (base := base) d45 X G (ps := ["_law_web", "_law_root", "_law_thing"]) (fun _ _ _ _ _ _ us hl => match us, hl with | [_, _, _], _ => rfl) fun f fd F => pF F B
 have n46 := aZ (P := l.prog) (w := w) (base := base) d46 X G (ps := ["_law_web", "_law_roots_here", "_law_lot"]) (fun _ _ _ _ _ _ us hl => match us, hl with | [_, _, _], _ => rfl) fun f fd F => sH F B n44
 have n47 := tE (P := l.prog) (w := w) (base := base) d47 X G (ps := ["_law_e"]) (fun _ _ _ _ _ _ us hl => match us, hl with | [_], _ => rfl) fun f fd F => sA F B O
 have n48 := aZ (P := l.prog) (w := w) (base := base) d48 X G (ps := ["_law_web", "_law_roots_here"]) (fun _ _ _ _ _ _ us hl => match us, hl with | [_, _], _ => rfl) fun f fd F => uS F B gC xC gR xR vCR iCC O n35 n47
 have n49 := aZ (P := l.prog) (w := w) (base := base) d49 X G (ps := ["_law_web", "_law_roots_here"]) (fun _ _ _ _ _ _ us hl => match us, hl with | [_, _], _ => rfl) fun f fd F => uc F gR xR n35
 have n50 := aZ (P := l.prog) (w := w) (base := base) d50 X G (ps := ["_law_web", "_law_roots_here", "_law_told_here"]) (fun _ _ _ _ _ _ us hl => match us, hl with | [_, _, _], _ => rfl) fun f fd F => vi F B n45
 have n51 := aZ (P := l.prog) (w := w) (base := base) d51 X G (ps := ["_law_web", "_law_roots_here", "_law_lots_here"]) (fun _ _ _ _ _ _ us hl => match us, hl with | [_, _, _], _ => rfl) fun f fd F => rJ F B n46 n48 n49 n50
 have n52 := aZ (P := l.prog) (w := w) (base := base) d52 X G (ps := ["_law_pot_here", "_law_places", "_law_begins"]) (fun _ _ _ _ _ _ us hl => match us, hl with | [_, _, _], _ => rfl) fun f fd F => rj F B n38
 exact uW (fE (st := top 53) lk c kk) B n37 n42 n43 n52 n51
theorem xi {K : PySem.W.Frag} {h : Heap} {mg : Str -> Option Value} (X : K.In h) (G : h.Ns mainGlobals mg) {t_most : Tok} {t_lng : Tok}
  (z_len : PySem.W.nsIn K mainGlobals "len" = some none)
  (z_isinstance : PySem.W.nsIn K mainGlobals "isinstance" = some none)
  (z_all : PySem.W.nsIn K mainGlobals "all" = some none)
  (z_range : PySem.W.nsIn K mainGlobals "range" = some none)
  (z_sorted : PySem.W.nsIn K mainGlobals "sorted" = some none)
  (z_repr : PySem.W.nsIn K mainGlobals "repr" = some none)
  (z_max : PySem.W.nsIn K mainGlobals "max" = some none)
  (z_min : PySem.W.nsIn K mainGlobals "min" = some none)
  (z_str : PySem.W.nsIn K mainGlobals "str" = some none)
  (z_tuple : PySem.W.nsIn K mainGlobals "tuple" = some none)
  (z_list : PySem.W.nsIn K mainGlobals "list" = some none)
  (z_int : PySem.W.nsIn K mainGlobals "int" = some none)
  (z_bool : PySem.W.nsIn K mainGlobals "bool" = some none)
  (z_zip : PySem.W.nsIn K mainGlobals "zip" = some none)
  (z_divmod : PySem.W.nsIn K mainGlobals "divmod" = some none)
  (z_abs : PySem.W.nsIn K mainGlobals "abs" = some none)
  (z_set : PySem.W.nsIn K mainGlobals "set" = some none)
  (z_enumerate : PySem.W.nsIn K mainGlobals "enumerate" = some none)
  (z_most : PySem.W.nsIn K mainGlobals "MOST_TREES" = some (some (.int 6 t_most)))
  (z_lng : PySem.W.nsIn K mainGlobals "LONGEST_NAME" = some (some (.int 8 t_lng)))
  : Bl mg :=
 ⟨PySem.W.mg_none_of X G z_len, PySem.W.mg_none_of X G z_isinstance, PySem.W.mg_none_of X G z_all, PySem.W.mg_none_of X G z_range, PySem.W.mg_none_of X G z_sorted, PySem.W.mg_none_of X G z_repr, PySem.W.mg_none_of X G z_max, PySem.W.mg_none_of X G z_min, PySem.W.mg_none_of X G z_str, PySem.W.mg_none_of X G z_tuple, PySem.W.mg_none_of X G z_list, PySem.W.mg_none_of X G z_int, PySem.W.mg_none_of X G z_bool, PySem.W.mg_none_of X G z_zip, PySem.W.mg_none_of X G z_divmod, PySem.W.mg_none_of X G z_abs, PySem.W.mg_none_of X G z_set, PySem.W.mg_none_of X G z_enumerate, ⟨t_most, PySem.W.mg_of X G z_most⟩, ⟨t_lng, PySem.W.mg_of X G z_lng⟩⟩
theorem walk {l : PySem.W.OpenLaw} {q : Program} {loose : List Str} {XP : (Str -> Option Value) -> Heap -> Prop} {YP : World -> Heap -> Prop} {d : DefRec} {K : Params -> PySem.W.Frag} (hn : l.most = some 63) (hdf : d.params.defaults = [])
  (hY : ∀ (w : World) (h : Heap), YP w h -> (K w.params).In h)
  (F : ∀ (w : World) (mg : Str -> Option Value) (fa : Addr) (h : Heap), (K w.params).In h -> h.Ns mainGlobals mg -> mg d.name = some (.ref fa) ->
   ∃ fd : FuncData, (∀ (s : Shared) (u : Value), BindsTo s fd ⟨[u], []⟩ [("_law_script", u)]) /\ ∀ base : Heap, (K w.params).In base -> base.Ns mainGlobals mg -> aE l.prog w (K w.params) mg base CX0 9 fa fd ["_law_script"] (gy (K w.params))) :
  PySem.W.WalkO q loose XP YP l.row.toRowW d [] (fun f vs => PySem.call f vs) :=
 L2.xa (n := 63) (k := 9) (x := "_law_script") (CX := fun _ => CX0) (sp := fun w => gy (K w.params)) hn (by decide) hdf ⟨rfl, by decide, by decide, rfl⟩ hY F (fun _ _ a ns hl _ hS => ⟨a, ns, rfl, hS, hl, fun _ => rfl⟩) fun _ _ _ _ _ z => z
end K42
theorem PySem.W.Fast.tw2547765730269771926 : True := trivial
theorem PySem.W.Fast.tw10747638110745002764 : True := trivial
theorem PySem.W.Fast.tw12697589052536528519 : True := trivial
theorem PySem.W.Fast.tw5468012577710406385 : True := trivial
theorem PySem.W.Fast.tw5873879210528057309 : True := trivial
theorem PySem.W.Fast.tw5823582854825990776 : True := trivial
theorem PySem.W.Fast.tw4112724849288681454 : True := trivial
theorem PySem.W.Fast.tw15364129628511519542 : True := trivial
theorem PySem.W.Fast.tw14713186916200587122 : True := trivial
theorem PySem.W.Fast.tw17741064934285466370 : True := trivial
theorem PySem.W.Fast.tw8669504186775407356 : True := trivial
theorem PySem.W.Fast.tw13107145665726583270 : True := trivial
theorem PySem.W.Fast.tw14713352974814695407 : True := trivial
theorem PySem.W.Fast.tw6260644973331759611 : True := trivial
theorem PySem.W.Fast.tw9815036896614102198 : True := trivial
theorem PySem.W.Fast.tw16291266327386732315 : True := trivial
theorem PySem.W.Fast.tw2282143405460713395 : True := trivial
theorem PySem.W.Fast.tw10208039892227472397 : True := trivial
theorem PySem.W.Fast.tw9987867570938634050 : True := trivial
theorem PySem.W.Fast.tw9350194916367513830 : True := trivial
open PySem PySem.W PyProof.Rows
set_option maxRecDepth 100000 in
set_option maxHeartbeats 0 in
theorem PySem.Challenge.cw_rootshares_k42_whole_shares_from_roots_holds : PySem.Challenge.rw_rootshares_k42_whole_shares_from_roots.Holds := by
 w_on; o_law; k_head; (case hw => w_witness2)
 k_fill
 refine K42.walk (l := PySem.Challenge.rw_rootshares_k42_whole_shares_from_roots) rfl rfl (fun w h Y => PySem.W.kIn_of Y) ?F
 case F =>
  intro w mg fa h KX G hmg
  have B : K42.Bl mg := by
   refine' K42.xi KX G ?len ?isinstance ?all ?range ?sorted ?repr ?max ?min ?str ?tuple ?list ?int ?bool ?zip ?divmod ?abs ?set ?enumerate ?most ?lng
   (case len => k_is)
   (case isinstance => k_is)
   (case all => k_is)
   (case range => k_is)
   (case sorted => k_is)
   (case repr => k_is)
   (case max => k_is)
   (case min => k_is)
   (case str => k_is)
   (case tuple => k_is)
   (case list => k_is)
   (case int => k_is)
   (case bool => k_is)
   (case zip => k_is)
   (case divmod => k_is)
   (case abs => k_is)
   (case set => k_is)
   (case enumerate => k_is)
   (case most => k_is)
   (case lng => k_is)
  refine' K42.xh KX G hmg B ?cR ?eR ?tC ?uCR ?iCC ?cd1a ?cd2a ?cd3a ?cd4a ?cd5a ?cd6a ?cd7a ?cd8a ?cd9a ?cd10a ?kq1 ?kq2 ?zve ?kqv ?kqe ?d15 ?d16 ?d17 ?d18 ?d19 ?d20 ?d21 ?d22 ?d25 ?d26 ?d27 ?d28 ?d29 ?d30 ?d31 ?d32 ?d34 ?d35 ?d37 ?d38 ?d39 ?d40 ?d41 ?d42 ?d43 ?d44 ?d45 ?d46 ?d47 ?d48 ?d49 ?d50 ?d51 ?d52 ?d53
  (case cR => k_is)
  (case tC => (refine' K42.xc ?a ?i ?l ?c ?k ?e; (case a => k_is); (case i => k_is); (case l => k_is); (case c => k_is); (case k => k_is); (case e => kernel_rfl)))
  (case eR => kernel_rfl)
  (case uCR => kernel_rfl)
  (case iCC => k_is)
  (case cd1a => k_is)
  (case cd2a => k_is)
  (case cd3a => k_is)
  (case cd4a => k_is)
  (case cd5a => k_is)
  (case cd6a => k_is)
  (case cd7a => k_is)
  (case cd8a => k_is)
  (case cd9a => k_is)
  (case cd10a => k_is)
  (case kq1 => kernel_rfl)
  (case kq2 => kernel_rfl)
  (case zve => k_is)
  (case kqv => kernel_rfl)
  (case kqe => kernel_rfl)
  (case d15 => (refine' K42.xg ?a ?l ?c ?k; (case a => k_is); (case l => k_is); (case c => k_is); (case k => k_is)))
  (case d16 => (refine' K42.xg ?a ?l ?c ?k; (case a => k_is); (case l => k_is); (case c => k_is); (case k => k_is)))
  (case d17 => (refine' K42.xg ?a ?l ?c ?k; (case a => k_is); (case l => k_is); (case c => k_is); (case k => k_is)))
  (case d18 => (refine' K42.xg ?a ?l ?c ?k; (case a => k_is); (case l => k_is); (case c => k_is); (case k => k_is)))
  (case d19 => (refine' K42.xg ?a ?l ?c ?k; (case a => k_is); (case l => k_is); (case c => k_is); (case k => k_is)))
  (case d20 => (refine' K42.xg ?a ?l ?c ?k; (case a => k_is); (case l => k_is); (case c => k_is); (case k => k_is)))
  (case d21 => (refine' K42.xg ?a ?l ?c ?k; (case a => k_is); (case l => k_is); (case c => k_is); (case k => k_is)))
  (case d22 => (refine' K42.xg ?a ?l ?c ?k; (case a => k_is); (case l => k_is); (case c => k_is); (case k => k_is)))
  (case d25 => (refine' K42.xg ?a ?l ?c ?k; (case a => k_is); (case l => k_is); (case c => k_is); (case k => k_is)))
  (case d26 => (refine' K42.xg ?a ?l ?c ?k; (case a => k_is); (case l => k_is); (case c => k_is); (case k => k_is)))
  (case d27 => (refine' K42.xg ?a ?l ?c ?k; (case a => k_is); (case l => k_is); (case c => k_is); (case k => k_is)))
  (case d28 => (refine' K42.xg ?a ?l ?c ?k; (case a => k_is); (case l => k_is); (case c => k_is); (case k => k_is)))
  (case d29 => (refine' K42.xg ?a ?l ?c ?k; (case a => k_is); (case l => k_is); (case c => k_is); (case k => k_is)))
  (case d30 => (refine' K42.xg ?a ?l ?c ?k; (case a => k_is); (case l => k_is); (case c => k_is); (case k => k_is)))
  (case d31 => (refine' K42.xg ?a ?l ?c ?k; (case a => k_is); (case l => k_is); (case c => k_is); (case k => k_is)))
  (case d32 => (refine' K42.xg ?a ?l ?c ?k; (case a => k_is); (case l => k_is); (case c => k_is); (case k => k_is)))
  (case d34 => (refine' K42.xg ?a ?l ?c ?k; (case a => k_is); (case l => k_is); (case c => k_is); (case k => k_is)))
  (case d35 => (refine' K42.xg ?a ?l ?c ?k; (case a => k_is); (case l => k_is); (case c => k_is); (case k => k_is)))
  (case d37 => (refine' K42.xg ?a ?l ?c ?k; (case a => k_is); (case l => k_is); (case c => k_is); (case k => k_is)))
  (case d38 => (refine' K42.xg ?a ?l ?c ?k; (case a => k_is); (case l => k_is); (case c => k_is); (case k => k_is)))
  (case d39 => (refine' K42.xg ?a ?l ?c ?k; (case a => k_is); (case l => k_is); (case c => k_is); (case k => k_is)))
  (case d40 => (refine' K42.xg ?a ?l ?c ?k; (case a => k_is); (case l => k_is); (case c => k_is); (case k => k_is)))
  (case d41 => (refine' K42.xg ?a ?l ?c ?k; (case a => k_is); (case l => k_is); (case c => k_is); (case k => k_is)))
  (case d42 => (refine' K42.xg ?a ?l ?c ?k; (case a => k_is); (case l => k_is); (case c => k_is); (case k => k_is)))
  (case d43 => (refine' K42.xg ?a ?l ?c ?k; (case a => k_is); (case l => k_is); (case c => k_is); (case k => k_is)))
  (case d44 => (refine' K42.xg ?a ?l ?c ?k; (case a => k_is); (case l => k_is); (case c => k_is); (case k => k_is)))
  (case d45 => (refine' K42.xg ?a ?l ?c ?k; (case a => k_is); (case l => k_is); (case c => k_is); (case k => k_is)))
  (case d46 => (refine' K42.xg ?a ?l ?c ?k; (case a => k_is); (case l => k_is); (case c => k_is); (case k => k_is)))
  (case d47 => (refine' K42.xg ?a ?l ?c ?k; (case a => k_is); (case l => k_is); (case c => k_is); (case k => k_is)))
  (case d48 => (refine' K42.xg ?a ?l ?c ?k; (case a => k_is); (case l => k_is); (case c => k_is); (case k => k_is)))
  (case d49 => (refine' K42.xg ?a ?l ?c ?k; (case a => k_is); (case l => k_is); (case c => k_is); (case k => k_is)))
  (case d50 => (refine' K42.xg ?a ?l ?c ?k; (case a => k_is); (case l => k_is); (case c => k_is); (case k => k_is)))
  (case d51 => (refine' K42.xg ?a ?l ?c ?k; (case a => k_is); (case l => k_is); (case c => k_is); (case k => k_is)))
  (case d52 => (refine' K42.xg ?a ?l ?c ?k; (case a => k_is); (case l => k_is); (case c => k_is); (case k => k_is)))
  (case d53 => (refine' K42.xg ?a ?l ?c ?k; (case a => k_is); (case l => k_is); (case c => k_is); (case k => k_is)))
