import PyProof.Rows.All
import Wide.All
import OpenK.AllK
import Wide.FinOn
import Lean
import PyProof.EqAt
import PyProof.EqKinds
import PyProof.TupleCall
import KE.KSortTup
import KE.KDictSum
import KE.KDictOf
import PyProof.AttrMissHeap
import PyProof.WalksEnum
import PyProof.EnumMake
import PyProof.Draws
import PyProof.Rows.SetFrom
import KE.KTryOn
import KE.KTryDeep
import PySem.Challenge.RW_rootshares_k32_whole_shares_or_a_lot
set_option Elab.async false
set_option linter.all false
set_option maxRecDepth 100000
namespace L2
open PySem PySem.Spec PyProof.Rows
noncomputable abbrev Key := Sum Int Str
noncomputable def qky : Key -> Value -> Bool
 | .inl k, v => Value.isInt k v
 | .inr x, v => Value.isStrOf x v
noncomputable def qxo (w : World) : Key -> Int
 | .inl k => hashInt k
 | .inr x => hashStr w x
theorem qbj : ∀ {k : Key} {v : Value}, qky k v = true -> (∃ i t, k = Sum.inl i /\ v = Value.int i t) \/ (∃ x t, k = Sum.inr x /\ v = Value.str x t)
 | .inl i, v, h => by
  obtain ⟨t, e⟩ := Value.isInt_shape (k := i) (v := v) h
  exact .inl ⟨i, t, rfl, e⟩
 | .inr x, v, h => by
  obtain ⟨t, e⟩ := Value.isStrOf_shape (x := x) (v := v) h
  exact .inr ⟨x, t, rfl, e⟩
theorem qm8 (i : Int) (t : Tok) : qky (.inl i) (.int i t) = true := by simp [qky, Value.isInt]
theorem qmf (x : Str) (t : Tok) : qky (.inr x) (.str x t) = true := by simp [qky, Value.isStrOf]
theorem quk (a b : Int) : decide ((Sum.inl a : Key) = Sum.inl b) = (a == b) := by
 by_cases e : a = b
 ·subst e; simp
 ·have h : ¬ (Sum.inl a : Key) = Sum.inl b := fun q => e (Sum.inl.inj q)
  rw [decide_eq_false h]
  exact (beq_eq_false_iff_ne.mpr e).symm
theorem qu9 (a b : Str) : decide ((Sum.inr a : Key) = Sum.inr b) = decide (a = b) := by
 by_cases e : a = b
 ·subst e; simp
 ·have h : ¬ (Sum.inr a : Key) = Sum.inr b := fun q => e (Sum.inr.inj q)
  rw [decide_eq_false h, decide_eq_false e]
theorem qtn (a : Int) (b : Str) : decide ((Sum.inl a : Key) = Sum.inr b) = false := decide_eq_false (fun q => nomatch q)
theorem qtg (a : Str) (b : Int) : decide ((Sum.inr a : Key) = Sum.inl b) = false := decide_eq_false (fun q => nomatch q)
noncomputable def qby (prog : Program) (w : World) : PySem.KeyKind prog w Key where
 is := qky
 hash := qxo w
 inj := fun v a b ha hb => by
  rcases qbj ha with ⟨i, t, rfl, rfl⟩ | ⟨x, t, rfl, rfl⟩
  ·rcases qbj hb with ⟨j, u, rfl, e⟩ | ⟨y, u, rfl, e⟩
   ·injection e with e1 _; rw [e1]
   ·exact nomatch e
  ·rcases qbj hb with ⟨j, u, rfl, e⟩ | ⟨y, u, rfl, e⟩
   ·exact nomatch e
   ·injection e with e1 _; rw [e1]
 byValue := fun k v h => by
  rcases qbj h with ⟨i, t, rfl, rfl⟩ | ⟨x, t, rfl, rfl⟩ <;> rfl
 pyHash := fun hv h => by
  rcases qbj hv with ⟨i, t, rfl, rfl⟩ | ⟨x, t, rfl, rfl⟩
  ·exact wpAny_pyHash_int h
  ·exact wpAny_pyHash_str h
 eqBool := fun hu hv h => by
  rcases qbj hu with ⟨i, t, rfl, rfl⟩ | ⟨x, t, rfl, rfl⟩
  ·rcases qbj hv with ⟨j, u, rfl, rfl⟩ | ⟨y, u, rfl, rfl⟩
   ·rw [quk] at h; exact wpAny_eqBool_int h
   ·rw [qtn] at h; exact SeqAt.EqAt.int_str i t y u _ _ _ _ h
  ·rcases qbj hv with ⟨j, u, rfl, rfl⟩ | ⟨y, u, rfl, rfl⟩
   ·rw [qtg] at h; exact SeqAt.EqAt.str_int x t j u _ _ _ _ h
   ·rw [qu9] at h; exact wpAny_eqBool_str h
 «strs» := fun k x t v h => by
  rcases qbj h with ⟨i, u, rfl, e⟩ | ⟨y, u, rfl, e⟩
  ·exact nomatch e
  ·injection e with e1 _
   subst e1
   cases v <;> rfl
theorem qi8 (prog : Program) (w : World) (i : Int) (t : Tok) : (qby prog w).is (.inl i) (.int i t) = true := qm8 i t
theorem qir (prog : Program) (w : World) (x : Str) (t : Tok) : (qby prog w).is (.inr x) (.str x t) = true := qmf x t
inductive V where
 | non | bl (b : Bool) | int (i : Int) | str (x : Str) | byt (b : Array UInt8) | flt (b : UInt64) | ref (a : Addr) | ty (n : String)
 deriving DecidableEq
noncomputable def RelV : V -> Value -> Prop
 | .non, u => u = Value.none
 | .bl b, u => u = Value.bool b
 | .int i, u => ∃ t, u = Value.int i t
 | .str x, u => ∃ t, u = Value.str x t
 | .byt b, u => ∃ t, u = Value.bytes b t
 | .flt b, u => ∃ t, u = Value.float b t
 | .ref a, u => u = Value.ref a
 | .ty n, u => u = Value.type n
noncomputable abbrev qba : List V -> List Value -> Prop := Paired RelV
theorem qba.length {xs : List V} {us : List Value} (r : qba xs us) : xs.length = us.length := Paired.length r
theorem qba.get : ∀ {xs : List V} {us : List Value} {i : Nat} {x : V}, qba xs us -> xs[i]? = some x -> ∃ u, us[i]? = some u /\ RelV x u
 | _, _, _, _, .nil, e => by simp at e
 | _, _, 0, _, .cons r _, e => by simp at e; subst e; exact ⟨_, rfl, r⟩
 | _, _, i + 1, x, .cons _ t, e => by
  obtain ⟨u, h1, h2⟩ := qba.get (i := i) (x := x) t (by simpa using e)
  exact ⟨u, by simpa using h1, h2⟩
theorem qba.set {x : V} {u : Value} (r : RelV x u) : ∀ {xs : List V} {us : List Value} (i : Nat), qba xs us -> qba (xs.set i x) (us.set i u)
 | _, _, _, .nil => .nil
 | _, _, 0, .cons _ t => .cons r t
 | _, _, i + 1, .cons q t => .cons q (qba.set r i t)
theorem qba.append : ∀ {xs ys : List V} {us ws : List Value}, qba xs us -> qba ys ws -> qba (xs ++ ys) (us ++ ws)
 | _, _, _, _, .nil, s => s
 | _, _, _, _, .cons r t, s => .cons r (qba.append t s)
theorem qba.take : ∀ {xs : List V} {us : List Value} (n : Nat), qba xs us -> qba (xs.take n) (us.take n)
 | _, _, 0, _ => .nil
 | _, _, _ + 1, .nil => .nil
 | _, _, n + 1, .cons r t => .cons r (qba.take n t)
theorem qba.drop : ∀ {xs : List V} {us : List Value} (n : Nat), qba xs us -> qba (xs.drop n) (us.drop n)
 | _, _, 0, r => r
 | _, _, _ + 1, .nil => .nil
 | _, _, n + 1, .cons _ t => qba.drop n t
noncomputable def qlm : Option V -> Option Value -> Prop
 | some v, some u => RelV v u
 | none, none => True
 | _, _ => False
noncomputable def KV {κ : Type} : List (κ × V) -> List (κ × Value) -> Prop := Paired fun (p : κ × V) (q : κ × Value) => p.1 = q.1 /\ RelV p.2 q.2
noncomputable def kV : Key -> V
 | .inl i => .int i
 | .inr x => .str x
inductive HO where
  | lst (xs : List V)
  | tup (xs : List V)
  | dK (kvs : List (Key × V)) | dT (kvs : List (List Key × V))
  | set (S : Int -> Bool) (n : Nat)
  | ins (C dx : Addr) (fs : List (Str × V))
  | own (x : Addr)
  | xd (fs : List (Str × V))
  | met (f x : Addr)
  | rng (lo hi : Int)
  | frz (o : Obj) (u : HO)
  | tbl (ps : Array Value)
  | ext (φ : Heap -> Prop)
noncomputable abbrev Hp := Addr -> Option HO
noncomputable def upd (H : Hp) (a : Addr) (o : HO) : Hp := fun b => if b = a then some o else H b
theorem qab {H : Hp} {a : Addr} {o : HO} : upd H a o a = some o := by unfold upd; rw [if_pos rfl]
theorem qag {H : Hp} {a b : Addr} {o : HO} (h : b ≠ a) : upd H a o b = H b := by unfold upd; rw [if_neg h]
theorem qs7 {H : Hp} {a b : Addr} {o u : HO} (h : H a = some o) (h' : H b = some u) (d : o ≠ u) : a ≠ b := by
 intro e; subst e; rw [h] at h'; exact d (Option.some.inj h')
theorem qaf {H : Hp} {a b : Addr} {o : HO} (h : H a = some o) (h' : H b = none) : a ≠ b := by
 intro e; subst e; rw [h] at h'; cases h'
section
variable (P : Program) (w : World)
noncomputable def qa1 (H : Hp) (h : Heap) (a : Addr) : HO -> Prop
 | .lst xs => xs.length <= sizeLine /\ ∃ (its : List Value) (n : Nat), qba xs its /\ h.get? a = some { cls := .type "list", data := .seq its.toArray n }
 | .tup xs => xs.length <= sizeLine /\ ∃ its : List Value, qba xs its /\ IsTup h a its.toArray
 | .dK kvs => kvs.length <= sizeLine /\ (a == sysModules) = false /\ ∃ vs, KV kvs vs /\ h.DictOf (qby P w) a vs
 | .dT kvs => kvs.length <= sizeLine /\ (a == sysModules) = false /\ ∃ xs : List (List Key × Addr × Value),
   Paired (fun (p : List Key × V) (q : List Key × Addr × Value) => p.1 = q.1 /\ H q.2.1 = some (.tup (p.1.map kV)) /\ RelV p.2 q.2.2) kvs xs /\
   ∃ o es ep, h.get? a = some o /\ o.ExactDict /\ o.data = .dict es ep /\ es.toList = xs.map (entryOfKey (tupleKind (qby P w))) /\ (xs.map (·.1)).Nodup
 | .set S n => h.SetOf (intKind P w) a S n
 | .ins C dx fs => H dx = some (.own a) /\ fs.length <= 1000 /\ dx ≠ a /\ h.get? a = some (PySem.W.instObj C dx) /\
   ∃ mA, h.Ns1 dx mA /\ (∀ f, qlm (fs.lookup f) (mA f)) /\ PySem.Within mA (fs.map (·.1))
 | .own _ => ∃ o, h.get? a = some o
 | .xd fs => ∃ mA, h.Ns1 a mA /\ ∀ f, qlm (fs.lookup f) (mA f)
 | .rng lo hi => ∃ t u v, h.get? a = some { cls := .type "range", data := .fields #[.int lo t, .int hi u, .int 1 v] }
 | .frz o u => h.get? a = some o /\ qa1 H h a u
 | .tbl ps => h.get? a = some { cls := .none, data := .fields ps }
 | .met f x => h.get? a = some (PySem.W.methodObj (.ref f) (.ref x))
 | .ext φ => φ h /\ (∃ o, h.get? a = some o) /\ ∀ h1 h2 : Heap, φ h1 -> (∀ o, h1.get? a = some o -> h2.get? a = some o) -> φ h2
noncomputable def HOk (H : Hp) (h : Heap) : Prop := ∀ a o, H a = some o -> qa1 P w H h a o
end
section
variable {P : Program} {w : World} {H H' : Hp} {h h' : Heap} {a : Addr} {o : HO}
theorem qa1.lt (x : qa1 P w H h a o) : a < h.objs.size := by
 cases o with
 | lst xs => obtain ⟨_, _, _, _, e⟩ := x; exact Heap.lt_size e
 | tup xs => obtain ⟨_, _, _, p⟩ := x; exact p.lt
 | dK kvs => obtain ⟨_, _, _, _, o, _, _, e, _⟩ := x; exact Heap.lt_size e
 | dT kvs => obtain ⟨_, _, _, _, o, _, _, e, _⟩ := x; exact Heap.lt_size e
 | set S n => obtain ⟨o, _, _, _, e, _⟩ := x; exact Heap.lt_size e
 | ins C dx fs => obtain ⟨_, _, _, e, _⟩ := x; exact Heap.lt_size e
 | own y => obtain ⟨_, e⟩ := x; exact Heap.lt_size e
 | xd fs => obtain ⟨_, ⟨_, _, _, e, _⟩, _⟩ := x; exact Heap.lt_size e
 | rng lo hi => obtain ⟨_, _, _, e⟩ := x; exact Heap.lt_size e
 | frz ob u => obtain ⟨e, _⟩ := x; exact Heap.lt_size e
 | tbl ps => exact Heap.lt_size (show h.get? a = some _ from x)
 | met f y => exact Heap.lt_size (show h.get? a = some _ from x)
 | ext φ => obtain ⟨_, ⟨_, e⟩, _⟩ := x; exact Heap.lt_size e
theorem Paired.mapP {α β : Type} {F G : α -> β -> Prop} : ∀ {l₁ : List α} {l₂ : List β}, Paired F l₁ l₂ -> (∀ a b, F a b -> G a b) -> Paired G l₁ l₂
 | _, _, .nil, _ => .nil
 | _, _, .cons r t, f => .cons (f _ _ r) (Paired.mapP t f)
theorem qa1.stay (x : qa1 P w H h a o) (k : ∀ b u, (b = a \/ H b = some (.own a)) -> h.get? b = some u -> h'.get? b = some u)
  (ho : ∀ b, H b = some (.own a) -> H' b = some (.own a)) (ht : ∀ b xs, H b = some (.tup xs) -> H' b = some (.tup xs)) : qa1 P w H' h' a o := by
 induction o with
 | lst xs => obtain ⟨z, its, n, r, e⟩ := x; exact ⟨z, its, n, r, k _ _ (.inl rfl) e⟩
 | tup xs => obtain ⟨z, its, r, ob, e, c⟩ := x; exact ⟨z, its, r, ob, k _ _ (.inl rfl) e, c⟩
 | dK kvs => obtain ⟨z, y, vs, r, ob, es, ep, e, c⟩ := x; exact ⟨z, y, vs, r, ob, es, ep, k _ _ (.inl rfl) e, c⟩
 | dT kvs =>
  obtain ⟨z, y, xs, r, ob, es, ep, e, c⟩ := x
  exact ⟨z, y, xs, Paired.mapP r fun p q z => ⟨z.1, ht _ _ z.2.1, z.2.2⟩, ob, es, ep, k _ _ (.inl rfl) e, c⟩
 | set S n => obtain ⟨ob, es, ep, t, e, c⟩ := x; exact ⟨ob, es, ep, t, k _ _ (.inl rfl) e, c⟩
 | ins C dx fs =>
  obtain ⟨d, z, ne, e, mA, ⟨od, es, ep, e2, c⟩, r⟩ := x
  exact ⟨ho _ d, z, ne, k _ _ (.inl rfl) e, mA, ⟨od, es, ep, k _ _ (.inr d) e2, c⟩, r⟩
 | own y => obtain ⟨ob, e⟩ := x; exact ⟨ob, k _ _ (.inl rfl) e⟩
 | xd fs => obtain ⟨mA, ⟨od, es, ep, e, c⟩, r⟩ := x; exact ⟨mA, ⟨od, es, ep, k _ _ (.inl rfl) e, c⟩, r⟩
 | rng lo hi => obtain ⟨t, u, v, e⟩ := x; exact ⟨t, u, v, k _ _ (.inl rfl) e⟩
 | frz ob u ih => obtain ⟨e, q⟩ := x; exact ⟨k _ _ (.inl rfl) e, ih q⟩
 | tbl ps =>
  have e : h.get? a = some { cls := .none, data := .fields ps } := x
  show h'.get? a = some { cls := .none, data := .fields ps }
  exact k a _ (.inl rfl) e
 | met f y =>
  have e : h.get? a = some (PySem.W.methodObj (.ref f) (.ref y)) := x
  show h'.get? a = some (PySem.W.methodObj (.ref f) (.ref y))
  exact k a _ (.inl rfl) e
 | ext φ => obtain ⟨p, ⟨o, e⟩, st⟩ := x; exact ⟨st _ _ p fun o q => k _ _ (.inl rfl) q, ⟨o, k _ _ (.inl rfl) e⟩, st⟩
theorem HOk.lt (x : HOk P w H h) (e : H a = some o) : a < h.objs.size := (x a o e).lt
theorem HOk.fresh (x : HOk P w H h) (e : h.objs.size <= a) : H a = none := by
 cases q : H a with
 | none => rfl
 | some u => exact absurd (Nat.lt_of_lt_of_le (x.lt q) e) (Nat.lt_irrefl _)
theorem HOk.kept (x : HOk P w H h) (k : ∀ b u, h.get? b = some u -> h'.get? b = some u) : HOk P w H h' := fun a o e =>
 (x a o e).stay (fun b u _ q => k b u q) (fun _ q => q) fun _ _ q => q
theorem HOk.laid (x : HOk P w H h) (k : ∀ b u, h.get? b = some u -> h'.get? b = some u) (hp : h.objs.size <= a) (new : qa1 P w (upd H a o) h' a o) : HOk P w (upd H a o) h' := fun b u e => by
 have hn := x.fresh hp
 by_cases hb : b = a
 ·subst hb; rw [qab] at e; cases e; exact new
 ·rw [qag hb] at e
  exact (x b u e).stay (fun c v _ q => k c v q) (fun c q => by rw [qag (qaf q hn)]; exact q) fun c xs q => by rw [qag (qaf q hn)]; exact q
end
noncomputable def Rd (H : Hp) (a : Addr) (u : HO) : Prop := H a = some u \/ ∃ o, H a = some (.frz o u)
theorem Rd.ok {P : Program} {w : World} {H : Hp} {h : Heap} {a : Addr} {u : HO} (r : Rd H a u) (x : HOk P w H h) : qa1 P w H h a u := by
 rcases r with r | ⟨o, r⟩
 ·exact x a u r
 ·obtain ⟨_, q⟩ := x a _ r
  exact q
noncomputable def Mut : Option HO -> Prop
 | some (.lst _) => True
 | some (.dK _) => True
 | some (.dT _) => True
 | some (.set _ _) => True
 | some (.ins _ _ _) => True
 | some (.ext _) => True
 | _ => False
section
variable {P : Program} {w : World} {H : Hp} {h h' : Heap} {x e : Addr} {o' : HO}
theorem HOk.write (ok : HOk P w H h) (mu : Mut (H x)) (he : e = x \/ H e = some (.own x)) (k : ∀ b u, b ≠ e -> h.get? b = some u -> h'.get? b = some u) (heo : ∃ u, h'.get? e = some u)
  (new : qa1 P w (upd H x o') h' x o') : HOk P w (upd H x o') h' := fun b u q => by
 have nown : ∀ c y, H c = some (.own y) -> c ≠ x := fun c y r z => by subst z; rw [r] at mu; exact mu
 have ntup : ∀ c xs, H c = some (.tup xs) -> c ≠ x := fun c xs r z => by subst z; rw [r] at mu; exact mu
 by_cases hb : b = x
 ·subst hb; rw [qab] at q; cases q; exact new
 ·rw [qag hb] at q
  by_cases hbe : b = e
  ·have q' : H b = some (.own x) := by
    rcases he with z | z
    ·exact absurd (hbe.trans z) hb
    ·rw [hbe]; exact z
   rw [q] at q'; cases q'
   obtain ⟨v, hv⟩ := heo
   exact ⟨v, by rw [hbe]; exact hv⟩
  ·refine (ok b u q).stay (fun c v hc r => k c v ?_ r) (fun c r => by rw [qag (nown c b r)]; exact r) fun c xs r => by rw [qag (ntup c xs r)]; exact r
   rcases hc with rfl | hc
   ·exact hbe
   ·rintro rfl
    rcases he with z | z
    ·exact nown c b hc z
    ·rw [hc] at z; cases z; exact hb rfl
end
structure Un (fs ex : List Addr) (H H' : Hp) (h h' : Heap) : Prop where
 keep : ∀ b o, h.get? b = some o -> H b = none -> b ∉ fs -> b ∉ ex -> h'.get? b = some o
 slot : ∀ b o, h.get? b = some o -> H b = none -> b ∈ fs -> b ∉ ex -> ∃ sl, h'.get? b = some { o with slots := sl }
 free : ∀ b o, h.get? b = some o -> H b = none -> b ∉ ex -> H' b = none
 there : ∀ b o, h.get? b = some o -> b ∉ ex -> ∃ o', h'.get? b = some o'
 tups : ∀ b xs, H b = some (.tup xs) -> H' b = some (.tup xs)
 frzs : ∀ b o u, H b = some (.frz o u) -> H' b = some (.frz o u)
 tbls : ∀ b ps, H b = some (.tbl ps) -> ∃ more, H' b = some (.tbl (ps ++ more))
section
variable {fs fs' ex ex' : List Addr} {H H1 H2 : Hp} {h h1 h2 h' : Heap} {a x e : Addr} {o : HO}
theorem Un.any (u : Un fs ex H H1 h h1) {b : Addr} {ob : Obj} (q : h.get? b = some ob) (n : H b = none) (hx : b ∉ ex) : ∃ sl, h1.get? b = some { ob with slots := sl } := by
 by_cases hb : b ∈ fs
 ·exact u.slot b ob q n hb hx
 ·exact ⟨ob.slots, u.keep b ob q n hb hx⟩
theorem Un.kept (k : ∀ b u, h.get? b = some u -> h'.get? b = some u) : Un fs ex H H h h' :=
 ⟨fun b ob q _ _ _ => k b ob q, fun b ob q _ _ _ => ⟨ob.slots, k b ob q⟩, fun _ _ _ n _ => n, fun b ob q _ => ⟨ob, k b ob q⟩, fun _ _ q => q, fun _ _ _ q => q, fun _ ps q => ⟨#[], by rw [q]; simp⟩⟩
theorem Un.refl : Un fs ex H H h h := Un.kept fun _ _ q => q
theorem Un.laid (k : ∀ b u, h.get? b = some u -> h'.get? b = some u) (hp : h.objs.size <= a) (hn : H a = none) : Un fs ex H (upd H a o) h h' where
 keep := fun b u q _ _ _ => k b u q
 slot := fun b u q _ _ _ => ⟨u.slots, k b u q⟩
 free := fun b u q n _ => by rw [qag (Nat.ne_of_lt (Nat.lt_of_lt_of_le (Heap.lt_size q) hp))]; exact n
 there := fun b u q _ => ⟨u, k b u q⟩
 tups := fun b xs q => by rw [qag (qaf q hn)]; exact q
 frzs := fun b u xs q => by rw [qag (qaf q hn)]; exact q
 tbls := fun b ps q => ⟨#[], by rw [qag (qaf q hn), q]; simp⟩
theorem Un.write (mu : Mut (H x)) (he : e = x \/ H e = some (.own x)) (k : ∀ b u, b ≠ e -> h.get? b = some u -> h'.get? b = some u) (heo : ∃ u, h'.get? e = some u) : Un fs ex H (upd H x o) h h' := by
 have hx : ∀ b, H b = none -> b ≠ x := fun b n z => by subst z; rw [n] at mu; exact mu
 have hb : ∀ b, H b = none -> b ≠ e := fun b n z => by
  subst z
  rcases he with r | r
  ·exact hx b n r
  ·rw [n] at r; cases r
 have hm : ∀ b u, H b = some u -> ¬ Mut (some u) -> b ≠ x := fun b u q nm z => by subst z; rw [q] at mu; exact nm mu
 refine ⟨fun b u q n _ _ => k b u (hb b n) q, fun b u q n _ _ => ⟨u.slots, k b u (hb b n) q⟩, fun b u q n _ => by rw [qag (hx b n)]; exact n, fun b u q _ => ?_,
  fun b xs q => by rw [qag (hm b _ q fun z => z)]; exact q, fun b u xs q => by rw [qag (hm b _ q fun z => z)]; exact q, fun b ps q => ⟨#[], by rw [qag (hm b _ q fun z => z), q]; simp⟩⟩
 by_cases hbe : b = e
 ·subst hbe; exact heo
 ·exact ⟨u, k b u hbe q⟩
end
noncomputable def trk (h : Heap) (H : Hp) : List Addr := (List.range h.objs.size).filter fun a => (H a).isSome
noncomputable def qqj (h : Heap) (H : Hp) : Heap := PySem.W.hideAll h (trk h H)
theorem qnj (h : Heap) (H : Hp) : (qqj h H).objs.size = h.objs.size := PySem.W.hideAll_size _ _
theorem qo3 {h : Heap} {H : Hp} {b : Addr} {o : Obj} (e : h.get? b = some o) (n : H b = none) : (qqj h H).get? b = some o :=
 PySem.W.hideAll_get _ e fun hm => by
  have q : (H b).isSome = true := (List.mem_filter.mp hm).2
  rw [n] at q; simp at q
theorem qrz {h : Heap} {H : Hp} {b : Addr} {o : Obj} (e : (qqj h H).get? b = some o) : h.get? b = some o /\ H b = none := by
 have e' : h.get? b = some o := PySem.W.of_hideAll (trk h H) e
 refine ⟨e', ?_⟩
 cases q : H b with
 | none => rfl
 | some x =>
  have hm : b ∈ trk h H := List.mem_filter.mpr ⟨List.mem_range.mpr (Heap.lt_size e'), by simp [q]⟩
  have z : (qqj h H).get? b = none := PySem.W.hideAll_none (trk h H) hm
  rw [z] at e; cases e
noncomputable def qri (g h : Heap) (L : Addr) : List (Addr × Obj) := (List.range h.objs.size).filterMap fun a => if a = L \/ (g.get? a).isSome = true then none else (h.get? a).map fun o => (a, o)
noncomputable def rest (g h : Heap) (L d : Addr) : List (Addr × Obj) := (qri g h L).filter fun p => decide (p.1 ≠ d)
structure Mod (K : PySem.W.Frag) (mg : Str -> Option Value) (base : Heap) : Prop where
 kin : K.In base
 glob : base.Ns mainGlobals mg
 blt : ∃ mb, base.Ns builtinsNs mb /\ ∀ x : Str, x ≠ "__name__" -> mb x = bootBuiltins x
 nolimit : base.NoLimit
structure Cx where
 prog : Program
 w : World
 K : PySem.W.Frag
 mg : Str -> Option Value
 base : Heap
 A : Around
 N : List Str
 s₀ : Shared
 H₀ : Hp
 env : Env
 outer : List Env
 stack : List Env
 ex : List Addr
 fn : Str -> Bool
 calm : Bool
 pn : List (Addr × Obj)
 xe : Value -> Shared -> Prop
noncomputable def frs (l : List Env) : List Addr := l.filterMap (·.frame)
noncomputable abbrev Cx.fs (X : Cx) : List Addr := frs X.outer
noncomputable def Vis (sc : Scope) (x : Str) : Prop := sc.names.lookup x = some .local \/ sc.names.lookup x = some .cell \/ sc.names.lookup x = some .free
noncomputable def Loc (sc : Scope) (x : Str) : Prop := sc.names.lookup x = some .local \/ sc.names.lookup x = some .cell
noncomputable def Look (env : Env) (h : Heap) (m : Str -> Option Value) (x : Str) (u : Value) : Prop :=
 (env.kindOf x = some .local /\ m x = some u) \/ ((env.kindOf x = some .cell \/ env.kindOf x = some .free) /\ ∃ c, env.cells.lookup x = some c /\ h.IsCell c (some u))
structure Cx.Ok (X : Cx) : Prop where
 mod : Mod X.K X.mg X.base
 kind : X.env.scope.kind = .function
 glob : X.env.globals = mainGlobals
 blt : X.env.builtins = builtinsNs
 above : X.s₀.heap.objs.size <= X.env.locals
 inj : ∀ x y c, X.env.cells.lookup x = some c -> X.env.cells.lookup y = some c -> x = y
 has : ∀ x, (X.env.kindOf x = some .cell \/ X.env.kindOf x = some .free) -> ∃ c, X.env.cells.lookup x = some c
 cab : ∀ x c, X.fn x = true -> X.env.cells.lookup x = some c -> X.s₀.heap.objs.size <= c
 hd : X.calm = true -> X.A.handled = none
 frames : X.A.frames = some X.stack
 stk : X.stack = X.outer \/ (X.stack = X.env :: X.outer /\ X.env.frame = some X.env.locals)
 exf : ∀ b ∈ X.ex, b ≠ X.env.locals /\ ∀ x c, X.env.cells.lookup x = some c -> c ≠ b
 bs : ∀ b o, X.base.get? b = some o -> X.s₀.heap.get? b = some o /\ X.H₀ b = none
 bsz : X.base.objs.size <= X.s₀.heap.objs.size
 noex : ∀ b o, X.base.get? b = some o -> b ∉ X.ex
 exfs : ∀ b ∈ X.ex, b ∉ X.fs
 funs : X.s₀.heap.FunFrames X.base X.outer
 frf : ∀ b ∈ X.fs, X.H₀ b = none
structure Inv (X : Cx) (pins : List (Addr × Obj)) (σ : List (Option V)) (H : Hp) (s : Shared) : Prop where
 ok : X.Ok
 os : s.os = X.s₀.os
 bare : AllBare s.gens
 base : Un X.fs X.ex X.H₀ H X.s₀.heap s.heap
 loc : ∃ m, s.heap.Ns X.env.locals m /\ ∀ (i : Nat) (x : Str) (v : V), X.N[i]? = some x -> σ[i]? = some (some v) -> Vis X.env.scope x -> ∃ u, RelV v u /\ Look X.env s.heap m x u
 cell : ∀ x c, X.env.cells.lookup x = some c -> ∃ v, s.heap.IsCell c v
 free : H X.env.locals = none
 freeC : ∀ x c, X.env.cells.lookup x = some c -> H c = none
 pin : ∀ p ∈ X.pn ++ pins, s.heap.get? p.1 = some p.2 /\ H p.1 = none /\ p.1 ≠ X.env.locals /\ p.1 ∉ X.fs /\ ∀ v, p.2.data ≠ .cell v
 hok : HOk X.prog X.w H s.heap
 len : σ.length = X.N.length
section
variable {X : Cx} {pins : List (Addr × Obj)} {σ : List (Option V)} {H H' : Hp} {s : Shared} {h' : Heap}
theorem Cx.Ok.nofr (ok : X.Ok) {b : Addr} {o : Obj} (e : X.base.get? b = some o) : b ∉ X.fs := fun hb => by
 have := (ok.funs.mem hb).1
 rw [e] at this; cases this
theorem Inv.bs (I : Inv X pins σ H s) : ∀ b o, X.base.get? b = some o -> s.heap.get? b = some o /\ H b = none := fun b o e =>
 ⟨I.base.keep b o (I.ok.bs b o e).1 (I.ok.bs b o e).2 (I.ok.nofr e) (I.ok.noex b o e), I.base.free b o (I.ok.bs b o e).1 (I.ok.bs b o e).2 (I.ok.noex b o e)⟩
theorem Inv.bk (I : Inv X pins σ H s) : ∀ b o, X.base.get? b = some o -> s.heap.get? b = some o := fun b o e => (I.bs b o e).1
theorem Inv.mod (I : Inv X pins σ H s) : Mod X.K X.mg X.base := I.ok.mod
theorem Inv.kIn (I : Inv X pins σ H s) : X.K.In s.heap := I.ok.mod.kin.keeps I.bk
theorem Inv.lt (I : Inv X pins σ H s) : X.env.locals < s.heap.objs.size := let ⟨_, hn, _⟩ := I.loc; hn.lt
theorem Inv.sz (I : Inv X pins σ H s) : X.s₀.heap.objs.size <= s.heap.objs.size := Nat.le_trans I.ok.above (Nat.le_of_lt I.lt)
theorem Inv.nofs (I : Inv X pins σ H s) {a : Addr} (h : s.heap.objs.size <= a) : a ∉ X.fs := fun hb => by
 obtain ⟨_, o, ho, _⟩ := I.ok.funs.mem hb
 exact absurd (Nat.lt_of_lt_of_le (Heap.lt_size ho) (Nat.le_trans I.sz h)) (Nat.lt_irrefl _)
theorem Inv.cne (I : Inv X pins σ H s) : ∀ x c, X.env.cells.lookup x = some c -> c ≠ X.env.locals := fun x c e z => by
 obtain ⟨v, o, ho, hd⟩ := I.cell x c e
 obtain ⟨m, ⟨o', es, ep, ho', hd', _⟩, _⟩ := I.loc
 rw [z, ho'] at ho; cases ho; rw [hd'] at hd; cases hd
theorem Inv.funs (I : Inv X pins σ H s) : s.heap.FunFrames X.base X.outer := by
 have all : ∀ (l : List Env), (∀ b ∈ frs l, b ∈ X.fs) -> X.s₀.heap.FunFrames X.base l -> s.heap.FunFrames X.base l := by
  intro l
  induction l with
  | nil => intro _ _; trivial
  | cons env r ih =>
   intro hs hl
   obtain ⟨hk, ⟨L, o, hf, hn, ho, hd⟩, hr⟩ := hl
   have hL : L ∈ X.fs := hs L (by unfold frs; rw [List.filterMap_cons, hf]; exact List.mem_cons_self)
   obtain ⟨sl, e⟩ := I.base.slot L o ho (I.ok.frf L hL) hL fun z => I.ok.exfs L z hL
   exact ⟨hk, ⟨L, _, hf, hn, e, hd⟩, ih (fun b hb => hs b (by unfold frs; rw [List.filterMap_cons, hf]; exact List.mem_cons_of_mem _ hb)) hr⟩
 exact all X.outer (fun _ hb => hb) I.ok.funs
theorem Inv.stack (I : Inv X pins σ H s) : s.heap.FunFrames X.base X.stack := by
 rcases I.ok.stk with e | ⟨e, hf⟩
 ·rw [e]; exact I.funs
 ·rw [e]
  obtain ⟨m, hn, _⟩ := I.loc
  refine .cons (by rw [I.ok.kind]; decide) hf hn ?_ I.funs
  exact Heap.get?_none_of_le (Nat.le_trans I.ok.bsz I.ok.above)
theorem Inv.stkSub (I : Inv X pins σ H s) : ∀ b ∈ frs X.stack, b ∈ X.env.locals :: X.fs := fun b hb => by
 rcases I.ok.stk with e | ⟨e, hf⟩
 ·rw [e] at hb; exact List.mem_cons_of_mem _ hb
 ·rw [e] at hb
  unfold frs at hb
  rw [List.filterMap_cons, hf] at hb
  exact hb
theorem Inv.stkFree (I : Inv X pins σ H s) : ∀ b ∈ frs X.stack, H b = none := fun b hb => by
 rcases List.mem_cons.mp (I.stkSub b hb) with e | hb
 ·rw [e]; exact I.free
 ·obtain ⟨_, o, ho, _⟩ := I.ok.funs.mem hb
  exact I.base.free b o ho (I.ok.frf b hb) fun z => I.ok.exfs b z hb
theorem Inv.step {g' : Array GenState} {t' : Nat} {d' : Drawn} {ch : List Addr} (I : Inv X pins σ H s)
  (hch : ∀ b ∈ ch, (b ∈ X.ex \/ X.s₀.heap.objs.size <= b) /\ b ≠ X.env.locals /\ (∀ x c, X.env.cells.lookup x = some c -> c ≠ b) /\ ∀ p ∈ X.pn ++ pins, p.1 ≠ b)
  (keep : ∀ b o, b ≠ X.env.locals -> b ∉ X.fs -> b ∉ ch -> s.heap.get? b = some o -> H b = none -> h'.get? b = some o)
  (slot : ∀ b o, b ≠ X.env.locals -> b ∈ X.fs -> b ∉ ch -> s.heap.get? b = some o -> H b = none -> ∃ sl, h'.get? b = some { o with slots := sl }) (free : ∀ b o, b ∉ ch -> s.heap.get? b = some o -> H b = none -> H' b = none)
  (there : ∀ b o, b ∉ ch -> s.heap.get? b = some o -> ∃ o', h'.get? b = some o')
  (tups : ∀ b xs, H b = some (.tup xs) -> H' b = some (.tup xs)) (frzs : ∀ b o u, H b = some (.frz o u) -> H' b = some (.frz o u)) (tbls : ∀ b ps, H b = some (.tbl ps) -> ∃ more, H' b = some (.tbl (ps ++ more)))
  (ns : ∀ m, s.heap.Ns X.env.locals m -> h'.Ns X.env.locals m) (hok : HOk X.prog X.w H' h') (hg : AllBare g') :
  Inv X pins σ H' { s with heap := h', gens := g', drawn := d', toks := t' } := by
 have neL : ∀ b o, X.s₀.heap.get? b = some o -> b ≠ X.env.locals := fun b o e => Nat.ne_of_lt (Nat.lt_of_lt_of_le (Heap.lt_size e) I.ok.above)
 have neC : ∀ b o, X.s₀.heap.get? b = some o -> b ∉ X.ex -> b ∉ ch := fun b o e hx hb => by
  rcases (hch b hb).1 with z | z
  ·exact hx z
  ·exact absurd (Nat.lt_of_lt_of_le (Heap.lt_size e) z) (Nat.lt_irrefl _)
 have cellK : ∀ x c, X.env.cells.lookup x = some c -> ∀ v, s.heap.IsCell c v -> h'.IsCell c v := fun x c e v ⟨o, ho, hd⟩ => by
  have nch : c ∉ ch := fun z => (hch c z).2.2.1 x c e rfl
  by_cases hc : c ∈ X.fs
  ·obtain ⟨sl, q⟩ := slot c o (I.cne x c e) hc nch ho (I.freeC x c e)
   exact ⟨_, q, hd⟩
  ·exact ⟨o, keep c o (I.cne x c e) hc nch ho (I.freeC x c e), hd⟩
 refine ⟨I.ok, I.os, hg, ⟨fun b o e n hb hx => ?_, fun b o e n hb hx => ?_, fun b o e n hx => ?_, fun b o e hx => ?_, fun b xs e => tups b xs (I.base.tups b xs e), fun b o xs e => frzs b o xs (I.base.frzs b o xs e), fun b ps e => ?_⟩, ?_, fun x c e => ?_, ?_, fun x c e => ?_, fun p hp => ?_, hok, I.len⟩
 ·exact keep b o (neL b o e) hb (neC b o e hx) (I.base.keep b o e n hb hx) (I.base.free b o e n hx)
 ·obtain ⟨sl, e1⟩ := I.base.slot b o e n hb hx
  obtain ⟨sl', e2⟩ := slot b _ (neL b o e) hb (neC b o e hx) e1 (I.base.free b o e n hx)
  exact ⟨sl', e2⟩
 ·obtain ⟨o', e1⟩ := I.base.there b o e hx
  exact free b o' (neC b o e hx) e1 (I.base.free b o e n hx)
 ·obtain ⟨o', e1⟩ := I.base.there b o e hx
  exact there b o' (neC b o e hx) e1
 ·obtain ⟨m1, e1⟩ := I.base.tbls b ps e
  obtain ⟨m2, e2⟩ := tbls b _ e1
  exact ⟨m1 ++ m2, by rw [e2, Array.append_assoc]⟩
 ·obtain ⟨m, hn, hl⟩ := I.loc
  refine ⟨m, ns m hn, fun i x v e1 e2 e3 => ?_⟩
  obtain ⟨u, r, l⟩ := hl i x v e1 e2 e3
  refine ⟨u, r, ?_⟩
  rcases l with l | ⟨k, c, e, z⟩
  ·exact .inl l
  ·exact .inr ⟨k, c, e, cellK x c e _ z⟩
 ·obtain ⟨v, z⟩ := I.cell x c e
  exact ⟨v, cellK x c e v z⟩
 ·obtain ⟨m, ⟨o, _, _, ho, _⟩, _⟩ := I.loc
  exact free _ o (fun z => (hch _ z).2.1 rfl) ho I.free
 ·obtain ⟨v, o, ho, hd⟩ := I.cell x c e
  exact free c o (fun z => (hch c z).2.2.1 x c e rfl) ho (I.freeC x c e)
 ·obtain ⟨e, n, ne, nf, d⟩ := I.pin p hp
  have nch : p.1 ∉ ch := fun z => (hch p.1 z).2.2.2 p hp rfl
  exact ⟨keep p.1 p.2 ne nf nch e n, free p.1 p.2 nch e n, ne, nf, d⟩
theorem Inv.un {t' : Nat} (I : Inv X pins σ H s) (u : Un X.fs [] H H' s.heap h') (hok : HOk X.prog X.w H' h') : Inv X pins σ H' { s with heap := h', toks := t' } := by
 obtain ⟨m, ⟨o, es, ep, ho, r⟩, _⟩ := id I.loc
 obtain ⟨sl, hL⟩ := u.any ho I.free (by simp)
 exact I.step (g' := s.gens) (d' := s.drawn) (ch := []) (fun _ z => nomatch z) (fun b o _ hb _ e n => u.keep b o e n hb (by simp)) (fun b o _ hb _ e n => u.slot b o e n hb (by simp)) (fun b o _ e n => u.free b o e n (by simp)) (fun b o _ e => u.there b o e (by simp)) u.tups u.frzs u.tbls (fun m' hm => by
  obtain ⟨o', es', ep', ho', r'⟩ := hm
  rw [ho] at ho'; cases ho'
  exact ⟨_, es', ep', hL, r'⟩) hok I.bare
theorem Inv.call {g' : Array GenState} {t' : Nat} {d' : Drawn} {ch : List Addr} (I : Inv X pins σ H s) (u : Un (frs X.stack) ch H H' s.heap h') (hok : HOk X.prog X.w H' h') (hg : AllBare g')
  (hch : ∀ b ∈ ch, (b ∈ X.ex \/ X.s₀.heap.objs.size <= b) /\ b ≠ X.env.locals /\ (∀ x c, X.env.cells.lookup x = some c -> c ≠ b) /\ ∀ p ∈ X.pn ++ pins, p.1 ≠ b) :
  Inv X pins σ H' { s with heap := h', gens := g', drawn := d', toks := t' } := by
 obtain ⟨m, ⟨o, es, ep, ho, r⟩, _⟩ := id I.loc
 obtain ⟨sl, hL⟩ := u.any ho I.free fun z => (hch _ z).2.1 rfl
 exact I.step (ch := ch) hch (fun b o hL hb hc e n => u.keep b o e n (fun z => (List.mem_cons.mp (I.stkSub b z)).elim hL hb) hc) (fun b o _ _ hc e n => u.any e n hc) (fun b o hc e n => u.free b o e n hc) (fun b o hc e => u.there b o e hc) u.tups u.frzs u.tbls (fun m' hm => by
  obtain ⟨o', es', ep', ho', r'⟩ := hm
  rw [ho] at ho'; cases ho'
  exact ⟨_, es', ep', hL, r'⟩) hok hg
theorem Inv.turned {t' : Nat} {it : Addr} (I : Inv X pins σ H s) (k : ∀ b o, b ≠ it -> s.heap.get? b = some o -> h'.get? b = some o) (hn : H it = none) (hL : it ≠ X.env.locals)
  (h1 : it ∈ X.ex \/ X.s₀.heap.objs.size <= it) (h2 : ∀ x c, X.env.cells.lookup x = some c -> c ≠ it) (h3 : ∀ p ∈ X.pn ++ pins, p.1 ≠ it) : Inv X pins σ H { s with heap := h', toks := t' } := by
 have nit : ∀ b u, H b = some u -> b ≠ it := fun b u e z => by rw [z, hn] at e; cases e
 refine I.step (g' := s.gens) (d' := s.drawn) (ch := [it]) (fun b hb => ?_) (fun b o _ _ hc e _ => k b o (fun z => hc (by simp [z])) e) (fun b o _ _ hc e _ => ⟨o.slots, k b o (fun z => hc (by simp [z])) e⟩) (fun _ _ _ _ n => n)
  (fun b o hc e => ⟨o, k b o (fun z => hc (by simp [z])) e⟩) (fun _ _ e => e) (fun _ _ _ e => e) (fun b ps e => ⟨#[], by rw [e]; simp⟩) (fun m hm => ?_) (fun b u e => ?_) I.bare
 ·have e : b = it := by simpa using hb
  subst e
  exact ⟨h1, hL, h2, h3⟩
 ·obtain ⟨o, es, ep, ho, r⟩ := hm
  exact ⟨o, es, ep, k _ o (Ne.symm hL) ho, r⟩
 ·refine (I.hok b u e).stay (fun c v hc q => k c v ?_ q) (fun _ q => q) fun _ _ q => q
  rcases hc with z | z
  ·rw [z]; exact nit b u e
  ·exact nit c _ z
theorem Inv.tok (I : Inv X pins σ H s) (t : Nat) : Inv X pins σ H { s with toks := t } := I.un (h' := s.heap) (t' := t) Un.refl I.hok
theorem Inv.kept {t' : Nat} (I : Inv X pins σ H s) (k : ∀ b u, s.heap.get? b = some u -> h'.get? b = some u) : Inv X pins σ H { s with heap := h', toks := t' } := I.un (Un.kept k) (I.hok.kept k)
theorem Inv.laid {a : Addr} {o : HO} {t' : Nat} (I : Inv X pins σ H s) (k : ∀ b u, s.heap.get? b = some u -> h'.get? b = some u) (hp : s.heap.objs.size <= a) (new : qa1 X.prog X.w (upd H a o) h' a o) :
  Inv X pins σ (upd H a o) { s with heap := h', toks := t' } := I.un (Un.laid k hp (I.hok.fresh hp)) (I.hok.laid k hp new)
theorem Inv.write {x e : Addr} {o : HO} {t' : Nat} (I : Inv X pins σ H s) (mu : Mut (H x)) (he : e = x \/ H e = some (.own x)) (k : ∀ b u, b ≠ e -> s.heap.get? b = some u -> h'.get? b = some u) (heo : ∃ u, h'.get? e = some u)
  (new : qa1 X.prog X.w (upd H x o) h' x o) : Inv X pins σ (upd H x o) { s with heap := h', toks := t' } := I.un (Un.write mu he k heo) (I.hok.write mu he k heo new)
theorem Inv.pins_of {pins' : List (Addr × Obj)} (I : Inv X pins σ H s) (h : ∀ p ∈ pins', s.heap.get? p.1 = some p.2 /\ H p.1 = none /\ p.1 ≠ X.env.locals /\ p.1 ∉ X.fs /\ ∀ v, p.2.data ≠ .cell v) : Inv X pins' σ H s :=
 ⟨I.ok, I.os, I.bare, I.base, I.loc, I.cell, I.free, I.freeC, fun p hp => (List.mem_append.mp hp).elim (fun z => I.pin p (List.mem_append_left _ z)) (h p), I.hok, I.len⟩
theorem qgc {N : List Str} (hN : N.Nodup) {i j : Nat} {x : Str} (a : N[i]? = some x) (b : N[j]? = some x) : i = j := by
 obtain ⟨h1, e1⟩ := List.getElem?_eq_some_iff.mp a
 obtain ⟨h2, e2⟩ := List.getElem?_eq_some_iff.mp b
 exact (List.getElem_inj hN).mp (e1.trans e2.symm)
theorem qfh {M : Model} {A : Around} {E : Value -> Shared -> Prop} {i : Nat} {x : Str} {v : V} {u : Value} {Q : Unit -> Shared -> Prop} (I : Inv X pins σ H s) (hN : X.N.Nodup) (hi : X.N[i]? = some x) (hx : Loc X.env.scope x) (r : RelV v u)
  (h : ∀ s', Inv X pins (σ.set i (some v)) H s' -> (∃ a, Heap.SameBut a s.heap s'.heap /\ (a = X.env.locals \/ X.env.cells.lookup x = some a)) -> Q () s') (hf : X.fn x = true \/ X.env.scope.names.lookup x = some .local := by first | exact .inl rfl | exact .inr rfl | assumption) : wpAny M A (storeName X.env x u) Q E s := by
 obtain ⟨m, hn, hl⟩ := id I.loc
 have hcls : (X.env.scope.kind == .class || (X.env.scope.kind == .module && X.env.locals != X.env.globals)) = false := by rw [I.ok.kind]; rfl
 have hiσ : i < σ.length := by rw [I.len]; exact (List.getElem?_eq_some_iff.mp hi).1
 have cne := I.cne
 have tracked : ∀ {a : Addr} {h' : Heap}, (∃ o, s.heap.get? a = some o /\ H a = none) -> Heap.SameBut a s.heap h' -> HOk X.prog X.w H h' := fun {a h'} ha hs b ob e => by
  obtain ⟨_, _, hfree⟩ := ha
  refine (I.hok b ob e).stay (fun c w' hc q => (hs.2 c ?_).trans q) (fun _ q => q) fun _ _ q => q
  rintro rfl
  rcases hc with rfl | hc
  ·rw [hfree] at e; cases e
  ·rw [hfree] at hc; cases hc
 rcases hx with hk | hk
 ·refine wpAny_storeName_local hk hn (fun h' hn' hs => ?_) hcls
  obtain ⟨oL, _, _, hoL, _⟩ := id hn
  refine h _ ⟨I.ok, I.os, I.bare, ⟨fun b o e n hb hx => ?_, fun b o e n hb hx => ?_, I.base.free, fun b o e hx => ?_, I.base.tups, I.base.frzs, I.base.tbls⟩, ⟨_, hn', fun j y v' e1 e2 e3 => ?_⟩, fun y c e => ?_, I.free, I.freeC, fun p hp => ?_, tracked ⟨oL, hoL, I.free⟩ hs, by simpa using I.len⟩ ⟨_, hs, .inl rfl⟩
  ·exact (hs.2 b (Nat.ne_of_lt (Nat.lt_of_lt_of_le (Heap.lt_size e) I.ok.above))).trans (I.base.keep b o e n hb hx)
  ·obtain ⟨sl, e1⟩ := I.base.slot b o e n hb hx
   exact ⟨sl, (hs.2 b (Nat.ne_of_lt (Nat.lt_of_lt_of_le (Heap.lt_size e) I.ok.above))).trans e1⟩
  ·obtain ⟨o', e1⟩ := I.base.there b o e hx
   exact ⟨o', (hs.2 b (Nat.ne_of_lt (Nat.lt_of_lt_of_le (Heap.lt_size e) I.ok.above))).trans e1⟩
  ·by_cases hj : j = i
   ·subst hj
    rw [hi] at e1; cases e1
    rw [List.getElem?_set_self hiσ] at e2
    cases e2
    exact ⟨u, r, .inl ⟨hk, by simp⟩⟩
   ·rw [List.getElem?_set_ne (Ne.symm hj)] at e2
    obtain ⟨u', r', q⟩ := hl j y v' e1 e2 e3
    refine ⟨u', r', ?_⟩
    rcases q with ⟨k, e⟩ | ⟨k, c, e, z⟩
    ·refine .inl ⟨k, ?_⟩
     have : y ≠ x := fun e => hj (qgc hN e1 (e ▸ hi))
     simp [this, e]
    ·exact .inr ⟨k, c, e, z.sameBut hs (cne y c e)⟩
  ·obtain ⟨w', z⟩ := I.cell y c e
   exact ⟨w', z.sameBut hs (cne y c e)⟩
  ·obtain ⟨e, n, ne, nf, d⟩ := I.pin p hp
   exact ⟨(hs.2 p.1 ne).trans e, n, ne, nf, d⟩
 ·have hfn : X.fn x = true := by
   rcases hf with z | z
   ·exact z
   ·rw [z] at hk; cases hk
  obtain ⟨c, hc⟩ := I.ok.has x (.inl hk)
  obtain ⟨w', z⟩ := I.cell x c hc
  refine wpAny_storeName_cell I.ok.kind hk hc z (fun h' hc' hs => ?_)
  obtain ⟨oc, hoc, hocd⟩ := id z
  refine h { s with heap := h' } ⟨I.ok, I.os, I.bare, ⟨fun b o e n hb hx => ?_, fun b o e n hb hx => ?_, I.base.free, fun b o e hx => ?_, I.base.tups, I.base.frzs, I.base.tbls⟩, ⟨m, hn.sameBut hs (Ne.symm (cne x c hc)), fun j y v' e1 e2 e3 => ?_⟩, fun y c' e => ?_, I.free, I.freeC, fun p hp => ?_, tracked ⟨oc, hoc, I.freeC x c hc⟩ hs, by simpa using I.len⟩ ⟨c, hs, .inr hc⟩
  ·exact (hs.2 b (Nat.ne_of_lt (Nat.lt_of_lt_of_le (Heap.lt_size e) (I.ok.cab x c hfn hc)))).trans (I.base.keep b o e n hb hx)
  ·obtain ⟨sl, e1⟩ := I.base.slot b o e n hb hx
   exact ⟨sl, (hs.2 b (Nat.ne_of_lt (Nat.lt_of_lt_of_le (Heap.lt_size e) (I.ok.cab x c hfn hc)))).trans e1⟩
  ·obtain ⟨o', e1⟩ := I.base.there b o e hx
   exact ⟨o', (hs.2 b (Nat.ne_of_lt (Nat.lt_of_lt_of_le (Heap.lt_size e) (I.ok.cab x c hfn hc)))).trans e1⟩
  ·by_cases hj : j = i
   ·subst hj
    rw [hi] at e1; cases e1
    rw [List.getElem?_set_self hiσ] at e2
    cases e2
    exact ⟨u, r, .inr ⟨.inl hk, c, hc, hc'⟩⟩
   ·rw [List.getElem?_set_ne (Ne.symm hj)] at e2
    obtain ⟨u', r', q⟩ := hl j y v' e1 e2 e3
    refine ⟨u', r', ?_⟩
    rcases q with q | ⟨k, c', e, z'⟩
    ·exact .inl q
    ·refine .inr ⟨k, c', e, z'.sameBut hs ?_⟩
     rintro rfl
     exact hj (qgc hN e1 (I.ok.inj _ _ _ e hc ▸ hi))
  ·by_cases hcc : c' = c
   ·subst hcc; exact ⟨_, hc'⟩
   ·obtain ⟨w2, z2⟩ := I.cell y c' e
    exact ⟨w2, z2.sameBut hs hcc⟩
  ·obtain ⟨e, n, ne, nf, d⟩ := I.pin p hp
   refine ⟨(hs.2 p.1 ?_).trans e, n, ne, nf, d⟩
   intro q
   rw [q, hoc] at e
   have q' : oc = p.2 := Option.some.inj e
   exact d w' (by rw [<- q']; exact hocd)
theorem qc4 {M : Model} {A : Around} {E : Value -> Shared -> Prop} {i : Nat} {x : Str} {v : V} {u : Value} {Q : Unit -> Shared -> Prop} (I : Inv X pins σ H s) (hN : X.N.Nodup) (hi : X.N[i]? = some x) (hx : Loc X.env.scope x) (r : RelV v u)
  (h : ∀ s', Inv X pins (σ.set i (some v)) H s' -> Q () s') (hf : X.fn x = true \/ X.env.scope.names.lookup x = some .local := by first | exact .inl rfl | exact .inr rfl | assumption) : wpAny M A (storeName X.env x u) Q E s :=
 qfh I hN hi hx r (fun s' I' _ => h s' I') hf
theorem Inv.call' {s' : Shared} {ch : List Addr} (I : Inv X pins σ H s) (ho : s'.os = s.os) (u : Un (frs X.stack) ch H H' s.heap s'.heap) (hok : HOk X.prog X.w H' s'.heap) (hg : AllBare s'.gens)
  (hch : ∀ b ∈ ch, (b ∈ X.ex \/ X.s₀.heap.objs.size <= b) /\ b ≠ X.env.locals /\ (∀ x c, X.env.cells.lookup x = some c -> c ≠ b) /\ ∀ p ∈ X.pn ++ pins, p.1 ≠ b) : Inv X pins σ H' s' := by
 obtain ⟨h', g', d', t', o'⟩ := s'
 have e : o' = s.os := ho
 subst e
 exact I.call (g' := g') (t' := t') (d' := d') u hok hg hch
end
noncomputable abbrev XK := Value -> Option Addr -> Hp -> Prop
noncomputable abbrev St := List (Option V)
noncomputable abbrev VK := V -> Hp -> Prop
noncomputable abbrev TE := St -> Hp -> VK -> Prop
noncomputable abbrev TT := St -> Hp -> (Bool -> Hp -> Prop) -> Prop
noncomputable abbrev TA := St -> Hp -> (List V -> Hp -> Prop) -> Prop
structure Ends where
 nx : St -> Hp -> Prop
 rt : VK
 bk : St -> Hp -> Prop := fun _ _ => False
 ct : St -> Hp -> Prop := fun _ _ => False
noncomputable abbrev TS := Ends -> St -> Hp -> Prop
noncomputable def EP (X : Cx) (pins : List (Addr × Obj)) (σ : St) (Q : VK) (u : Value) (s' : Shared) : Prop := ∃ v H', Inv X pins σ H' s' /\ RelV v u /\ Q v H'
noncomputable def TP (X : Cx) (pins : List (Addr × Obj)) (σ : St) (Q : Bool -> Hp -> Prop) (b : Bool) (s' : Shared) : Prop := ∃ H', Inv X pins σ H' s' /\ Q b H'
noncomputable def AP (X : Cx) (pins : List (Addr × Obj)) (σ : St) (Q : List V -> Hp -> Prop) (us : List Value) (s' : Shared) : Prop := ∃ vs H', Inv X pins σ H' s' /\ qba vs us /\ Q vs H'
noncomputable def SP (X : Cx) (pins : List (Addr × Obj)) (D : Ends) (f : Flow) (s' : Shared) : Prop :=
 match f with
 | .next => ∃ σ' H', Inv X pins σ' H' s' /\ D.nx σ' H'
 | .brk => ∃ σ' H', Inv X pins σ' H' s' /\ D.bk σ' H'
 | .cont => ∃ σ' H', Inv X pins σ' H' s' /\ D.ct σ' H'
 | .ret u => ∃ v σ' H', Inv X pins σ' H' s' /\ RelV v u /\ D.rt v H'
noncomputable def PE (X : Cx) (e : Expr) (t : TE) : Prop :=
 ∀ (pins : List (Addr × Obj)) (s : Shared) (σ : St) (H : Hp) (Q : VK), Inv X pins σ H s -> t σ H Q -> wpAny (model X.prog X.w) X.A (eval e X.env) (EP X pins σ Q) X.xe s
noncomputable def PT (X : Cx) (e : Expr) (t : TT) : Prop :=
 ∀ (pins : List (Addr × Obj)) (s : Shared) (σ : St) (H : Hp) (Q : Bool -> Hp -> Prop), Inv X pins σ H s -> t σ H Q -> wpAny (model X.prog X.w) X.A (isTrue e X.env (eval e X.env)) (TP X pins σ Q) X.xe s
noncomputable def PW (X : Cx) (e : Expr) (t : TT) : Prop :=
 ∀ (whole : Sem Value) (pins : List (Addr × Obj)) (s : Shared) (σ : St) (H : Hp) (Q : Bool -> Hp -> Prop), Inv X pins σ H s -> t σ H Q -> wpAny (model X.prog X.w) X.A (isTrue e X.env whole) (TP X pins σ Q) X.xe s
theorem PW.pt {X : Cx} {e : Expr} {t : TT} (h : PW X e t) : PT X e t := h _
noncomputable def PA (X : Cx) (es : List Expr) (t : TA) : Prop :=
 ∀ (pos : Pos) (pins : List (Addr × Obj)) (s : Shared) (σ : St) (H : Hp) (Q : List V -> Hp -> Prop), Inv X pins σ H s -> t σ H Q -> wpAny (model X.prog X.w) X.A (spliced (backTo pos (starEach es X.env))) (AP X pins σ Q) X.xe s
noncomputable def PS (X : Cx) (st : Stmt) (t : TS) : Prop :=
 ∀ (pins : List (Addr × Obj)) (s : Shared) (σ : St) (H : Hp) (D : Ends), Inv X pins σ H s -> t D σ H -> wpAny (model X.prog X.w) X.A (exec st X.env) (SP X pins D) X.xe s
noncomputable def PSs (X : Cx) (st : List Stmt) (t : TS) : Prop :=
 ∀ (pins : List (Addr × Obj)) (s : Shared) (σ : St) (H : Hp) (D : Ends), Inv X pins σ H s -> t D σ H -> wpAny (model X.prog X.w) X.A (execs st X.env) (SP X pins D) X.xe s
theorem thn {α : Type} {t : Sem α} {Q Q' : α -> Shared -> Prop} {M : Model} {A : Around} {E : Value -> Shared -> Prop} {s : Shared} (h : wpAny M A t Q E s) (hQ : ∀ a s, Q a s -> Q' a s) : wpAny M A t Q' E s := wpAny_mono h hQ fun _ _ x => x
section
variable {X : Cx}
noncomputable def qw3 (i : Nat) : TE := fun σ H Q => ∃ v, σ[i]? = some (some v) /\ Q v H
noncomputable def tC (v : V) : TE := fun _ H Q => Q v H
theorem qul {i : Nat} {x : Str} {pos : Pos} (hN : X.N[i]? = some x) (hv : Vis X.env.scope x) (hd : (x == ("__debug__" : Str)) = false := by decide) (hcd : (x == ("__classdict__" : Str)) = false := by decide) : PE X (.Name x pos) (qw3 i) := by
 intro pins s σ H Q I h
 obtain ⟨v, e, h⟩ := h
 obtain ⟨m, hn, hl⟩ := I.loc
 obtain ⟨u, r, l⟩ := hl i x v hN e hv
 have fin : EP X pins σ Q u s := ⟨v, H, I, r, h⟩
 rcases l with ⟨hk, hm⟩ | ⟨hk, c, hc, hcell⟩
 ·exact wpAny_Name (wpAny_loadName_local I.ok.kind hk hn hm fin) hd
 ·rcases hk with hk | hk
  ·exact wpAny_Name (wpAny_loadName_cell I.ok.kind hk hc hcell fin) hd
  ·exact wpAny_Name (wpAny_loadName_free I.ok.kind hk hc hcell fin hcd) hd
theorem qah {i j pos} : PE X (.Constant (.int i) j pos) (tC (.int i)) := fun _ _ _ H _ I h => wpAny_Constant_int ⟨.int i, H, I.tok _, ⟨_, rfl⟩, h⟩
theorem qkz {b j pos} : PE X (.Constant (.bool b) j pos) (tC (.bl b)) := fun _ _ _ H _ I h => Constant_bool ⟨.bl b, H, I, rfl, h⟩
theorem qkj {j pos} : PE X (.Constant .none j pos) (tC .non) := fun _ _ _ H _ I h => Constant_none ⟨.non, H, I, rfl, h⟩
theorem qfv {x j pos} : PE X (.Constant (.str x) j pos) (tC (.str x)) := fun _ _ _ H _ I h => Calls.Constant_str ⟨.str x, H, I.tok _, ⟨_, rfl⟩, h⟩
noncomputable def Gl (X : Cx) (x : Str) : Prop := X.env.kindOf x = some .globalImplicit
theorem qdt {E : Value -> Shared -> Prop} {pins : List (Addr × Obj)} {s : Shared} {σ : St} {H : Hp} {x : Str} {u : Value} {pos : Pos} {Q : Value -> Shared -> Prop} (I : Inv X pins σ H s) (hg : Gl X x) (hm : X.mg x = some u) (h : Q u s)
  (hd : (x == ("__debug__" : Str)) = false := by decide) : wpAny (model X.prog X.w) X.A (eval (.Name x pos) X.env) Q E s :=
 Calls.Name_function_global I.ok.kind hg (Calls.loadGlobal_global (by rw [I.ok.glob]; exact I.mod.glob.keeps I.bk) hm h) hd
theorem qfk {E : Value -> Shared -> Prop} {pins : List (Addr × Obj)} {s : Shared} {σ : St} {H : Hp} {x : Str} {u : Value} {pos : Pos} {Q : Value -> Shared -> Prop} (I : Inv X pins σ H s) (hg : Gl X x) (hm : X.mg x = none) (hv : bootBuiltins x = some u) (h : Q u s)
  (hn : x ≠ "__name__" := by decide) (hd : (x == ("__debug__" : Str)) = false := by decide) : wpAny (model X.prog X.w) X.A (eval (.Name x pos) X.env) Q E s := by
 obtain ⟨mb, h1, h2⟩ := I.mod.blt
 exact Calls.Name_function_global I.ok.kind hg (Calls.loadGlobal_builtin (by rw [I.ok.glob]; exact I.mod.glob.keeps I.bk) hm (by rw [I.ok.blt]; exact h1.keeps I.bk) ((h2 x hn).trans hv) h) hd
theorem qbz {x : Str} {v : V} {u : Value} {pos : Pos} (hg : Gl X x) (hm : X.mg x = some u) (r : RelV v u) (hd : (x == ("__debug__" : Str)) = false := by decide) : PE X (.Name x pos) (tC v) :=
 fun _ _ _ H _ I h => qdt I hg hm ⟨v, H, I, r, h⟩ hd
theorem qcm {x : Str} {v : V} {u : Value} {pos : Pos} (hg : Gl X x) (hm : X.mg x = none) (hv : bootBuiltins x = some u) (r : RelV v u) (hn : x ≠ "__name__" := by decide) (hd : (x == ("__debug__" : Str)) = false := by decide) : PE X (.Name x pos) (tC v) :=
 fun _ _ _ H _ I h => qfk I hg hm hv ⟨v, H, I, r, h⟩ hn hd
variable {a b : Expr} {ta tb : TE} {pos : Pos}
noncomputable def tB (t : TE) : TT := fun σ H Q => t σ H fun x H1 => ∃ c, x = .bl c /\ Q c H1
theorem qbq {e : Expr} {t : TE} (h : PE X e t) (he : ∀ whole, isTrue e X.env whole = (do let v <- whole; standAt e.pos; holding [v] (truthy v)) := by intro _; rfl) : PT X e (tB t) := by
 intro pins s σ H Q I hw
 refine isTrue_plain (thn (h pins s σ H _ I hw) fun v s1 ⟨x, H1, I1, r1, q1⟩ => ?_) (he _)
 obtain ⟨d, rfl, q⟩ := q1
 cases r1
 exact wpAny_truthy_bool ⟨H1, I1, q⟩
variable {tA tB' : TT} {rest : List Expr}
noncomputable def qx4 (t u : TT) : TT := fun σ H Q => t σ H fun c H1 => if c = true then u σ H1 Q else Q false H1
noncomputable def tOr (t u : TT) : TT := fun σ H Q => t σ H fun c H1 => if c = true then Q true H1 else u σ H1 Q
noncomputable def qxq (t : TT) : TT := fun σ H Q => t σ H fun c H1 => Q (!c) H1
theorem qgv (ha : PT X a tA) : PW X (.BoolOp .And [a] pos) tA := by
 intro wh pins s σ H Q I h
 refine isTrue_and (thn (ha pins s σ H Q I h) fun c s1 e => ?_)
 cases c with
 | true => exact isTrue_and_nil e
 | false => exact e
theorem qen (ha : PT X a tA) : PW X (.BoolOp .Or [a] pos) tA := by
 intro wh pins s σ H Q I h
 refine isTrue_or (thn (ha pins s σ H Q I h) fun c s1 e => ?_)
 cases c with
 | false => exact isTrue_or_nil e
 | true => exact e
theorem qg9 (ha : PT X a tA) (hb : PW X (.BoolOp .And (b :: rest) pos) tB') : PW X (.BoolOp .And (a :: b :: rest) pos) (qx4 tA tB') := by
 intro wh pins s σ H Q I h
 refine isTrue_and (thn (ha pins s σ H _ I h) fun c s1 ⟨H1, I1, q1⟩ => ?_)
 cases c with
 | true => exact hb wh pins s1 σ H1 Q I1 q1
 | false => exact ⟨H1, I1, q1⟩
theorem qgs (ha : PT X a tA) (hb : PW X (.BoolOp .Or (b :: rest) pos) tB') : PW X (.BoolOp .Or (a :: b :: rest) pos) (tOr tA tB') := by
 intro wh pins s σ H Q I h
 refine isTrue_or (thn (ha pins s σ H _ I h) fun c s1 ⟨H1, I1, q1⟩ => ?_)
 cases c with
 | true => exact ⟨H1, I1, q1⟩
 | false => exact hb wh pins s1 σ H1 Q I1 q1
theorem qb4 (ha : PT X a tA) : PT X (.UnaryOp .Not a pos) (qxq tA) := by
 intro pins s σ H Q I h
 exact isTrue_not (ha pins s σ H (fun c H1 => Q (!c) H1) I h)
noncomputable def qwb (ta tb : TE) : TE := fun σ H Q => ta σ H fun x H1 => ∃ c, x = .bl c /\ if c = true then tb σ H1 Q else Q (.bl false) H1
noncomputable def qwm (ta : TE) : TE := fun σ H Q => ta σ H fun x H1 => ∃ c, x = .bl c /\ Q (.bl (!c)) H1
theorem qe0 {op} {t : TE} (h : PE X a t) : PE X (.BoolOp op [a] pos) t := fun pins s σ H Q I hw => BoolOp_one (h pins s σ H Q I hw)
theorem qd1 (ha : PE X a ta) (hb : PE X (.BoolOp .And (b :: rest) pos) tb) : PE X (.BoolOp .And (a :: b :: rest) pos) (qwb ta tb) := by
 intro pins s σ H Q I h
 refine BoolOp_and (thn (ha pins s σ H _ I h) fun v s1 ⟨x, H1, I1, r1, q1⟩ => ?_)
 obtain ⟨c, rfl, q1⟩ := q1
 cases r1
 refine wpAny_truthy_bool ?_
 cases c with
 | true => exact hb pins s1 σ H1 Q I1 q1
 | false => exact ⟨.bl false, H1, I1, rfl, q1⟩
theorem quq (ha : PE X a ta) : PE X (.UnaryOp .Not a pos) (qwm ta) := by
 intro pins s σ H Q I h
 refine UnaryOp_ (thn (ha pins s σ H _ I h) fun v s1 ⟨x, H1, I1, r1, q1⟩ => ?_)
 obtain ⟨c, rfl, q1⟩ := q1
 cases r1
 exact not_of (wpAny_truthy_bool ⟨.bl (!c), H1, I1, rfl, q1⟩)
noncomputable def tIf (t : TT) (ta tb : TE) : TE := fun σ H Q => t σ H fun c H1 => if c = true then ta σ H1 Q else tb σ H1 Q
theorem qjr {c : Expr} (hc : PT X c tA) (ha : PE X a ta) (hb : PE X b tb) : PE X (.IfExp c a b pos) (tIf tA ta tb) := by
 intro pins s σ H Q I h
 refine wpAny_IfExp (thn (hc pins s σ H _ I h) fun d s1 ⟨H1, I1, q1⟩ => ?_)
 cases d with
 | true => exact ha pins s1 σ H1 Q I1 q1
 | false => exact hb pins s1 σ H1 Q I1 q1
end
noncomputable def SqL (K : PySem.W.Frag) (H : Hp) (a : Addr) (xs : List V) : Prop :=
 Rd H a (.lst xs) \/
  ∃ (o : Obj) (its : Array Value) (n : Nat), K.lookup a = some o /\ o.cls = .type "list" /\ o.dict = none /\ o.data = .seq its n /\ its.size <= sizeLine /\ qba xs its.toList
noncomputable def SqT (K : PySem.W.Frag) (H : Hp) (a : Addr) (xs : List V) : Prop :=
 Rd H a (.tup xs) \/
  ∃ (o : Obj) (its : Array Value) (n : Nat), K.lookup a = some o /\ o.cls = .type "tuple" /\ o.data = .seq its n /\ its.size <= sizeLine /\ qba xs its.toList
noncomputable def qyj : Value -> Option V
 | .none => some .non
 | .bool b => some (.bl b)
 | .int i _ => some (.int i)
 | .str x _ => some (.str x)
 | .bytes b _ => some (.byt b)
 | .float b _ => some (.flt b)
 | .ref a => some (.ref a)
 | .type n => some (.ty n)
 | _ => none
theorem RelV.abs {x : V} {u : Value} (r : RelV x u) : qyj u = some x := by
 cases x with
 | non => cases r; rfl
 | bl _ => cases r; rfl
 | int _ => obtain ⟨t, rfl⟩ := r; rfl
 | str _ => obtain ⟨t, rfl⟩ := r; rfl
 | byt _ => obtain ⟨t, rfl⟩ := r; rfl
 | flt _ => obtain ⟨t, rfl⟩ := r; rfl
 | ref _ => cases r; rfl
 | ty _ => cases r; rfl
theorem RelV.inj {x y : V} {u : Value} (r : RelV x u) (q : RelV y u) : x = y := Option.some.inj (r.abs.symm.trans q.abs)
theorem qba.inj : ∀ {xs ys : List V} {us : List Value}, qba xs us -> qba ys us -> xs = ys
 | _, _, _, .nil, .nil => rfl
 | _, _, _, .cons r t, .cons r' t' => by rw [r.inj r', qba.inj t t']
section
variable {X : Cx} {pins : List (Addr × Obj)} {σ : St} {H : Hp} {s : Shared} {a : Addr} {xs ys : List V}
theorem SqL.of {K : PySem.W.Frag} (h : H a = some (.lst xs)) : SqL K H a xs := .inl (.inl h)
theorem SqT.of {K : PySem.W.Frag} (h : H a = some (.tup xs)) : SqT K H a xs := .inl (.inl h)
theorem Inv.list (I : Inv X pins σ H s) (h : SqL X.K H a xs) : ∃ its : List Value, qba xs its /\ PlainL s.heap a its.toArray /\ xs.length <= sizeLine := by
 rcases h with h | ⟨o, its, n, hk, hc, hd, hs, hz, r⟩
 ·obtain ⟨z, its, n, r, e⟩ := h.ok I.hok
  exact ⟨its, r, ⟨_, n, e, rfl, rfl, rfl⟩, z⟩
 ·refine ⟨its.toList, r, ⟨o, n, I.kIn a o hk, hc, hd, by simpa using hs⟩, ?_⟩
  have e := r.length
  simp only [Array.length_toList] at e
  omega
theorem Inv.tuple (I : Inv X pins σ H s) (h : SqT X.K H a xs) : ∃ its : List Value, qba xs its /\ IsTup s.heap a its.toArray /\ xs.length <= sizeLine := by
 rcases h with h | ⟨o, its, n, hk, hc, hs, hz, r⟩
 ·obtain ⟨z, its, r, p⟩ := h.ok I.hok
  exact ⟨its, r, p, z⟩
 ·refine ⟨its.toList, r, ⟨o, I.kIn a o hk, hc, n, by simpa using hs⟩, ?_⟩
  have e := r.length
  simp only [Array.length_toList] at e
  omega
theorem Inv.list_inj (I : Inv X pins σ H s) (h : SqL X.K H a xs) (h' : SqL X.K H a ys) : xs = ys := by
 obtain ⟨its, r, ⟨o, n, e, _, _, d⟩, _⟩ := I.list h
 obtain ⟨its', r', ⟨o', n', e', _, _, d'⟩, _⟩ := I.list h'
 rw [e] at e'; cases e'
 rw [d] at d'
 injection d' with d1 _
 have : its = its' := by simpa using congrArg Array.toList d1
 subst this
 exact r.inj r'
theorem Inv.tuple_inj (I : Inv X pins σ H s) (h : SqT X.K H a xs) (h' : SqT X.K H a ys) : xs = ys := by
 obtain ⟨its, r, ⟨o, e, _, n, d⟩, _⟩ := I.tuple h
 obtain ⟨its', r', ⟨o', e', _, n', d'⟩, _⟩ := I.tuple h'
 rw [e] at e'; cases e'
 rw [d] at d'
 injection d' with d1 _
 have : its = its' := by simpa using congrArg Array.toList d1
 subst this
 exact r.inj r'
end
noncomputable abbrev Cx.wish (X : Cx) (E : Value -> Shared -> Prop) : Cx := { X with xe := E }
noncomputable abbrev Cx.nox (X : Cx) : Cx := X.wish fun _ _ => False
theorem Cx.Ok.wish {X : Cx} (ok : X.Ok) (E : Value -> Shared -> Prop) : (X.wish E).Ok :=
 ⟨ok.mod, ok.kind, ok.glob, ok.blt, ok.above, ok.inj, ok.has, ok.cab, ok.hd, ok.frames, ok.stk, ok.exf, ok.bs, ok.bsz, ok.noex, ok.exfs, ok.funs, ok.frf⟩
theorem Cx.Ok.unwish {X : Cx} {E : Value -> Shared -> Prop} (ok : (X.wish E).Ok) : X.Ok :=
 ⟨ok.mod, ok.kind, ok.glob, ok.blt, ok.above, ok.inj, ok.has, ok.cab, ok.hd, ok.frames, ok.stk, ok.exf, ok.bs, ok.bsz, ok.noex, ok.exfs, ok.funs, ok.frf⟩
section
variable {X : Cx} {pins : List (Addr × Obj)} {σ : St} {H : Hp} {s : Shared} {E : Value -> Shared -> Prop}
theorem Inv.wish (I : Inv X pins σ H s) (E : Value -> Shared -> Prop) : Inv (X.wish E) pins σ H s := ⟨I.ok.wish E, I.os, I.bare, I.base, I.loc, I.cell, I.free, I.freeC, I.pin, I.hok, I.len⟩
theorem Inv.unwish (I : Inv (X.wish E) pins σ H s) : Inv X pins σ H s := ⟨I.ok.unwish, I.os, I.bare, I.base, I.loc, I.cell, I.free, I.freeC, I.pin, I.hok, I.len⟩
theorem SP.unwish {D : Ends} {f : Flow} {s' : Shared} (h : SP (X.wish E) pins D f s') : SP X pins D f s' := by
 cases f with
 | next => obtain ⟨σ', H', I, q⟩ := h; exact ⟨σ', H', I.unwish, q⟩
 | brk => obtain ⟨σ', H', I, q⟩ := h; exact ⟨σ', H', I.unwish, q⟩
 | cont => obtain ⟨σ', H', I, q⟩ := h; exact ⟨σ', H', I.unwish, q⟩
 | ret u => obtain ⟨v, σ', H', I, r, q⟩ := h; exact ⟨v, σ', H', I.unwish, r, q⟩
theorem PE.nox {e : Expr} {t : TE} (h : PE X.nox e t) : PE X e t := fun pins s σ H Q I hw =>
 wpAny_mono (h pins s σ H Q (I.wish _) hw) (fun _ _ ⟨v, H', I', r, q⟩ => ⟨v, H', I'.unwish, r, q⟩) fun _ _ z => False.elim z
theorem PSs.nox {st : List Stmt} {t : TS} (h : PSs X.nox st t) : PSs X st t := fun pins s σ H D I hw =>
 wpAny_mono (h pins s σ H D (I.wish _) hw) (fun _ _ q => q.unwish) fun _ _ z => False.elim z
end
section
variable {X : Cx} {st : Stmt} {rest : List Stmt} {t u : TS} {e : Expr} {te : TE} {pos : Pos}
noncomputable def qv5 : TS := fun D σ H => D.nx σ H
noncomputable def qw4 (t u : TS) : TS := fun D σ H => t { D with nx := u D } σ H
theorem qa2 : PSs X [] qv5 := fun _ _ σ H _ I h => wpAny_execs_nil ⟨σ, H, I, h⟩
theorem qae (h1 : PS X st t) (h2 : PSs X rest u) : PSs X (st :: rest) (qw4 t u) := by
 intro pins s σ H D I h
 refine wpAny_execs_cons (thn (h1 pins s σ H { D with nx := u D } I h) fun f s1 q => ?_)
 cases f with
 | next =>
  obtain ⟨σ', H', I', q⟩ := q
  exact h2 pins s1 σ' H' D I' q
 | ret v => exact q
 | brk => exact q
 | cont => exact q
theorem qak (h1 : PS X st t) : PSs X [st] t := by
 intro pins s σ H D I h
 refine wpAny_execs_cons (thn (h1 pins s σ H D I h) fun f s1 q => ?_)
 cases f with
 | next => exact wpAny_execs_nil q
 | ret v => exact q
 | brk => exact q
 | cont => exact q
theorem Inv.quiet {pins : List (Addr × Obj)} {σ : St} {H : Hp} {s : Shared} (I : Inv X pins σ H s) : interactive X.env = false := by simp [interactive, I.ok.kind]
noncomputable def qv6 (te : TE) : TS := fun D σ H => te σ H fun _ H1 => D.nx σ H1
theorem qch (he : PE X e te) (hs : swapsWith e none pos.line X.env = pure false := by rfl) : PS X (.Expr e pos) (qv6 te) := by
 intro pins s σ H D I h
 exact wpAny_Expr_any (thn (he pins s σ H _ I h) fun v s1 ⟨x, H1, I1, r1, q1⟩ => ⟨σ, H1, I1, q1⟩) I.quiet hs
noncomputable def qxz (te : TE) : TS := fun D σ H => te σ H D.rt
theorem qav (he : PE X e te) : PS X (.Return (some e) pos) (qxz te) := by
 intro pins s σ H D I h
 exact wpAny_Return_some (thn (he pins s σ H _ I h) fun v s1 ⟨x, H1, I1, r1, q1⟩ => ⟨x, σ, H1, I1, r1, q1⟩)
noncomputable def qxt (c : TT) (t u : TS) : TS := fun D σ H => c σ H fun b H1 => if b = true then t D σ H1 else u D σ H1
theorem qb8 {c : Expr} {a b : List Stmt} {tc : TT} (hc : PT X c tc) (ha : PSs X a t) (hb : PSs X b u) : PS X (.If c a b pos) (qxt tc t u) := by
 intro pins s σ H D I h
 refine wpAny_If (thn (hc pins s σ H _ I h) fun d s1 ⟨H1, I1, q1⟩ => ?_)
 cases d with
 | true => exact ha pins s1 σ H1 D I1 q1
 | false => exact hb pins s1 σ H1 D I1 q1
noncomputable def qtr : TS := fun _ _ _ => False
theorem qbr {sts : List Stmt} : PSs X sts qtr := fun _ _ _ _ _ _ h => h.elim
end
noncomputable abbrev TG := V -> St -> Hp -> (St -> Hp -> Prop) -> Prop
noncomputable abbrev TGs := List V -> St -> Hp -> (St -> Hp -> Prop) -> Prop
noncomputable def PG (X : Cx) (target : Expr) (t : TG) : Prop :=
 ∀ (pins : List (Addr × Obj)) (s : Shared) (σ : St) (H : Hp) (v : V) (u : Value) (Q : St -> Hp -> Prop), Inv X pins σ H s -> RelV v u -> t v σ H Q ->
  wpAny (model X.prog X.w) X.A (assign target X.env u) (fun _ s' => ∃ σ' H', Inv X pins σ' H' s' /\ Q σ' H') X.xe s
noncomputable def PGs (X : Cx) (ts : List Expr) (t : TGs) : Prop :=
 ∀ (pins : List (Addr × Obj)) (s : Shared) (σ : St) (H : Hp) (vs : List V) (us : List Value) (Q : St -> Hp -> Prop), Inv X pins σ H s -> qba vs us -> t vs σ H Q ->
  wpAny (model X.prog X.w) X.A (assignInOrder ((assignEach ts X.env).map (·.2)) us) (fun _ s' => ∃ σ' H', Inv X pins σ' H' s' /\ Q σ' H') X.xe s
noncomputable abbrev qv9 := V -> V -> V -> Hp -> (Hp -> Prop) -> Prop
noncomputable def qwy (X : Cx) (t : qv9) : Prop :=
 ∀ (pins : List (Addr × Obj)) (s : Shared) (σ : St) (H : Hp) (o i v : V) (ov iv u : Value) (Q : Hp -> Prop), Inv X pins σ H s -> RelV o ov -> RelV i iv -> RelV v u -> t o i v H Q ->
  wpAny (model X.prog X.w) X.A (setItem ov iv u) (fun _ s' => ∃ H', Inv X pins σ H' s' /\ Q H') X.xe s
section
variable {X : Cx} {pos : Pos}
noncomputable def qdv (i : Nat) : TG := fun v σ H Q => Q (σ.set i (some v)) H
theorem qa0 {i : Nat} {x : Str} (hN : X.N.Nodup) (hi : X.N[i]? = some x) (hx : Loc X.env.scope x) (hf : X.fn x = true \/ X.env.scope.names.lookup x = some .local := by first | exact .inl rfl | exact .inr rfl | assumption) : PG X (.Name x pos) (qdv i) := by
 intro pins s σ H v u Q I r h
 exact wpAny_assign_Name (qc4 I hN hi hx r (fun s' I' => ⟨_, H, I', h⟩) hf)
noncomputable def qxw : TGs := fun vs σ H Q => vs = [] /\ Q σ H
noncomputable def qwl (t : TG) (u : TGs) : TGs := fun vs σ H Q => ∃ v r, vs = v :: r /\ t v σ H fun σ' H' => u r σ' H' Q
theorem qc6 : PGs X [] qxw := by
 intro pins s σ H vs us Q I r h
 obtain ⟨e, h⟩ := h
 subst e
 cases r
 exact assignInOrder_nil ⟨σ, H, I, h⟩
theorem qa3 {e : Expr} {es : List Expr} {t : TG} {u : TGs} (h1 : PG X e t) (h2 : PGs X es u)
  (hs : (assignEach (e :: es) X.env).map (·.2) = assign e X.env :: (assignEach es X.env).map (·.2) := by rfl) : PGs X (e :: es) (qwl t u) := by
 intro pins s σ H vs us Q I r h
 obtain ⟨v, vr, e1, h⟩ := h
 subst e1
 cases r with
 | cons r rr =>
  rw [hs]
  refine assignInOrder_cons (thn (h1 pins s σ H _ _ _ I r h) fun _ s1 ⟨σ1, H1, I1, q1⟩ => ?_)
  exact h2 pins s1 σ1 H1 _ _ Q I1 rr q1
noncomputable def qxa (K : PySem.W.Frag) (n : Nat) (t : TGs) : TG := fun v σ H Q => ∃ a xs, v = .ref a /\ SqT K H a xs /\ xs.length = n /\ t xs σ H Q
theorem qej {es : List Expr} {k : Nat} {t : TGs} {n : Nat} (hc : X.calm = true) (h : PGs X es t)
  (hn : (assignEach es X.env).length = n := by rfl) (hst : (assignEach es X.env).findIdx? (·.1) = none := by rfl) : PG X (.Tuple es k pos) (qxa X.K n t) := by
 intro pins s σ H v u Q I r hw
 obtain ⟨a, xs, e1, hq, hl, hw⟩ := hw
 subst e1
 cases r
 obtain ⟨its, rv, ht, hz⟩ := I.tuple hq
 refine assign_Tuple_tuple (I.ok.hd hc) ht (by simp [hn, <- hl, rv.length]) hst fun h' hx => ?_
 have I1 : Inv X pins σ H { s with heap := h' } := I.kept (t' := s.toks) fun b o e => hx b o (Nat.ne_of_lt (Heap.lt_size e)) e
 exact h pins _ σ H xs _ Q I1 (by simpa using rv) hw
noncomputable def qyc (to ti : TE) (t : qv9) : TG := fun v σ H Q => to σ H fun o H1 => ti σ H1 fun i H2 => t o i v H2 fun H3 => Q σ H3
theorem qqo {o i : Expr} {to ti : TE} {t : qv9} (ho : PE X o to) (hi : PE X i ti) (hs : qwy X t)
  (ha : ∀ v, assign (.Subscript o i pos) X.env v = (do
   let ov <- holding [v] (eval o X.env)
   let iv <- holding [v, ov] (eval i X.env)
   standAt pos
   holding [v, ov, iv] (setItem ov iv v)
   release [v, ov, iv] []) := by intro _; rfl) : PG X (.Subscript o i pos) (qyc to ti t) := by
 intro pins s σ H v u Q I r h
 rw [ha]
 refine wpAny_bind (wpAny_holding (thn (ho pins s σ H _ I h) fun ov s1 ⟨x, H1, I1, r1, q1⟩ => ?_))
 refine wpAny_bind (wpAny_holding (thn (hi pins s1 σ H1 _ I1 q1) fun iv s2 ⟨y, H2, I2, r2, q2⟩ => ?_))
 refine wpAny_bind (wpAny_standAt (wpAny_bind (wpAny_holding (thn (hs pins s2 σ H2 x y v ov iv u _ I2 r1 r2 r q2) fun _ s3 ⟨H3, I3, q3⟩ => ?_))))
 exact wpAny_release ⟨σ, H3, I3, q3⟩
noncomputable def qw1 (te : TE) (g : TG) : TS := fun D σ H => te σ H fun x H1 => g x σ H1 D.nx
theorem qfc {tg e : Expr} {te : TE} {g : TG} (he : PE X e te) (hg : PG X tg g) (hs : swapsWithSole [tg] e pos.line X.env = pure false := by rfl) (hw : swappedStores [tg] e X.env = pure none := by rfl)
  (h1 : (assignEach [tg] X.env).map (·.2) = [assign tg X.env] := by rfl) : PS X (.Assign [tg] e pos) (qw1 te g) := by
 intro pins s σ H D I h
 refine wpAny_Assign_stores (thn (he pins s σ H _ I h) fun v s1 ⟨x, H1, I1, r1, q1⟩ => ?_) hs hw
 rw [h1]
 exact thn (hg pins s1 σ H1 x v _ I1 r1 q1) fun _ s2 q => q
theorem qax {i : Nat} {x : Str} {e : Expr} {te : TE} {pos' : Pos} (hN : X.N.Nodup) (hi : X.N[i]? = some x) (hx : Loc X.env.scope x) (he : PE X e te) (hs : swapsWith e (some (.Name x pos')) pos.line X.env = pure false := by rfl) (hf : X.fn x = true \/ X.env.scope.names.lookup x = some .local := by first | exact .inl rfl | exact .inr rfl | assumption) :
  PS X (.Assign [.Name x pos'] e pos) (qw1 te (qdv i)) := by
 intro pins s σ H D I h
 refine wpAny_Assign_Name (thn (he pins s σ H _ I h) fun v s1 ⟨y, H1, I1, r1, q1⟩ => ?_) hs
 exact qc4 I1 hN hi hx r1 (fun s2 I2 => ⟨_, H1, I2, q1⟩) hf
noncomputable def qx1 (i j : Nat) (ta : TA) : TS := fun D σ H => ta σ H fun vs H1 => ∃ v w, vs = [v, w] /\ D.nx ((σ.set i (some v)).set j (some w)) H1
theorem qtk {i j : Nat} {x y : Str} {a b : Expr} {ta : TA} {px py pt : Pos} {kt k2 pt2} (hc : X.calm = true) (hN : X.N.Nodup) (hi : X.N[i]? = some x) (hj : X.N[j]? = some y) (hij : i ≠ j)
  (hx : X.env.scope.names.lookup x = some .local) (hy : X.env.scope.names.lookup y = some .local) (ha : PA X [a, b] ta)
  (hw : swappedStores [.Tuple [.Name x px, .Name y py] kt pt] (.Tuple [a, b] k2 pt2) X.env = pure (some [x, y]))
  (hs : swapsWithSole [.Tuple [.Name x px, .Name y py] kt pt] (.Tuple [a, b] k2 pt2) pos.line X.env = pure false := by rfl) :
  PS X (.Assign [.Tuple [.Name x px, .Name y py] kt pt] (.Tuple [a, b] k2 pt2) pos) (qx1 i j ta) := by
 intro pins s σ H D I h
 rw [exec_Assign_arm]
 refine wpAny_bind (wpAny_standAt ?_)
 rw [hs]
 refine wpAny_bind (wpAny_pure ?_)
 rw [if_neg (by decide)]
 refine wpAny_bind (Tuple_ (thn (ha _ pins s σ H _ I h) fun us s1 ⟨vs, H1, I1, r1, q1⟩ => ?_))
 obtain ⟨v, w, e1, q1⟩ := q1
 subst e1
 obtain ⟨u1, u2, rfl, rv, rw'⟩ : ∃ u1 u2, us = [u1, u2] /\ RelV v u1 /\ RelV w u2 := by
  cases r1 with
  | cons p q =>
   cases q with
   | cons p' q' =>
    cases q'
    exact ⟨_, _, rfl, p, p'⟩
 refine wpAny_newObj_type ?_ (by show 2 <= sizeLine; decide)
 have I2 : Inv X pins σ H1 { s1 with heap := s1.heap.push { cls := .type "tuple", data := .seq [u1, u2].toArray } } := I1.kept (t' := s1.toks) fun b o e => Heap.get?_push_of_some _ e
 rw [hw]
 refine wpAny_bind (wpAny_pure ?_)
 show wpAny (model X.prog X.w) X.A (do rule "assign.swapped-stores"; let items <- unpackItems (.ref s1.heap.objs.size) 2 none; assignInOrder [fun v => bindName X.env y v, fun v => bindName X.env x v] items.reverse; pure Flow.next) _ _ _
 refine wpAny_bind (wpAny_rule (wpAny_bind (unpackItems_tuple (items := #[u1, u2]) (I.ok.hd hc) (IsTup.new s1.heap _) fun h' hx' => ?_)))
 have I3 := I2.kept (h' := h') (t' := s1.toks) fun b o e => hx' b o (Nat.ne_of_lt (Heap.lt_size e)) e
 show wpAny _ _ (assignInOrder [fun v => bindName X.env y v, fun v => bindName X.env x v] [u2, u1] >>= fun _ => pure Flow.next) _ _ _
 refine wpAny_bind (assignInOrder_cons (wpAny_bindName (qc4 I3 hN hj (.inl hy) rw' (fun s2 I4 => ?_) (.inr hy))))
 refine assignInOrder_cons (wpAny_bindName (qc4 I4 hN hi (.inl hx) rv (fun s3 I5 => assignInOrder_nil (wpAny_pure ?_)) (.inr hx)))
 rw [List.set_comm _ _ (Ne.symm hij)] at I5
 exact ⟨_, H1, I5, q1⟩
end
section
variable {X : Cx} {pos : Pos}
noncomputable def qtm (c : TT) (tb : TS) : TS := fun D σ H => ∃ W : Nat -> St -> Hp -> Prop, (∃ m, W m σ H) /\ ∀ m σ H, W m σ H ->
 c σ H fun b H1 => if b = true then ∃ N : St -> Hp -> Prop, (∀ σ' H', N σ' H' -> ∃ m', m' < m /\ W m' σ' H') /\ tb { D with nx := N, ct := N, bk := D.nx } σ H1 else D.nx σ H1
theorem qpr {c : Expr} {body : List Stmt} {tc : TT} {tb : TS} (hp : PassesOwn (model X.prog X.w) X.A X.env X.xe) (hc : PT X c tc) (hb : PSs X body tb) : PS X (.While c body [] pos) (qtm tc tb) := by
 intro pins s σ H D I h
 obtain ⟨W, ⟨m0, w0⟩, turn⟩ := h
 refine wpAny_While (codeAny_whileLoop (fun n s' => ∃ σ' H', Inv X pins σ' H' s' /\ W n σ' H') ?_ m0 ⟨σ, H, I, w0⟩)
 rintro n s1 ⟨σ1, H1, I1, w1⟩
 refine wpAny_passesOwn hp (thn (hc pins s1 σ1 H1 _ I1 (turn n σ1 H1 w1)) fun b s2 ⟨H2, I2, q2⟩ => ?_)
 cases b with
 | true =>
  obtain ⟨N, hN, q2⟩ := q2
  rw [if_pos rfl]
  refine wpAny_passesOwn hp (thn (hb pins s2 σ1 H2 _ I2 q2) fun f s3 q3 => ?_)
  cases f with
  | next =>
   obtain ⟨σ3, H3, I3, n3⟩ := q3
   obtain ⟨m', hm, w3⟩ := hN σ3 H3 n3
   exact ⟨m', hm, σ3, H3, I3, w3⟩
  | cont =>
   obtain ⟨σ3, H3, I3, n3⟩ := q3
   obtain ⟨m', hm, w3⟩ := hN σ3 H3 n3
   exact ⟨m', hm, σ3, H3, I3, w3⟩
  | brk => exact q3
  | ret v => exact q3
 | false =>
  rw [if_neg Bool.false_ne_true]
  exact wpAny_execs_nil ⟨σ1, H2, I2, q2⟩
end
structure It where
 go : Nat -> Hp -> Prop
 yld : Nat -> Hp -> V -> Hp -> Prop
 stop : Nat -> Hp -> Prop
noncomputable def qg7 (X : Cx) (pins : List (Addr × Obj)) (H : Hp) (b : Addr) : Prop :=
 H b = none /\ b ≠ X.env.locals /\ b ∉ X.fs /\ (b ∈ X.ex \/ X.s₀.heap.objs.size <= b) /\ (∀ x c, X.env.cells.lookup x = some c -> c ≠ b) /\ ∀ p ∈ X.pn ++ pins, p.1 ≠ b
theorem Inv.fpOk {X : Cx} {pins : List (Addr × Obj)} {σ : St} {H H' : Hp} {s : Shared} {b : Addr} (I : Inv X pins σ H s) (hb : s.heap.objs.size <= b) (hn : H' b = none) : qg7 X pins H' b := by
 refine ⟨hn, Nat.ne_of_gt (Nat.lt_of_lt_of_le I.lt hb), I.nofs hb, .inr (Nat.le_trans I.sz hb), fun x c e z => ?_, fun p hp z => ?_⟩
 ·obtain ⟨v, q⟩ := I.cell x c e
  exact absurd (Nat.lt_of_lt_of_le q.lt (by rw [z]; exact hb)) (Nat.lt_irrefl _)
 ·exact absurd (Nat.lt_of_lt_of_le (Heap.lt_size (I.pin p hp).1) (by rw [z]; exact hb)) (Nat.lt_irrefl _)
structure Turn (P : Program) (w : World) (K : PySem.W.Frag) (tg : Expr) (J : It) (fp : List Addr) (it : Addr) (tn : Nat -> Heap -> Prop) : Prop where
 mem : it ∈ fp
 obj : ∀ i h, tn i h -> ∀ b ∈ fp, ∃ o, h.get? b = some o /\ ∀ v, o.data ≠ .cell v
 keep : ∀ i h h', tn i h -> (∀ b ∈ fp, ∀ o, h.get? b = some o -> h'.get? b = some o) -> tn i h'
 item : ∀ (X : Cx), X.prog = P -> X.w = w -> X.K = K -> X.calm = true -> ∀ (i : Nat) (pins : List (Addr × Obj)) (s : Shared) (σ : St) (H : Hp) (E : Value -> Shared -> Prop), Inv X pins σ H s -> (∀ b ∈ fp, qg7 X pins H b) -> tn i s.heap -> J.go i H ->
  wpAny (model P w) X.A (pyNext (.ref it)) (fun r s1 => ∃ u, r = some u /\
   wpAny (model P w) X.A (letOwnedTupleGo tg (.ref it) u) (fun _ s2 => ∃ x H', Inv X pins σ H' s2 /\ RelV x u /\ J.yld i H x H' /\ tn (i + 1) s2.heap /\ ∀ b ∈ fp, H' b = none) E s1) E s
 done : ∀ (X : Cx), X.prog = P -> X.w = w -> X.K = K -> X.calm = true -> ∀ (i : Nat) (pins : List (Addr × Obj)) (s : Shared) (σ : St) (H : Hp) (E : Value -> Shared -> Prop), Inv X pins σ H s -> (∀ b ∈ fp, qg7 X pins H b) -> tn i s.heap -> J.stop i H ->
  wpAny (model P w) X.A (pyNext (.ref it)) (fun r s1 => r = none /\ Inv X pins σ H s1) E s
 self : ∀ (A : Around) (i : Nat) (s : Shared) (Q : Value -> Shared -> Prop) (E : Value -> Shared -> Prop), tn i s.heap -> Q (.ref it) s -> wpAny (model P w) A (pyIter (.ref it)) Q E s
noncomputable abbrev TI := St -> Hp -> (It -> Hp -> Prop) -> Prop
noncomputable def PIE (X : Cx) (pins : List (Addr × Obj)) (σ : St) (tg : Expr) (R : It -> Hp -> Prop) (itv : Value) (s2 : Shared) : Prop :=
 ∃ (it : Addr) (fp : List Addr) (tn : Nat -> Heap -> Prop) (J : It) (H' : Hp), itv = .ref it /\ Inv X pins σ H' s2 /\ Turn X.prog X.w X.K tg J fp it tn /\ tn 0 s2.heap /\ (∀ b ∈ fp, qg7 X pins H' b) /\ R J H'
noncomputable def PI (X : Cx) (tg iter : Expr) (wi : TI) : Prop :=
 ∀ (pins : List (Addr × Obj)) (s : Shared) (σ : St) (H : Hp) (R : It -> Hp -> Prop), Inv X pins σ H s -> wi σ H R ->
  wpAny (model X.prog X.w) X.A (eval iter X.env) (fun v s1 => wpAny (model X.prog X.w) X.A (pyIter v) (PIE X pins σ tg R) X.xe s1) X.xe s
theorem qoo {M : Model} {A : Around} {E : Value -> Shared -> Prop} {s : Shared} {tg : Expr} {it : Addr} {u : Value} {o : Obj} {n : String} {vs : Array Value} {Q : Unit -> Shared -> Prop} (ho : s.heap.get? it = some o) (hc : o.cls = .type n) (hd : o.data = .fields vs)
  (hn : ["enumerate", "zip", "dict_itemiterator", "dict_reverseitemiterator", "odict_iterator", "itertools.zip_longest", "itertools.pairwise"].contains n = false) (hQ : Q () s) : wpAny M A (letOwnedTupleGo tg (.ref it) u) Q E s := by
 unfold letOwnedTupleGo
 cases tg <;> first
  | exact wpAny_pure hQ
  | (cases u <;> first
    | exact wpAny_pure hQ
    | (refine wpAny_bind (wpAny_load ho ?_)
       rw [hc, hd]
       show wpAny M A (if (["enumerate", "zip", "dict_itemiterator", "dict_reverseitemiterator", "odict_iterator", "itertools.zip_longest", "itertools.pairwise"].contains n && vs[0]? == some (rawInt _)) = true then _ else _) Q E s
       rw [if_neg (by intro h; rw [hn, Bool.false_and] at h; cases h)]
       exact wpAny_pure hQ))
noncomputable def Itl (K : PySem.W.Frag) (a : Addr) : It :=
 ⟨fun i H => ∃ xs x, SqL K H a xs /\ xs[i]? = some x, fun i H x H' => H' = H /\ ∀ xs, SqL K H a xs -> xs[i]? = some x, fun i H => ∃ xs, SqL K H a xs /\ xs.length <= i⟩
noncomputable def Itt (K : PySem.W.Frag) (a : Addr) : It :=
 ⟨fun i H => ∃ xs x, SqT K H a xs /\ xs[i]? = some x, fun i H x H' => H' = H /\ ∀ xs, SqT K H a xs -> xs[i]? = some x, fun i H => ∃ xs, SqT K H a xs /\ xs.length <= i⟩
noncomputable def Itr (lo : Int) (n : Nat) : It := ⟨fun i _ => i < n, fun i H x H' => H' = H /\ x = .int (lo + i), fun i _ => n <= i⟩
theorem qnt {P : Program} {w : World} {K : PySem.W.Frag} {tg : Expr} (a it : Addr) : Turn P w K tg (Itl K a) [it] it (fun i h => h.IsListIter it a i) where
 mem := by simp
 obj := fun i h st b hb => by
  have e : b = it := by simpa using hb
  subst e
  obtain ⟨o, e, c, d⟩ := st
  exact ⟨o, e, fun v z => by rw [d] at z; cases z⟩
 keep := fun i h h' st k => st.at fun o e => k it (by simp) o e
 item := by
  intro X hP hw hK hc i pins s σ H E I hf st hg
  subst hP hw hK
  obtain ⟨xs, x, hq, hx⟩ := hg
  obtain ⟨its, rv, p, hz⟩ := I.list hq
  obtain ⟨u, hu, ru⟩ := rv.get hx
  obtain ⟨f0, f1, f2, f3, f4, f5⟩ := hf it (by simp)
  refine wpAny_pyNext_list_item st p.isList (x := u) (by simpa using hu) fun h' st' sb => ?_
  have I1 : Inv X pins σ H { s with heap := h' } := I.turned (t' := s.toks) (fun b o hb e => (sb.2 b hb).trans e) f0 f1 f3 f4 f5
  obtain ⟨o, e, c, d⟩ := id st'
  exact ⟨u, rfl, qoo (s := { s with heap := h' }) e c d (by decide) ⟨x, H, I1, ru, ⟨rfl, fun ys hy => by rw [I.list_inj hy hq]; exact hx⟩, st', fun b hb => (hf b hb).1⟩⟩
 done := by
  intro X hP hw hK hc i pins s σ H E I hf st hg
  subst hP hw hK
  obtain ⟨xs, hq, hx⟩ := hg
  obtain ⟨its, rv, p, hz⟩ := I.list hq
  obtain ⟨f0, f1, f2, f3, f4, f5⟩ := hf it (by simp)
  have hl := rv.length
  exact wpAny_pyNext_list_end (I.ok.hd hc) st p.isList (by simp; omega) fun h' eb => ⟨rfl, I.turned (t' := s.toks) (fun b o hb e => eb b o hb e) f0 f1 f3 f4 f5⟩
 self := fun _ _ _ _ _ st h => wpAny_pyIter_listiter st h
theorem qku {P : Program} {w : World} {K : PySem.W.Frag} {tg : Expr} (a it : Addr) : Turn P w K tg (Itt K a) [it] it (fun i h => h.IsTupleIter it a i) where
 mem := by simp
 obj := fun i h st b hb => by
  have e : b = it := by simpa using hb
  subst e
  obtain ⟨o, e, c, d⟩ := st
  exact ⟨o, e, fun v z => by rw [d] at z; cases z⟩
 keep := fun i h h' st k => st.at fun o e => k it (by simp) o e
 item := by
  intro X hP hw hK hc i pins s σ H E I hf st hg
  subst hP hw hK
  obtain ⟨xs, x, hq, hx⟩ := hg
  obtain ⟨its, rv, p, hz⟩ := I.tuple hq
  obtain ⟨u, hu, ru⟩ := rv.get hx
  obtain ⟨f0, f1, f2, f3, f4, f5⟩ := hf it (by simp)
  refine wpAny_pyNext_tuple_item st (show s.heap.IsTuple a its.toArray from p) (x := u) (by simpa using hu) fun h' st' sb => ?_
  have I1 : Inv X pins σ H { s with heap := h' } := I.turned (t' := s.toks) (fun b o hb e => (sb.2 b hb).trans e) f0 f1 f3 f4 f5
  obtain ⟨o, e, c, d⟩ := id st'
  exact ⟨u, rfl, qoo (s := { s with heap := h' }) e c d (by decide) ⟨x, H, I1, ru, ⟨rfl, fun ys hy => by rw [I.tuple_inj hy hq]; exact hx⟩, st', fun b hb => (hf b hb).1⟩⟩
 done := by
  intro X hP hw hK hc i pins s σ H E I hf st hg
  subst hP hw hK
  obtain ⟨xs, hq, hx⟩ := hg
  obtain ⟨its, rv, p, hz⟩ := I.tuple hq
  obtain ⟨f0, f1, f2, f3, f4, f5⟩ := hf it (by simp)
  have hl := rv.length
  exact wpAny_pyNext_tuple_end (I.ok.hd hc) st (show s.heap.IsTuple a its.toArray from p) (by simp; omega) fun h' eb => ⟨rfl, I.turned (t' := s.toks) (fun b o hb e => eb b o hb e) f0 f1 f3 f4 f5⟩
 self := fun _ _ _ _ _ st h => wpAny_pyIter_tupleiter st h
theorem qla {P : Program} {w : World} {K : PySem.W.Frag} {tg : Expr} (it : Addr) (lo : Int) (n : Nat) : Turn P w K tg (Itr lo n) [it] it (fun i h => IsRangeIter h it (lo + (i : Nat) * 1) ((n : Int) - (i : Nat)) 1) where
 mem := by simp
 obj := fun i h st b hb => by
  have e : b = it := by simpa using hb
  subst e
  exact ⟨_, st, fun v z => by
   have z' : Data.fields _ = Data.cell v := z
   cases z'⟩
 keep := fun i h h' st k => k it (by simp) _ st
 item := by
  intro X hP hw hK hc i pins s σ H E I hf st hg
  subst hP hw hK
  obtain ⟨f0, f1, f2, f3, f4, f5⟩ := hf it (by simp)
  have W := Walks.range (prog := X.prog) (w := X.w) (I.ok.hd hc) it lo 1 n
  refine W.item i s _ _ hg st fun v h' tk hv st' kk => ?_
  obtain ⟨t, rfl⟩ := hv
  have I1 : Inv X pins σ H { s with heap := h', toks := tk } := I.turned (fun b o hb e => kk b o (by simpa using hb) e) f0 f1 f3 f4 f5
  refine ⟨_, rfl, qoo (s := { s with heap := h', toks := tk }) (n := "range_iterator") st' rfl rfl (by decide) ⟨.int (lo + i), H, I1, ⟨t, ?_⟩, ⟨rfl, rfl⟩, st', fun b hb => (hf b hb).1⟩⟩
  rw [Int.mul_one]
 done := by
  intro X hP hw hK hc i pins s σ H E I hf st hg
  subst hP hw hK
  obtain ⟨f0, f1, f2, f3, f4, f5⟩ := hf it (by simp)
  exact wpAny_pyNext_range_end (I.ok.hd hc) st (by have : n <= i := hg; omega) fun h' eb => ⟨rfl, I.turned (t' := s.toks) (fun b o hb e => eb b o hb e) f0 f1 f3 f4 f5⟩
 self := fun _ _ _ _ _ st h => wpAny_pyIter_rangeiter st h
section
variable {X : Cx} {tg : Expr}
noncomputable def qsr (K : PySem.W.Frag) (tl : TE) : TI := fun σ H R => tl σ H fun x H1 => ∃ a, x = .ref a /\ (∃ xs, SqL K H1 a xs) /\ R (Itl K a) H1
noncomputable def qwu (K : PySem.W.Frag) (tl : TE) : TI := fun σ H R => tl σ H fun x H1 => ∃ a, x = .ref a /\ (∃ xs, SqT K H1 a xs) /\ R (Itt K a) H1
theorem qbd {l : Expr} {tl : TE} (hl : PE X l tl) : PI X tg l (qsr X.K tl) := by
 intro pins s σ H R I h
 refine thn (hl pins s σ H _ I h) fun v s1 ⟨x, H1, I1, r1, q1⟩ => ?_
 obtain ⟨a, e, ⟨xs, hq⟩, q⟩ := q1
 subst e
 cases r1
 obtain ⟨its, rv, p, hz⟩ := I1.list hq
 refine wpAny_pyIter_list p.isList ?_
 refine ⟨s1.heap.objs.size, [s1.heap.objs.size], _, _, H1, rfl, I1.kept (t' := s1.toks) fun b o e => Heap.get?_push_of_some _ e, qnt a _, ⟨_, Heap.get?_push_size _ rfl, rfl, rfl⟩, fun b hb => ?_, q⟩
 have e : b = s1.heap.objs.size := by simpa using hb
 subst e
 exact I1.fpOk (Nat.le_refl _) (I1.hok.fresh (Nat.le_refl _))
theorem qda {l : Expr} {tl : TE} (hl : PE X l tl) : PI X tg l (qwu X.K tl) := by
 intro pins s σ H R I h
 refine thn (hl pins s σ H _ I h) fun v s1 ⟨x, H1, I1, r1, q1⟩ => ?_
 obtain ⟨a, e, ⟨xs, hq⟩, q⟩ := q1
 subst e
 cases r1
 obtain ⟨its, rv, p, hz⟩ := I1.tuple hq
 refine wpAny_pyIter_tuple (show s1.heap.IsTuple a its.toArray from p) ?_
 refine ⟨s1.heap.objs.size, [s1.heap.objs.size], _, _, H1, rfl, I1.kept (t' := s1.toks) fun b o e => Heap.get?_push_of_some _ e, qku a _, ⟨_, Heap.get?_push_size _ rfl, rfl, rfl⟩, fun b hb => ?_, q⟩
 have e : b = s1.heap.objs.size := by simpa using hb
 subst e
 exact I1.fpOk (Nat.le_refl _) (I1.hok.fresh (Nat.le_refl _))
theorem qjo {pins : List (Addr × Obj)} {σ : St} {H : Hp} {s : Shared} {R : It -> Hp -> Prop} {E : Value -> Shared -> Prop} {lo hi : Int} {t u v : Tok} {tk : Nat} (I : Inv X pins σ H s) (h1 : -(2 ^ 62) <= lo) (h2 : lo < 2 ^ 62) (h3 : -(2 ^ 62) <= hi) (h4 : hi < 2 ^ 62)
  (q : R (Itr lo (hi - lo).toNat) H) : wpAny (model X.prog X.w) X.A (pyIter (.ref s.heap.objs.size)) (PIE X pins σ tg R) E { s with heap := s.heap.push { cls := .type "range", data := .fields #[.int lo t, .int hi u, .int 1 v] }, toks := tk } := by
 refine wpAny_pyIter_range (IsRange.new ..) (small_one h1 h2 h3 h4) ?_
 have I1 : Inv X pins σ H { s with heap := s.heap.push { cls := .type "range", data := .fields #[.int lo t, .int hi u, .int 1 v] }, toks := tk } := I.kept fun b o e => Heap.get?_push_of_some _ e
 refine ⟨(s.heap.push { cls := .type "range", data := .fields #[.int lo t, .int hi u, .int 1 v] }).objs.size, [(s.heap.push { cls := .type "range", data := .fields #[.int lo t, .int hi u, .int 1 v] }).objs.size], _, _, H, rfl,
  I1.kept (t' := tk) fun b o e => Heap.get?_push_of_some _ e, qla _ lo (hi - lo).toNat, ?_, fun b hb => ?_, q⟩
 ·have e1 : lo + ((0 : Nat) : Int) * 1 = lo := by simp
  have e2 : (((hi - lo).toNat : Nat) : Int) - ((0 : Nat) : Int) = Builtin.Range.rangeSize lo hi 1 := by rw [rangeSize_one]; split <;> omega
  show IsRangeIter _ _ (lo + ((0 : Nat) : Int) * 1) ((((hi - lo).toNat : Nat) : Int) - ((0 : Nat) : Int)) 1
  rw [e1, e2]
  exact Heap.get?_push_size _ rfl
 ·have e : b = (s.heap.push { cls := .type "range", data := .fields #[.int lo t, .int hi u, .int 1 v] }).objs.size := by simpa using hb
  subst e
  exact I1.fpOk (Nat.le_refl _) (I1.hok.fresh (Nat.le_refl _))
noncomputable def qwf (ta : TA) : TI := fun σ H R => ta σ H fun vs H1 => ∃ j : Int, vs = [.int j] /\ -(2 ^ 62) <= j /\ j < 2 ^ 62 /\ R (Itr 0 j.toNat) H1
noncomputable def qv3 (ta : TA) : TI := fun σ H R => ta σ H fun vs H1 => ∃ i j : Int, vs = [.int i, .int j] /\ (-(2 ^ 62) <= i /\ i < 2 ^ 62 /\ -(2 ^ 62) <= j /\ j < 2 ^ 62) /\ R (Itr i (j - i).toNat) H1
theorem qcg {a : Expr} {ta : TA} {p pos : Pos} (hg : Gl X "range") (hm : X.mg "range" = none) (ha : PA X [a] ta) (hs : starEach [a] X.env = [(false, eval a X.env)] := by rfl) : PI X tg (.Call (.Name "range" p) [a] [] pos) (qwf ta) := by
 intro pins s σ H R I h
 refine Call_ (qfk I hg hm boot_range (PyProof.Rows.callWith_type1 (thn (ha pos pins s σ H _ I h) fun us s1 ⟨vs, H1, I1, r1, q1⟩ => ?_) hs rfl))
 obtain ⟨j, e, q1, q2, q⟩ := q1
 subst e
 cases r1 with
 | cons r rr =>
  cases rr
  obtain ⟨t, rfl⟩ := r
  exact call_range_1 (qjo I1 (by omega) (by omega) q1 q2 (by simpa using q))
theorem qg8 {a b : Expr} {ta : TA} {p pos : Pos} (hg : Gl X "range") (hm : X.mg "range" = none) (ha : PA X [a, b] ta) (hs : starEach [a, b] X.env = [(false, eval a X.env), (false, eval b X.env)] := by rfl) (hs2 : starEach [b] X.env = [(false, eval b X.env)] := by rfl) :
  PI X tg (.Call (.Name "range" p) [a, b] [] pos) (qv3 ta) := by
 intro pins s σ H R I h
 refine Call_ (qfk I hg hm boot_range (PyProof.Rows.callWith_type1 (thn (ha pos pins s σ H _ I h) fun us s1 ⟨vs, H1, I1, r1, q1⟩ => ?_) (by rw [hs, hs2]) (by rw [hs2]; rfl)))
 obtain ⟨i, j, e, ⟨q1, q2, q3, q4⟩, q⟩ := q1
 subst e
 cases r1 with
 | cons r rr =>
  cases rr with
  | cons r' rr =>
   cases rr
   obtain ⟨t, rfl⟩ := r
   obtain ⟨t', rfl⟩ := r'
   exact call_range_2 (qjo I1 q1 q2 q3 q4 q)
noncomputable def qwv (wi : TI) (g : TG) (tb : TS) : TS := fun D σ H => wi σ H fun J H1 => ∃ W : Nat -> Nat -> St -> Hp -> Prop, (∃ m, W 0 m σ H1) /\ ∀ i m σ H, W i m σ H ->
 (J.stop i H /\ D.nx σ H) \/ (J.go i H /\ ∃ N : St -> Hp -> Prop, (∀ σ' H', N σ' H' -> ∃ m', m' < m /\ W (i + 1) m' σ' H') /\ ∀ x H', J.yld i H x H' -> g x σ H' fun σ2 H2 => tb { D with nx := N, ct := N, bk := D.nx } σ2 H2)
noncomputable def qf8 (fp : List Addr) (h : Heap) : List (Addr × Obj) := fp.filterMap fun b => (h.get? b).map fun o => (b, o)
theorem qcf {fp : List Addr} {h : Heap} {b : Addr} {o : Obj} (hb : b ∈ fp) (e : h.get? b = some o) : (b, o) ∈ qf8 fp h := List.mem_filterMap.mpr ⟨b, hb, by rw [e]; rfl⟩
theorem qod {fp : List Addr} {h : Heap} {p : Addr × Obj} (hp : p ∈ qf8 fp h) : p.1 ∈ fp /\ h.get? p.1 = some p.2 := by
 obtain ⟨b, hb, e⟩ := List.mem_filterMap.mp hp
 cases q : h.get? b with
 | none => rw [q] at e; cases e
 | some o =>
  rw [q] at e
  have e' : (b, o) = p := Option.some.inj e
  subst e'
  exact ⟨hb, q⟩
theorem Inv.pinned {pins : List (Addr × Obj)} {σ : St} {H : Hp} {s : Shared} {fp : List Addr} (I : Inv X pins σ H s) (hf : ∀ b ∈ fp, qg7 X pins H b) (ho : ∀ b ∈ fp, ∃ o, s.heap.get? b = some o /\ ∀ v, o.data ≠ .cell v) : Inv X (pins ++ qf8 fp s.heap) σ H s :=
 I.pins_of fun p hp => (List.mem_append.mp hp).elim (fun z => I.pin p (List.mem_append_right _ z)) fun z => by
  obtain ⟨hb, e⟩ := qod z
  obtain ⟨f0, f1, f2, _⟩ := hf p.1 hb
  obtain ⟨o, e', d⟩ := ho p.1 hb
  rw [e] at e'; cases e'
  exact ⟨e, f0, f1, f2, d⟩
theorem Inv.unpinned {pins pl : List (Addr × Obj)} {σ : St} {H : Hp} {s : Shared} (I : Inv X (pins ++ pl) σ H s) : Inv X pins σ H s := I.pins_of fun p hp => I.pin p (List.mem_append_right _ (List.mem_append_left _ hp))
theorem qcn {iter : Expr} {body : List Stmt} {wi : TI} {g : TG} {tb : TS} {pos : Pos} (hp : PassesOwn (model X.prog X.w) X.A X.env X.xe) (hc : X.calm = true) (hi : PI X tg iter wi) (hg : PG X tg g) (hb : PSs X body tb)
  (hs : ∀ x, foldedSetIterable iter X.env x = pure x := by intro _; rfl) : PS X (.For tg iter body [] pos) (qwv wi g tb) := by
 intro pins s σ H D I h
 refine wpAny_For (thn (hi pins s σ H _ I h) fun v s1 h1 => thn h1 fun itv s2 h2 => ?_) hs
 obtain ⟨it, fp, tn, J, H2, e, I2, T, st2, f2, W, ⟨m0, w0⟩, turn⟩ := h2
 subst e
 have stat : ∀ {H' : Hp}, (∀ b ∈ fp, H' b = none) -> ∀ b ∈ fp, qg7 X pins H' b := fun hn b hb => ⟨hn b hb, (f2 b hb).2⟩
 refine codeAny_forLoop_any (fun n s' => ∃ i σ' H', Inv X pins σ' H' s' /\ tn i s'.heap /\ (∀ b ∈ fp, H' b = none) /\ W i n σ' H') ?_ m0 ⟨0, σ, H2, I2, st2, fun b hb => (f2 b hb).1, w0⟩
 rintro n s3 ⟨i, σ3, H3, I3, st3, fr3, w3⟩
 rcases turn i n σ3 H3 w3 with ⟨stop, qn⟩ | ⟨go, N, hN, step⟩
 ·refine wpAny_passesOwn hp (thn (T.done X rfl rfl rfl hc i pins s3 σ3 H3 X.xe I3 (stat fr3) st3 stop) fun r s4 ⟨hr, I4⟩ => ?_)
  subst hr
  exact wpAny_execs_nil ⟨σ3, H3, I4, qn⟩
 ·refine wpAny_passesOwn hp (thn (T.item X rfl rfl rfl hc i pins s3 σ3 H3 X.xe I3 (stat fr3) st3 go) fun r s4 ⟨u, hr, h4⟩ => ?_)
  subst hr
  refine wpAny_passesOwn hp (thn h4 fun _ s5 ⟨x, H5, I5, r5, y5, st5, fr5⟩ => ?_)
  have I5' := I5.pinned (stat fr5) (T.obj _ _ st5)
  refine wpAny_passesOwn hp (thn (hg _ s5 σ3 H5 x u _ I5' r5 (step x H5 y5)) fun _ s6 ⟨σ6, H6, I6, q6⟩ => ?_)
  refine wpAny_passesOwn hp (thn (hb _ s6 σ6 H6 _ I6 q6) fun f s7 q7 => ?_)
  have again : ∀ {σ7 : St} {H7 : Hp}, Inv X (pins ++ qf8 fp s5.heap) σ7 H7 s7 -> N σ7 H7 -> ∃ m, m < n /\ ∃ i σ' H', Inv X pins σ' H' s7 /\ tn i s7.heap /\ (∀ b ∈ fp, H' b = none) /\ W i m σ' H' := fun {σ7 H7} I7 n7 => by
   obtain ⟨m', hm, w7⟩ := hN σ7 H7 n7
   refine ⟨m', hm, i + 1, σ7, H7, I7.unpinned, T.keep _ _ _ st5 fun b hb o e => (I7.pin (b, o) (List.mem_append_right _ (List.mem_append_right _ (qcf hb e)))).1, fun b hb => ?_, w7⟩
   obtain ⟨o, e, d⟩ := T.obj _ _ st5 b hb
   exact (I7.pin (b, o) (List.mem_append_right _ (List.mem_append_right _ (qcf hb e)))).2.1
  cases f with
  | next => obtain ⟨σ7, H7, I7, n7⟩ := q7; exact again I7 n7
  | cont => obtain ⟨σ7, H7, I7, n7⟩ := q7; exact again I7 n7
  | brk => obtain ⟨σ7, H7, I7, q7⟩ := q7; exact ⟨σ7, H7, I7.unpinned, q7⟩
  | ret v => obtain ⟨x7, σ7, H7, I7, r7, q7⟩ := q7; exact ⟨x7, σ7, H7, I7.unpinned, r7, q7⟩
end
theorem qdn {K : PySem.W.Frag} {a : Addr} {xs : List V} {g : TG} {tb : TS} {D : Ends} {σ : St} {H : Hp} (Pv : Nat -> St -> Hp -> Prop) (h0 : Pv 0 σ H) (hl : ∀ i σ H, i <= xs.length -> Pv i σ H -> SqL K H a xs)
  (hs : ∀ i x σ H, xs[i]? = some x -> Pv i σ H -> g x σ H fun σ2 H2 => tb { D with nx := Pv (i + 1), ct := Pv (i + 1), bk := D.nx } σ2 H2) (hd : ∀ σ H, Pv xs.length σ H -> D.nx σ H) :
  ∃ W : Nat -> Nat -> St -> Hp -> Prop, (∃ m, W 0 m σ H) /\ ∀ i m σ H, W i m σ H ->
   ((Itl K a).stop i H /\ D.nx σ H) \/ ((Itl K a).go i H /\ ∃ N : St -> Hp -> Prop, (∀ σ' H', N σ' H' -> ∃ m', m' < m /\ W (i + 1) m' σ' H') /\ ∀ x H', (Itl K a).yld i H x H' -> g x σ H' fun σ2 H2 => tb { D with nx := N, ct := N, bk := D.nx } σ2 H2) := by
 refine ⟨fun i m σ H => m = xs.length - i /\ i <= xs.length /\ Pv i σ H, ⟨xs.length, by simp, Nat.zero_le _, h0⟩, ?_⟩
 rintro i m σ H ⟨rfl, hi, p⟩
 have q := hl i σ H hi p
 by_cases hlt : i < xs.length
 ·refine .inr ⟨⟨xs, xs[i], q, by simp [hlt]⟩, Pv (i + 1), fun σ' H' p' => ⟨xs.length - (i + 1), by omega, rfl, hlt, p'⟩, fun x H' y => ?_⟩
  obtain ⟨e, y⟩ := y
  subst e
  exact hs i x σ _ (y xs q) p
 ·have e : i = xs.length := by omega
  subst e
  exact .inl ⟨⟨xs, q, Nat.le_refl _⟩, hd σ H p⟩
theorem qs9 {K : PySem.W.Frag} {a : Addr} {xs : List V} {g : TG} {tb : TS} {D : Ends} {σ : St} {H : Hp} (Pv : Nat -> St -> Hp -> Prop) (h0 : Pv 0 σ H) (hl : ∀ i σ H, i <= xs.length -> Pv i σ H -> SqT K H a xs)
  (hs : ∀ i x σ H, xs[i]? = some x -> Pv i σ H -> g x σ H fun σ2 H2 => tb { D with nx := Pv (i + 1), ct := Pv (i + 1), bk := D.nx } σ2 H2) (hd : ∀ σ H, Pv xs.length σ H -> D.nx σ H) :
  ∃ W : Nat -> Nat -> St -> Hp -> Prop, (∃ m, W 0 m σ H) /\ ∀ i m σ H, W i m σ H ->
   ((Itt K a).stop i H /\ D.nx σ H) \/ ((Itt K a).go i H /\ ∃ N : St -> Hp -> Prop, (∀ σ' H', N σ' H' -> ∃ m', m' < m /\ W (i + 1) m' σ' H') /\ ∀ x H', (Itt K a).yld i H x H' -> g x σ H' fun σ2 H2 => tb { D with nx := N, ct := N, bk := D.nx } σ2 H2) := by
 refine ⟨fun i m σ H => m = xs.length - i /\ i <= xs.length /\ Pv i σ H, ⟨xs.length, by simp, Nat.zero_le _, h0⟩, ?_⟩
 rintro i m σ H ⟨rfl, hi, p⟩
 have q := hl i σ H hi p
 by_cases hlt : i < xs.length
 ·refine .inr ⟨⟨xs, xs[i], q, by simp [hlt]⟩, Pv (i + 1), fun σ' H' p' => ⟨xs.length - (i + 1), by omega, rfl, hlt, p'⟩, fun x H' y => ?_⟩
  obtain ⟨e, y⟩ := y
  subst e
  exact hs i x σ _ (y xs q) p
 ·have e : i = xs.length := by omega
  subst e
  exact .inl ⟨⟨xs, q, Nat.le_refl _⟩, hd σ H p⟩
theorem qdf {lo : Int} {n : Nat} {g : TG} {tb : TS} {D : Ends} {σ : St} {H : Hp} (Pv : Nat -> St -> Hp -> Prop) (h0 : Pv 0 σ H)
  (hs : ∀ i σ H, i < n -> Pv i σ H -> g (.int (lo + i)) σ H fun σ2 H2 => tb { D with nx := Pv (i + 1), ct := Pv (i + 1), bk := D.nx } σ2 H2) (hd : ∀ σ H, Pv n σ H -> D.nx σ H) :
  ∃ W : Nat -> Nat -> St -> Hp -> Prop, (∃ m, W 0 m σ H) /\ ∀ i m σ H, W i m σ H ->
   ((Itr lo n).stop i H /\ D.nx σ H) \/ ((Itr lo n).go i H /\ ∃ N : St -> Hp -> Prop, (∀ σ' H', N σ' H' -> ∃ m', m' < m /\ W (i + 1) m' σ' H') /\ ∀ x H', (Itr lo n).yld i H x H' -> g x σ H' fun σ2 H2 => tb { D with nx := N, ct := N, bk := D.nx } σ2 H2) := by
 refine ⟨fun i m σ H => m = n - i /\ i <= n /\ Pv i σ H, ⟨n, by simp, Nat.zero_le _, h0⟩, ?_⟩
 rintro i m σ H ⟨rfl, hi, p⟩
 by_cases hlt : i < n
 ·refine .inr ⟨hlt, Pv (i + 1), fun σ' H' p' => ⟨n - (i + 1), by omega, rfl, hlt, p'⟩, fun x H' y => ?_⟩
  obtain ⟨e, y⟩ := y
  subst e y
  exact hs i σ _ hlt p
 ·have e : i = n := by omega
  subst e
  exact .inl ⟨Nat.le_refl _, hd σ H p⟩
noncomputable abbrev R2 := V -> V -> Hp -> VK -> Prop
noncomputable def OpR (X : Cx) (f : Value -> Value -> Sem Value) (r : R2) : Prop :=
 ∀ (pins : List (Addr × Obj)) (s : Shared) (σ : St) (H : Hp) (x y : V) (v u : Value) (Q : VK), Inv X pins σ H s -> RelV x v -> RelV y u -> r x y H Q ->
  wpAny (model X.prog X.w) X.A (f v u) (EP X pins σ Q) X.xe s
noncomputable def qb7 (X : Cx) (f : Value) (r : List V -> Hp -> VK -> Prop) : Prop :=
 ∀ (pins : List (Addr × Obj)) (s : Shared) (σ : St) (H : Hp) (xs : List V) (us : List Value) (Q : VK), Inv X pins σ H s -> qba xs us -> r xs H Q ->
  wpAny (model X.prog X.w) X.A (call f us) (EP X pins σ Q) X.xe s
noncomputable def tOp (r : R2) (ta tb : TE) : TE := fun σ H Q => ta σ H fun x H1 => tb σ H1 fun y H2 => r x y H2 Q
noncomputable def rI (C : Int -> Int -> Prop) (g : Int -> Int -> V) : R2 := fun x y H Q => ∃ i j, x = .int i /\ y = .int j /\ C i j /\ Q (g i j) H
noncomputable def rI0 (g : Int -> Int -> V) : R2 := fun x y H Q => ∃ i j, x = .int i /\ y = .int j /\ Q (g i j) H
section
variable {X : Cx} {a b c : Expr} {ta tb tc : TE} {pos : Pos}
theorem qv7 (ha : PE X a ta) (hb : PE X b tb) {pins : List (Addr × Obj)} {s : Shared} {σ : St} {H : Hp} {R : V -> V -> Hp -> Prop} (I : Inv X pins σ H s)
  (h : ta σ H fun x H1 => tb σ H1 fun y H2 => R x y H2) {Q : Value -> Shared -> Prop} {f : Value -> Value -> Sem Value}
  (hf : ∀ v u s2 x y H2, Inv X pins σ H2 s2 -> RelV x v -> RelV y u -> R x y H2 -> wpAny (model X.prog X.w) X.A (f v u) Q X.xe s2) :
  wpAny (model X.prog X.w) X.A (eval a X.env) (fun v s₁ => wpAny (model X.prog X.w) X.A (eval b X.env) (fun u s₂ => wpAny (model X.prog X.w) X.A (f v u) Q X.xe s₂) X.xe s₁) X.xe s := by
 refine thn (ha pins s σ H _ I h) fun v s1 ⟨x, H1, I1, r1, q1⟩ => ?_
 refine thn (hb pins s1 σ H1 _ I1 q1) fun u s2 ⟨y, H2, I2, r2, q2⟩ => ?_
 exact hf v u s2 x y H2 I2 r1 r2 q2
theorem qa4 {op : Operator} {r : R2} (ho : OpR X (binaryOp op) r) (ha : PE X a ta) (hb : PE X b tb) : PE X (.BinOp a op b pos) (tOp r ta tb) := by
 intro pins s σ H Q I h
 exact wpAny_BinOp (qv7 ha hb I h fun v u s2 x y H2 I2 rx ry q => ho pins s2 σ H2 x y v u Q I2 rx ry q)
theorem opI {f : Value -> Value -> Sem Value} {C : Int -> Int -> Prop} {g : Int -> Int -> Int}
  (rule : ∀ (i j : Int) (t u : Tok) (s : Shared) (Q : Value -> Shared -> Prop) (E : Value -> Shared -> Prop), C i j -> Q (.int (g i j) s.toks) { s with toks := s.toks + 1 } -> wpAny (model X.prog X.w) X.A (f (.int i t) (.int j u)) Q E s) :
  OpR X f (rI C fun i j => .int (g i j)) := by
 intro pins s σ H x y v u Q I rx ry h
 obtain ⟨i, j, rfl, rfl, hc, q⟩ := h
 obtain ⟨t, rfl⟩ := rx
 obtain ⟨t', rfl⟩ := ry
 exact rule i j t t' s _ _ hc ⟨.int (g i j), H, I.tok _, ⟨_, rfl⟩, q⟩
theorem qxd {f : Value -> Value -> Sem Value} {g : Int -> Int -> Int}
  (rule : ∀ (i j : Int) (t u : Tok) (s : Shared) (Q : Value -> Shared -> Prop) (E : Value -> Shared -> Prop), Q (.int (g i j) s.toks) { s with toks := s.toks + 1 } -> wpAny (model X.prog X.w) X.A (f (.int i t) (.int j u)) Q E s) :
  OpR X f (rI0 fun i j => .int (g i j)) := by
 intro pins s σ H x y v u Q I rx ry h
 obtain ⟨i, j, rfl, rfl, q⟩ := h
 obtain ⟨t, rfl⟩ := rx
 obtain ⟨t', rfl⟩ := ry
 exact rule i j t t' s _ _ ⟨.int (g i j), H, I.tok _, ⟨_, rfl⟩, q⟩
theorem qvu {f : Value -> Value -> Sem Value} {g : Int -> Int -> Bool}
  (rule : ∀ (i j : Int) (t u : Tok) (s : Shared) (Q : Value -> Shared -> Prop) (E : Value -> Shared -> Prop), Q (.bool (g i j)) s -> wpAny (model X.prog X.w) X.A (f (.int i t) (.int j u)) Q E s) :
  OpR X f (rI0 fun i j => .bl (g i j)) := by
 intro pins s σ H x y v u Q I rx ry h
 obtain ⟨i, j, rfl, rfl, q⟩ := h
 obtain ⟨t, rfl⟩ := rx
 obtain ⟨t', rfl⟩ := ry
 exact rule i j t t' s _ _ ⟨.bl (g i j), H, I, rfl, q⟩
noncomputable def qw6 (i j : Int) : Prop := 0 < j /\ j < 1073741824
noncomputable def qyi (i j : Int) : Prop := 0 <= j /\ j <= 1000000 /\ i.natAbs < 2 ^ 64
noncomputable def qvt (i j : Int) : Prop := (-(2 ^ 64) < i /\ i < 2 ^ 64) \/ (-(2 ^ 64) < j /\ j < 2 ^ 64)
theorem qvt.ok {i j : Int} (h : qvt i j) : IntMulOk i j := by
 rcases h with ⟨h1, h2⟩ | ⟨h1, h2⟩
 ·exact .of_left (intBits_le_64 h1 h2)
 ·exact .of_right (intBits_le_64 h1 h2)
theorem qcu : OpR X (binaryOp .Add) (rI0 fun i j => .int (i + j)) := qxd fun _ _ _ _ _ _ _ q => add_int q
theorem qik : OpR X (binaryOp .Sub) (rI0 fun i j => .int (i - j)) := qxd fun _ _ _ _ _ _ _ q => sub_int q
theorem qhj : OpR X (binaryOp .Mult) (rI qvt fun i j => .int (i * j)) := opI fun _ _ _ _ _ _ _ hc q => mul_int q hc.ok
theorem qix : OpR X (binaryOp .FloorDiv) (rI qw6 fun i j => .int (i / j)) := opI fun i j _ _ _ _ _ hc q => by
 have h1 : (0 : Int) < j := hc.1
 have h2 : j < 1073741824 := hc.2
 exact floordiv_int (by omega) (by rw [Int.fdiv_eq_ediv_of_nonneg i (by omega)]; exact q) (.inl (PyProof.noPylong_small (by omega)))
theorem qel : OpR X (binaryOp .Mod) (rI (fun _ j => 0 < j) fun i j => .int (i % j)) := opI fun i j _ _ _ _ _ hc q => by
 have h1 : (0 : Int) < j := hc
 exact mod_int' (by omega) (by rw [Int.fmod_eq_emod_of_nonneg i (by omega)]; exact q)
theorem qto : OpR X (binaryOp .Pow) (rI qyi fun i j => .int (i ^ j.toNat)) := opI fun _ _ _ _ _ _ _ hc q => pow_int_small hc.1 hc.2.1 hc.2.2 q
end
noncomputable def qxe : V -> V -> Bool
 | .non, .non => true | .non, .int _ => true | .int _, .non => true | .non, .bl _ => true | .bl _, .non => true | .non, .str _ => true | .str _, .non => true
 | .int _, .int _ => true | .bl _, .bl _ => true | .str _, .str _ => true | .byt _, .byt _ => true
 | .int _, .str _ => true | .str _, .int _ => true | .bl _, .str _ => true | .str _, .bl _ => true
 | _, _ => false
noncomputable def rEq : R2 := fun x y H Q => qxe x y = true /\ Q (.bl (decide (x = y))) H
noncomputable def rNe : R2 := fun x y H Q => qxe x y = true /\ Q (.bl (!decide (x = y))) H
theorem qmb {i j : Int} : decide (V.int i = V.int j) = (i == j) := by
 rw [Bool.eq_iff_iff]
 simp
theorem qqt {i j : Bool} : decide (V.bl i = V.bl j) = (i == j) := by
 rw [Bool.eq_iff_iff]
 simp
theorem qnp {i j : Str} : decide (V.str i = V.str j) = (i == j) := by
 rw [Bool.eq_iff_iff]
 simp
theorem qnc {i j : Array UInt8} : decide (V.byt i = V.byt j) = (i.toList == j.toList) := by
 rw [Bool.eq_iff_iff]
 cases i
 cases j
 simp
section
variable {X : Cx} {a b c : Expr} {ta tb tc : TE} {pos : Pos}
theorem qa6 {pins : List (Addr × Obj)} {σ : St} {H : Hp} {s : Shared} {Q : VK} {k k' : Bool} (I : Inv X pins σ H s) (q : Q (.bl k) H) (e : k = k') : EP X pins σ Q (.bool k') s := by
 subst e
 exact ⟨.bl k, H, I, rfl, q⟩
theorem qqm : OpR X (compareOp .Eq) rEq := by
 intro pins s σ H x y v u Q I rx ry h
 obtain ⟨hs, q⟩ := h
 cases x with
 | non =>
  cases rx
  cases y with
  | non => cases ry; exact PySem.EqNone.eq_none_none (qa6 I q (by simp))
  | bl j => cases ry; exact PySem.EqNone.eq_none_bool (qa6 I q (by simp))
  | int j => obtain ⟨t', rfl⟩ := ry; exact PySem.EqNone.eq_none_int (qa6 I q (by simp))
  | str j => obtain ⟨t', rfl⟩ := ry; exact PySem.EqNone.eq_none_str (qa6 I q (by simp))
  | _ => exact absurd (show false = true from hs) Bool.false_ne_true
 | bl i =>
  cases rx
  cases y with
  | non => cases ry; exact PySem.EqNone.eq_bool_none (qa6 I q (by simp))
  | bl j => cases ry; exact eq_bool (qa6 I q qqt)
  | str j => obtain ⟨t', rfl⟩ := ry; exact PySem.EqMixed.eq_bool_str (qa6 I q (by simp))
  | _ => exact absurd (show false = true from hs) Bool.false_ne_true
 | int i =>
  obtain ⟨t, rfl⟩ := rx
  cases y with
  | non => cases ry; exact PySem.EqNone.eq_int_none (qa6 I q (by simp))
  | int j => obtain ⟨t', rfl⟩ := ry; exact eq_int (qa6 I q qmb)
  | str j => obtain ⟨t', rfl⟩ := ry; exact PySem.EqMixed.eq_int_str (qa6 I q (by simp))
  | _ => exact absurd (show false = true from hs) Bool.false_ne_true
 | str i =>
  obtain ⟨t, rfl⟩ := rx
  cases y with
  | non => cases ry; exact PySem.EqNone.eq_str_none (qa6 I q (by simp))
  | bl j => cases ry; exact PySem.EqMixed.eq_str_bool (qa6 I q (by simp))
  | int j => obtain ⟨t', rfl⟩ := ry; exact PySem.EqMixed.eq_str_int (qa6 I q (by simp))
  | str j => obtain ⟨t', rfl⟩ := ry; exact eq_str (qa6 I q qnp)
  | _ => exact absurd (show false = true from hs) Bool.false_ne_true
 | byt i =>
  obtain ⟨t, rfl⟩ := rx
  cases y with
  | byt j => obtain ⟨t', rfl⟩ := ry; exact PySem.W.eq_bytes (qa6 I q qnc)
  | _ => exact absurd (show false = true from hs) Bool.false_ne_true
 | _ => cases y <;> exact absurd (show false = true from hs) Bool.false_ne_true
theorem qi5 : OpR X (compareOp .NotEq) rNe := by
 intro pins s σ H x y v u Q I rx ry h
 obtain ⟨hs, q⟩ := h
 cases x with
 | non =>
  cases rx
  cases y with
  | non => cases ry; exact PySem.EqNone.ne_none_none (qa6 I q (by simp))
  | bl j => cases ry; exact PySem.EqNone.ne_none_bool (qa6 I q (by simp))
  | int j => obtain ⟨t', rfl⟩ := ry; exact PySem.EqNone.ne_none_int (qa6 I q (by simp))
  | str j => obtain ⟨t', rfl⟩ := ry; exact PySem.EqNone.ne_none_str (qa6 I q (by simp))
  | _ => exact absurd (show false = true from hs) Bool.false_ne_true
 | bl i =>
  cases rx
  cases y with
  | non => cases ry; exact PySem.EqNone.ne_bool_none (qa6 I q (by simp))
  | bl j => cases ry; exact ne_bool (qa6 I q (congrArg not qqt))
  | str j => obtain ⟨t', rfl⟩ := ry; exact PySem.EqMixed.ne_bool_str (qa6 I q (by simp))
  | _ => exact absurd (show false = true from hs) Bool.false_ne_true
 | int i =>
  obtain ⟨t, rfl⟩ := rx
  cases y with
  | non => cases ry; exact PySem.EqNone.ne_int_none (qa6 I q (by simp))
  | int j => obtain ⟨t', rfl⟩ := ry; exact ne_int (qa6 I q (congrArg not qmb))
  | str j => obtain ⟨t', rfl⟩ := ry; exact PySem.EqMixed.ne_int_str (qa6 I q (by simp))
  | _ => exact absurd (show false = true from hs) Bool.false_ne_true
 | str i =>
  obtain ⟨t, rfl⟩ := rx
  cases y with
  | non => cases ry; exact PySem.EqNone.ne_str_none (qa6 I q (by simp))
  | bl j => cases ry; exact PySem.EqMixed.ne_str_bool (qa6 I q (by simp))
  | int j => obtain ⟨t', rfl⟩ := ry; exact PySem.EqMixed.ne_str_int (qa6 I q (by simp))
  | str j => obtain ⟨t', rfl⟩ := ry; exact ne_str (qa6 I q (congrArg not qnp))
  | _ => exact absurd (show false = true from hs) Bool.false_ne_true
 | byt i =>
  obtain ⟨t, rfl⟩ := rx
  cases y with
  | byt j => obtain ⟨t', rfl⟩ := ry; exact PySem.W.ne_bytes (qa6 I q (congrArg not qnc))
  | _ => exact absurd (show false = true from hs) Bool.false_ne_true
 | _ => cases y <;> exact absurd (show false = true from hs) Bool.false_ne_true
theorem qme : OpR X (compareOp .Lt) (rI0 fun i j => .bl (decide (i < j))) := qvu fun _ _ _ _ _ _ _ q => lt_int q
theorem qpt : OpR X (compareOp .LtE) (rI0 fun i j => .bl (decide (i <= j))) := qvu fun _ _ _ _ _ _ _ q => le_int q
theorem qn5 : OpR X (compareOp .Gt) (rI0 fun i j => .bl (decide (j < i))) := qvu fun _ _ _ _ _ _ _ q => gt_int q
theorem qob : OpR X (compareOp .Lt) (fun x y H Q => ∃ i j, x = .str i /\ y = .str j /\ Q (.bl (decide (i.cps.toList < j.cps.toList))) H) := by
 intro pins s σ H x y v u Q I rx ry h
 obtain ⟨i, j, rfl, rfl, q⟩ := h
 obtain ⟨t, rfl⟩ := rx
 obtain ⟨t', rfl⟩ := ry
 exact lt_str (qa6 I q rfl)
theorem qbg (b : Expr) {op : CmpOp} (h : op ≠ .In := by decide) (h2 : op ≠ .NotIn := by decide) : behindInMarks op b = false := by
 have e1 : (op == CmpOp.In) = false := by cases op <;> first | rfl | exact absurd rfl h
 have e2 : (op == CmpOp.NotIn) = false := by cases op <;> first | rfl | exact absurd rfl h2
 cases b <;> simp [behindInMarks, e1, e2]
theorem qcc {op : CmpOp} {r : R2} (ho : OpR X (compareOp op) r) (ha : PE X a ta) (hb : PE X b tb) (hm : behindInMarks op b = false) : PE X (.Compare a [op] [b] pos) (tOp r ta tb) := by
 intro pins s σ H Q I h
 exact wpAny_Compare1 (qv7 ha hb I h fun v u s2 x y H2 I2 rx ry q => ho pins s2 σ H2 x y v u Q I2 rx ry q) hm
noncomputable def qtj (t : TE) : TT := fun σ H Q => t σ H fun x H' => ∃ k, x = .bl k /\ Q k H'
theorem qay {op : CmpOp} {r : R2} (ho : OpR X (compareOp op) r) (ha : PE X a ta) (hb : PE X b tb) (hm : behindInMarks op b = false) : PT X (.Compare a [op] [b] pos) (qtj (tOp r ta tb)) := by
 intro pins s σ H Q I h
 refine wpAny_isTrue_Compare1 (thn (ha pins s σ H _ I h) fun v s1 ⟨x, H1, I1, r1, q1⟩ => thn (hb pins s1 σ H1 _ I1 q1) fun u s2 ⟨y, H2, I2, r2, q2⟩ =>
  thn (ho pins s2 σ H2 x y v u _ I2 r1 r2 q2) fun c s3 ⟨z, H3, I3, r3, k, e, q3⟩ => ?_) hm
 subst e
 cases r3
 exact wpAny_truthy_bool ⟨H3, I3, q3⟩
noncomputable def qq0 (r r' : R2) (ta tb tc : TE) : TE := fun σ H Q => ta σ H fun x H1 => tb σ H1 fun y H2 => r x y H2 fun z H3 => ∃ k, z = .bl k /\
 (if k = true then tc σ H3 fun w' H4 => r' y w' H4 Q else Q (.bl false) H3)
theorem qo4 {op op' : CmpOp} {r r' : R2} (ho : OpR X (compareOp op) r) (ho' : OpR X (compareOp op') r') (ha : PE X a ta) (hb : PE X b tb) (hc : PE X c tc)
  (hm : lastMarks [op, op'] [b, c] = false := by with_unfolding_all rfl) : PE X (.Compare a [op, op'] [b, c] pos) (qq0 r r' ta tb tc) := by
 intro pins s σ H Q I h
 refine Compare_chain (thn (ha pins s σ H _ I h) fun v s1 ⟨x, H1, I1, r1, q1⟩ => chain_link (thn (hb pins s1 σ H1 _ I1 q1) fun u s2 ⟨y, H2, I2, r2, q2⟩ =>
  thn (ho pins s2 σ H2 x y v u _ I2 r1 r2 q2) fun d s3 ⟨z, H3, I3, r3, k, e, q3⟩ => ?_)) hm
 subst e
 cases r3
 refine wpAny_truthy_bool ?_
 cases k with
 | false => exact ite_ff ⟨.bl false, H3, I3, rfl, q3⟩
 | true => exact ite_tt (chain_last (thn (hc pins s3 σ H3 _ I3 q3) fun w' s4 ⟨z', H4, I4, r4, q4⟩ => ho' pins s4 σ H4 y z' u w' Q I4 r2 r4 q4))
theorem qko {op op' : CmpOp} {r r' : R2} (ho : OpR X (compareOp op) r) (ho' : OpR X (compareOp op') r') (ha : PE X a ta) (hb : PE X b tb) (hc : PE X c tc)
  (hm : lastMarks [op, op'] [b, c] = false := by with_unfolding_all rfl) : PT X (.Compare a [op, op'] [b, c] pos) (qtj (qq0 r r' ta tb tc)) := by
 intro pins s σ H Q I h
 refine isTrue_chain (thn (ha pins s σ H _ I h) fun v s1 ⟨x, H1, I1, r1, q1⟩ => test_link (thn (hb pins s1 σ H1 _ I1 q1) fun u s2 ⟨y, H2, I2, r2, q2⟩ =>
  thn (ho pins s2 σ H2 x y v u _ I2 r1 r2 q2) fun d s3 ⟨z, H3, I3, r3, k, e, q3⟩ => ?_)) hm
 subst e
 cases r3
 refine wpAny_truthy_bool ?_
 cases k with
 | false =>
  obtain ⟨k', e', q'⟩ := q3
  cases e'
  exact ite_ff ⟨H3, I3, q'⟩
 | true =>
  refine ite_tt (test_last (thn (hc pins s3 σ H3 _ I3 q3) fun w' s4 ⟨z', H4, I4, r4, q4⟩ => thn (ho' pins s4 σ H4 y z' u w' _ I4 r2 r4 q4) fun d' s5 ⟨z2, H5, I5, r5, k2, e2, q5⟩ => ?_))
  subst e2
  cases r5
  exact wpAny_truthy_bool ⟨H5, I5, q5⟩
theorem qfw : (sizeLine : Nat) < 2 ^ 63 := by rw [sizeLine_eq]; decide
theorem qf5 : OpR X (binaryOp .Add) (fun x y H Q => ∃ i j, x = .str i /\ y = .str j /\ i.length + j.length <= sizeLine /\ Q (.str (i ++ j)) H) := by
 intro pins s σ H x y v u Q I rx ry h
 obtain ⟨i, j, rfl, rfl, hz, q⟩ := h
 obtain ⟨t, rfl⟩ := rx
 obtain ⟨t', rfl⟩ := ry
 exact add_str (fun t' tk => ⟨.str (i ++ j), H, I.tok _, ⟨_, rfl⟩, q⟩) hz
theorem vals1 {x : V} {us : List Value} (r : qba [x] us) : ∃ u, us = [u] /\ RelV x u := by
 cases r with
 | cons r1 r2 => cases r2; exact ⟨_, rfl, r1⟩
theorem vals2 {x y : V} {us : List Value} (r : qba [x, y] us) : ∃ u w', us = [u, w'] /\ RelV x u /\ RelV y w' := by
 cases r with
 | cons r1 r2 =>
  cases r2 with
  | cons r3 r4 => cases r4; exact ⟨_, _, rfl, r1, r3⟩
theorem qh6 (hc : X.calm = true) : qb7 X (.builtin "max") (fun xs H Q => ∃ i j, xs = [.int i, .int j] /\ Q (.int (if j > i then j else i)) H) := by
 intro pins s σ H xs us Q I r h
 obtain ⟨i, j, rfl, q⟩ := h
 obtain ⟨u, w', rfl, ⟨t, rfl⟩, ⟨t', rfl⟩⟩ := vals2 r
 refine max_two_ints (I.ok.hd hc) fun h' tk k => ⟨_, H, I.kept k, ?_, q⟩
 by_cases hj : j > i
 ·rw [if_pos hj, if_pos hj]; exact ⟨_, rfl⟩
 ·rw [if_neg hj, if_neg hj]; exact ⟨_, rfl⟩
theorem qdw (hc : X.calm = true) : qb7 X (.builtin "min") (fun xs H Q => ∃ i j, xs = [.int i, .int j] /\ Q (.int (if j < i then j else i)) H) := by
 intro pins s σ H xs us Q I r h
 obtain ⟨i, j, rfl, q⟩ := h
 obtain ⟨u, w', rfl, ⟨t, rfl⟩, ⟨t', rfl⟩⟩ := vals2 r
 refine min_two_ints (I.ok.hd hc) fun h' tk k => ⟨_, H, I.kept k, ?_, q⟩
 by_cases hj : j < i
 ·rw [if_pos hj, if_pos hj]; exact ⟨_, rfl⟩
 ·rw [if_neg hj, if_neg hj]; exact ⟨_, rfl⟩
theorem qmd : qb7 X (.type "int") (fun xs H Q => (∃ i, xs = [.int i] /\ Q (.int i) H) \/ ∃ k, xs = [.bl k] /\ Q (.int (if k then 1 else 0)) H) := by
 intro pins s σ H xs us Q I r h
 rcases h with ⟨i, rfl, q⟩ | ⟨k, rfl, q⟩
 ·obtain ⟨u, rfl, t, rfl⟩ := vals1 r
  exact call_int_int ⟨.int i, H, I, ⟨_, rfl⟩, q⟩
 ·obtain ⟨u, rfl, r1⟩ := vals1 r
  cases r1
  exact call_int_bool ⟨.int (if k then 1 else 0), H, I.tok _, ⟨_, rfl⟩, q⟩
theorem qjc : qb7 X (.builtin "divmod") (fun xs H Q => ∃ i j, xs = [.int i, .int j] /\ qw6 i j /\ ∀ p, H p = none -> Q (.ref p) (upd H p (.tup [.int (i / j), .int (i % j)]))) := by
 intro pins s σ H xs us Q I r h
 obtain ⟨i, j, rfl, ⟨h1, h2⟩, q⟩ := h
 obtain ⟨u, w', rfl, ⟨t, rfl⟩, ⟨t', rfl⟩⟩ := vals2 r
 refine divmod_int (by omega) ?_ (.inl (PyProof.noPylong_small (by omega)))
 rw [Int.fdiv_eq_ediv_of_nonneg i (by omega), Int.fmod_eq_emod_of_nonneg i (by omega)]
 have hn : H s.heap.objs.size = none := I.hok.fresh (Nat.le_refl _)
 refine ⟨.ref s.heap.objs.size, _, ?_, rfl, q _ hn⟩
 refine I.laid (fun b o e => Heap.get?_push_of_some _ e) (Nat.le_refl _) ⟨by simp only [List.length_cons, List.length_nil]; rw [sizeLine_eq]; decide, [.int (i / j) s.toks, .int (i % j) (s.toks + 1)], .cons ⟨_, rfl⟩ (.cons ⟨_, rfl⟩ .nil), ?_⟩
 exact ⟨_, Heap.get?_push_size s.heap rfl, rfl, 0, rfl⟩
end
structure qv0 (h : Heap) (x dx C : Addr) (mA : Str -> Option Value) : Prop where
 obj : h.get? x = some (PySem.W.instObj C dx)
 ns : h.Ns1 dx mA
 ne : dx ≠ x
theorem qnx {h : Heap} {dx : Addr} {mA : Str -> Option Value} (n : h.Ns1 dx mA) : ∃ od, h.get? dx = some od /\ ∀ name, PySem.W.lookIn name od = some (mA name) := by
 obtain ⟨o, es, ep, ho, hd, hk, _, hm⟩ := n
 refine ⟨o, ho, fun name => ?_⟩
 have e := hm name
 unfold nsFind findBy at e
 rw [<- Array.find?_toList] at e
 unfold PySem.W.lookIn
 rw [hd]
 dsimp only
 split
 ·rename_i y q
  rw [q] at e
  exact congrArg some e
 ·rename_i q
  rw [q] at e
  have a : es.toList.any (·.refKey) = false := by
   rw [List.any_eq_false]
   intro y hy
   obtain ⟨z, t, hkey⟩ := hk y (Array.mem_toList_iff.mp hy)
   simp [DictEntry.refKey, hkey]
  have a' : ¬ es.toList.any (·.refKey) = true := by rw [a]; exact Bool.false_ne_true
  rw [if_neg a']
  exact congrArg some e
theorem qv0.look {h : Heap} {x dx C : Addr} {mA : Str -> Option Value} (I : qv0 h x dx C mA) : ∃ od, PySem.W.InstAt h x (PySem.W.instObj C dx) C (some od) /\ ∀ name, PySem.W.lookIn name od = some (mA name) :=
 let ⟨od, ho, hl⟩ := qnx I.ns
 ⟨od, ⟨I.obj, rfl, rfl, ho⟩, hl⟩
section
variable {prog : Program} {w : World} {A : Around} {E : Value -> Shared -> Prop} {s : Shared} {K : PySem.W.Frag} {x dx C f : Addr} {mA : Str -> Option Value} {name : Str} {v : Value}
end
theorem qlm.some_of {v : V} {o : Option Value} (r : qlm (some v) o) : ∃ u, o = some u /\ RelV v u := by
 cases o with
 | none => exact (show False from r).elim
 | some u => exact ⟨u, rfl, r⟩
theorem qm6 {v : V} {u : Value} (r : RelV v u) : PySem.W.handedIn u = true := by
 cases v with
 | non => cases (show u = Value.none from r); rfl
 | bl b => cases (show u = Value.bool b from r); rfl
 | int i => obtain ⟨t, e⟩ := (show ∃ t, u = Value.int i t from r); cases e; rfl
 | str x => obtain ⟨t, e⟩ := (show ∃ t, u = Value.str x t from r); cases e; rfl
 | byt b => obtain ⟨t, e⟩ := (show ∃ t, u = Value.bytes b t from r); cases e; rfl
 | flt b => obtain ⟨t, e⟩ := (show ∃ t, u = Value.float b t from r); cases e; rfl
 | ref a => cases (show u = Value.ref a from r); rfl
 | ty n => cases (show u = Value.type n from r); rfl
section
variable {P : Program} {w : World} {H H' : Hp} {h h' : Heap} {a C dx : Addr} {fs fs' : List (Str × V)}
theorem qsg (hok : HOk P w H h) (e : H a = some (.ins C dx fs)) : ∃ mA, qv0 h a dx C mA /\ (∀ f, qlm (fs.lookup f) (mA f)) /\ PySem.Within mA (fs.map (·.1)) /\ fs.length <= 1000 /\ H dx = some (.own a) := by
 obtain ⟨d, z, ne, ob, mA, n, r, q⟩ := (show qa1 P w H h a (.ins C dx fs) from hok a _ e)
 exact ⟨mA, ⟨ob, n, ne⟩, r, q, z, d⟩
end
structure Cls (K : PySem.W.Frag) (C : Addr) : Prop where
 pg : PySem.W.plainGet K C Str.empty = true
 hd : PySem.W.hasDictIn K C = true
 po : PySem.W.plainOver K C = true
 sa : PySem.W.findIn K (.ref C) "__setattr__" = some (some (.builtin "object.__setattr__"))
theorem Cls.get {K : PySem.W.Frag} {C : Addr} (c : Cls K C) (f : Str) : PySem.W.plainGet K C f = true := c.pg
structure Con (K : PySem.W.Frag) (C : Addr) (f : Str) (v : V) (u : Value) : Prop where
 at_ : PySem.W.findIn K (.ref C) f = some (some u)
 rel : RelV v u
 get : PySem.W.specialIn K u "__get__" = some none
 cp : PySem.W.copiedNames.contains f = false
structure qyo (K : PySem.W.Frag) (C : Addr) (m : Str) (f : Addr) : Prop where
 at_ : PySem.W.findIn K (.ref C) m = some (some (.ref f))
 fn : PySem.W.isFn K (.ref f) = true
 kp : PySem.W.keepIn K (.ref f) = true
section
variable {X : Cx} {pins : List (Addr × Obj)} {σ : St} {H : Hp} {s : Shared} {a C dx : Addr} {fs : List (Str × V)} {f : Str} {v : V} {A : Around} {E : Value -> Shared -> Prop}
theorem qsy {prog : Program} {w : World} {env : Env} {e : Expr} {f : Str} {pos : Pos} {s : Shared} {Q : Value -> Shared -> Prop} (hb : attributeBase e f env (eval e env) = eval e env)
  (h : wpAny (model prog w) A (eval e env) (fun o s₁ => wpAny (model prog w) A (getAttr o f true) Q E s₁) E s) : wpAny (model prog w) A (eval (.Attribute e f pos) env) Q E s :=
 Attribute_any_ h (by rw [arm_eval_Attribute, hb])
end
noncomputable def qwq (X : Cx) (op : Operator) (rd : V -> V -> Hp -> VK -> Prop) : Prop :=
 ∀ (pins : List (Addr × Obj)) (s : Shared) (σ : St) (H : Hp) (x y : V) (u v : Value) (Q : VK), Inv X pins σ H s -> RelV x u -> RelV y v -> rd x y H Q -> wpAny (model X.prog X.w) X.A (inplaceOp op u v) (EP X pins σ Q) X.xe s
section
variable {X : Cx} {o e value : Expr} {f : Str} {pos pos' tpos : Pos} {ta tv : TE}
noncomputable def qx9 : V -> V -> Hp -> VK -> Prop := fun x y H Q => ∃ i j, x = .int i /\ y = .int j /\ Q (.int (i + j)) H
noncomputable def qyg : V -> V -> Hp -> VK -> Prop := fun x y H Q => ∃ i j, x = .int i /\ y = .int j /\ Q (.int (i - j)) H
theorem qu3 : qwq X .Add qx9 := by
 rintro pins s σ H x y u v Q I rx ry ⟨i, j, rfl, rfl, q⟩
 obtain ⟨t, rfl⟩ := (show ∃ t, u = Value.int i t from rx)
 obtain ⟨t', rfl⟩ := (show ∃ t', v = Value.int j t' from ry)
 exact PyProof.Rows.iadd_int ⟨.int (i + j), H, I.tok _, ⟨_, rfl⟩, q⟩
theorem qux : qwq X .Sub qyg := by
 rintro pins s σ H x y u v Q I rx ry ⟨i, j, rfl, rfl, q⟩
 obtain ⟨t, rfl⟩ := (show ∃ t, u = Value.int i t from rx)
 obtain ⟨t', rfl⟩ := (show ∃ t', v = Value.int j t' from ry)
 exact PyProof.Rows.isub_int ⟨.int (i - j), H, I.tok _, ⟨_, rfl⟩, q⟩
end
section
variable {X : Cx} {pins : List (Addr × Obj)} {σ : St} {H : Hp} {s : Shared} {A : Around} {E : Value -> Shared -> Prop} {Q : Value -> Shared -> Prop} {c : Value} {b : Bool}
inductive qld (K : PySem.W.Frag) (H : Hp) : V -> Value -> Prop where
 | non : qld K H .non (.type "NoneType")
 | bl (x : Bool) : qld K H (.bl x) (.type "bool")
 | int (i : Int) : qld K H (.int i) (.type "int")
 | str (x : Str) : qld K H (.str x) (.type "str")
 | flt (x : UInt64) : qld K H (.flt x) (.type "float")
 | lst {a : Addr} {xs : List V} (e : H a = some (.lst xs)) : qld K H (.ref a) (.type "list")
 | frz {a : Addr} {o : Obj} {xs : List V} (e : H a = some (.frz o (.lst xs))) : qld K H (.ref a) (.type "list")
 | tup {a : Addr} {xs : List V} (e : H a = some (.tup xs)) : qld K H (.ref a) (.type "tuple")
 | dK {a : Addr} {kvs : List (Key × V)} (e : H a = some (.dK kvs)) : qld K H (.ref a) (.type "dict")
 | dT {a : Addr} {kvs : List (List Key × V)} (e : H a = some (.dT kvs)) : qld K H (.ref a) (.type "dict")
 | ins {a C dx : Addr} {fs : List (Str × V)} (e : H a = some (.ins C dx fs)) (cl : Cls K C) (ha : PySem.W.findIn K (.ref C) "__class__" = some (some (.builtin "object.__class__")))
   (hn : PySem.W.specialIn K (.builtin "object.__class__") "__get__" = some (some (.builtin "getset_descriptor.__get__"))) (htk : PySem.W.takesIn K (.builtin "object.__class__") = some true)
   (hm : PySem.W.mroIn K C (.type "object") = some true) : qld K H (.ref a) (.ref C)
theorem qnm {x : V} {u t : Value} (I : Inv X pins σ H s) (rx : RelV x u) (ty : qld X.K H x t) (e : PySem.W.kitOne X.K t c = some b) (h : ∀ tk, Q (.bool b) { s with toks := tk }) :
  wpAny (model X.prog X.w) A (call (.builtin "isinstance") [u, c]) Q E s := by
 cases ty with
 | non => cases (show u = Value.none from rx); exact PySem.W.kia_one PySem.W.kitx_none I.kIn True.intro e (fun z => nomatch z) h
 | bl y => cases (show u = Value.bool y from rx); exact PySem.W.kia_one PySem.W.kitx_bool I.kIn True.intro e (fun z => nomatch z) h
 | int i => obtain ⟨t, q⟩ := (show ∃ t, u = Value.int i t from rx); cases q; exact PySem.W.kia_one PySem.W.kitx_int I.kIn True.intro e (fun z => nomatch z) h
 | str y => obtain ⟨t, q⟩ := (show ∃ t, u = Value.str y t from rx); cases q; exact PySem.W.kia_one PySem.W.kitx_str I.kIn True.intro e (fun z => nomatch z) h
 | flt y => obtain ⟨t, q⟩ := (show ∃ t, u = Value.float y t from rx); cases q; exact PySem.W.kia_one PySem.W.kitx_float I.kIn True.intro e (fun z => nomatch z) h
 | @lst a xs ea =>
  cases (show u = Value.ref a from rx)
  obtain ⟨_, _, n, _, h1⟩ := (show qa1 X.prog X.w H s.heap a (.lst xs) from I.hok a _ ea)
  exact PySem.W.kia_one PySem.W.kitx_list I.kIn ⟨_, h1, rfl⟩ e (fun z => nomatch z) h
 | @frz a ob xs ea =>
  cases (show u = Value.ref a from rx)
  obtain ⟨_, _, _, n, _, h1⟩ := (show qa1 X.prog X.w H s.heap a (.frz ob (.lst xs)) from I.hok a _ ea)
  exact PySem.W.kia_one PySem.W.kitx_list I.kIn ⟨_, h1, rfl⟩ e (fun z => nomatch z) h
 | @tup a xs ea =>
  cases (show u = Value.ref a from rx)
  obtain ⟨_, _, _, p⟩ := (show qa1 X.prog X.w H s.heap a (.tup xs) from I.hok a _ ea)
  obtain ⟨o, h1, h2, _⟩ := p
  exact PySem.W.kia_one PySem.W.kitx_tuple I.kIn ⟨o, h1, h2⟩ e (fun z => nomatch z) h
 | @dK a kvs ea =>
  cases (show u = Value.ref a from rx)
  obtain ⟨_, _, vs, _, p⟩ := (show qa1 X.prog X.w H s.heap a (.dK kvs) from I.hok a _ ea)
  obtain ⟨o, es, ep, h1, h2, _⟩ := p
  exact PySem.W.kia_one PySem.W.kitx_dict I.kIn ⟨o, h1, h2.1⟩ e (fun z => nomatch z) h
 | @dT a kvs ea =>
  cases (show u = Value.ref a from rx)
  obtain ⟨_, _, xs, _, o, es, ep, h1, h2, _⟩ := (show qa1 X.prog X.w H s.heap a (.dT kvs) from I.hok a _ ea)
  exact PySem.W.kia_one PySem.W.kitx_dict I.kIn ⟨o, h1, h2.1⟩ e (fun z => nomatch z) h
 | @ins a C dx fs ea cl ha hn htk hm =>
  cases (show u = Value.ref a from rx)
  obtain ⟨mA, O, _⟩ := qsg I.hok ea
  obtain ⟨od, J, _⟩ := O.look
  exact PySem.W.kia_one (PySem.W.kitx_own (cl.get _) cl.hd ha hn htk hm) I.kIn J e (fun z => nomatch z) h
end
structure qcl (k : Nat) (A : Around) : Prop where
 hd : A.handled = none
 dp : A.depth + 3 * k + 5 < recursionLimit
 un : A.units + 16 * k + 200 < cLine
 gd : A.guards = some []
theorem qcl.mono {j k : Nat} {A : Around} (r : qcl k A) (h : j <= k) : qcl j A := ⟨r.hd, by have := r.dp; omega, by have := r.un; omega, r.gd⟩
theorem qcl.deeper {k : Nat} {A : Around} (r : qcl (k + 1) A) (env : Env) : qcl k (A.deeper env) :=
 ⟨r.hd, by have := r.dp; show A.depth + 1 + 3 * k + 5 < _; omega, by have := r.un; show A.units + 3 + 16 * k + 200 < _; omega, r.gd⟩
theorem qlf {A : Around} {C : Addr} {us : List Value} {kw : List (Str × Value)} : (A.under (.builtin "type.__call__" ⟨.ref C :: us, kw⟩)).depth = A.depth + 1 := by
 first | rfl | simp [Around.under, Code.weight, Code.isCreation, Code.isGuard, Code.isCaller, Code.frames, Code.isFrame, guardIds]
theorem qkv {A : Around} {C : Addr} {us : List Value} {kw : List (Str × Value)} : (A.under (.builtin "type.__call__" ⟨.ref C :: us, kw⟩)).units = A.units + 1 := by
 first | rfl | simp [Around.under, Code.cUnits, Code.frames, Code.isFrame]
theorem qcl.make {k : Nat} {A : Around} (r : qcl (k + 1) A) (C : Addr) (us : List Value) (kw : List (Str × Value)) : qcl k (A.under (.builtin "type.__call__" ⟨.ref C :: us, kw⟩)) :=
 ⟨r.hd, by have := r.dp; rw [qlf]; omega, by have := r.un; rw [qkv]; omega, by first | exact r.gd | simpa [Around.under, Code.isGuard, guardIds] using r.gd⟩
theorem qcl.depth {k : Nat} {A : Around} (r : qcl k A) : A.depth < recursionLimit := by have := r.dp; omega
theorem qcl.units {k : Nat} {A : Around} (r : qcl k A) : A.units + 64 < cLine := by have := r.un; omega
noncomputable def qxu : TA := fun _ H Q => Q [] H
noncomputable def qud (ta : TE) (tr : TA) : TA := fun σ H Q => ta σ H fun x H1 => tr σ H1 fun xs H2 => Q (x :: xs) H2
section
variable {X : Cx} {e : Expr} {es : List Expr} {te : TE} {t : TA} {pos : Pos}
theorem qac : PA X [] qxu := fun _ _ _ _ H Q I h => Calls.spliced_nil ⟨[], H, I, .nil, h⟩
theorem qaa (ha : PE X e te) (hr : PA X es t) (hs : starEach (e :: es) X.env = (false, eval e X.env) :: starEach es X.env := by rfl) : PA X (e :: es) (qud te t) := by
 intro pos pins s σ H Q I h
 rw [hs]
 show wpAny _ _ (spliced ((false, eval e X.env) :: backTo pos (starEach es X.env))) _ _ s
 refine Calls.spliced_cons (thn (ha pins s σ H _ I h) fun u s1 ⟨x, H1, I1, r1, q1⟩ => ?_)
 exact thn (hr pos pins s1 σ H1 _ I1 q1) fun us s2 ⟨xs, H2, I2, r2, q2⟩ => ⟨x :: xs, H2, I2, .cons r1 r2, q2⟩
noncomputable def qx0 (t : TA) : TE := fun σ H Q => t σ H fun xs H1 => xs.length <= sizeLine /\ ∀ p, H1 p = none -> Q (.ref p) (upd H1 p (.tup xs))
noncomputable def qyn (t : TA) : TE := fun σ H Q => t σ H fun xs H1 => xs.length <= sizeLine /\ ∀ p, H1 p = none -> Q (.ref p) (upd H1 p (.lst xs))
theorem qcr {x1} (h : PA X es t) : PE X (.Tuple es x1 pos) (qx0 t) := by
 intro pins s σ H Q I hq
 refine wpAny_Tuple_spliced (thn (h pos pins s σ H _ I hq) fun us s1 ⟨xs, H1, I1, r, z, q⟩ => ⟨by rw [<- r.length]; exact z, ?_⟩)
 have hf : H1 s1.heap.objs.size = none := I1.hok.fresh (Nat.le_refl _)
 refine ⟨.ref s1.heap.objs.size, upd H1 s1.heap.objs.size (.tup xs), I1.laid (t' := s1.toks) (fun b u e => Heap.get?_push_of_some _ e) (Nat.le_refl _) ?_, rfl, q _ hf⟩
 exact ⟨z, us, r, ⟨_, Heap.get?_push_size _ rfl, rfl, _, rfl⟩⟩
theorem qbv (h : PA X es t) : PE X (.List es pos) (qyn t) := by
 intro pins s σ H Q I hq
 refine wpAny_List_spliced (thn (h pos pins s σ H _ I hq) fun us s1 ⟨xs, H1, I1, r, z, q⟩ => ⟨by rw [<- r.length]; exact z, ?_⟩)
 have hf : H1 s1.heap.objs.size = none := I1.hok.fresh (Nat.le_refl _)
 refine ⟨.ref s1.heap.objs.size, upd H1 s1.heap.objs.size (.lst xs), I1.laid (t' := s1.toks) (fun b u e => Heap.get?_push_of_some _ e) (Nat.le_refl _) ?_, rfl, q _ hf⟩
 exact ⟨z, us, 0, r, Heap.get?_push_size _ rfl⟩
end
noncomputable abbrev Sp := List V -> Hp -> VK -> XK -> Prop
noncomputable abbrev CXT := List Env -> Hp -> Shared -> XK -> Value -> Shared -> Prop
structure qpx (P : Program) (w : World) (K : PySem.W.Frag) (mg : Str -> Option Value) (base : Heap) (A : Around) (outer : List Env) (s : Shared) (H : Hp) : Prop where
 frames : A.frames = some outer
 mod : Mod K mg base
 bs : ∀ b o, base.get? b = some o -> s.heap.get? b = some o /\ H b = none
 bsz : base.objs.size <= s.heap.objs.size
 funs : s.heap.FunFrames base outer
 frf : ∀ b ∈ frs outer, H b = none
 hok : HOk P w H s.heap
 bare : AllBare s.gens
noncomputable def CE (outer : List Env) (P : Program) (w : World) (H : Hp) (s : Shared) (Q : VK) (u : Value) (s' : Shared) : Prop :=
 ∃ v H', s'.os = s.os /\ AllBare s'.gens /\ Un (frs outer) [] H H' s.heap s'.heap /\ HOk P w H' s'.heap /\ RelV v u /\ Q v H'
noncomputable def CR (CX : CXT) (outer : List Env) (P : Program) (w : World) (H : Hp) (s : Shared) (Q : VK) (E : XK) (r : Result) (s' : Shared) : Prop :=
 match r with
 | .ok (.ret u) => CE outer P w H s Q u s'
 | .ok _ => False
 | .error e => CX outer H s E e s'
structure qca (P : Program) (w : World) (K : PySem.W.Frag) (mg : Str -> Option Value) (base : Heap) (CX : CXT) (k : Nat) (f : Addr) (fd : FuncData) (ps : List Str) (sp : Sp) : Prop where
 len : ∀ vs H Q E, sp vs H Q E -> vs.length = ps.length
 run : ∀ (A : Around) (outer : List Env) (s : Shared) (H : Hp) (args : Args) (us : List Value) (vs : List V) (Q : VK) (E : XK), qcl k A -> qpx P w K mg base A outer s H -> BindsTo s fd args (ps.zip us) -> qba vs us -> sp vs H Q E ->
  codeAny (model P w) A (.call (.ref f) args) (CR CX outer P w H s Q E) s
theorem qpx.make {P : Program} {w : World} {K : PySem.W.Frag} {mg : Str -> Option Value} {base : Heap} {A : Around} {outer : List Env} {s : Shared} {H : Hp} (e : qpx P w K mg base A outer s H) (C : Addr) (us : List Value) (kw : List (Str × Value)) :
  qpx P w K mg base (A.under (.builtin "type.__call__" ⟨.ref C :: us, kw⟩)) outer s H := ⟨by first | exact e.frames | (simpa [Around.under, Code.envs, Code.isFrame, pushEnvs] using e.frames), e.mod, e.bs, e.bsz, e.funs, e.frf, e.hok, e.bare⟩
section
variable {X : Cx} {pins : List (Addr × Obj)} {σ : St} {H : Hp} {s s' : Shared}
theorem Inv.env0 (I : Inv X pins σ H s) : qpx X.prog X.w X.K X.mg X.base X.A X.stack s H :=
 ⟨I.ok.frames, I.ok.mod, I.bs, Nat.le_trans I.ok.bsz I.sz, I.stack, I.stkFree, I.hok, I.bare⟩
theorem Inv.after {Q : VK} {u : Value} (I : Inv X pins σ H s) (h : CE X.stack X.prog X.w H s Q u s') : EP X pins σ Q u s' := by
 obtain ⟨v, H', os, bare, un, hok, r, q⟩ := h
 obtain ⟨hh, g, d, t, os'⟩ := s'
 obtain rfl : os' = s.os := os
 exact ⟨v, H', I.call (h' := hh) (g' := g) (d' := d) (t' := t) (ch := []) un hok bare (fun b z => absurd z (by simp)), r, q⟩
end
noncomputable def qoh (sp : Sp) (dvs : List V) (E : XK) (t : TA) : TE := fun σ H Q => t σ H fun vs H1 => sp (vs ++ dvs) H1 Q E
noncomputable def Binds (K : PySem.W.Frag) (fd : FuncData) (ps : List Str) (ds : List Value) : Prop :=
 ∀ (s : Shared) (us : List Value), K.In s.heap -> (us ++ ds).length = ps.length -> BindsTo s fd ⟨us, []⟩ (ps.zip (us ++ ds))
theorem Binds.all {K : PySem.W.Frag} {fd : FuncData} {ps : List Str} (h : ∀ us : List Value, us.length = ps.length -> bindArgs fd ⟨us, []⟩ = pure (ps.zip us)) : Binds K fd ps [] := fun s us _ hl => by
 rw [List.append_nil] at hl ⊢
 exact .of_eq (h us hl)
noncomputable def qfb (CX : CXT) (X : Cx) (E : XK) : Prop := ∀ (pins : List (Addr × Obj)) (σ : St) (H : Hp) (s : Shared) (e : Value) (s' : Shared), Inv X pins σ H s -> CX X.stack H s E e s' -> X.xe e s'
section
variable {X : Cx} {CX : CXT} {k : Nat} {f C : Addr} {fd : FuncData} {ps : List Str} {sp : Sp} {dvs : List V} {ds : List Value} {E : XK} {x m : Str} {p pos apos : Pos} {e o : Expr} {es : List Expr} {ta : TE} {t : TA}
theorem qu0 {pins : List (Addr × Obj)} {σ : St} {H : Hp} {s : Shared} {Q : VK} {us : List Value} {vs : List V} (F : qca X.prog X.w X.K X.mg X.base CX k f fd ps sp) (hr : qcl k X.A) (hb : Binds X.K fd ps ds) (hd : qba dvs ds) (hx : qfb CX X E)
  (I : Inv X pins σ H s) (r : qba vs us) (h : sp (vs ++ dvs) H Q E) : wpAny (model X.prog X.w) X.A (call (.ref f) us) (EP X pins σ Q) X.xe s := by
 have r2 : qba (vs ++ dvs) (us ++ ds) := r.append hd
 have hl : (us ++ ds).length = ps.length := by rw [<- r2.length]; exact F.len _ _ _ _ h
 refine wpAny_call (codeAny_mono (F.run X.A X.stack s H ⟨us, []⟩ (us ++ ds) (vs ++ dvs) Q E hr I.env0 (hb s us I.kIn hl) r2 h) fun r s' hq => ?_)
 cases r with
 | error e => exact hx pins σ H s e s' I hq
 | ok fl =>
  cases fl with
  | ret u => exact I.after hq
  | next => exact False.elim hq
  | brk => exact False.elim hq
  | cont => exact False.elim hq
theorem qmr (F : qca X.prog X.w X.K X.mg X.base CX k f fd ps sp) (hr : qcl k X.A) (hg : Gl X x) (hm : X.mg x = some (.ref f)) (hk : PySem.W.keepIn X.K (.ref f) = true) (hb : Binds X.K fd ps ds) (hd : qba dvs ds) (hx : qfb CX X E)
  (ha : PA X (e :: es) t) (hdb : (x == ("__debug__" : Str)) = false := by decide) (he : starEach (e :: es) X.env = (false, eval e X.env) :: starEach es X.env := by rfl) (hpl : (backTo pos (starEach es X.env)).any (·.1) = false := by rfl) :
  PE X (.Call (.Name x p) (e :: es) [] pos) (qoh sp dvs E t) := by
 intro pins s σ H Q I h
 refine wpAny_Call_Name_kw (qdt I hg hm ?_ hdb)
 refine PySem.W.callWith_K (h₀ := X.base) I.ok.mod.kin hk (thn (ha pos pins s σ H _ I h) fun us s1 ⟨vs, H1, I1, r, q⟩ => ⟨I1.kIn, ?_⟩) he hpl
 exact qu0 F hr hb hd hx I1 r q
structure Mk (K : PySem.W.Frag) (C f : Addr) : Prop where
 makes : PySem.W.makesIn K C = true
 init : PySem.W.findIn K (.ref C) "__init__" = some (some (.ref f))
 fn : PySem.W.isFn K (.ref f) = true
 kp : PySem.W.keepIn K (.ref C) = true
end
section
variable {X : Cx} {CX : CXT} {k : Nat} {f C : Addr} {fd : FuncData} {ps ks : List Str} {sp : Sp} {E : XK} {x m : Str} {p pos apos kpos : Pos} {e o : Expr} {es : List Expr} {kws : List Keyword} {te ta : TE} {t tk : TA} {nm : Option Str}
structure qxb (K : PySem.W.Frag) (fd : FuncData) (ps ks : List Str) (g : List Value -> List Value -> List Value) (gV : List V -> List V -> List V) : Prop where
 to : ∀ (s : Shared) (us ws : List Value), K.In s.heap -> (g us ws).length = ps.length -> BindsTo s fd ⟨us, ks.zip ws⟩ (ps.zip (g us ws))
 rel : ∀ {vs : List V} {us : List Value} {zs : List V} {ws : List Value}, qba vs us -> qba zs ws -> qba (gV vs zs) (g us ws)
variable {g : List Value -> List Value -> List Value} {gV : List V -> List V -> List V}
end
structure qao (N P : List Str) (sc : Scope) : Prop where
 kind : sc.kind = .function
 co : sc.isCoroutine = false
 gen : sc.isGenerator = false
 nd : N.Nodup
 pre : N.take P.length = P
 par : ∀ x ∈ P, sc.names.lookup x = some .local \/ sc.names.lookup x = some .cell
 nofree : ∀ y ∈ sc.names, y.2 ≠ .free
theorem qh2 {kindOf : Str -> Option NameKind} {x : Str} : ∀ {binds : List (Str × Value)} {m : Str -> Option Value}, (∀ v, (x, v) ∉ binds) -> bindL kindOf binds m x = m x
 | [], _, _ => rfl
 | (n, v) :: r, m, h => by
  unfold bindL
  rw [qh2 fun w hw => h w (List.mem_cons_of_mem _ hw)]
  split
  ·have : x ≠ n := by rintro rfl; exact h v List.mem_cons_self
   simp [this]
  ·rfl
theorem qil {kindOf : Str -> Option NameKind} {x : Str} : ∀ {binds : List (Str × Value)} {m : Str -> Option Value}, (∀ v, (x, v) ∉ binds) -> bindC kindOf binds m x = m x
 | [], _, _ => rfl
 | (n, v) :: r, m, h => by
  unfold bindC
  rw [qil fun w hw => h w (List.mem_cons_of_mem _ hw)]
  split
  ·rfl
  ·have : x ≠ n := by rintro rfl; exact h v List.mem_cons_self
   simp [this]
theorem qe7 {kindOf : Str -> Option NameKind} {x : Str} {v : Value} : ∀ {P : List Str} {vs : List Value} {i : Nat} {m : Str -> Option Value}, P.Nodup -> P[i]? = some x -> vs[i]? = some v -> kindOf x = some .local ->
  bindL kindOf (P.zip vs) m x = some v
 | [], _, _, _, _, h, _, _ => by simp at h
 | _ :: _, [], _, _, _, _, h, _ => by simp at h
 | p :: P, w :: vs, 0, m, nd, h1, h2, hk => by
  simp at h1 h2; subst h1; subst h2
  show bindL kindOf ((p, w) :: P.zip vs) m p = _
  unfold bindL
  rw [qh2 fun v hv => (List.nodup_cons.mp nd).1 (List.of_mem_zip hv).1, if_pos hk]
  simp
 | p :: P, w :: vs, i + 1, m, nd, h1, h2, hk => by
  show bindL kindOf ((p, w) :: P.zip vs) m x = _
  unfold bindL
  exact qe7 (i := i) (List.nodup_cons.mp nd).2 (by simpa using h1) (by simpa using h2) hk
theorem qfi {kindOf : Str -> Option NameKind} {x : Str} {v : Value} : ∀ {P : List Str} {vs : List Value} {i : Nat} {m : Str -> Option Value}, P.Nodup -> P[i]? = some x -> vs[i]? = some v -> kindOf x ≠ some .local ->
  bindC kindOf (P.zip vs) m x = some v
 | [], _, _, _, _, h, _, _ => by simp at h
 | _ :: _, [], _, _, _, _, h, _ => by simp at h
 | p :: P, w :: vs, 0, m, nd, h1, h2, hk => by
  simp at h1 h2; subst h1; subst h2
  show bindC kindOf ((p, w) :: P.zip vs) m p = _
  unfold bindC
  rw [qil fun v hv => (List.nodup_cons.mp nd).1 (List.of_mem_zip hv).1, if_neg hk]
  simp
 | p :: P, w :: vs, i + 1, m, nd, h1, h2, hk => by
  show bindC kindOf ((p, w) :: P.zip vs) m x = _
  unfold bindC
  exact qfi (i := i) (List.nodup_cons.mp nd).2 (by simpa using h1) (by simpa using h2) hk
noncomputable def start (N : List Str) (vs : List V) : St := vs.map some ++ List.replicate (N.length - vs.length) none
noncomputable def qlb (CX : CXT) (P : Program) (w : World) (K : PySem.W.Frag) (mg : Str -> Option Value) (base : Heap) (N : List Str) (qual : Str) (scope : Scope) (f : Addr) (cd : Value) (A : Around) (outer : List Env) (s : Shared) (H : Hp) (E : XK) : Cx where
 prog := P
 w := w
 K := K
 mg := mg
 base := base
 A := A.deeper (envOfC qual scope s.heap.objs.size f cd)
 N := N
 s₀ := s
 H₀ := H
 env := envOfC qual scope s.heap.objs.size f cd
 outer := outer
 stack := envOfC qual scope s.heap.objs.size f cd :: outer
 ex := []
 calm := true
 fn := fun _ => true
 pn := []
 xe := fun e s' => wpAny (model P w) (A.deeper (envOfC qual scope s.heap.objs.size f cd)) (leaving (envOfC qual scope s.heap.objs.size f cd) e) (fun _ s'' => CX outer H s E e s'') (fun e' s'' => CX outer H s E e' s'') s'
theorem qew {sc : Scope} {n : Nat} {x : Str} (h : sc.names.lookup x = some .cell) : ∃ c, (cellsFrom n sc.names []).lookup x = some c := by
 have q := PySem.W.cellsFrom_some sc.names n [] (.inl h)
 exact Option.isSome_iff_exists.mp q
theorem qmj {CX : CXT} {P : Program} {w : World} {K : PySem.W.Frag} {mg : Str -> Option Value} {base : Heap} {N ps : List Str} {qual : Str} {scope : Scope} {f : Addr} {cd : Value} {A : Around} {outer : List Env} {s s1 : Shared} {H : Hp} {E : XK} {us : List Value} {vs : List V}
  (S : qao N ps scope) (hd : A.handled = none) (e0 : qpx P w K mg base A outer s H) (hl : vs.length = ps.length) (r : qba vs us)
  (x : InCallC s s.heap.objs.size (bindL (envOfC qual scope s.heap.objs.size f cd).kindOf (ps.zip us) fun _ => none) (cellsFrom (s.heap.objs.size + 1) scope.names []) (bindC (envOfC qual scope s.heap.objs.size f cd).kindOf (ps.zip us) fun _ => none) s1) :
  Inv (qlb CX P w K mg base N qual scope f cd A outer s H E) [] (start N vs) H s1 := by
 have hpl : ps.length <= N.length := by have := congrArg List.length S.pre; rw [List.length_take] at this; omega
 obtain ⟨h1, tk, rfl, hk⟩ := x.done
 have noA : ∀ b : Addr, b ∉ (qlb CX P w K mg base N qual scope f cd A outer s H E).ex := fun b z => absurd (show b ∈ ([] : List Addr) from z) (by simp)
 refine ⟨⟨e0.mod, S.kind, rfl, rfl, Nat.le_refl _, fun y z c h1 h2 => ?_, fun y hy => ?_, fun y c _ h => ?_, fun _ => hd, Around.frames_deeper e0.frames, .inr ⟨rfl, rfl⟩, fun b z => absurd z (noA b), e0.bs, e0.bsz, fun b _ _ => noA b, fun b z => absurd z (noA b), e0.funs, e0.frf⟩,
  rfl, e0.bare, Un.kept hk, ⟨_, x.toInCall.ns, fun i y v h1 h2 h3 => ?_⟩, fun y c h => ⟨_, x.cell y c h⟩, e0.hok.fresh (Nat.le_refl _), fun y c h => ?_, fun p hp => absurd (show p ∈ ([] : List (Addr × Obj)) from hp) (by simp), e0.hok.kept hk, ?_⟩
 ·exact name_of_addr x.apart (PySem.mem_of_lookup h1) (PySem.mem_of_lookup h2)
 ·have hy : scope.names.lookup y = some .cell \/ scope.names.lookup y = some .free := hy
  rcases hy with hy | hy
  ·exact qew hy
  ·exact absurd rfl (S.nofree _ (PySem.mem_of_lookup hy))
 ·exact Nat.le_of_lt (x.above y c (PySem.mem_of_lookup h))
 ·have hi : i < vs.length := by
   unfold start at h2
   by_cases hi : i < vs.length
   ·exact hi
   ·rw [List.getElem?_append_right (by simpa using hi)] at h2
    rw [List.getElem?_replicate] at h2
    split at h2 <;> cases h2
  have ha : vs[i]? = some v := by
   unfold start at h2
   rw [List.getElem?_append_left (by simpa using hi), List.getElem?_map] at h2
   cases e : vs[i]? with
   | none => rw [e] at h2; cases h2
   | some a => rw [e] at h2; cases h2; rfl
  obtain ⟨u, hu, rv⟩ := r.get ha
  have hp : ps[i]? = some y := by
   rw [<- S.pre, List.getElem?_take_of_lt (by omega)]; exact h1
  have ndP : ps.Nodup := by rw [<- S.pre]; exact S.nd.sublist (List.take_sublist _ _)
  refine ⟨u, rv, ?_⟩
  rcases S.par y (List.mem_of_getElem? hp) with k | k
  ·exact .inl ⟨k, qe7 ndP hp hu k⟩
  ·obtain ⟨c, e⟩ := qew (n := s.heap.objs.size + 1) k
   refine .inr ⟨.inl k, c, e, ?_⟩
   have q := x.cell y c e
   rw [qfi ndP hp hu (by show scope.names.lookup y ≠ _; rw [k]; decide)] at q
   exact q
 ·exact e0.hok.fresh (Nat.le_of_lt (x.above y c (PySem.mem_of_lookup h)))
 ·unfold start
  show _ = N.length
  rw [List.length_append, List.length_map, List.length_replicate]
  omega
theorem qtl {CX : CXT} {P : Program} {w : World} {K : PySem.W.Frag} {mg : Str -> Option Value} {base : Heap} {k : Nat} {f : Addr} {name qual : Str} {params : Arguments} {body : List Stmt} {scope : Scope} {dV kV doc pm cdv ct oc : Value} {an od : Option Addr}
  {osl : Array (Option Value)} {N ps : List Str} {sp : Sp} (lk : K.lookup f = some ⟨oc, od, .func (PySem.W.fnOf name qual params body scope dV kV doc pm an cdv ct), osl⟩) (hcd : PySem.W.codeIn K cdv qual = true) (S : qao N ps scope)
  (len : ∀ vs H Q E, sp vs H Q E -> vs.length = ps.length)
  (hbody : ∀ (A : Around) (outer : List Env) (s : Shared) (H : Hp) (vs : List V) (Q : VK) (E : XK), qcl k (A.deeper (envOfC qual scope s.heap.objs.size f cdv)) -> sp vs H Q E ->
   ∃ t, PSs (qlb CX P w K mg base N qual scope f cdv A outer s H E) body t /\ t { nx := fun _ H' => Q .non H', rt := Q } (start N vs) H) :
  qca P w K mg base CX (k + 1) f (PySem.W.fnOf name qual params body scope dV kV doc pm an cdv ct) ps sp := by
 refine ⟨len, fun A outer s H args us vs Q E hr e0 hb r hsp => ?_⟩
 have hl := len _ _ _ _ hsp
 have KX : K.In s.heap := e0.mod.kin.keeps fun b o e => (e0.bs b o e).1
 have lim : s.heap.NoLimit := e0.mod.nolimit.keeps fun b o e => (e0.bs b o e).1
 have hkind : ∀ y ∈ ps.zip us, scope.names.lookup y.1 = some .local \/ (scope.names.lookup y.1 = some .cell /\ ((cellsFrom (s.heap.objs.size + 1) scope.names []).lookup y.1).isSome = true) := fun ⟨n, v⟩ hy => by
  rcases S.par n (List.of_mem_zip hy).1 with q | q
  ·exact .inl q
  ·exact .inr ⟨q, PySem.W.cellsFrom_some _ _ _ (.inl q)⟩
 refine codeAny_call_function hr.depth (KX _ _ lk) rfl S.co S.gen rfl (PySem.W.codeRec_of KX hcd) (hb _ _ _ _ ?_)
 refine wpAny_newFunctionEnv_cells S.kind hkind fun env he s1 x => ?_
 subst he
 refine ⟨lim.keeps x.toInCall.keep, codeAny_func ?_⟩
 obtain ⟨t, ht, hq⟩ := hbody A outer s H vs Q E (hr.deeper _) hsp
 have I : Inv (qlb CX P w K mg base N qual scope f cdv A outer s H E) [] (start N vs) H s1 := qmj S hr.hd e0 hl r x
 refine wpAny_mono (ht [] s1 (start N vs) H _ I hq) (fun fl s' hs => ?_) fun e s' hs => hs
 have fin : ∀ {σ' : St} {H' : Hp} {v : V} {u : Value}, Inv (qlb CX P w K mg base N qual scope f cdv A outer s H E) [] σ' H' s' -> RelV v u -> Q v H' -> CE outer P w H s Q u s' :=
  fun {σ' H' v u} J rv q => ⟨v, H', J.os, J.bare, J.base, J.hok, rv, q⟩
 cases fl with
 | ret u =>
  obtain ⟨v, σ', H', J, rv, q⟩ := hs
  exact fin J rv q
 | next =>
  obtain ⟨σ', H', J, q⟩ := hs
  exact fin (v := V.non) (u := Value.none) J rfl q
 | brk =>
  obtain ⟨_, _, _, q⟩ := hs
  exact False.elim q
 | cont =>
  obtain ⟨_, _, _, q⟩ := hs
  exact False.elim q
section
variable {X : Cx} {x : Str} {p pos : Pos} {e : Expr} {es : List Expr} {t : TA} {id T : String} {r : List V -> Hp -> VK -> Prop}
noncomputable def tCB (r : List V -> Hp -> VK -> Prop) (t : TA) : TE := fun σ H Q => t σ H fun vs H1 => r vs H1 Q
theorem qaj (hc : qb7 X (.builtin id) r) (hg : Gl X x) (hm : X.mg x = none) (hv : bootBuiltins x = some (.builtin id)) (ha : PA X (e :: es) t) (hn : x ≠ "__name__" := by decide) (hdb : (x == ("__debug__" : Str)) = false := by decide)
  (he : starEach (e :: es) X.env = (false, eval e X.env) :: starEach es X.env := by rfl) (hpl : (backTo pos (starEach es X.env)).any (·.1) = false := by rfl) : PE X (.Call (.Name x p) (e :: es) [] pos) (tCB r t) := by
 intro pins s σ H Q I h
 refine wpAny_Call_Name_kw (qfk I hg hm hv ?_ hn hdb)
 exact PyProof.Rows.callWith_builtin1 (thn (ha pos pins s σ H _ I h) fun us s1 ⟨vs, H1, I1, r1, q1⟩ => hc pins s1 σ H1 vs us Q I1 r1 q1) he hpl
theorem qbs (hc : qb7 X (.type T) r) (hg : Gl X x) (hm : X.mg x = none) (hv : bootBuiltins x = some (.type T)) (ha : PA X (e :: es) t) (hn : x ≠ "__name__" := by decide) (hdb : (x == ("__debug__" : Str)) = false := by decide)
  (he : starEach (e :: es) X.env = (false, eval e X.env) :: starEach es X.env := by rfl) (hpl : (backTo pos (starEach es X.env)).any (·.1) = false := by rfl) : PE X (.Call (.Name x p) (e :: es) [] pos) (tCB r t) := by
 intro pins s σ H Q I h
 refine wpAny_Call_Name_kw (qfk I hg hm hv ?_ hn hdb)
 exact PyProof.Rows.callWith_type1 (thn (ha pos pins s σ H _ I h) fun us s1 ⟨vs, H1, I1, r1, q1⟩ => hc pins s1 σ H1 vs us Q I1 r1 q1) he hpl
end
end L2
namespace HT
open PySem PyProof.Rows
theorem qvh (A : Around) (s : Shared) (a : Int) (t : Tok) (c : Int) (u : Tok) (prog : Program) (w : World) (E : Value -> Shared -> Prop) (Q : Value -> Shared -> Prop) (h : Q (.bool (decide (a < c))) s) :
  wpAny (model prog w) A (richCompare .Lt (.int a t) (.int c u)) Q E s :=
 (PyProof.Rows.lt_int h : wpAny (model prog w) A (compareOp .Lt (.int a t) (.int c u)) Q E s)
section
open PySem.SeqAt
open PySem.AutoSeq1 (wpAny_loadPart')
open PySem.MeetsSeq PySem.MeetsSeq2 PySem.MeetsSeq3
end
section
variable {prog : Program} {w : World} {A : Around} {E : Value -> Shared -> Prop} {s : Shared}
theorem qvv {t b : Addr} {vs ws : List Value} {Q : Value -> Shared -> Prop} (ht : IsTup s.heap t vs.toArray) (hb : IsTup s.heap b ws.toArray) (hv : vs ≠ [])
  (h1 : ws = [] -> Q (.ref t) s) (h2 : ws ≠ [] -> Q (.ref s.heap.objs.size) { s with heap := s.heap.push { cls := .type "tuple", data := .seq (vs ++ ws).toArray } })
  (hsz : vs.length + ws.length <= sizeLine) : wpAny (model prog w) A (binaryOp .Add (.ref t) (.ref b)) Q E s := by
 obtain ⟨⟨cls, dd, data, sl⟩, ho, hc, n, hd⟩ := id ht
 obtain ⟨⟨cls2, dd2, data2, sl2⟩, ho2, hc2, n2, hd2⟩ := id hb
 simp only at hc hd hc2 hd2
 subst hc hd hc2 hd2
 have e : vs.toArray ++ ws.toArray = (vs ++ ws).toArray := by simp
 by_cases hw : ws = []
 ·exact concat_meets ⟨_, ho, rfl⟩ ⟨_, ho2, rfl⟩ noFill_tuple_add seq_tuple_add PySem.F.slot_tuple_add PySem.F.entry_tuple_add (PySem.F.args_tuple_add_2 _ _)
   (tuple_addW1 t b vs.toArray ws.toArray n n2 dd dd2 sl sl2 (by simpa using hv) (by simp [hw])) ⟨ho, ho2, h1 hw⟩
 ·refine concat_meets ⟨_, ho, rfl⟩ ⟨_, ho2, rfl⟩ noFill_tuple_add seq_tuple_add PySem.F.slot_tuple_add PySem.F.entry_tuple_add (PySem.F.args_tuple_add_2 _ _)
   (tuple_addW2 t b vs.toArray ws.toArray n n2 dd dd2 sl sl2 (by simpa using hv) (by simpa using hw) (by rw [List.size_toArray, List.size_toArray]; exact hsz)) ⟨ho, ho2, ?_⟩
  rw [e]
  exact h2 hw
noncomputable def sIx (n d : Nat) : Option Int -> Nat
 | none => d
 | some v => if v < 0 then (v + (n : Int)).toNat else min v.toNat n
theorem qt2 (n d : Nat) (hd : d <= n) (o : Option Int) : sIx n d o <= n := by
 cases o with
 | none => exact hd
 | some v =>
  show (if v < 0 then (v + (n : Int)).toNat else min v.toNat n) <= n
  by_cases hv : v < 0
  ·rw [if_pos hv]; omega
  ·rw [if_neg hv]; exact Nat.min_le_right _ _
theorem qm9 (v : Int) (n d : Nat) : (if v < 0 then max (v + (n : Int)) 0 else min v (n : Int)) = ((sIx n d (some v) : Nat) : Int) := by
 show (if v < 0 then max (v + (n : Int)) 0 else min v (n : Int)) = (((if v < 0 then (v + (n : Int)).toNat else min v.toNat n) : Nat) : Int)
 by_cases hv : v < 0
 ·simp only [if_pos hv]; omega
 ·simp only [if_neg hv]; omega
theorem qk2 (lo hi : Option Int) (n : Nat) : Builtin.Slice.sliceAdjust lo hi 1 (n : Int) = (((sIx n 0 lo : Nat) : Int), ((sIx n n hi : Nat) : Int)) := by
 have h1 : ¬ ((1 : Int) < 0) := by omega
 unfold Builtin.Slice.sliceAdjust
 simp only [h1, if_false]
 refine Prod.ext ?_ ?_
 ·cases lo with
  | none => rfl
  | some v => exact qm9 v n 0
 ·cases hi with
  | none => rfl
  | some v => exact qm9 v n n
theorem qlw (i j : Nat) : Builtin.Slice.slicePlaces (i : Int) (j : Int) 1 = j - i := by
 unfold Builtin.Slice.slicePlaces
 have h1 : (1 : Int) > 0 := by omega
 simp only [h1, if_true, Int.ediv_one]
 split <;> omega
theorem qf1 {v : Value} {o : Option Int} {Q : Option Int -> Shared -> Prop} (p : IsPart v o) (h : Q o s) : wpAny (model prog w) A (Builtin.Slice.slicePartIndex v) Q E s := by
 cases p with
 | none => exact slicePart_none h
 | int i t => exact slicePart_int h
theorem qeq {sl : Addr} {vl vu : Value} {lo hi : Option Int} {n : Nat} {Q : Int × Int × Nat -> Shared -> Prop} (hs : s.heap.IsSliceOf sl vl vu .none) (pl : IsPart vl lo) (pu : IsPart vu hi)
  (h : Q (((sIx n 0 lo : Nat) : Int), 1, sIx n n hi - sIx n 0 lo) s) : wpAny (model prog w) A (Builtin.Slice.sliceApplied (.ref sl) (pure (n : Int))) Q E s := by
 obtain ⟨os, hos, hcs, hds⟩ := id hs
 unfold Builtin.Slice.sliceApplied Builtin.Slice.sliceFields
 refine wpAny_bind (wpAny_bind (wpAny_field hos hds (x := vl) rfl (wpAny_bind (wpAny_field hos hds (x := vu) rfl (wpAny_bind (wpAny_field hos hds (x := .none) rfl (wpAny_pure ?_)))))))
 refine wpAny_bind (slicePart_none ?_)
 show wpAny _ _ (if ((1 : Int) == 0) = true then _ else _) _ _ s
 rw [if_neg (by decide)]
 refine wpAny_bind (qf1 pl (wpAny_bind (qf1 pu (wpAny_bind (wpAny_pure ?_)))))
 show wpAny _ _ (match Builtin.Slice.sliceAdjust lo hi 1 (n : Int) with | (lo, hi) => pure (lo, (1 : Int), Builtin.Slice.slicePlaces lo hi 1)) _ _ s
 rw [qk2 lo hi n]
 show wpAny _ _ (pure (((sIx n 0 lo : Nat) : Int), (1 : Int), Builtin.Slice.slicePlaces ((sIx n 0 lo : Nat) : Int) ((sIx n n hi : Nat) : Int) 1)) _ _ s
 rw [qlw]
 exact wpAny_pure h
theorem qp5 (xs : Array Value) (i k : Nat) : ((List.range k).filterMap fun (m : Nat) => xs[((i : Int) + (m : Int) * 1).toNat]?).toArray = ((xs.toList.drop i).take k).toArray := by
 have e : (fun (m : Nat) => xs[((i : Int) + (m : Int) * 1).toNat]?) = fun m => xs[i + m]? := by
  funext m
  have : ((i : Int) + (m : Int) * 1).toNat = i + m := by omega
  rw [this]
 rw [e]
 have := pick_run xs i k
 rw [List.filterMap_map] at this
 have e2 : ((fun x => xs[x]?) ∘ fun x => i + x) = fun m => xs[i + m]? := rfl
 rw [e2] at this
 rw [this]
theorem qli {t sl : Addr} {items : Array Value} {vl vu : Value} {lo hi : Option Int} {Q : Value -> Shared -> Prop} (ht : IsTup s.heap t items) (hs : s.heap.IsSliceOf sl vl vu .none) (pl : IsPart vl lo) (pu : IsPart vu hi)
  (hw : ¬ (sIx items.size 0 lo = 0 /\ sIx items.size items.size hi = items.size))
  (h : Q (.ref s.heap.objs.size) { s with heap := s.heap.push { cls := .type "tuple", data := .seq ((items.toList.drop (sIx items.size 0 lo)).take (sIx items.size items.size hi - sIx items.size 0 lo)).toArray } })
  (hsz : items.size <= sizeLine) : wpAny (model prog w) A (getItem (.ref t) (.ref sl)) Q E s := by
 have htake : sizeOk (.seq ((items.toList.drop (sIx items.size 0 lo)).take (sIx items.size items.size hi - sIx items.size 0 lo)).toArray) := by
  show ((items.toList.drop (sIx items.size 0 lo)).take (sIx items.size items.size hi - sIx items.size 0 lo)).toArray.size <= sizeLine
  rw [List.size_toArray, List.length_take, List.length_drop, Array.length_toList]
  omega
 have hj : sIx items.size items.size hi <= items.size := qt2 _ _ (Nat.le_refl _) hi
 obtain ⟨os, hos, hcs, hds⟩ := id hs
 have hTs : s.TypeIs (.ref sl) "slice" := ⟨os, hos, hcs⟩
 unfold getItem
 try with_reducible refine wpAny_holding ?_
 first | refine wpAny_bind (wpAny_pure ?_) | skip
 refine wpAny_bind (wpAny_sequenceKey ht.typeIs (by decide) ?_)
 refine wpAny_bind (wpAny_callSpecial?_slot (name := Str.ofString "__getitem__") ht.typeIs PyProof.Rows.slot_tuple_getitem
  (wpAny_call_entry PyProof.Rows.slot_tuple_getitem ht.typeIs entry_tuple_getitem ?_ (args_tuple_getitem _ _)))
 show wpAny _ _ (Builtin.Tuple.tupleItemsOf (.ref t) >>= _) _ _ s
 refine wpAny_bind (tupleItemsOf_ ht ?_)
 refine wpAny_bind (wpAny_typeOf hTs ?_)
 rw [if_pos (by decide)]
 refine wpAny_bind (qeq hs pl pu ?_)
 have hno : ¬ ((((sIx items.size 0 lo : Nat) : Int) == 0 && (1 : Int) == 1 && (sIx items.size items.size hi - sIx items.size 0 lo) == items.size) = true) := by
  intro q
  rw [Bool.and_eq_true, Bool.and_eq_true] at q
  have q1 : ((sIx items.size 0 lo : Nat) : Int) = 0 := eq_of_beq q.1.1
  have q2 : sIx items.size items.size hi - sIx items.size 0 lo = items.size := eq_of_beq q.2
  exact hw ⟨by omega, by omega⟩
 show wpAny _ _ (if (((sIx items.size 0 lo : Nat) : Int) == 0 && (1 : Int) == 1 && (sIx items.size items.size hi - sIx items.size 0 lo) == items.size) = true then _ else _) _ _ s
 rw [if_neg hno, qp5]
 first
  | exact wpAny_bind (m := Builtin.Tuple.tupleExact _) (wpAny_newObj_type (wpAny_pure ⟨_, rfl, wpAny_pure h⟩) htake)
  | exact wpAny_bind (m := Builtin.Tuple.tupleExact _) (wpAny_newObj_type (wpAny_bind (wpAny_pure (wpAny_pure ⟨_, rfl, wpAny_pure h⟩))) htake)
  | exact wpAny_bind (wpAny_bind (m := Builtin.Tuple.tupleExact _) (wpAny_newObj_type (wpAny_pure (wpAny_pure ⟨_, rfl, wpAny_pure h⟩)) htake))
  | exact wpAny_bind (wpAny_bind (m := Builtin.Tuple.tupleExact _) (wpAny_newObj_type (wpAny_pure ⟨_, rfl, wpAny_pure h⟩) htake))
end
end HT
namespace L2
open PySem PySem.Spec PyProof.Rows
noncomputable abbrev TO := St -> Hp -> (Option Int -> Hp -> Prop) -> Prop
noncomputable def PO (X : Cx) (e : Option Expr) (t : TO) : Prop :=
 ∀ (pins : List (Addr × Obj)) (s : Shared) (σ : St) (H : Hp) (Q : Option Int -> Hp -> Prop), Inv X pins σ H s -> t σ H Q ->
  wpAny (model X.prog X.w) X.A (evalPart e X.env) (fun u s' => ∃ o H', Inv X pins σ H' s' /\ IsPart u o /\ Q o H') X.xe s
noncomputable def qr6 : TO := fun _ H Q => Q none H
noncomputable def qwh (t : TE) : TO := fun σ H Q => t σ H fun x H1 => ∃ i, x = .int i /\ Q (some i) H1
section
variable {X : Cx} {e : Expr} {te : TE} {lo hi : Option Expr} {tl th : TO} {pos p2 : Pos}
theorem qef : PO X none qr6 := by
 intro pins s σ H Q I h
 rw [evalPart_none]
 exact wpAny_pure ⟨none, H, I, .none, h⟩
theorem qed (h : PE X e te) : PO X (some e) (qwh te) := by
 intro pins s σ H Q I hw
 rw [evalPart_some]
 refine thn (h pins s σ H _ I hw) fun u s1 ⟨x, H1, I1, r1, q1⟩ => ?_
 obtain ⟨i, rfl, q⟩ := q1
 obtain ⟨t, rfl⟩ := r1
 exact ⟨some i, H1, I1, .int i t, q⟩
noncomputable def SlR (X : Cx) (r : V -> Option Int -> Option Int -> Hp -> VK -> Prop) : Prop :=
 ∀ (pins : List (Addr × Obj)) (s : Shared) (σ : St) (H : Hp) (x : V) (v vl vu : Value) (lo hi : Option Int) (sl : Addr) (Q : VK), Inv X pins σ H s -> RelV x v -> s.heap.IsSliceOf sl vl vu .none -> IsPart vl lo -> IsPart vu hi -> r x lo hi H Q ->
  ∃ T id, typeLookup (.type T) "__getitem__" = pure (some (.builtin id)) /\ s.TypeIs v T /\ wpAny (model X.prog X.w) X.A (getItem v (.ref sl)) (EP X pins σ Q) X.xe s
noncomputable def tSl (r : V -> Option Int -> Option Int -> Hp -> VK -> Prop) (te : TE) (tl th : TO) : TE := fun σ H Q => te σ H fun x H1 => tl σ H1 fun l H2 => th σ H2 fun u H3 => r x l u H3 Q
theorem qdi {r : V -> Option Int -> Option Int -> Hp -> VK -> Prop} (hr : SlR X r) (he : PE X e te) (hl : PO X lo tl) (hu : PO X hi th) : PE X (.Subscript e (.Slice lo hi none p2) pos) (tSl r te tl th) := by
 intro pins s σ H Q I h
 refine Subscript_ (thn (he pins s σ H _ I h) fun v s1 ⟨x, H1, I1, r1, q1⟩ => ?_)
 refine wpAny_Slice (thn (hl pins s1 σ H1 _ I1 q1) fun vl s2 ⟨l, H2, I2, pl, q2⟩ => thn (hu pins s2 σ H2 _ I2 q2) fun vu s3 ⟨u, H3, I3, pu, q3⟩ => ?_)
 rw [evalPart_none]
 refine wpAny_pure ?_
 have I4 : Inv X pins σ H3 { s3 with heap := s3.heap.push { cls := .type "slice", data := .fields #[vl, vu, .none] } } := I3.kept (t' := s3.toks) fun b ob q => Heap.get?_push_of_some _ q
 obtain ⟨T, id, hT, ht, hg⟩ := hr pins { s3 with heap := s3.heap.push { cls := .type "slice", data := .fields #[vl, vu, .none] } } σ H3 x v vl vu l u s3.heap.objs.size Q I4 r1 (Heap.IsSliceOf.new ..) pl pu q3
 show wpAny (model X.prog X.w) X.A (subscriptTail e (.Slice lo hi none p2) v (.ref s3.heap.objs.size)) (EP X pins σ Q) X.xe { s3 with heap := s3.heap.push { cls := .type "slice", data := .fields #[vl, vu, .none] } }
 exact tail_any (ops := [.ref s3.heap.objs.size, v]) ht hT hg (by with_unfolding_all rfl)
noncomputable def qhg (xs : List V) (lo hi : Option Int) : List V := (xs.drop (HT.sIx xs.length 0 lo)).take (HT.sIx xs.length xs.length hi - HT.sIx xs.length 0 lo)
theorem qfa (xs : List V) (lo hi : Option Int) : (qhg xs lo hi).length <= xs.length := by
 unfold qhg
 rw [List.length_take, List.length_drop]
 omega
noncomputable def qyk (K : PySem.W.Frag) : V -> Option Int -> Option Int -> Hp -> VK -> Prop := fun x lo hi H Q => ∃ a xs, x = .ref a /\ SqT K H a xs /\
 ¬ (HT.sIx xs.length 0 lo = 0 /\ HT.sIx xs.length xs.length hi = xs.length) /\ ∀ p, H p = none -> Q (.ref p) (upd H p (.tup (qhg xs lo hi)))
theorem qub : SlR X (qyk X.K) := by
 intro pins s σ H x v vl vu lo hi sl Q I rx hs pl pu h
 obtain ⟨a, xs, rfl, hx, hw, q⟩ := h
 cases rx
 obtain ⟨its, r, ht, hz⟩ := I.tuple hx
 have hlen : its.toArray.size = xs.length := by rw [List.size_toArray]; exact r.length.symm
 refine ⟨"tuple", _, PyProof.Rows.slot_tuple_getitem.lookup, ht.typeIs, ?_⟩
 refine HT.qli ht hs pl pu (by rw [hlen]; exact hw) ?_ (by rw [hlen]; exact hz)
 rw [hlen]
 refine ⟨.ref s.heap.objs.size, _, I.laid (t' := s.toks) (o := .tup (qhg xs lo hi)) (fun b ob q => Heap.get?_push_of_some _ q) (Nat.le_refl _) ?_, rfl, q _ (I.hok.fresh (Nat.le_refl _))⟩
 exact ⟨Nat.le_trans (qfa xs lo hi) hz, _, (r.drop (HT.sIx xs.length 0 lo)).take (HT.sIx xs.length xs.length hi - HT.sIx xs.length 0 lo), IsTup.new _ _⟩
noncomputable def qwr (K : PySem.W.Frag) : R2 := fun x y H Q => ∃ a b xs ys, x = .ref a /\ y = .ref b /\ SqT K H a xs /\ SqT K H b ys /\ xs ≠ [] /\ xs.length + ys.length <= sizeLine /\
 (ys = [] -> Q (.ref a) H) /\ (ys ≠ [] -> ∀ p, H p = none -> Q (.ref p) (upd H p (.tup (xs ++ ys))))
theorem qba.nil_iff {xs : List V} {us : List Value} (r : qba xs us) : us = [] ↔ xs = [] := by
 cases r with
 | nil => simp
 | cons _ _ => simp
theorem qrl : OpR X (binaryOp .Add) (qwr X.K) := by
 intro pins s σ H x y v u Q I rx ry h
 obtain ⟨a, b, xs, ys, rfl, rfl, ha, hb, hx, hz, q1, q2⟩ := h
 cases rx
 cases ry
 obtain ⟨its, r1, p1, _⟩ := I.tuple ha
 obtain ⟨its2, r2, p2, _⟩ := I.tuple hb
 refine HT.qvv p1 p2 (fun z => hx (r1.nil_iff.mp z)) (fun z => ⟨.ref a, H, I, rfl, q1 (r2.nil_iff.mp z)⟩) (fun z => ?_) (by rw [<- r1.length, <- r2.length]; exact hz)
 refine ⟨.ref s.heap.objs.size, _, I.laid (t' := s.toks) (o := .tup (xs ++ ys)) (fun b ob q => Heap.get?_push_of_some _ q) (Nat.le_refl _) ?_, rfl, q2 (fun w => z (r2.nil_iff.mpr w)) _ (I.hok.fresh (Nat.le_refl _))⟩
 exact ⟨by rw [List.length_append]; exact hz, _, r1.append r2, IsTup.new _ _⟩
end
noncomputable def ixN (n : Nat) (i : Int) : Option Nat := if 0 <= i then (if i < n then some i.toNat else none) else if -(n : Int) <= i then some (i + n).toNat else none
noncomputable def atI {α : Type} (xs : List α) (i : Int) : Option α := (ixN xs.length i).bind fun j => xs[j]?
theorem qm7 {n : Nat} {i : Int} {j : Nat} (h : ixN n i = some j) : seqIndex? i n = some j /\ j < n /\ -(n : Int) <= i /\ i < n := by
 unfold ixN at h
 by_cases h0 : 0 <= i
 ·rw [if_pos h0] at h
  by_cases h1 : i < n
  ·rw [if_pos h1] at h
   have e : i.toNat = j := Option.some.inj h
   exact ⟨by rw [seqIndex_of h0 h1, e], by omega, by omega, h1⟩
  ·rw [if_neg h1] at h; cases h
 ·rw [if_neg h0] at h
  by_cases h1 : -(n : Int) <= i
  ·rw [if_pos h1] at h
   have e : (i + n).toNat = j := Option.some.inj h
   exact ⟨by rw [seqIndex_neg (by omega) h1, e], by omega, h1, by omega⟩
  ·rw [if_neg h1] at h; cases h
theorem qjk {α : Type} {xs : List α} {i : Int} {v : α} (h : atI xs i = some v) : ∃ j, seqIndex? i xs.length = some j /\ xs[j]? = some v /\ j < xs.length /\ -(xs.length : Int) <= i /\ i < xs.length := by
 unfold atI at h
 cases e : ixN xs.length i with
 | none => rw [e] at h; cases h
 | some j =>
  rw [e] at h
  obtain ⟨h1, h2, h3, h4⟩ := qm7 e
  exact ⟨j, h1, h, h2, h3, h4⟩
theorem qrx {α : Type} {xs : List α} {j : Nat} {v : α} (h : xs[j]? = some v) : atI xs (j : Int) = some v := by
 have hj : j < xs.length := (List.getElem?_eq_some_iff.mp h).1
 have e : ixN xs.length (j : Int) = some j := by
  unfold ixN
  rw [if_pos (by omega), if_pos (by omega)]; simp
 unfold atI; rw [e]; exact h
noncomputable def qs1 (b : Expr) : Prop := ∀ o i, subscripted b false o i = operate [o, i] (getItem o i)
noncomputable def IxR (X : Cx) (r : R2) : Prop :=
 ∀ (value slice : Expr) (pins : List (Addr × Obj)) (s : Shared) (σ : St) (H : Hp) (x y : V) (v u : Value) (Q : VK), Inv X pins σ H s -> RelV x v -> RelV y u -> r x y H Q ->
  subscripted slice false v u = operate [v, u] (getItem v u) -> wpAny (model X.prog X.w) X.A (subscriptTail value slice v u) (EP X pins σ Q) X.xe s
noncomputable def MtR (X : Cx) (id : String) (r : V -> List V -> Hp -> VK -> Prop) : Prop :=
 ∀ (pins : List (Addr × Obj)) (s : Shared) (σ : St) (H : Hp) (x : V) (xs : List V) (v : Value) (us : List Value) (Q : VK), Inv X pins σ H s -> RelV x v -> qba xs us -> r x xs H Q ->
  wpAny (model X.prog X.w) X.A (call (.builtin id) (v :: us)) (EP X pins σ Q) X.xe s
section
variable {X : Cx} {a b : Expr} {ta tb : TE} {pos : Pos}
theorem IxR.or {r r' : R2} (h : IxR X r) (h' : IxR X r') : IxR X (fun x y H Q => r x y H Q \/ r' x y H Q) := by
 intro value slice pins s σ H x y v u Q I rx ry q hs
 rcases q with q | q
 ·exact h value slice pins s σ H x y v u Q I rx ry q hs
 ·exact h' value slice pins s σ H x y v u Q I rx ry q hs
theorem qa8 {r : R2} (hr : IxR X r) (ha : PE X a ta) (hb : PE X b tb) (hs : qs1 b) : PE X (.Subscript a b pos) (tOp r ta tb) := by
 intro pins s σ H Q I h
 exact Subscript_ (qv7 ha hb I h fun v u s2 x y H2 I2 rx ry q => hr a b pins s2 σ H2 x y v u Q I2 rx ry q (hs _ _))
noncomputable def qwz (K : PySem.W.Frag) : R2 := fun x y H Q => ∃ p xs i v, x = .ref p /\ y = .int i /\ SqL K H p xs /\ atI xs i = some v /\ Q v H
noncomputable def qwx (K : PySem.W.Frag) : R2 := fun x y H Q => ∃ p xs i v, x = .ref p /\ y = .int i /\ SqT K H p xs /\ atI xs i = some v /\ Q v H
noncomputable def qww : R2 := fun x y H Q => ∃ z i c, x = .str z /\ y = .int i /\ z.length <= sizeLine /\ atI z.cps.toList i = some c /\ Q (.str ⟨#[c]⟩) H
theorem qs3 : IxR X (qwz X.K) := by
 intro value slice pins s σ H x y v u Q I rx ry h hs
 obtain ⟨p, xs, i, z, rfl, rfl, hq, he, q⟩ := h
 cases rx
 obtain ⟨t, rfl⟩ := ry
 obtain ⟨its, r, pl, hz⟩ := I.list hq
 obtain ⟨j, h1, h2, h3, h4, h5⟩ := qjk he
 obtain ⟨w, ew, rw'⟩ := r.get h2
 have hl := r.length
 have hn := qfw
 have fin : EP X pins σ Q w s := ⟨z, H, I, rw', q⟩
 by_cases h0 : 0 <= i
 ·have hj : i.toNat = j := by
   rw [seqIndex_of h0 h5] at h1
   exact Option.some.inj h1
  exact item_listR pl.isList h0 (by omega) (by rw [hj]; simpa using ew) fin hs
 ·have hj : (i + (its.toArray.size : Int)).toNat = j := by
   rw [seqIndex_neg (by omega) h4] at h1
   rw [List.size_toArray, <- hl]
   exact Option.some.inj h1
  exact subscriptTail_builtinR (x := w) pl.isList.typeIs slot_list_getitem.lookup
   (wpAny_getItem_list_neg (Q := fun r s' => r = w /\ EP X pins σ Q r s') pl.isList (by omega) (by rw [List.size_toArray] <;> omega) (by omega) (by rw [hj]; simpa using ew) ⟨rfl, fin⟩) hs
theorem qun : IxR X (qwx X.K) := by
 intro value slice pins s σ H x y v u Q I rx ry h hs
 obtain ⟨p, xs, i, z, rfl, rfl, hq, he, q⟩ := h
 cases rx
 obtain ⟨t, rfl⟩ := ry
 obtain ⟨its, r, pl, hz⟩ := I.tuple hq
 obtain ⟨j, h1, h2, h3, h4, h5⟩ := qjk he
 obtain ⟨w, ew, rw'⟩ := r.get h2
 have hl := r.length
 have hn := qfw
 have fin : EP X pins σ Q w s := ⟨z, H, I, rw', q⟩
 exact subscriptTail_builtinR (x := w) pl.typeIs slot_tuple_getitem.lookup
  (getItem_tuple (j := j) (Q := fun r s' => r = w /\ EP X pins σ Q r s') pl (by omega) (by omega) (by rw [List.size_toArray, <- hl]; exact h1) (by simpa using ew) ⟨rfl, fin⟩) hs
theorem qum : IxR X qww := by
 intro value slice pins s σ H x y v u Q I rx ry h hs
 obtain ⟨z, i, c, rfl, rfl, hz, he, q⟩ := h
 obtain ⟨t, rfl⟩ := rx
 obtain ⟨t', rfl⟩ := ry
 obtain ⟨j, h1, h2, h3, h4, h5⟩ := qjk he
 have hl : z.cps.toList.length = z.length := by simp [Str.length]
 rw [hl] at h1 h4 h5
 have hn := qfw
 exact tail_any (typeIs_str s z t) slot_str_getitem.lookup (getItem_str (c := c) (by
  have e1 : decide (i < -(2 ^ 63 : Int)) = false := decide_eq_false (by omega)
  have e2 : decide (i ≥ 2 ^ 63) = false := decide_eq_false (by omega)
  rw [e1, e2, Bool.or_false]) (by rw [h1]; simpa using h2) ⟨.str ⟨#[c]⟩, H, I.tok _, ⟨_, rfl⟩, q⟩) hs
noncomputable def rIx (K : PySem.W.Frag) : R2 := fun x y H Q => qwz K x y H Q \/ qwx K x y H Q \/ qww x y H Q
theorem qa7 : IxR X (rIx X.K) := qs3.or (qun.or qum)
theorem qlj (its : List Value) (n j : Nat) (u : Value) : Obj.mapSeq (·.setIfInBounds j u) { cls := .type "list", data := .seq its.toArray n } = { cls := .type "list", data := .seq (its.set j u).toArray n } := by
 simp [Obj.mapSeq]
theorem Inv.lst {pins : List (Addr × Obj)} {σ : St} {H : Hp} {s : Shared} {p : Addr} {xs : List V} (I : Inv X pins σ H s) (h : H p = some (.lst xs)) :
  ∃ (its : List Value) (n : Nat), qba xs its /\ s.heap.get? p = some { cls := .type "list", data := .seq its.toArray n } /\ xs.length <= sizeLine := by
 obtain ⟨z, its, n, r, e⟩ := I.hok p _ h
 exact ⟨its, n, r, e, z⟩
theorem Inv.lstUpd {pins : List (Addr × Obj)} {σ : St} {H : Hp} {s : Shared} {p : Addr} {xs ys : List V} {its its' : List Value} {n n' : Nat} {f : Obj -> Obj} (I : Inv X pins σ H s) (h : H p = some (.lst xs))
  (ho : s.heap.get? p = some { cls := .type "list", data := .seq its.toArray n }) (hf : f { cls := .type "list", data := .seq its.toArray n } = { cls := .type "list", data := .seq its'.toArray n' }) (r : qba ys its') (hz : ys.length <= sizeLine) (t : Nat) :
  Inv X pins σ (upd H p (.lst ys)) { s with heap := s.heap.update p f, toks := t } := by
 have e : (s.heap.update p f).get? p = some { cls := .type "list", data := .seq its'.toArray n' } := by
  rw [Heap.get?_update_self f ho (by rw [hf] <;> rfl), hf]
 refine I.write (x := p) (e := p) (by rw [h]; trivial) (.inl rfl) (fun b u hb q => (Heap.get?_update_other _ _ (Ne.symm hb)).trans q) ⟨_, e⟩ ?_
 exact ⟨hz, its', n', r, e⟩
noncomputable def qwi : V -> V -> V -> Hp -> (Hp -> Prop) -> Prop := fun o i v H Q => ∃ p xs k j, o = .ref p /\ i = .int k /\ H p = some (.lst xs) /\ ixN xs.length k = some j /\ Q (upd H p (.lst (xs.set j v)))
theorem set_list : qwy X qwi := by
 intro pins s σ H o i v ov iv u Q I ro ri rv h
 obtain ⟨p, xs, k, j, rfl, rfl, hp, hj, q⟩ := h
 cases ro
 obtain ⟨t, rfl⟩ := ri
 obtain ⟨its, n, r, ho, hz⟩ := I.lst hp
 obtain ⟨h1, h2, h3, h4⟩ := qm7 hj
 have hl := r.length
 have hn := qfw
 have I' : Inv X pins σ (upd H p (.lst (xs.set j v))) { s with heap := s.heap.update p (Obj.mapSeq (·.setIfInBounds j u)) } :=
  I.lstUpd hp ho (qlj its n j u) (r.set rv j) (by rw [List.length_set]; exact hz) s.toks
 by_cases h0 : 0 <= k
 ·have hk : k.toNat = j := by
   rw [seqIndex_of h0 h4] at h1
   exact Option.some.inj h1
  exact PySem.W.ki_setAt ho h0 (by omega) (by rw [List.size_toArray, <- hl]; exact h4) (by rw [hk]; exact ⟨_, I', q⟩)
 ·have hk : (k + (its.toArray.size : Int)).toNat = j := by
   rw [seqIndex_neg (by omega) h3] at h1
   rw [List.size_toArray, <- hl]
   exact Option.some.inj h1
  exact PySem.W.ki_setBack ho (by omega) (by rw [List.size_toArray, <- hl]; exact h3) (by omega) (by rw [hk]; exact ⟨_, I', q⟩)
theorem qhm (lo hi : Option Int) (n : Nat) : (sliceBounds lo hi none n).1 = ((HT.sIx n 0 lo : Nat) : Int) /\ (sliceBounds lo hi none n).2.1 = ((HT.sIx n n hi : Nat) : Int) /\ (sliceBounds lo hi none n).2.2 = 1 := by
 refine ⟨?_, ?_, rfl⟩
 ·cases lo with
  | none => simp [sliceBounds, HT.sIx]
  | some i =>
   simp only [sliceBounds, HT.sIx, Option.getD_none, show (1 : Int) > 0 by decide, if_true]
   by_cases h : i < 0
   ·simp only [h, if_true] <;> omega
   ·simp only [h, if_false] <;> omega
 ·cases hi with
  | none => simp [sliceBounds, HT.sIx]
  | some i =>
   simp only [sliceBounds, HT.sIx, Option.getD_none, show (1 : Int) > 0 by decide, if_true]
   by_cases h : i < 0
   ·simp only [h, if_true] <;> omega
   ·simp only [h, if_false] <;> omega
theorem qgn (its : List Value) (lo hi : Option Int) : slicePick its.toArray lo hi none = ((its.drop (HT.sIx its.length 0 lo)).take (HT.sIx its.length its.length hi - HT.sIx its.length 0 lo)).toArray := by
 obtain ⟨h1, h2, h3⟩ := qhm lo hi its.toArray.size
 unfold slicePick
 rw [h1, h2, h3]
 simp only [sliceRange_one, pick_run, List.size_toArray] <;> rfl
noncomputable def qxm (K : PySem.W.Frag) : V -> Option Int -> Option Int -> Hp -> VK -> Prop := fun x lo hi H Q => ∃ a xs, x = .ref a /\ SqL K H a xs /\ ∀ p, H p = none -> Q (.ref p) (upd H p (.lst (qhg xs lo hi)))
theorem qgi : SlR X (qxm X.K) := by
 intro pins s σ H x v vl vu lo hi sl Q I rx hs pl pu h
 obtain ⟨a, xs, rfl, hx, q⟩ := h
 cases rx
 obtain ⟨its, r, ht, hz⟩ := I.list hx
 have hlen := r.length
 refine ⟨"list", _, slot_list_getitem.lookup, ht.isList.typeIs, ?_⟩
 refine wpAny_getItem_list_slice ht.isList hs pl pu .none (by simp) ?_ (by rw [List.size_toArray] <;> omega)
 rw [qgn, <- hlen]
 refine ⟨.ref s.heap.objs.size, _, I.laid (t' := s.toks) (o := .lst (qhg xs lo hi)) (fun b ob q => Heap.get?_push_of_some _ q) (Nat.le_refl _) ?_, rfl, q _ (I.hok.fresh (Nat.le_refl _))⟩
 exact ⟨Nat.le_trans (qfa xs lo hi) hz, _, 0, (r.drop (HT.sIx xs.length 0 lo)).take (HT.sIx xs.length xs.length hi - HT.sIx xs.length 0 lo), Heap.get?_push_size _ rfl⟩
noncomputable def qge : V -> Bool
 | .non => true
 | .bl _ => true
 | .int _ => true
 | .str _ => true
 | _ => false
noncomputable def eqV : V -> V -> Bool
 | .non, .non => true
 | .bl a, .bl b => a == b
 | .bl a, .int b => (if a then 1 else 0) == b
 | .int a, .bl b => a == (if b then 1 else 0)
 | .int a, .int b => a == b
 | .str a, .str b => a == b
 | _, _ => false
theorem qt5 {A : Around} {s : Shared} {y x : V} {u v : Value} (ry : RelV y u) (rx : RelV x v) (fy : qge y = true) (fx : qge x = true) : SeqAt.EqAt A s u v (eqV y x) := by
 cases y with
 | non =>
  cases ry
  cases x with
  | non => cases rx; exact SeqAt.EqAt.same _
  | bl b => cases rx; exact SeqAt.EqAt.none_bool b
  | int b => obtain ⟨t, rfl⟩ := rx; exact SeqAt.EqAt.none_int b t
  | str b => obtain ⟨t, rfl⟩ := rx; exact SeqAt.EqAt.none_str b t
  | _ => exact absurd (show false = true from fx) Bool.false_ne_true
 | bl a =>
  cases ry
  cases x with
  | non => cases rx; exact SeqAt.EqAt.bool_none a
  | bl b => cases rx; exact SeqAt.EqAt.bool_bool a b
  | int b => obtain ⟨t, rfl⟩ := rx; exact SeqAt.EqAt.bool_int a b t
  | str b => obtain ⟨t, rfl⟩ := rx; exact SeqAt.EqAt.bool_str a b t
  | _ => exact absurd (show false = true from fx) Bool.false_ne_true
 | int a =>
  obtain ⟨t', rfl⟩ := ry
  cases x with
  | non => cases rx; exact SeqAt.EqAt.int_none a t'
  | bl b => cases rx; exact SeqAt.EqAt.int_bool a t' b
  | int b => obtain ⟨t, rfl⟩ := rx; exact SeqAt.EqAt.int_int a t' b t
  | str b => obtain ⟨t, rfl⟩ := rx; exact SeqAt.EqAt.int_str a t' b t
  | _ => exact absurd (show false = true from fx) Bool.false_ne_true
 | str a =>
  obtain ⟨t', rfl⟩ := ry
  cases x with
  | non => cases rx; exact SeqAt.EqAt.str_none a t'
  | bl b => cases rx; exact SeqAt.EqAt.str_bool a t' b
  | int b => obtain ⟨t, rfl⟩ := rx; exact SeqAt.EqAt.str_int a t' b t
  | str b => obtain ⟨t, rfl⟩ := rx; exact SeqAt.EqAt.str_str a t' b t
  | _ => exact absurd (show false = true from fx) Bool.false_ne_true
 | _ => exact absurd (show false = true from fy) Bool.false_ne_true
noncomputable def eqU (x : V) (u : Value) : Bool := match u with
 | .none => eqV .non x
 | .bool b => eqV (.bl b) x
 | .int i _ => eqV (.int i) x
 | .str z _ => eqV (.str z) x
 | _ => false
theorem qqx {x y : V} {u : Value} (r : RelV y u) (f : qge y = true) : eqU x u = eqV y x := by
 cases y with
 | non => cases r; rfl
 | bl b => cases r; rfl
 | int i => obtain ⟨t, rfl⟩ := r; rfl
 | str z => obtain ⟨t, rfl⟩ := r; rfl
 | _ => exact absurd (show false = true from f) Bool.false_ne_true
theorem qfd {x : V} : ∀ {xs : List V} {us : List Value}, qba xs us -> xs.all qge = true -> us.any (eqU x) = xs.any fun y => eqV y x
 | _, _, .nil, _ => rfl
 | y :: xs, u :: us, .cons r t, f => by
  rw [List.all_cons, Bool.and_eq_true] at f
  rw [List.any_cons, List.any_cons, qqx r f.1, qfd t f.2]
theorem qd0 {A : Around} {s : Shared} {x : V} {v : Value} (rx : RelV x v) (fx : qge x = true) : ∀ {xs : List V} {us : List Value}, qba xs us -> xs.all qge = true -> ∀ u ∈ us, SeqAt.EqAt A s u v (eqU x u)
 | _, _, .nil, _ => fun u hu => by cases hu
 | y :: xs, u :: us, .cons r t, f => fun u' hu => by
  rw [List.all_cons, Bool.and_eq_true] at f
  rcases List.mem_cons.mp hu with rfl | hu
  ·rw [qqx r f.1]; exact qt5 r rx f.1 fx
  ·exact qd0 rx fx t f.2 u' hu
noncomputable def inV (x : V) (xs : List V) : Bool := xs.any fun y => eqV y x
noncomputable def rIn (K : PySem.W.Frag) (neg : Bool) : R2 := fun x y H Q => ∃ p xs, y = .ref p /\ (SqL K H p xs \/ SqT K H p xs) /\ qge x = true /\ xs.all qge = true /\ Q (.bl (if neg then !inV x xs else inV x xs)) H
theorem qd5 : OpR X (compareOp .In) (rIn X.K false) := by
 intro pins s σ H x y v u Q I rx ry h
 obtain ⟨p, xs, rfl, hq, fx, fs, q⟩ := h
 cases ry
 rcases hq with hq | hq
 ·obtain ⟨its, r, pl, hz⟩ := I.list hq
  refine SeqAt.in_listAt (eqU x) pl.isList (fun w hw => qd0 rx fx r fs w (by simpa using hw)) ⟨.bl _, H, I, rfl, ?_⟩
  rw [show its.toArray.any (eqU x) = its.any (eqU x) by simp, qfd r fs]
  exact q
 ·obtain ⟨its, r, pl, hz⟩ := I.tuple hq
  refine SeqAt.in_tupleAt (eqU x) pl (fun w hw => qd0 rx fx r fs w (by simpa using hw)) ⟨.bl _, H, I, rfl, ?_⟩
  rw [show its.toArray.any (eqU x) = its.any (eqU x) by simp, qfd r fs]
  exact q
theorem qdd : OpR X (compareOp .NotIn) (rIn X.K true) := by
 intro pins s σ H x y v u Q I rx ry h
 obtain ⟨p, xs, rfl, hq, fx, fs, q⟩ := h
 cases ry
 rcases hq with hq | hq
 ·obtain ⟨its, r, pl, hz⟩ := I.list hq
  refine SeqAt.notIn_listAt (eqU x) pl.isList (fun w hw => qd0 rx fx r fs w (by simpa using hw)) ⟨.bl _, H, I, rfl, ?_⟩
  rw [show its.toArray.any (eqU x) = its.any (eqU x) by simp, qfd r fs]
  exact q
 ·obtain ⟨its, r, pl, hz⟩ := I.tuple hq
  refine SeqAt.notIn_tupleAt (eqU x) pl (fun w hw => qd0 rx fx r fs w (by simpa using hw)) ⟨.bl _, H, I, rfl, ?_⟩
  rw [show its.toArray.any (eqU x) = its.any (eqU x) by simp, qfd r fs]
  exact q
theorem qal : qb7 X (.builtin "len") (fun xs H Q => ∃ p ys, xs = [.ref p] /\ (SqL X.K H p ys \/ SqT X.K H p ys) /\ Q (.int ys.length) H) := by
 intro pins s σ H xs us Q I r h
 obtain ⟨p, ys, rfl, hq, q⟩ := h
 obtain ⟨u, rfl, rx⟩ := vals1 r
 cases rx
 have hn := qfw
 rcases hq with hq | hq
 ·obtain ⟨its, r', pl, hz⟩ := I.list hq
  have hlen := r'.length
  exact Calls.call_len_list pl.isList (by simp only [List.size_toArray] <;> omega) ⟨.int ys.length, H, I.tok _, ⟨s.toks + 1, by rw [List.size_toArray, hlen]⟩, q⟩
 ·obtain ⟨its, r', pl, hz⟩ := I.tuple hq
  have hlen := r'.length
  exact len_tuple pl (by simp only [List.size_toArray] <;> omega) ⟨.int ys.length, H, I.tok _, ⟨s.toks + 1, by rw [List.size_toArray, hlen]⟩, q⟩
theorem qeo : qb7 X (.builtin "len") (fun xs H Q => ∃ z, xs = [.str z] /\ z.length <= sizeLine /\ Q (.int z.length) H) := by
 intro pins s σ H xs us Q I r h
 obtain ⟨z, rfl, hz, q⟩ := h
 obtain ⟨u, rfl, t, rfl⟩ := vals1 r
 have hn := qfw
 exact len_str (by omega) ⟨.int z.length, H, I.tok _, ⟨_, rfl⟩, q⟩
theorem qco : qb7 X (.type "list") (fun xs H Q => ∃ p ys, xs = [.ref p] /\ (SqL X.K H p ys \/ SqT X.K H p ys) /\ ∀ l, H l = none -> Q (.ref l) (upd H l (.lst ys))) := by
 intro pins s σ H xs us Q I r h
 obtain ⟨p, ys, rfl, hq, q⟩ := h
 obtain ⟨u, rfl, rx⟩ := vals1 r
 cases rx
 have fin : ∀ (its : List Value), qba ys its -> ys.length <= sizeLine -> ∀ (h' : Heap) (c' : Nat), (∀ b o', s.heap.get? b = some o' -> h'.get? b = some o') ->
   h'.get? s.heap.objs.size = some { cls := .type "list", dict := none, data := .seq its.toArray c', slots := #[] } -> EP X pins σ Q (.ref s.heap.objs.size) { s with heap := h' } := fun its r' hz h' c' kp e =>
  ⟨.ref s.heap.objs.size, _, I.laid (t' := s.toks) kp (Nat.le_refl _) (show qa1 X.prog X.w _ h' _ (.lst ys) from ⟨hz, its, c', r', e⟩), rfl, q _ (I.hok.fresh (Nat.le_refl _))⟩
 rcases hq with hq | hq
 ·obtain ⟨its, r', pl, hz⟩ := I.list hq
  have hlen := r'.length
  obtain ⟨o, ho, hc, n, hd⟩ := pl.isList
  exact call_list_seq p (.inl rfl) ho hc hd (fun h' c' kp e => fin its r' hz h' c' kp e) (by simp only [List.size_toArray] <;> omega)
 ·obtain ⟨its, r', pl, hz⟩ := I.tuple hq
  have hlen := r'.length
  obtain ⟨o, ho, hc, n, hd⟩ := pl
  exact call_list_seq p (.inr rfl) ho hc hd (fun h' c' kp e => fin its r' hz h' c' kp e) (by simp only [List.size_toArray] <;> omega)
theorem qc3 : qb7 X (.type "tuple") (fun xs H Q => ∃ p ys, xs = [.ref p] /\ ((SqL X.K H p ys /\ ∀ l, H l = none -> Q (.ref l) (upd H l (.tup ys))) \/ (SqT X.K H p ys /\ Q (.ref p) H))) := by
 intro pins s σ H xs us Q I r h
 obtain ⟨p, ys, rfl, h⟩ := h
 obtain ⟨u, rfl, rx⟩ := vals1 r
 cases rx
 rcases h with ⟨hq, q⟩ | ⟨hq, q⟩
 ·obtain ⟨its, r', pl, hz⟩ := I.list hq
  have hlen := r'.length
  refine call_tuple_list pl.isList (fun h' kp => ?_) (by simp only [List.size_toArray] <;> omega)
  have I1 : Inv X pins σ H { s with heap := h' } := I.kept (t' := s.toks) kp
  have I2 : Inv X pins σ (upd H h'.objs.size (.tup ys)) { s with heap := h'.push { cls := .type "tuple", data := .seq its.toArray } } :=
   I1.laid (t' := s.toks) (fun b o e => Heap.get?_push_of_some _ e) (Nat.le_refl _) (show qa1 X.prog X.w _ _ _ (.tup ys) from ⟨hz, its, r', IsTup.new _ _⟩)
  exact ⟨.ref h'.objs.size, _, I2, rfl, q _ (I1.hok.fresh (Nat.le_refl _))⟩
 ·obtain ⟨its, r', pl, hz⟩ := I.tuple hq
  exact call_tuple_same pl ⟨.ref p, H, I, rfl, q⟩
noncomputable def tyV (K : PySem.W.Frag) (T : String) (x : V) (H : Hp) : Prop := match x with
 | .str _ => T = "str"
 | .int _ => T = "int"
 | .ref p => (T = "list" /\ ∃ xs, SqL K H p xs) \/ (T = "tuple" /\ ∃ o, K.lookup p = some o /\ o.cls = .type "tuple" /\ o.dict = none) \/
   (T = "dict" /\ ((∃ kvs, H p = some (.dK kvs)) \/ ∃ kvs, H p = some (.dT kvs))) \/ (T = "set" /\ ∃ S n, H p = some (.set S n))
 | _ => False
theorem qvd {pins : List (Addr × Obj)} {σ : St} {H : Hp} {s : Shared} {T : String} {x : V} {v : Value} (I : Inv X pins σ H s) (r : RelV x v) (ty : tyV X.K T x H) :
  s.TypeIs v T /\ ∀ a, v = .ref a -> ∃ ob, s.heap.get? a = some ob /\ ob.dict = none := by
 cases x with
 | str z =>
  obtain ⟨t, rfl⟩ := r
  cases (show T = "str" from ty)
  exact ⟨typeIs_str s z t, fun _ e => nomatch e⟩
 | int i =>
  obtain ⟨t, rfl⟩ := r
  cases (show T = "int" from ty)
  exact ⟨typeIs_int s i t, fun _ e => nomatch e⟩
 | ref p =>
  cases r
  rcases ty with ⟨rfl, xs, hq⟩ | ⟨rfl, o, hk, hc, hd⟩ | ⟨rfl, hk⟩ | ⟨rfl, S, n, hk⟩
  ·obtain ⟨its, _, pl, _⟩ := I.list hq
   refine ⟨pl.isList.typeIs, fun a e => ?_⟩
   cases e
   obtain ⟨o, n, e, c, hd, _⟩ := pl
   exact ⟨o, e, hd⟩
  ·refine ⟨⟨o, I.kIn p o hk, hc⟩, fun a e => ?_⟩
   cases e
   exact ⟨o, I.kIn _ o hk, hd⟩
  ·have z : ∃ o, s.heap.get? p = some o /\ o.ExactDict := by
    rcases hk with ⟨kvs, hk⟩ | ⟨kvs, hk⟩
    ·obtain ⟨_, _, _, _, o, _, _, e, ex, _⟩ := I.hok p _ hk
     exact ⟨o, e, ex⟩
    ·obtain ⟨_, _, _, _, o, _, _, e, ex, _⟩ := I.hok p _ hk
     exact ⟨o, e, ex⟩
   obtain ⟨o, e, ex⟩ := z
   refine ⟨⟨o, e, ex.1⟩, fun a e2 => ?_⟩
   cases e2
   exact ⟨o, e, ex.2.1⟩
  ·obtain ⟨o, _, _, _, e, ex, _⟩ := I.hok p _ hk
   refine ⟨⟨o, e, ex.1⟩, fun a e2 => ?_⟩
   cases e2
   exact ⟨o, e, ex.2.1⟩
 | _ => exact False.elim ty
noncomputable def tBM (K : PySem.W.Frag) (T : String) (r : V -> List V -> Hp -> VK -> Prop) (to : TE) (t : TA) : TE := fun σ H Q => to σ H fun x H1 => tyV K T x H1 /\ t σ H1 fun xs H2 => r x xs H2 Q
variable {o e : Expr} {es : List Expr} {to : TE} {t : TA} {name : Str} {apos cpos : Pos} {T id : String} {r : V -> List V -> Hp -> VK -> Prop}
theorem qhr (pa : PlainAttrs T) (slot : Slot T name id) (hty : typeOf (.builtin id) = pure (.type "method_descriptor")) (hm : MtR X id r) (ho : PE X o to) (ha : PA X (e :: es) t)
  (hbase : attributeBase o name X.env (eval o X.env) = eval o X.env := by rfl)
  (hfew : ((backTo cpos (starEach (e :: es) X.env)).all (fun x => !x.1) && (backToKw cpos (keywordEach [] X.env)).all (fun x => x.1.isSome)
   && decide ((e :: es).length + ([] : List Keyword).length + (if ([] : List Keyword).isEmpty then 0 else 1) < 30)) = true := by rfl)
  (hline : (apos.endLine == cpos.line) = true := by rfl) (hs : starEach (e :: es) X.env = (false, eval e X.env) :: starEach es X.env := by rfl) (hplain : (backTo cpos (starEach es X.env)).any (·.1) = false := by rfl) :
  PE X (.Call (.Attribute o name apos) (e :: es) [] cpos) (tBM X.K T r to t) := by
 intro pins s σ H Q I h
 refine wpAny_Call_method_late hbase hfew hline rfl (thn (ho pins s σ H _ I h) fun v s1 ⟨x, H1, I1, r1, ty, q1⟩ => ?_)
 obtain ⟨h1, h2⟩ := qvd I1 r1 ty
 refine ⟨T, id, pa, slot, hty, h1, h2, ?_⟩
 have hA := ha cpos pins s1 σ H1 _ I1 q1
 rw [hs] at hA ⊢
 refine Calls.callWith_builtin (by show (false || (backTo cpos (starEach es X.env)).any (·.1)) = false; rw [hplain] <;> rfl) (Calls.evalArgs_plain ?_)
 exact thn hA fun us s2 ⟨vs, H2, I2, r2, q2⟩ => hm pins s2 σ H2 x vs v us Q I2 r1 r2 q2
/- xs.append(e), list.index on a module's tuple .. are MtR facts of 06m -/
end
noncomputable def MtM (X : Cx) (id : String) (r : V -> List V -> Hp -> VK -> Prop) : Prop :=
 ∀ (pins : List (Addr × Obj)) (s : Shared) (σ : St) (H : Hp) (x : V) (xs : List V) (v : Value) (us : List Value) (Q : VK), Inv X pins σ H s -> RelV x v -> qba xs us -> r x xs H Q ->
  wpAny (model X.prog X.w) X.A (call (.builtin id) (v :: us)) (EP X pins σ Q) X.xe s
theorem qba.one : ∀ {x : V} {us : List Value}, qba [x] us -> ∃ u, us = [u] /\ RelV x u
 | _, _, .cons r .nil => ⟨_, rfl, r⟩
theorem qba.rep {xs : List V} {us : List Value} (h : qba xs us) : ∀ k : Nat, qba (List.replicate k xs).flatten (List.replicate k us).flatten
 | 0 => .nil
 | k + 1 => by
  rw [List.replicate_succ, List.replicate_succ, List.flatten_cons, List.flatten_cons]
  exact qba.append h (qba.rep h k)
theorem foldl_rep (its : List Value) : ∀ (k : Nat) (acc : List Value),
  List.foldl (fun x1 x2 => x1 ++ x2) acc.toArray (List.replicate k its.toArray) = (acc ++ (List.replicate k its).flatten).toArray
 | 0, acc => by simp
 | k + 1, acc => by
  have e : acc.toArray ++ its.toArray = (acc ++ its).toArray := by simp
  have e2 : (acc ++ its) ++ (List.replicate k its).flatten = acc ++ (List.replicate (k + 1) its).flatten := by
   rw [List.replicate_succ, List.flatten_cons, List.append_assoc]
  rw [<- e2, <- foldl_rep its k (acc ++ its), <- e, List.replicate_succ, List.foldl_cons]
section
variable {X : Cx} {pins : List (Addr × Obj)} {σ : St} {H : Hp} {s : Shared} {l b : Addr} {xs ys zs : List V}
theorem Inv.lset {its its' : List Value} {n : Nat} {f : Array Value -> Array Value} {t' : Nat} (I : Inv X pins σ H s) (hH : H l = some (.lst xs))
  (e : s.heap.get? l = some { cls := .type "list", data := .seq its.toArray n }) (hf : f its.toArray = its'.toArray) (hv : qba ys its') (hz : ys.length <= sizeLine) :
  Inv X pins σ (upd H l (.lst ys)) { s with heap := s.heap.update l (Obj.mapSeq f), toks := t' } := by
 have q := PySem.IsL.update e f
 rw [hf] at q
 refine I.write (x := l) (e := l) (by rw [hH]; exact trivial) (.inl rfl) (fun b' u hb hu => (Heap.get?_update_other s.heap (Obj.mapSeq f) (Ne.symm hb)).trans hu) ⟨_, q⟩ ?_
 exact ⟨hz, its', _, hv, q⟩
theorem Inv.lnew {its : List Value} {t' : Nat} (I : Inv X pins σ H s) (hv : qba ys its) (hz : ys.length <= sizeLine) :
  Inv X pins σ (upd H s.heap.objs.size (.lst ys)) { s with heap := s.heap.push { cls := .type "list", data := .seq its.toArray }, toks := t' } :=
 I.laid (fun _ _ q => Heap.get?_push_of_some _ q) (Nat.le_refl _) ⟨hz, its, 0, hv, Heap.get?_push_size _ rfl⟩
theorem Inv.fresh (I : Inv X pins σ H s) : H s.heap.objs.size = none := I.hok.fresh (Nat.le_refl _)
theorem Inv.lstM (I : Inv X pins σ H s) (hH : H l = some (.lst xs)) : xs.length <= sizeLine /\ ∃ (its : List Value) (n : Nat), qba xs its /\ xs.length = its.length /\ s.heap.get? l = some { cls := .type "list", data := .seq its.toArray n } := by
 obtain ⟨z, its, n, r, e⟩ := I.hok l _ hH
 exact ⟨z, its, n, r, r.length, e⟩
theorem qp1 {n : Nat} (h : n <= sizeLine) : Builtin.List.listTooLong n = false := by
 unfold Builtin.List.listTooLong
 exact decide_eq_false (by omega)
end
section
variable {X : Cx}
noncomputable def qrc : V -> List V -> Hp -> VK -> Prop := fun x vs H Q => ∃ l xs y, x = .ref l /\ vs = [y] /\ H l = some (.lst xs) /\ xs.length < sizeLine /\ Q .non (upd H l (.lst (xs ++ [y])))
theorem qcz : MtM X "list.append" qrc := by
 intro pins s σ H x vs v us Q I rx rv h
 obtain ⟨l, xs, y, rfl, rfl, hH, hz, q⟩ := h
 cases rx
 obtain ⟨u, rfl, ru⟩ := rv.one
 obtain ⟨z, its, n, r, hl, e⟩ := I.lstM hH
 refine call_meets F.slot_list_append ⟨_, e, rfl⟩ F.entry_list_append (F.args_list_append_2 _ _) (PySem.list_append l its.toArray n u (by rw [List.size_toArray]; omega)) ⟨e, ?_⟩
 refine ⟨.non, _, I.lset (its' := its ++ [u]) hH e (by simp) (r.append (.cons ru .nil)) ?_, rfl, q⟩
 rw [List.length_append, List.length_singleton]
 omega
noncomputable def qsz : V -> List V -> Hp -> VK -> Prop := fun x vs H Q => ∃ l b xs zs, x = .ref l /\ vs = [.ref b] /\ H l = some (.lst xs) /\ H b = some (.lst zs) /\ xs.length + zs.length <= sizeLine /\ Q .non (upd H l (.lst (xs ++ zs)))
theorem qmu : MtM X "list.extend" qsz := by
 intro pins s σ H x vs v us Q I rx rv h
 obtain ⟨l, b, xs, zs, rfl, rfl, hH, hB, hz, q⟩ := h
 cases rx
 obtain ⟨u, rfl, ru⟩ := rv.one
 cases ru
 obtain ⟨z, its, n, r, hl, e⟩ := I.lstM hH
 obtain ⟨z2, its2, n2, r2, hl2, e2⟩ := I.lstM hB
 have hsz : its.toArray.size + its2.toArray.size <= sizeLine := by rw [List.size_toArray, List.size_toArray]; omega
 have hlong : ¬ (!its.toArray.isEmpty && Builtin.List.listTooLong (its.toArray.size + its2.toArray.size)) = true := by
  rw [qp1 hsz, Bool.and_false]
  exact Bool.false_ne_true
 refine call_meets F.slot_list_extend ⟨_, e, rfl⟩ F.entry_list_extend (F.args_list_extend_2 _ _)
  (AutoSeq1.list_extend_list_list_0 l its.toArray n b its2.toArray n2 hlong (by rw [List.size_toArray]; omega) (by omega)) ⟨e, e2, ?_⟩
 refine ⟨.non, _, I.lset (its' := its ++ its2) hH e (by simp) (r.append r2) ?_, rfl, q⟩
 rw [List.length_append]
 omega
noncomputable def qx5 : R2 := fun x y H Q => ∃ l b xs zs, x = .ref l /\ y = .ref b /\ H l = some (.lst xs) /\ H b = some (.lst zs) /\ xs.length + zs.length <= sizeLine /\ ∀ p, H p = none -> Q (.ref p) (upd H p (.lst (xs ++ zs)))
theorem qfg : OpR X (binaryOp .Add) qx5 := by
 intro pins s σ H x y v u Q I rx ry h
 obtain ⟨l, b, xs, zs, rfl, rfl, hH, hB, hz, q⟩ := h
 cases rx
 cases ry
 obtain ⟨z, its, n, r, hl, e⟩ := I.lstM hH
 obtain ⟨z2, its2, n2, r2, hl2, e2⟩ := I.lstM hB
 refine PySem.P.add_list e e2 ?_ (by rw [List.size_toArray, List.size_toArray]; omega)
 have ea : its.toArray ++ its2.toArray = (its ++ its2).toArray := by simp
 rw [ea]
 exact ⟨.ref _, _, I.lnew (t' := s.toks) (r.append r2) (by rw [List.length_append]; omega), rfl, q _ I.fresh⟩
theorem len_rep {α : Type} (xs : List α) (k : Nat) : (List.replicate k xs).flatten.length = k * xs.length := by
 induction k with
 | zero => simp
 | succ k ih => rw [List.replicate_succ, List.flatten_cons, List.length_append, ih, Nat.succ_mul, Nat.add_comm]
end
section
variable {prog : Program} {w : World} {A : Around} {E : Value -> Shared -> Prop} {s : Shared}
end
section
variable {X : Cx}
end
end L2
namespace Att
open PySem PySem.W PySem.Calls PyProof.Rows
theorem qfj {P : Params} {h : Heap} : ∀ (ns : List Int) (vs : List Value), WellAll P h vs (ns.map WData.int) -> IntsAre vs ns := by
 intro ns
 induction ns with
 | nil =>
  intro vs w
  rw [List.map_nil] at w
  cases w
  exact .nil
 | cons n ns ih =>
  intro vs w
  rw [List.map_cons] at w
  cases w with
  | cons a b =>
   cases a
   exact .cons _ _ (ih _ b)
theorem qn8 {l : OpenLaw} {n : Nat} (hn : l.most = some n) {P : Params} {h : Heap} {args : List WData} {vals : List Value}
  (hpre : l.row.toRowW.claim.pre args = true) (hwl : WellAll P h vals args) :
  ∃ a vs ns, vals = [Value.ref a] /\ args = [WData.list (ns.map WData.int)] /\ h.get? a = some { cls := .type "list", data := .seq vs.toArray } /\ IntsAre vs ns /\ ns.length <= n := by
 have hsh : WShape.hasAll [] args [.list .int] = true := (pre_splitW hpre).1
 have hc : l.pre.holds [] { args := args } = true := (pre_splitW hpre).2
 obtain ⟨d, r, rfl, h1, h2⟩ := hasAllW_cons hsh
 obtain rfl := hasAllW_nil h2
 obtain ⟨xs, rfl, h3⟩ := hasW_list h1
 obtain ⟨ns, rfl⟩ := items_int h3
 have hlen : ns.length <= n := by
  unfold OpenLaw.pre at hc
  have h4 : (WTm.not (.lt (.lit (.int (n : Int))) (.len (.arg 0)))).holds [] { args := [.list (ns.map .int)] } = true := by
   have h4 := (holds_andW hc).1
   rw [hn] at h4
   exact h4
  have h5 := condW_of h4 (w_not (w_lt w_lit (w_len_list (w_arg rfl))))
  rw [List.length_map] at h5
  refine Nat.le_of_not_lt fun q => ?_
  have q' : (n : Int) < ((ns.length : Nat) : Int) := by omega
  first
   | (rw [decide_eq_true q'] at h5; exact absurd h5 (by decide))
   | (simp at h5; omega)
 cases hwl with
 | cons w1 w2 =>
  cases w2
  cases w1 with
  | list ho hall => exact ⟨_, _, ns, rfl, rfl, ho, qfj ns _ hall, hlen⟩
theorem ql9 (l : OpenLaw) (args : List WData) : l.row.toRowW.claim.post args (.bool true) args = true :=
 postW_of (r := l.row.toRowW) (X := (true == true))
  (show WShape.has [] (.bool true) .bool = true by first | rfl | decide | simp [WShape.has, WShape.arms, WShape.armsAll])
  (show (WTm.eq .res (.lit (.bool true))).value [] { args := args, res := some (.bool true), after := args } = some (.bool (true == true)) from w_eq_bool (w_res rfl) w_lit) rfl
theorem qrh {l : OpenLaw} {n : Nat} {q : Program} {loose : List Str} {XP : (Str -> Option Value) -> Heap -> Prop} {YP : World -> Heap -> Prop} {d : DefRec}
  (hn : l.most = some n) (hdf : d.params.defaults = [])
  (call : ∀ (w : World) (s₀ s₁ : Shared) (mg mb : Str -> Option Value) (fa : Addr) (o : Obj) (pm cd doc : Value) (a : Addr) (vs : List Value) (ns : List Int),
   Ground q loose [] XP w s₀ mg mb s₁.heap -> YP w s₁.heap ->
   s₁.heap.get? fa = some o -> o.data = .func (docDef d.name d.params d.body d.scope pm cd doc) -> s₁.heap.CodeRec cd d.name -> mg d.name = some (.ref fa) ->
   s₁.heap.get? a = some { cls := .type "list", data := .seq vs.toArray } -> IntsAre vs ns -> ns.length <= n -> s₁.gens = #[] ->
   codeAny (model l.prog w) callerA (.call (.ref fa) ⟨[.ref a], []⟩) (fun r s' => r = .ok (.ret (.bool true)) /\ OldK s₁.heap s'.heap /\ s'.os = s₁.os /\ AllBare s'.gens) s₁) :
  WalkO q loose XP YP l.row.toRowW d [] (fun f vs => PySem.call f vs) := by
 intro w s₀ s₁ mg mb G Y fa o pm cd doc dV kV ho hd hcd hD hmg hg args vals as hpre hlay hrd hwl hlo
 obtain rfl : dV = .none := Dflts.none hD hdf
 obtain rfl : kV = .none := Dflts.noKw hD
 obtain ⟨a, vs, ns, rfl, rfl, hobj, hints, hlen⟩ := qn8 hn hpre hwl
 refine enter_call (codeAny_mono (call w s₀ s₁ mg mb fa o pm cd doc a vs ns G Y ho (fd_plain hd) hcd hmg hobj hints hlen hg) fun r s' hq => ?_)
 obtain ⟨rfl, h2, h3, h4⟩ := hq
 exact ⟨.inl ⟨.bool true, .bool true, [], rfl, fun _ => rfl, .bool true, ql9 l _, fun _ => ⟨List.Pairwise.nil, fun _ hm => (nomatch hm)⟩⟩, h2, h3, h4⟩
section
variable {prog : Program} {w : World} {A : Around} {E : Value -> Shared -> Prop} {s : Shared} {K : Frag}
end
end Att
namespace L2
open PySem PySem.Spec PyProof.Rows
theorem qhk : ∀ {vs : List Value} {ns : List Int}, IntsAre vs ns -> qba (ns.map V.int) vs
 | _, _, .nil => .nil
 | _, _, .cons n t h => .cons ⟨t, rfl⟩ (qhk h)
noncomputable def qwd (H : Hp) : Prop := ∀ b, H b = none \/ ∃ o xs, H b = some (.frz o (.lst xs))
theorem qp7 {P : Program} {w : World} {K : PySem.W.Frag} {mg mb : Str -> Option Value} {CX : CXT} {k : Nat} {fa a : Addr} {fd : FuncData} {x : Str} {sp : Sp} {s₁ : Shared} {vs : List Value} {ns : List Int}
  (KX : K.In s₁.heap) (hns : s₁.heap.Ns mainGlobals mg) (hb : s₁.heap.Ns builtinsNs mb) (hbb : ∀ x : Str, x ≠ "__name__" -> mb x = bootBuiltins x) (hlim : s₁.heap.NoLimit) (hg : s₁.gens = #[])
  (ha : s₁.heap.get? a = some { cls := .type "list", data := .seq vs.toArray }) (hi : IntsAre vs ns) (hl : ns.length <= sizeLine) (hr : qcl k callerA)
  (F : ∀ base : Heap, K.In base -> base.Ns mainGlobals mg -> qca P w K mg base CX k fa fd [x] sp) (hbind : ∀ (s : Shared) (u : Value), BindsTo s fd ⟨[u], []⟩ [(x, u)])
  (hsp : ∀ H : Hp, qwd H -> SqL K H a (ns.map V.int) -> sp [.ref a] H (fun v _ => v = .bl true) fun _ _ _ => False)
  (hCX : ∀ H e s', CX [] H s₁ (fun _ _ _ => False) e s' -> False) :
  codeAny (model P w) callerA (.call (.ref fa) ⟨[.ref a], []⟩) (fun r s' => r = .ok (.ret (.bool true)) /\ OldK s₁.heap s'.heap /\ s'.os = s₁.os /\ AllBare s'.gens) s₁ := by
 have rv := qhk hi
 have lenV := hi.length
 have core : ∀ H : Hp, qwd H -> SqL K H a (ns.map V.int) -> HOk P w H s₁.heap -> (∀ b, H b ≠ none -> b = a) -> (H a ≠ none -> K.lookup a = none) ->
   codeAny (model P w) callerA (.call (.ref fa) ⟨[.ref a], []⟩) (fun r s' => r = .ok (.ret (.bool true)) /\ OldK s₁.heap s'.heap /\ s'.os = s₁.os /\ AllBare s'.gens) s₁ := by
  intro H hO hS hok hA hK
  have base_of : ∀ {b : Addr} {o : Obj}, s₁.heap.get? b = some o -> H b = none -> (qqj s₁.heap H).get? b = some o := fun e n => qo3 e n
  have noA : ∀ {b : Addr} {o : Obj} {es : Array DictEntry} {ep : Nat}, s₁.heap.get? b = some o -> o.data = .dict es ep -> H b = none := fun {b o es ep} e d => by
   cases q : H b with
   | none => rfl
   | some u =>
    have e' : b = a := hA b (by rw [q]; simp)
    subst e'
    rw [ha] at e; cases e
    have d' : Data.seq vs.toArray _ = Data.dict es ep := d
    cases d'
  have nsK : ∀ {b : Addr} {m : Str -> Option Value}, s₁.heap.Ns b m -> (qqj s₁.heap H).Ns b m := fun {b m} ⟨o, es, ep, e, d, r⟩ => ⟨o, es, ep, base_of e (noA e d), d, r⟩
  have hKb : K.In (qqj s₁.heap H) := fun b o e => base_of (KX b o e) (by
   cases q : H b with
   | none => rfl
   | some u =>
    have e' : b = a := hA b (by rw [q]; simp)
    subst e'
    rw [hK (by rw [q]; simp)] at e; cases e)
  have hM : Mod K mg (qqj s₁.heap H) := ⟨hKb, nsK hns, ⟨mb, nsK hb, hbb⟩, let ⟨mc, h1, h2⟩ := hlim; ⟨mc, nsK h1, h2⟩⟩
  have e0 : qpx P w K mg (qqj s₁.heap H) callerA [] s₁ H := ⟨rfl, hM, fun b o e => qrz e, Nat.le_of_eq (qnj _ _), trivial, fun b hb => absurd (show b ∈ ([] : List Addr) from hb) (by simp), hok, .of_eq hg⟩
  refine codeAny_mono ((F _ hKb (nsK hns)).run callerA [] s₁ H ⟨[.ref a], []⟩ [.ref a] [.ref a] _ _ hr e0 (hbind s₁ (.ref a)) (.cons rfl .nil) (hsp H hO hS)) fun r s' h => ?_
  cases r with
  | error e => exact (hCX H e s' h).elim
  | ok fl =>
   cases fl with
   | next => exact False.elim h
   | brk => exact False.elim h
   | cont => exact False.elim h
   | ret u =>
    obtain ⟨v, H', os, bare, un, hok', r', q⟩ := h
    have q' : v = .bl true := q
    subst q'
    obtain rfl : u = Value.bool true := r'
    refine ⟨rfl, OldK.of_keep fun b o e => ?_, os, bare⟩
    cases q : H b with
    | none => exact un.keep b o e q (by intro z; exact absurd (show b ∈ ([] : List Addr) from z) (by simp)) (by simp)
    | some u =>
     rcases hO b with z | ⟨ob, xs, z⟩
     ·rw [q] at z; cases z
     ·have z2 := un.frzs b ob _ z
      obtain ⟨e1, _⟩ := hok b _ z
      obtain ⟨e2, _⟩ := hok' b _ z2
      rw [e] at e1; cases e1
      exact e2
 cases hk : K.lookup a with
 | some o =>
  have e := KX a o hk
  rw [ha] at e
  cases e
  refine core (fun _ => none) (fun _ => .inl rfl) (.inr ⟨_, vs.toArray, _, hk, rfl, rfl, rfl, by rw [List.size_toArray, lenV]; exact hl, by simpa using rv⟩) (fun b u z => by have z' : (none : Option HO) = some u := z; cases z') (fun b z => absurd rfl z) fun z => absurd rfl z
 | none =>
  refine core (fun b => if b = a then some (.frz { cls := .type "list", data := .seq vs.toArray } (.lst (ns.map V.int))) else none) (fun b => ?_) (.inl (.inr ⟨{ cls := .type "list", data := .seq vs.toArray }, if_pos rfl⟩)) (fun b u z => ?_) (fun b z => ?_) fun _ => hk
  ·by_cases hb : b = a
   ·exact .inr ⟨_, _, if_pos hb⟩
   ·exact .inl (if_neg hb)
  ·by_cases hb : b = a
   ·have z' := (if_pos hb).symm.trans z
    cases z'
    subst hb
    exact ⟨ha, by rw [List.length_map]; exact hl, vs, _, rv, ha⟩
   ·have z' := (if_neg hb).symm.trans z
    cases z'
  ·by_cases hb : b = a
   ·exact hb
   ·exact absurd (if_neg hb) z
theorem qwt {l : PySem.W.OpenLaw} {n k : Nat} {q : Program} {loose : List Str} {XP : (Str -> Option Value) -> Heap -> Prop} {YP : World -> Heap -> Prop} {d : DefRec} {K : Params -> PySem.W.Frag} {CX : World -> CXT} {sp : World -> Sp} {x : Str}
  (hn : l.most = some n) (hn2 : n <= sizeLine) (hdf : d.params.defaults = []) (hr : qcl k callerA)
  (hY : ∀ (w : World) (h : Heap), YP w h -> (K w.params).In h)
  (F : ∀ (w : World) (mg : Str -> Option Value) (fa : Addr) (h : Heap), (K w.params).In h -> h.Ns mainGlobals mg -> mg d.name = some (.ref fa) ->
   ∃ fd : FuncData, (∀ (s : Shared) (u : Value), BindsTo s fd ⟨[u], []⟩ [(x, u)]) /\
    ∀ base : Heap, (K w.params).In base -> base.Ns mainGlobals mg -> qca l.prog w (K w.params) mg base (CX w) k fa fd [x] (sp w))
  (hsp : ∀ (w : World) (H : Hp) (a : Addr) (ns : List Int), ns.length <= n -> qwd H -> SqL (K w.params) H a (ns.map V.int) -> sp w [.ref a] H (fun v _ => v = .bl true) fun _ _ _ => False)
  (hCX : ∀ (w : World) (H : Hp) (s : Shared) (e : Value) (s' : Shared), CX w [] H s (fun _ _ _ => False) e s' -> False) :
  PySem.W.WalkO q loose XP YP l.row.toRowW d [] (fun f vs => PySem.call f vs) := by
 refine Att.qrh hn hdf fun w s₀ s₁ mg mb fa o pm cd doc a vs ns G Y ho hd hcd hmg hobj hints hlen hg => ?_
 have KX := hY w _ Y
 obtain ⟨fd, hb, hF⟩ := F w mg fa _ KX G.T.g hmg
 exact qp7 KX G.T.g G.T.b G.T.builtins G.T.nolimit hg hobj hints (Nat.le_trans hlen hn2) hr hF hb (fun H hO hS => hsp w H a ns hlen hO hS) fun H e s' => hCX w H s₁ e s'
end L2
/- THE LAST THEOREM (shape; LID, My.* are yours):
  My.Adr: a structure of the addresses that your layer names (classes, functions); My.Txt K t: a structure (Prop) of the equations over K;
  My.txt_mk : {K} {implicit addresses ..} (e1 : nsIn K mainGlobals "law" = some (some (.ref f))) (e2 : K.lookup f = some ⟨oc, od, .func (fnOf "law" "law" params body scope dV kV doc pm an cdv ct), sl⟩) (e3 : codeIn K cdv "law" = true) .. : ∃ t, My.Txt K t
set_option maxRecDepth 100000 in
set_option maxHeartbeats 0 in
theorem PySem.Challenge.cw_LID_holds : PySem.Challenge.rw_LID.Holds := by
 w_on; o_law; k_head; (case hw => w_witness2)
 k_fill
 refine L2.qwt (l := PySem.Challenge.rw_LID) (n := 63) (k := 40) (x := "script") (CX := fun w => ..) (sp := fun _ => My.sp_law) rfl (by decide) rfl ⟨rfl, by decide, by decide⟩ (fun w h Y => PySem.W.kIn_of Y) ?F ?S ?C
 case F =>
  intro w mg fa h KX G hmg
  have T : ∃ t, My.Txt (L2.KOf KX) t := by
   dsimp only [L2.KOf]
   refine' My.txt_mk ?e1 ?e2 ?e3 ..
   (case e1 => PySem.W.k_is)
   (case e2 => PySem.W.k_is)
   ..
  obtain ⟨t, T⟩ := T
  have e0 := hmg.symm.trans (PySem.W.mg_of KX G T.law)
  cases e0
  exact ⟨_, fun s u => .of_eq rfl, fun base kb nb => My.law_fn T kb nb⟩
 case S => exact fun w H a ns hl hO hS => ..
 case C => exact ..
(the tactic k_is has no namespace: write k_is) -/
namespace L2
open PySem PySem.Spec PyProof.Rows
noncomputable def qcb (s : Stmt) : Arguments := match s with
 | .FunctionDef _ a _ _ _ _ _ _ _ _ => a
 | _ => { posonlyargs := [], args := [], vararg := none, kwonlyargs := [], kw_defaults := [], kwarg := none, defaults := [] }
noncomputable def qbt (s : Stmt) : List Stmt := match s with
 | .FunctionDef _ _ b _ _ _ _ _ _ _ => b
 | _ => []
noncomputable def qai (s : Stmt) : Scope := match s with
 | .FunctionDef _ _ _ _ _ _ sc _ _ _ => sc
 | _ => { kind := .function, names := [], isGenerator := false, isCoroutine := false }
noncomputable abbrev CX0 : CXT := fun _ _ _ _ _ _ => False
noncomputable abbrev E0 : XK := fun _ _ _ => False
theorem qus {X : Cx} : qfb CX0 X E0 := fun _ _ _ _ _ _ _ h => h.elim
structure Fun (K : PySem.W.Frag) (x qual : Str) (st : Stmt) (f : Addr) (fd : FuncData) : Prop where
 ex : ∃ (oc : Value) (od : Option Addr) (kV doc pm : Value) (an : Option Addr) (cdv ct : Value) (osl : Array (Option Value)),
  fd = PySem.W.fnOf x qual (qcb st) (qbt st) (qai st) .none kV doc pm an cdv ct /\ K.lookup f = some ⟨oc, od, .func fd, osl⟩ /\ PySem.W.codeIn K cdv qual = true
 kp : PySem.W.keepIn K (.ref f) = true
section
variable {P : Program} {w : World} {K : PySem.W.Frag} {mg : Str -> Option Value} {base : Heap}
theorem Fun.ok {x qual : Str} {st : Stmt} {f : Addr} {fd : FuncData} {N ps : List Str} {k : Nat} {sp : Sp} (F : Fun K x qual st f fd) (S : qao N ps (qai st)) (len : ∀ vs H Q E, sp vs H Q E -> vs.length = ps.length)
  (hbody : ∀ (cdv : Value) (A : Around) (outer : List Env) (s : Shared) (H : Hp) (vs : List V) (Q : VK) (E : XK), qcl k (A.deeper (envOfC qual (qai st) s.heap.objs.size f cdv)) -> sp vs H Q E ->
   ∃ t, PSs (qlb CX0 P w K mg base N qual (qai st) f cdv A outer s H E).nox (qbt st) t /\ t { nx := fun _ H' => Q .non H', rt := Q } (start N vs) H) : qca P w K mg base CX0 (k + 1) f fd ps sp := by
 obtain ⟨oc, od, kV, doc, pm, an, cdv, ct, osl, rfl, lk, hcd⟩ := F.ex
 refine qtl lk hcd S len fun A outer s H vs Q E hr hsp => ?_
 obtain ⟨t, h, q⟩ := hbody cdv A outer s H vs Q E hr hsp
 exact ⟨t, h.nox, q⟩
theorem Fun.binds {x qual : Str} {st : Stmt} {f : Addr} {fd : FuncData} {ps : List Str} (F : Fun K x qual st f fd)
  (h : ∀ (kV doc pm : Value) (an : Option Addr) (cdv ct : Value) (us : List Value), us.length = ps.length -> bindArgs (PySem.W.fnOf x qual (qcb st) (qbt st) (qai st) .none kV doc pm an cdv ct) ⟨us, []⟩ = pure (ps.zip us)) : Binds K fd ps [] := by
 obtain ⟨oc, od, kV, doc, pm, an, cdv, ct, osl, rfl, lk, hcd⟩ := F.ex
 exact .all (h kV doc pm an cdv ct)
theorem qh8 {x qual : Str} {st : Stmt} {f : Addr} {oc : Value} {od an : Option Addr} {osl : Array (Option Value)} {kV doc pm cdv ct : Value} (l : K.lookup f = some ⟨oc, od, .func (PySem.W.fnOf x qual (qcb st) (qbt st) (qai st) .none kV doc pm an cdv ct), osl⟩)
  (c : PySem.W.codeIn K cdv qual = true) (k : PySem.W.keepIn K (.ref f) = true) : Fun K x qual st f (PySem.W.fnOf x qual (qcb st) (qbt st) (qai st) .none kV doc pm an cdv ct) := ⟨⟨oc, od, kV, doc, pm, an, cdv, ct, osl, rfl, l, c⟩, k⟩
end
theorem qnw {n : Nat} (h : n <= 1000) : n < sizeLine := Nat.lt_of_le_of_lt h (by decide)
section
variable {X : Cx}
theorem pv (i : Nat) {x : Str} {pos : Pos} (hN : X.N[i]? = some x := by rfl) (hv : Vis X.env.scope x := by first | exact Or.inl rfl | exact Or.inr (Or.inl rfl) | exact Or.inr (Or.inr rfl)) (hd : (x == ("__debug__" : Str)) = false := by decide)
  (hcd : (x == ("__classdict__" : Str)) = false := by decide) : PE X (.Name x pos) (qw3 i) := qul hN hv hd hcd
end
theorem qem {A B : Prop} (h : B) : if false = true then A else B := by
 rw [if_neg Bool.false_ne_true]
 exact h
theorem qf9 {A B : Prop} (h : A) : if true = true then A else B := by
 rw [if_pos rfl]
 exact h
theorem qev {c A B : Prop} [Decidable c] (h1 : c -> A) (h2 : ¬ c -> B) : if c then A else B := by
 by_cases h : c
 ·rw [if_pos h]
  exact h1 h
 ·rw [if_neg h]
  exact h2 h
theorem qmo {c A B : Prop} [Decidable c] (hc : c) (h : B) : if (!decide c) = true then A else B := by
 rw [decide_eq_true hc]
 exact qem h
noncomputable def qar (H H' : Hp) : Prop := ∀ b o, H b = some o -> H' b = some o
theorem qar.refl (H : Hp) : qar H H := fun _ _ h => h
theorem qar.trans {H H1 H2 : Hp} (a : qar H H1) (b : qar H1 H2) : qar H H2 := fun c o h => b c o (a c o h)
theorem qar.free {H H' : Hp} (e : qar H H') {l : Addr} (h : H' l = Option.none) : H l = Option.none := by
 cases q : H l with
 | none => rfl
 | some o =>
  rw [e l o q] at h
  cases h
theorem qar.seq {K : PySem.W.Frag} {H H' : Hp} {a : Addr} {xs : List V} (e : qar H H') (h : SqL K H a xs) : SqL K H' a xs := by
 rcases h with (h | ⟨o, h⟩) | h
 ·exact .inl (.inl (e _ _ h))
 ·exact .inl (.inr ⟨o, e _ _ h⟩)
 ·exact .inr h
noncomputable def qg6 (env : Env) : List (Str × NameKind) -> List (Str × Addr) -> List (Str × Addr)
 | [], acc => acc
 | (x, k) :: r, acc => if (k == NameKind.free) = true then (match env.cells.lookup x with | some c => qg6 env r ((x, c) :: acc) | none => qg6 env r acc) else qg6 env r acc
theorem qdz (env : Env) : ∀ (ns : List (Str × NameKind)) (acc : List (Str × Addr)) (x : Str) (c : Addr), (x, c) ∈ qg6 env ns acc -> (x, c) ∈ acc \/ env.cells.lookup x = some c
 | [], acc, x, c, h => .inl h
 | (y, k) :: r, acc, x, c, h => by
  unfold qg6 at h
  split at h
  ·split at h
   ·next d e =>
    rcases qdz env r _ x c h with z | z
    ·rcases List.mem_cons.mp z with q | q
     ·cases q; exact .inr e
     ·exact .inl q
    ·exact .inr z
   ·exact qdz env r acc x c h
  ·exact qdz env r acc x c h
theorem qex (env : Env) : ∀ (ns : List (Str × NameKind)) (acc : List (Str × Addr)) (p : Str × Addr), p ∈ acc -> p ∈ qg6 env ns acc
 | [], acc, p, h => h
 | (y, k) :: r, acc, p, h => by
  unfold qg6
  split
  ·split
   ·exact qex env r _ p (List.mem_cons_of_mem _ h)
   ·exact qex env r _ p h
  ·exact qex env r _ p h
theorem qes (env : Env) : ∀ (ns : List (Str × NameKind)) (acc : List (Str × Addr)) (x : Str) (c : Addr), (x, NameKind.free) ∈ ns -> env.cells.lookup x = some c -> (x, c) ∈ qg6 env ns acc
 | [], acc, x, c, h, _ => nomatch h
 | (y, k) :: r, acc, x, c, h, e => by
  unfold qg6
  rcases List.mem_cons.mp h with q | q
  ·cases q
   rw [if_pos (show (NameKind.free == NameKind.free) = true from rfl), e]
   exact qex env r _ _ List.mem_cons_self
  ·split
   ·split
    ·exact qes env r _ x c q e
    ·exact qes env r _ x c q e
   ·exact qes env r _ x c q e
theorem qo1 {l : List (Str × Addr)} {x : Str} {c : Addr} (h : (x, c) ∈ l) : ∃ d, l.lookup x = some d := by
 induction l with
 | nil => cases h
 | cons p r ih =>
  obtain ⟨y, d⟩ := p
  rw [List.lookup_cons]
  cases hx : x == y with
  | true => exact ⟨d, rfl⟩
  | false =>
   rcases List.mem_cons.mp h with q | q
   ·cases q
    rw [beq_self_eq_true] at hx
    cases hx
   ·exact ih q
theorem qbw {env : Env} {ns : List (Str × NameKind)} {x : Str} {c : Addr} (h : (qg6 env ns []).lookup x = some c) : env.cells.lookup x = some c := by
 rcases qdz env ns [] x c (PySem.mem_of_lookup h) with z | z
 ·cases z
 ·exact z
theorem qkk {env : Env} {ns : List (Str × NameKind)} {x : Str} {c : Addr} (h : (x, NameKind.free) ∈ ns) (e : env.cells.lookup x = some c) : (qg6 env ns []).lookup x = some c := by
 obtain ⟨d, q⟩ := qo1 (qes env ns [] x c h e)
 rw [q, <- qbw q, e]
theorem qk8 {env : Env} {scope : Scope} (h : ∀ x ∈ scope.names, x.2 = NameKind.free -> ∃ c, env.cells.lookup x.1 = some c) : closureFor scope env = pure (qg6 env scope.names []) := by
 have go : ∀ (ns : List (Str × NameKind)) (acc : List (Str × Addr)), (∀ x ∈ ns, x.2 = NameKind.free -> ∃ c, env.cells.lookup x.1 = some c) ->
   (forIn ns acc (fun x cs => match x with | (name, kind) => if (kind == NameKind.free) = true then (do let c <- cellOf env name; pure (ForInStep.yield ((name, c) :: cs))) else pure (ForInStep.yield cs)) : Sem (List (Str × Addr))) = pure (qg6 env ns acc) := by
  intro ns
  induction ns with
  | nil => intro acc _; rfl
  | cons p r ih =>
   intro acc hh
   obtain ⟨y, k⟩ := p
   rw [List.forIn_cons]
   unfold qg6
   by_cases hk : (k == NameKind.free) = true
   ·rw [if_pos hk]
    obtain ⟨c, e⟩ := hh (y, k) List.mem_cons_self (by cases k <;> first | rfl | cases hk)
    dsimp only at e ⊢
    rw [if_pos hk]
    unfold cellOf
    rw [e]
    exact ih _ fun x hx => hh x (List.mem_cons_of_mem _ hx)
   ·rw [if_neg hk]
    dsimp only
    rw [if_neg hk]
    exact ih _ fun x hx => hh x (List.mem_cons_of_mem _ hx)
 unfold closureFor
 have q := go scope.names [] h
 simp only [bind_pure]
 exact q
noncomputable def qcd (X : Cx) (scope : Scope) (N : List Str) (C : Addr) (s0 : Shared) (H0 : Hp) (fp : List Addr) : Cx :=
 { X with N := N, s₀ := s0, H₀ := H0, env := compEnvC scope (qg6 X.env scope.names []) C X.env, outer := X.stack, stack := X.stack, ex := fp, fn := fun _ => false, pn := [], xe := fun _ _ => False }
noncomputable def emb (ix : List (Option Nat)) (σ : St) : St := ix.map fun o => match o with | none => none | some j => (σ[j]?).join
noncomputable def qrp (No : List Str) (out : Str -> Option NameKind) (scope : Scope) (N : List Str) (ix : List (Option Nat)) : Bool :=
 (N.length == ix.length) && (N.zip ix).all fun p => match p.2 with | none => true | some j => (No[j]? == some p.1) && (scope.names.lookup p.1 == some NameKind.free) && ((out p.1 == some .cell) || (out p.1 == some .free))
structure qf3 (X : Cx) (scope : Scope) (N : List Str) (ix : List (Option Nat)) : Prop where
 kind : scope.kind = .function
 names : scope.names.all (fun x => (x.2 != .cell) && ((x.2 != .local) || (scope.names.lookup x.1 == some .local)) && ((x.2 != .free) || (X.env.kindOf x.1 == some .cell) || (X.env.kindOf x.1 == some .free))) = true
 em : qrp X.N X.env.kindOf scope N ix = true
 nd : N.Nodup
theorem qse {scope : Scope} {env : Env} {x : Str} {k : NameKind} : ∀ {ns : List (Str × NameKind)}, (ns.map fun (n, k) => if (k == NameKind.free && env.scope.kind == .function && env.kindOf n == some .cell) = true then (n, NameKind.cell) else (n, k)).lookup x = some k ->
  (k = .cell \/ k = .free) -> (∀ y ∈ ns, y.2 ≠ .cell) -> (x, NameKind.free) ∈ ns
 | [], h, _, _ => by cases h
 | (n, k') :: r, h, hk, hc => by
  have ih := fun h' => qse (scope := scope) (env := env) (x := x) (k := k) (ns := r) h' hk fun y hy => hc y (List.mem_cons_of_mem _ hy)
  have key : ∀ k'' : NameKind, List.lookup x ((n, k'') :: (r.map fun (n, k) => if (k == NameKind.free && env.scope.kind == .function && env.kindOf n == some .cell) = true then (n, NameKind.cell) else (n, k))) = some k ->
    (k'' = k' \/ (k'' = .cell /\ k' = .free)) -> (x, NameKind.free) ∈ (n, k') :: r := fun k'' h hq => by
   rw [List.lookup_cons] at h
   cases hx : x == n with
   | true =>
    rw [hx] at h
    cases h
    have e : x = n := eq_of_beq hx
    subst e
    rcases hq with q | ⟨_, q⟩
    ·rcases hk with z | z
     ·exact absurd (q.symm.trans z) (hc (x, k') List.mem_cons_self)
     ·rw [<- q, z]; exact List.mem_cons_self
    ·rw [q]; exact List.mem_cons_self
   | false =>
    rw [hx] at h
    exact List.mem_cons_of_mem _ (ih h)
  rw [List.map_cons] at h
  dsimp only at h
  split at h
  ·next hh =>
   refine key _ h (.inr ⟨rfl, ?_⟩)
   cases k' <;> first | rfl | (simp at hh)
  ·exact key _ h (.inl rfl)
theorem qq7 {env : Env} {x : Str} : ∀ {ns : List (Str × NameKind)}, ns.lookup x = some NameKind.free -> ∃ k, (k = NameKind.cell \/ k = NameKind.free) /\
  (ns.map fun (n, k) => if (k == NameKind.free && env.scope.kind == .function && env.kindOf n == some .cell) = true then (n, NameKind.cell) else (n, k)).lookup x = some k
 | [], h => by cases h
 | (n, k') :: r, h => by
  rw [List.lookup_cons] at h
  rw [List.map_cons]
  dsimp only
  cases hx : x == n with
  | true =>
   rw [hx] at h
   cases h
   split
   ·exact ⟨_, .inl rfl, by rw [List.lookup_cons, hx]⟩
   ·exact ⟨_, .inr rfl, by rw [List.lookup_cons, hx]⟩
  | false =>
   rw [hx] at h
   obtain ⟨k, hk, e⟩ := qq7 (env := env) (ns := r) h
   refine ⟨k, hk, ?_⟩
   split <;> (rw [List.lookup_cons, hx]; exact e)
section
variable {X : Cx} {scope : Scope} {N : List Str} {ix : List (Option Nat)}
theorem qf3.nocell (L : qf3 X scope N ix) : ∀ x ∈ scope.names, x.2 ≠ .cell := fun x hx z => by
 have q := List.all_eq_true.mp L.names x hx
 rw [z] at q
 simp at q
theorem qf3.locals (L : qf3 X scope N ix) : ∀ x ∈ scope.names, x.2 = .local -> scope.names.lookup x.1 = some .local := fun x hx z => by
 have q := List.all_eq_true.mp L.names x hx
 rw [z] at q
 simpa using q
theorem qf3.frees (L : qf3 X scope N ix) : ∀ x ∈ scope.names, x.2 = .free -> X.env.kindOf x.1 = some .cell \/ X.env.kindOf x.1 = some .free := fun x hx z => by
 have q := List.all_eq_true.mp L.names x hx
 rw [z] at q
 simpa using q
theorem qf3.clos (L : qf3 X scope N ix) (ok : X.Ok) : closureFor scope X.env = pure (qg6 X.env scope.names []) :=
 qk8 fun x hx z => ok.has _ (L.frees x hx z)
theorem qf3.len (L : qf3 X scope N ix) : N.length = ix.length := by
 have q := L.em
 unfold qrp at q
 rw [Bool.and_eq_true] at q
 exact eq_of_beq q.1
theorem qf3.out (L : qf3 X scope N ix) {i j : Nat} {x : Str} (h1 : N[i]? = some x) (h2 : ix[i]? = some (some j)) : X.N[j]? = some x /\ scope.names.lookup x = some NameKind.free /\ (X.env.kindOf x = some .cell \/ X.env.kindOf x = some .free) := by
 have q := L.em
 unfold qrp at q
 rw [Bool.and_eq_true] at q
 have hz : (N.zip ix)[i]? = some (x, some j) := by
  rw [List.getElem?_zip_eq_some]
  exact ⟨h1, h2⟩
 have r := List.all_eq_true.mp q.2 _ (List.mem_of_getElem? hz)
 simp only [Bool.and_eq_true, Bool.or_eq_true, beq_iff_eq] at r
 exact ⟨r.1.1, r.1.2, r.2⟩
theorem qvw (L : qf3 X scope N ix) {pins : List (Addr × Obj)} {σ : St} {H2 : Hp} {s2 : Shared} {C : Addr} {fp : List Addr} (I2 : Inv X pins σ H2 s2) (hC : s2.heap.objs.size <= C) (hf : ∀ b ∈ fp, qg7 X pins H2 b) (hb : ∀ b ∈ fp, b < s2.heap.objs.size) :
  (qcd X scope N C s2 H2 fp).Ok where
 mod := I2.ok.mod
 kind := L.kind
 glob := I2.ok.glob
 blt := I2.ok.blt
 above := hC
 inj := fun x y c h1 h2 => I2.ok.inj x y c (qbw h1) (qbw h2)
 has := fun x hx => by
  have hm : (x, NameKind.free) ∈ scope.names := by
   rcases hx with hx | hx
   ·exact qse (scope := scope) (env := X.env) hx (.inl rfl) L.nocell
   ·exact qse (scope := scope) (env := X.env) hx (.inr rfl) L.nocell
  obtain ⟨c, e⟩ := I2.ok.has x (L.frees _ hm rfl)
  exact ⟨c, qkk hm e⟩
 cab := fun x c h _ => Bool.noConfusion h
 hd := I2.ok.hd
 frames := I2.ok.frames
 stk := .inl rfl
 exf := fun b h => ⟨Nat.ne_of_lt (Nat.lt_of_lt_of_le (hb b h) hC), fun x c e => (hf b h).2.2.2.2.1 x c (qbw e)⟩
 bs := fun b o e => I2.bs b o e
 bsz := Nat.le_trans I2.ok.bsz I2.sz
 noex := fun b o e h => by
  rcases (hf b h).2.2.2.1 with z | z
  ·exact I2.ok.noex b o e z
  ·exact absurd (Nat.lt_of_lt_of_le (Heap.lt_size e) (Nat.le_trans I2.ok.bsz z)) (Nat.lt_irrefl _)
 exfs := fun b h z => (List.mem_cons.mp (I2.stkSub b z)).elim (hf b h).2.1 (hf b h).2.2.1
 funs := I2.stack
 frf := fun b h => I2.stkFree b h
end
noncomputable def PTs (X : Cx) (ifs : List Expr) (t : TT) : Prop :=
 ∀ (pins : List (Addr × Obj)) (s : Shared) (σ : St) (H : Hp) (Q : Bool -> Hp -> Prop), Inv X pins σ H s -> t σ H Q ->
  wpAny (model X.prog X.w) X.A (forIn ifs true fun c r => if r = true then do let ok <- isTrue c X.env (eval c X.env); pure (ForInStep.yield ok) else pure (ForInStep.yield r)) (TP X pins σ Q) X.xe s
noncomputable def qk9 : TT := fun _ H Q => Q true H
theorem qbk {X : Cx} : PTs X [] qk9 := fun _ _ _ H _ I h => wpAny_tests_nil ⟨H, I, h⟩
theorem qcw {X : Cx} {c : Expr} {t : TT} (h : PT X c t) : PTs X [c] t := fun pins s σ H Q I q => wpAny_tests_one (h pins s σ H Q I q)
section
variable {prog : Program} {w : World} {A : Around} {R : Result -> Shared -> Prop} {s : Shared}
theorem qr8 {elt tg iter : Expr} {ifs : List Expr} {scope : Scope} {pos : Pos} {it acc : Value} {env : Env} (J : Nat -> Shared -> Prop)
  (turn : ∀ n s, J n s -> wpAny (model prog w) A (pyNext it) (fun r s1 => match r with
   | none => R (.ok .next) s1
   | some v => wpAny (model prog w) A (letOwnedTupleGo tg it v) (fun _ s2 => wpAny (model prog w) A (assign tg env v) (fun _ s3 =>
     wpAny (model prog w) A (forIn ifs true fun c r => if r = true then do let ok <- isTrue c env (eval c env); pure (ForInStep.yield ok) else pure (ForInStep.yield r)) (fun ok s4 =>
      if ok = true then wpAny (model prog w) A (eval elt env) (fun x s5 => wpAny (model prog w) A (call (.builtin "list.append") [acc, x]) (fun _ s6 => ∃ m, m < n /\ J m s6) (fun _ _ => False) s5) (fun _ _ => False) s4
      else ∃ m, m < n /\ J m s4) (fun _ _ => False) s3) (fun _ _ => False) s2) (fun _ _ => False) s1) (fun _ _ => False) s)
  (n : Nat) (h : J n s) : codeAny (model prog w) A (.compLoop (.ListComp elt [⟨tg, iter, ifs, 0⟩] scope pos) 0 it acc env) R s := by
 refine codeAny_loop rfl J (fun k t hJ => ?_) n h
 show wpAny _ A ((compTurn (.ListComp elt [⟨tg, iter, ifs, 0⟩] scope pos) 0 it acc env).onRaise (fun x => do noteFrame x env; theTreesLotGoes x)) _ _ t
 refine wpAny_noted (wpAny_mono (E := fun _ _ => False) ?_ (fun _ _ q => q) fun _ _ f => f.elim)
 rw [compTurn_list]
 refine wpAny_bind (wpAny_standAt (wpAny_bind (thn (turn k t hJ) fun r s1 h1 => ?_)))
 cases r with
 | none => exact wpAny_pure h1
 | some v =>
  refine wpAny_bind (thn h1 fun _ s2 h2 => wpAny_bind (thn h2 fun _ s3 h3 => wpAny_bind (thn h3 fun ok s4 h4 => ?_)))
  cases ok with
  | false => exact wpAny_pure ⟨rfl, h4⟩
  | true => exact wpAny_bind (wpAny_bind (thn h4 fun x s5 h5 => wpAny_bind (thn h5 fun _ s6 h6 => wpAny_pure (wpAny_pure ⟨rfl, h6⟩))))
end
noncomputable def LcW (J : It) (g : TG) (tt : TT) (te : TE) (σ' : St) (fin : List V -> Hp -> Prop) (H1 : Hp) : Prop :=
 ∃ W : Nat -> Nat -> List V -> St -> Hp -> Prop, (∃ m, W 0 m [] σ' H1) /\ ∀ i m ys σ H, W i m ys σ H ->
  (J.stop i H /\ ys.length <= sizeLine /\ fin ys H) \/ (J.go i H /\ ys.length < sizeLine /\ ∃ Nx : List V -> St -> Hp -> Prop, (∀ ys' σ' H', Nx ys' σ' H' -> ∃ m', m' < m /\ W (i + 1) m' ys' σ' H') /\
   ∀ x H', J.yld i H x H' -> g x σ H' fun σ2 H2 => tt σ2 H2 fun b H3 => if b = true then te σ2 H3 (fun v H4 => Nx (ys ++ [v]) σ2 H4) else Nx ys σ2 H3)
noncomputable def tLc (wi : TI) (g : TG) (tt : TT) (te : TE) (ix : List (Option Nat)) : TE := fun σ H Q => wi σ H fun J H1 => LcW J g tt te (emb ix σ) (fun ys H' => ∀ p, H' p = none -> Q (.ref p) (upd H' p (.lst ys))) H1
section
variable {X : Cx} {scope : Scope} {N : List Str} {ix : List (Option Nat)}
theorem qu4 {pins pins' : List (Addr × Obj)} {σ σ' : St} {H2 H' : Hp} {s2 s' : Shared} {C D : Addr} {fp : List Addr} {ys : List V} {its : List Value} {k : Nat} {h' : Heap} (I2 : Inv X pins σ H2 s2) (hf : ∀ b ∈ fp, qg7 X pins H2 b)
  (I' : Inv (qcd X scope N C s2 H2 fp) pins' σ' H' s') (hC : s2.heap.objs.size <= C) (hD : s2.heap.objs.size <= D) (hDC : D ≠ C) (hn : H' D = none) (ho : s'.heap.get? D = some { cls := .type "list", data := .seq its.toArray k }) (rv : qba ys its) (hz : ys.length <= sizeLine)
  (hs : ∀ b o, b ≠ C -> s'.heap.get? b = some o -> h'.get? b = some o) : Inv X pins σ (upd H' D (.lst ys)) { s' with heap := h' } := by
 have B : Un (frs X.stack) fp H2 H' s2.heap s'.heap := I'.base
 have neC : ∀ b o, s2.heap.get? b = some o -> b ≠ C := fun b o e => Nat.ne_of_lt (Nat.lt_of_lt_of_le (Heap.lt_size e) hC)
 have neD : ∀ b o, s2.heap.get? b = some o -> b ≠ D := fun b o e => Nat.ne_of_lt (Nat.lt_of_lt_of_le (Heap.lt_size e) hD)
 have hCn : H' C = none := I'.free
 have tD : ∀ b u, H' b = some u -> b ≠ D := fun b u e => qaf e hn
 have tC : ∀ b u, H' b = some u -> b ≠ C := fun b u e => qaf e hCn
 refine I2.call' (s' := { s' with heap := h' }) (ch := fp) I'.os ⟨fun b o e n hb hx => ?_, fun b o e n hb hx => ?_, fun b o e n hx => ?_, fun b o e hx => ?_, fun b xs e => ?_, fun b o u e => ?_, fun b ps e => ?_⟩ (fun b u e => ?_) I'.bare fun b hb => ⟨(hf b hb).2.2.2.1, (hf b hb).2.1, (hf b hb).2.2.2.2.1, (hf b hb).2.2.2.2.2⟩
 ·exact hs b o (neC b o e) (B.keep b o e n hb hx)
 ·obtain ⟨sl, q⟩ := B.slot b o e n hb hx
  exact ⟨sl, hs b _ (neC b o e) q⟩
 ·rw [qag (neD b o e)]; exact B.free b o e n hx
 ·obtain ⟨o', q⟩ := B.there b o e hx
  exact ⟨o', hs b o' (neC b o e) q⟩
 ·rw [qag (tD b _ (B.tups b xs e))]; exact B.tups b xs e
 ·rw [qag (tD b _ (B.frzs b o u e))]; exact B.frzs b o u e
 ·obtain ⟨m, q⟩ := B.tbls b ps e
  exact ⟨m, by rw [qag (tD b _ q)]; exact q⟩
 ·by_cases hb : b = D
  ·subst hb
   rw [qab] at e
   cases e
   exact ⟨hz, its, k, rv, hs b _ hDC ho⟩
  ·rw [qag hb] at e
   refine (I'.hok b u e).stay (fun c v hc q => hs c v ?_ q) (fun c q => by rw [qag (tD c _ q)]; exact q) fun c xs q => by rw [qag (tD c _ q)]; exact q
   rcases hc with z | z
   ·rw [z]; exact tC b u e
   ·exact tC c _ z
theorem qva (L : qf3 X scope N ix) {pins : List (Addr × Obj)} {σ : St} {H2 : Hp} {s2 : Shared} {C : Addr} {fp : List Addr} {h1 : Heap} {tk : Nat} {m : Str -> Option Value} (I2 : Inv X pins σ H2 s2) (hC : s2.heap.objs.size <= C) (hf : ∀ b ∈ fp, qg7 X pins H2 b) (hb : ∀ b ∈ fp, b < s2.heap.objs.size)
  (kp : ∀ b o, s2.heap.get? b = some o -> h1.get? b = some o) (hn : h1.Ns C m) : Inv (qcd X scope N C s2 H2 fp) [] (emb ix σ) H2 { s2 with heap := h1, toks := tk } := by
 refine ⟨qvw L I2 hC hf hb, rfl, I2.bare, Un.kept kp, ⟨m, hn, fun i x v e1 e2 e3 => ?_⟩, fun x c e => ?_, I2.hok.fresh hC, fun x c e => I2.freeC x c (qbw e), fun p hp => absurd (show p ∈ ([] : List (Addr × Obj)) from hp) (by simp), I2.hok.kept kp, ?_⟩
 ·unfold emb at e2
  rw [List.getElem?_map] at e2
  cases q : ix[i]? with
  | none => rw [q] at e2; cases e2
  | some o =>
   rw [q] at e2
   cases o with
   | none => cases e2
   | some j =>
    have e2' : (σ[j]?).join = some v := Option.some.inj e2
    have e4 : σ[j]? = some (some v) := by
     cases z : σ[j]? with
     | none => rw [z] at e2'; cases e2'
     | some y => rw [z] at e2'; exact congrArg some e2'
    obtain ⟨a1, a2, a3⟩ := L.out e1 q
    obtain ⟨mo, _, hl⟩ := I2.loc
    obtain ⟨u, r, lk⟩ := hl j x v a1 e4 (.inr a3)
    refine ⟨u, r, ?_⟩
    rcases lk with ⟨k, _⟩ | ⟨k, c, e, o, ho, hd⟩
    ·rcases a3 with z | z
     ·rw [z] at k; cases k
     ·rw [z] at k; cases k
    ·obtain ⟨k', hk', e'⟩ := qq7 (env := X.env) a2
     refine .inr ⟨?_, c, qkk (PySem.mem_of_lookup a2) e, o, kp _ _ ho, hd⟩
     rcases hk' with z | z
     ·subst z; exact .inl e'
     ·subst z; exact .inr e'
 ·obtain ⟨v, o, ho, hd⟩ := I2.cell x c (qbw e)
  exact ⟨v, o, kp _ _ ho, hd⟩
 ·unfold emb
  rw [List.length_map]
  exact L.len.symm
variable {tg iter elt : Expr} {ifs : List Expr} {pos : Pos} {g : TG} {tt : TT} {te : TE}
theorem qq6 (L : qf3 X scope N ix) (hc : X.calm = true) (hg : ∀ C s0 H0 fp, PG (qcd X scope N C s0 H0 fp) tg g) (ht : ∀ C s0 H0 fp, PTs (qcd X scope N C s0 H0 fp) ifs tt) (he : ∀ C s0 H0 fp, PE (qcd X scope N C s0 H0 fp) elt te)
  {pins : List (Addr × Obj)} {σ : St} {H2 : Hp} {s2 : Shared} {it : Addr} {fp : List Addr} {tn : Nat -> Heap -> Prop} {J : It} {fin : List V -> Hp -> Prop} {E : Value -> Shared -> Prop} {RR : Value -> Addr -> Result -> Shared -> Prop}
  (I2 : Inv X pins σ H2 s2) (T : Turn X.prog X.w X.K tg J fp it tn) (st : tn 0 s2.heap) (f2 : ∀ b ∈ fp, qg7 X pins H2 b) (hW : LcW J g tt te (emb ix σ) fin H2)
  (hRR : ∀ D C s' m ys H', s'.heap.Ns C m -> s'.os = s2.os -> D ≠ C -> qg7 X pins (upd H' D (.lst ys)) C -> (∀ h', Heap.SameBut C s'.heap h' -> Inv X pins σ (upd H' D (.lst ys)) { s' with heap := h' }) -> H' D = none -> fin ys H' -> RR (.ref D) C (.ok .next) s') :
  wpAny (model X.prog X.w) X.A (newList []) (fun acc s3 => wpAny (model X.prog X.w) X.A (newFunctionEnv scope X.env.globals (qg6 X.env scope.names []) [] X.env.qual none .none (some X.env)) (fun cenv s4 =>
   codeAny (model X.prog X.w) X.A (.compStart (.ListComp elt [⟨tg, iter, ifs, 0⟩] scope pos) 0 (.ref it) acc { cenv with scope := relabel scope X.env }) (RR acc cenv.locals) s4) E s3) E s2 := by
 obtain ⟨W, ⟨m0, w0⟩, turn⟩ := hW
 have hb2 : ∀ b ∈ fp, b < s2.heap.objs.size := fun b hb => by
  obtain ⟨o, e, _⟩ := T.obj _ _ st b hb
  exact Heap.lt_size e
 refine wpAny_newObj_type (wpAny_newFunctionEnv L.nocell (by intro y hy; simp at hy) (fun h1 hns hsb => ?_) L.kind)
 dsimp only at hns hsb ⊢
 generalize hG : s2.heap.push { cls := .type "list", dict := none, data := .seq ([] : List Value).toArray } = G at hns hsb ⊢
 have hGs : G.objs.size = s2.heap.objs.size + 1 := by rw [<- hG, Heap.size_push]
 generalize hDe : s2.heap.objs.size = D at hGs hb2
 generalize hCe : G.objs.size = C at hGs hns hsb ⊢
 have hDC : D ≠ C := by omega
 have nq : ∀ b : Nat, b < s2.heap.objs.size -> b ≠ C /\ b ≠ D := fun b h => ⟨by omega, by omega⟩
 have nq2 : ∀ b ∈ fp, b ≠ C /\ b ≠ D := fun b hb => nq b (by rw [hDe]; exact hb2 b hb)
 have kG : ∀ b o, s2.heap.get? b = some o -> G.get? b = some o := fun b o e => by rw [<- hG]; exact Heap.get?_push_of_some _ e
 have kp : ∀ b o, s2.heap.get? b = some o -> h1.get? b = some o := fun b o e => hsb.extBut b o (nq b (Heap.lt_size e)).1 (Heap.get?_push_of_some _ (kG b o e))
 have oD : ∃ n, h1.get? D = some { cls := .type "list", data := .seq ([] : List Value).toArray n } := ⟨_, hsb.extBut _ _ hDC (Heap.get?_push_of_some _ (by rw [<- hG, <- hDe]; exact Heap.get?_push_size _ rfl))⟩
 have I4 := qva L (tk := s2.toks + ([] : List (Str × Value)).length) I2 (C := C) (by omega) f2 (by rw [hDe]; exact hb2) kp hns
 have st4 : tn 0 h1 := T.keep _ _ _ st fun b _ o e => kp b o e
 have hDf : D ∉ (qcd X scope N C s2 H2 fp).fs := fun z => by
  have z' : D ∈ frs X.stack := z
  rcases List.mem_cons.mp (I2.stkSub D z') with q | q
  ·exact (nq _ I2.lt).2 q.symm
  ·exact I2.nofs (a := D) (by omega) q
 have cellD : ∀ x c, (qcd X scope N C s2 H2 fp).env.cells.lookup x = some c -> c ≠ D := fun x c e z => by
  obtain ⟨v, o, ho, _⟩ := I2.cell x c (qbw e)
  exact (nq c (Heap.lt_size ho)).2 z
 have stat : ∀ {H' : Hp} {pl : List (Addr × Obj)}, (∀ b ∈ fp, H' b = none) -> (∀ p ∈ pl, p.1 = D) -> ∀ b ∈ fp, qg7 (qcd X scope N C s2 H2 fp) pl H' b := fun {H' pl} hn hp b hb => by
  have hlt := hb2 b hb
  refine ⟨hn b hb, (nq2 b hb).1, fun z => ?_, .inl hb, fun x c e => (f2 b hb).2.2.2.2.1 x c (qbw e), fun p hq z => ?_⟩
  ·exact (List.mem_cons.mp (I2.stkSub b z)).elim (f2 b hb).2.1 (f2 b hb).2.2.1
  ·have hq' : p ∈ pl := by simpa [qcd] using hq
   exact (nq2 b hb).2 (z.symm.trans (hp p hq'))
 have pinD : ∀ {pl : List (Addr × Obj)} {σ' : St} {H' : Hp} {s' : Shared} {o : Obj}, Inv (qcd X scope N C s2 H2 fp) pl σ' H' s' -> s'.heap.get? D = some o -> H' D = none -> (∀ v, o.data ≠ .cell v) -> Inv (qcd X scope N C s2 H2 fp) [(D, o)] σ' H' s' :=
  fun {pl σ' H' s' o} I' ho hn hd => I'.pins_of fun p hp => by
   have e : p = (D, o) := by simpa using hp
   subst e
   exact ⟨ho, hn, hDC, hDf, hd⟩
 have loop : ∀ s4 : Shared, s4 = { s2 with heap := h1, toks := s2.toks + ([] : List (Str × Value)).length } ->
   codeAny (model X.prog X.w) X.A (.compLoop (.ListComp elt [⟨tg, iter, ifs, 0⟩] scope pos) 0 (.ref it) (.ref D) (qcd X scope N C s2 H2 fp).env) (RR (.ref D) C) s4 := by
  rintro s4 rfl
  refine qr8 (fun n s' => ∃ i σ' H' ys its k, Inv (qcd X scope N C s2 H2 fp) [(D, { cls := .type "list", data := .seq its.toArray k })] σ' H' s' /\ tn i s'.heap /\ (∀ b ∈ fp, H' b = none) /\ qba ys its /\ W i n ys σ' H') ?_ m0 ?_
  ·rintro n s' ⟨i, σ', H', ys, its, k, I', st', fr', rv, w'⟩
   have hD' := I'.pin _ (List.mem_append_right _ List.mem_cons_self)
   rcases turn i n ys σ' H' w' with ⟨stop, hz, qf⟩ | ⟨go, hz, Nx, hN, step⟩
   ·refine thn (T.done (qcd X scope N C s2 H2 fp) rfl rfl rfl hc i _ s' σ' H' _ I' (stat fr' (by simp)) st' stop) fun r s5 ⟨hr, I5⟩ => ?_
    subst hr
    have hD5 := I5.pin _ (List.mem_append_right _ List.mem_cons_self)
    obtain ⟨m5, hn5, _⟩ := I5.loc
    refine hRR D C s5 m5 ys H' hn5 I5.os hDC (I2.fpOk (by omega) (by rw [qag (Ne.symm hDC)]; exact I5.free)) (fun h' hs' => ?_) hD5.2.1 qf
    exact qu4 I2 f2 I5 (by omega) (by omega) hDC hD5.2.1 hD5.1 rv hz fun b o hb e => hs'.extBut b o hb e
   ·refine thn (T.item (qcd X scope N C s2 H2 fp) rfl rfl rfl hc i _ s' σ' H' _ I' (stat fr' (by simp)) st' go) fun r s5 ⟨u, hr, h5⟩ => ?_
    subst hr
    refine thn h5 fun _ s6 ⟨x, H6, I6, r6, y6, st6, fr6⟩ => ?_
    have I6' := I6.pinned (stat fr6 (by simp)) (T.obj _ _ st6)
    refine thn (hg C s2 H2 fp _ s6 σ' H6 x u _ I6' r6 (step x H6 y6)) fun _ s7 ⟨σ7, H7, I7, q7⟩ => ?_
    refine thn (ht C s2 H2 fp _ s7 σ7 H7 _ I7 q7) fun ok s8 ⟨H8, I8, q8⟩ => ?_
    have back : ∀ {H9 : Hp} {s9 : Shared}, Inv (qcd X scope N C s2 H2 fp) ([(D, { cls := .type "list", data := .seq its.toArray k })] ++ qf8 fp s6.heap) σ7 H9 s9 -> tn (i + 1) s9.heap /\ ∀ b ∈ fp, H9 b = none := fun {H9 s9} I9 => by
     refine ⟨T.keep _ _ _ st6 fun b hb o e => (I9.pin (b, o) (List.mem_append_right _ (List.mem_append_right _ (qcf hb e)))).1, fun b hb => ?_⟩
     obtain ⟨o, e, d⟩ := T.obj _ _ st6 b hb
     exact (I9.pin (b, o) (List.mem_append_right _ (List.mem_append_right _ (qcf hb e)))).2.1
    cases ok with
    | false =>
     rw [if_neg Bool.false_ne_true] at q8 ⊢
     obtain ⟨m', hm, w8⟩ := hN _ _ _ q8
     obtain ⟨st8, fr8⟩ := back I8
     exact ⟨m', hm, i + 1, σ7, H8, ys, its, k, I8.unpinned, st8, fr8, rv, w8⟩
    | true =>
     rw [if_pos rfl] at q8 ⊢
     refine thn (he C s2 H2 fp _ s8 σ7 H8 _ I8 q8) fun y s9 ⟨v, H9, I9, r9, q9⟩ => ?_
     have hD9 := I9.pin _ (List.mem_append_right _ (List.mem_append_left _ List.mem_cons_self))
     obtain ⟨st9, fr9⟩ := back I9
     refine wpAny_list_append_plain (hsz := by have := rv.length; rw [List.size_toArray]; omega) ⟨k, hD9.1⟩ fun h' hl' hs' => ?_
     obtain ⟨m', hm, w9⟩ := hN _ _ _ q9
     obtain ⟨k', ho'⟩ := hl'
     have I10 : Inv (qcd X scope N C s2 H2 fp) [] σ7 H9 { s9 with heap := h' } := (I9.pins_of (pins' := []) fun p hp => absurd hp (by simp)).turned (t' := s9.toks) (it := D) (fun b o hb e => hs'.extBut b o hb e) hD9.2.1 hDC (.inr (by show s2.heap.objs.size <= D; omega)) cellD (fun p hp => absurd hp (by simp [qcd]))
     refine ⟨m', hm, i + 1, σ7, H9, ys ++ [v], its ++ [y], k', pinD I10 (by rw [ho']; simp) hD9.2.1 (fun v z => by cases z), ?_, fr9, rv.append (.cons r9 .nil), w9⟩
     exact T.keep _ _ _ st9 fun b hb o e => hs'.extBut b o (nq2 b hb).2 e
  ·obtain ⟨n, e⟩ := oD
   exact ⟨0, emb ix σ, H2, [], [], n, pinD I4 e (I2.hok.fresh (by omega)) (fun v z => by cases z), st4, fun b hb => (f2 b hb).1, .nil, w0⟩
 have q := loop _ rfl
 exact codeAny_compStart_list q (T.self _ 0 _ _ _ st4 q)
end
theorem qfx {ss : List Str} : ∀ {us : List Value}, qba (ss.map V.str) us -> StrsAre us ss := by
 induction ss with
 | nil => intro us r; rw [List.map_nil] at r; cases r; exact .nil
 | cons n ns ih =>
  intro us r
  rw [List.map_cons] at r
  cases r with
  | cons r1 r2 =>
   obtain ⟨t, e⟩ := r1
   subst e
   exact .cons n t (ih r2)
theorem qe6 : ∀ {vs : List Value} {ss : List Str}, StrsAre vs ss -> qba (ss.map V.str) vs
 | _, _, .nil => .nil
 | _, _, .cons n t h => .cons ⟨t, rfl⟩ (qe6 h)
section
variable {X : Cx}
variable {scope : Scope} {N : List Str} {ix : List (Option Nat)} {tg iter elt : Expr} {ifs : List Expr} {pos : Pos} {g : TG} {tt : TT} {te : TE} {wi : TI}
theorem qcx (L : qf3 X scope N ix) (hc : X.calm = true) (hi : PI X tg iter wi) (hg : ∀ C s0 H0 fp, PG (qcd X scope N C s0 H0 fp) tg g) (ht : ∀ C s0 H0 fp, PTs (qcd X scope N C s0 H0 fp) ifs tt) (he : ∀ C s0 H0 fp, PE (qcd X scope N C s0 H0 fp) elt te)
  (hs : ∀ x, foldedSetIterable iter X.env x = pure x := by intro _; rfl) : PE X (.ListComp elt [⟨tg, iter, ifs, 0⟩] scope pos) (tLc wi g tt te ix) := by
 intro pins s σ H Q I h
 rw [eval_ListComp]
 refine wpAny_comprehension_free (use := none) rfl hs (L.clos I.ok) L.kind L.locals (thn (hi pins s σ H _ I h) fun v s1 h1 => thn h1 fun itv s2 h2 => ?_)
 obtain ⟨it, fp, tn, J, H2, rfl, I2, T, st2, f2, hW⟩ := h2
 refine qq6 (RR := fun acc C => compPost (model X.prog X.w) X.A X.xe none (EP X pins σ Q) acc C) L hc hg ht he I2 T st2 f2 hW ?_
 intro D C s' m ys H' hn ho hDC hC hI hD fin
 exact ⟨m, hn, fun h' hs' => ⟨.ref D, _, hI h' hs', rfl, fin D hD⟩⟩
noncomputable def qqv (i : Nat) (wi : TI) (g : TG) (tt : TT) (te : TE) (ix : List (Option Nat)) : TS := fun D σ H => wi σ H fun J H1 => LcW J g tt te (emb ix σ) (fun ys H' => ∀ p, H' p = none -> D.nx (σ.set i (some (.ref p))) (upd H' p (.lst ys))) H1
theorem qdj {i : Nat} {y : Str} {py spos : Pos} (hN : X.N.Nodup) (hi' : X.N[i]? = some y) (hx : Loc X.env.scope y) (L : qf3 X scope N ix) (hc : X.calm = true) (hi : PI X tg iter wi) (hg : ∀ C s0 H0 fp, PG (qcd X scope N C s0 H0 fp) tg g)
  (ht : ∀ C s0 H0 fp, PTs (qcd X scope N C s0 H0 fp) ifs tt) (he : ∀ C s0 H0 fp, PE (qcd X scope N C s0 H0 fp) elt te)
  (hsw : swapsWith (.ListComp elt [⟨tg, iter, ifs, 0⟩] scope pos) (some (.Name y py)) spos.line X.env = pure true := by rfl) (hs : ∀ x, foldedSetIterable iter X.env x = pure x := by intro _; rfl)
  (hf : X.fn y = true \/ X.env.scope.names.lookup y = some .local := by first | exact .inl rfl | exact .inr rfl | assumption) :
  PS X (.Assign [.Name y py] (.ListComp elt [⟨tg, iter, ifs, 0⟩] scope pos) spos) (qqv i wi g tt te ix) := by
 intro pins s σ H D I h
 rw [exec_Assign_Name_used _ _ _ _ hsw]
 refine wpAny_bind (wpAny_standAt (wpAny_bind ?_))
 show wpAny _ X.A (do let _ <- comprehension (.ListComp elt [⟨tg, iter, ifs, 0⟩] scope pos) scope X.env _ (newList []) false (eval iter X.env) (some (assign (.Name y py) X.env))) _ _ s
 refine wpAny_bind (thn (wpAny_comprehension_free (use := some (assign (.Name y py) X.env)) (Q := fun _ s' => SP X pins D .next s') rfl hs (L.clos I.ok) L.kind L.locals
  (thn (hi pins s σ H _ I h) fun v s1 h1 => thn h1 fun itv s2 h2 => ?_)) fun _ s' hq => wpAny_pure (wpAny_pure hq))
 obtain ⟨it, fp, tn, J, H2, rfl, I2, T, st2, f2, hW⟩ := h2
 refine qq6 (RR := fun acc C => compPost (model X.prog X.w) X.A X.xe (some (assign (.Name y py) X.env)) (fun _ s' => SP X pins D .next s') acc C) L hc hg ht he I2 T st2 f2 hW ?_
 intro Da C s' m ys H' hn ho hDC hC hI hD fin
 have I' := hI s'.heap (Heap.SameBut.refl _ _)
 show wpAny _ X.A (assign (.Name y py) X.env (.ref Da)) _ _ s'
 refine wpAny_assign_Name (qfh (v := .ref Da) I' hN hi' hx rfl (fun s'' I'' ch => ?_) hf)
 obtain ⟨a, hsa, hwa⟩ := ch
 obtain ⟨c1, c2, c3, c4, c5, c6⟩ := hC
 have hCa : C ≠ a := by
  rcases hwa with z | z
  ·rw [z]; exact c2
  ·exact fun w => c5 y a z w.symm
 refine ⟨m, hn.sameBut hsa hCa, fun h' hs' => ⟨_, _, I''.turned (t' := s''.toks) (it := C) (fun b o hb e => hs'.extBut b o hb e) c1 c2 c4 c5 c6, fin Da hD⟩⟩
end
mutual
inductive DV (H : Hp) : V -> PyData -> Prop
 | non : DV H .non .none
 | bl (b : Bool) : DV H (.bl b) (.bool b)
 | int (i : Int) : DV H (.int i) (.int i)
 | str (x : Str) : DV H (.str x) (.str x)
 | tup {a : Addr} {xs : List V} {ds : List PyData} : H a = some (.tup xs) -> DVs H xs ds -> DV H (.ref a) (.tuple ds)
 | lst {a : Addr} {xs : List V} {ds : List PyData} : H a = some (.lst xs) -> DVs H xs ds -> DV H (.ref a) (.list ds)
inductive DVs (H : Hp) : List V -> List PyData -> Prop
 | nil : DVs H [] []
 | cons {x : V} {d : PyData} {xs : List V} {ds : List PyData} : DV H x d -> DVs H xs ds -> DVs H (x :: xs) (d :: ds)
end
section
variable {P : Program} {w : World} {H : Hp} {h : Heap}
mutual
theorem DV.reads (ok : HOk P w H h) : ∀ {x : V} {d : PyData} {u : Value}, DV H x d -> RelV x u -> ∃ as, Reads h u d as
 | _, _, u, .non, r => by cases (show u = Value.none from r); exact ⟨_, Reads.none⟩
 | _, _, u, .bl b, r => by cases (show u = Value.bool b from r); exact ⟨_, Reads.bool b⟩
 | _, _, u, .int i, r => by obtain ⟨t, e⟩ := (show ∃ t, u = Value.int i t from r); cases e; exact ⟨_, Reads.int i t⟩
 | _, _, u, .str x, r => by obtain ⟨t, e⟩ := (show ∃ t, u = Value.str x t from r); cases e; exact ⟨_, Reads.str x t⟩
 | _, _, u, .tup (a := a) (xs := xs) e q, r => by
  cases (show u = Value.ref a from r)
  obtain ⟨_, its, rv, o, ho, hc, n, hd⟩ := (show qa1 P w H h a (.tup xs) from ok a _ e)
  obtain ⟨as, z⟩ := DVs.reads ok q rv
  exact ⟨as, Reads.tuple ho hc hd (by simpa using z)⟩
 | _, _, u, .lst (a := a) (xs := xs) e q, r => by
  cases (show u = Value.ref a from r)
  obtain ⟨_, its, n, rv, ho⟩ := (show qa1 P w H h a (.lst xs) from ok a _ e)
  obtain ⟨as, z⟩ := DVs.reads ok q rv
  exact ⟨_, Reads.list ho rfl rfl (by simpa using z)⟩
theorem DVs.reads (ok : HOk P w H h) : ∀ {xs : List V} {ds : List PyData} {us : List Value}, DVs H xs ds -> qba xs us -> ∃ as, ReadsAll h us ds as
 | _, _, _, .nil, .nil => ⟨_, ReadsAll.nil⟩
 | _, _, _, .cons a b, .cons r rs => by
  obtain ⟨as, p⟩ := DV.reads ok a r
  obtain ⟨bs, q⟩ := DVs.reads ok b rs
  exact ⟨_, ReadsAll.cons p q⟩
end
end
theorem DVs.strs {H : Hp} : ∀ ss : List Str, DVs H (ss.map V.str) (ss.map PyData.str)
 | [] => .nil
 | x :: r => .cons (.str x) (DVs.strs r)
section
variable {X : Cx}
open SeqAt in
theorem qq9 {k : Nat} (hr : qcl k X.A) : OpR X (compareOp .Eq) (fun x y H Q => ∃ d e, DV H x d /\ DV H y e /\ shaped d = true /\ shaped e = true /\ Q (.bl (PyData.eqv d e)) H) := by
 intro pins s σ H x y v u Q I rx ry h
 obtain ⟨d, e, dx, dy, sd, se, q⟩ := h
 obtain ⟨as, r1⟩ := dx.reads I.hok rx
 obtain ⟨bs, r2⟩ := dy.reads I.hok ry
 exact eq_dataH r1 r2 sd se hr.units ⟨.bl (PyData.eqv d e), H, I, rfl, q⟩
open SeqAt in
theorem qnv {k : Nat} (hr : qcl k X.A) : OpR X (compareOp .NotEq) (fun x y H Q => ∃ d e, DV H x d /\ DV H y e /\ shaped d = true /\ shaped e = true /\ Q (.bl (!PyData.eqv d e)) H) := by
 intro pins s σ H x y v u Q I rx ry h
 obtain ⟨d, e, dx, dy, sd, se, q⟩ := h
 obtain ⟨as, r1⟩ := dx.reads I.hok rx
 obtain ⟨bs, r2⟩ := dy.reads I.hok ry
 exact ne_dataH r1 r2 sd se hr.units ⟨.bl (!PyData.eqv d e), H, I, rfl, q⟩
theorem qlp (bs : List Bool) : ((List.range bs.length).all fun i => (bs[i]?).getD true) = bs.all id := by
 rw [Bool.eq_iff_iff, List.all_eq_true, List.all_eq_true]
 constructor
 ·intro h b hb
  obtain ⟨i, hi, e⟩ := List.mem_iff_getElem.mp hb
  have := h i (List.mem_range.mpr hi)
  rw [List.getElem?_eq_getElem hi, e] at this
  simpa using this
 ·intro h i hi
  have hi := List.mem_range.mp hi
  rw [List.getElem?_eq_getElem hi]
  simpa using h _ (List.getElem_mem hi)
theorem qc0 (hc : X.calm = true) : qb7 X (.builtin "all") (fun xs H Q => ∃ (p : Addr) (bs : List Bool), xs = [.ref p] /\ SqL X.K H p (bs.map V.bl) /\ Q (.bl (bs.all id)) H) := by
 intro pins s σ H xs us Q I r h
 obtain ⟨p, bs, rfl, hq, q⟩ := h
 obtain ⟨u, rfl, rx⟩ := vals1 r
 cases rx
 obtain ⟨its, r', pl, hz⟩ := I.list hq
 have hlt : p < s.heap.objs.size := by obtain ⟨o, n, e, _⟩ := pl; exact Heap.lt_size e
 have hlen := r'.length
 rw [List.length_map] at hlen
 refine call_all_walk (wpAny_pyIter_list pl.isList ?_)
 refine ⟨s.heap.objs.size, [s.heap.objs.size, p], [s.heap.objs.size], its.toArray.size, _, _, fun i => (bs[i]?).getD true, rfl, Walks.list (A := X.A.in1) (I.ok.hd hc) _ p (Nat.ne_of_lt hlt) its.toArray,
  ⟨⟨_, Heap.get?_push_size _ rfl, rfl, rfl⟩, pl.isList.push _⟩, fun i v s' Q' E' hP hQ => ?_, fun h' tk hk => ?_⟩
 ·have hP' : its[i]? = some v := by simpa using hP
  have hb : ∃ b, bs[i]? = some b /\ v = Value.bool b := by
   have hi : i < bs.length := by rw [hlen]; exact (List.getElem?_eq_some_iff.mp hP').1
   have e1 : (bs.map V.bl)[i]? = some (V.bl bs[i]) := by rw [List.getElem?_map, List.getElem?_eq_getElem hi]; rfl
   obtain ⟨w', e2, rw'⟩ := r'.get e1
   rw [hP'] at e2
   cases e2
   exact ⟨bs[i], List.getElem?_eq_getElem hi, rw'⟩
  obtain ⟨b, e, rfl⟩ := hb
  simp only [e, Option.getD_some] at hQ
  exact wpAny_truthy_bool hQ
 ·have e : ((List.range its.toArray.size).all fun i => (bs[i]?).getD true) = bs.all id := by
   rw [List.size_toArray, <- hlen]; exact qlp bs
  rw [e]
  refine ⟨.bl (bs.all id), H, I.kept (t' := tk) fun b x e => hk b x (fun hm => ?_) (Heap.get?_push_of_some _ e), rfl, q⟩
  rw [List.mem_singleton.mp hm] at e
  exact Nat.lt_irrefl _ (Heap.lt_size e)
theorem qbe {T : String} : qb7 X (.builtin "isinstance") (fun xs H Q => ∃ x t b, xs = [x, .ty T] /\ qld X.K H x t /\ PySem.W.kitOne X.K t (.type T) = some b /\ Q (.bl b) H) := by
 intro pins s σ H xs us Q I r h
 obtain ⟨x, t, b, rfl, ty, e, q⟩ := h
 obtain ⟨u, w', rfl, rx, ry⟩ := vals2 r
 cases (show w' = Value.type T from ry)
 exact qnm I rx ty e fun tk => ⟨.bl b, H, I.tok tk, rfl, q⟩
theorem qhx : OpR X (compareOp .LtE) (fun x y H Q => ∃ i j, x = .str i /\ y = .str j /\ Q (.bl (!decide (j.cps.toList < i.cps.toList))) H) := by
 intro pins s σ H x y v u Q I rx ry h
 obtain ⟨i, j, rfl, rfl, q⟩ := h
 obtain ⟨t, rfl⟩ := rx
 obtain ⟨t', rfl⟩ := ry
 exact PySem.P.le_str ⟨.bl (!decide (j.cps.toList < i.cps.toList)), H, I, rfl, q⟩
theorem qsn : MtR X "str.join" (fun x xs H Q => ∃ (z : Str) (p : Addr) (ss : List Str), x = .str z /\ xs = [.ref p] /\ SqL X.K H p (ss.map V.str) /\ (ss.map (·.length)).sum + ss.length * z.length <= 16777216 /\ Q (.str (Txt.join z ss)) H) := by
 intro pins s σ H x xs v us Q I rx rs h
 obtain ⟨z, p, ss, rfl, rfl, hq, hz, q⟩ := h
 obtain ⟨t, rfl⟩ := rx
 obtain ⟨u, rfl, ru⟩ := vals1 rs
 cases ru
 obtain ⟨its, r', pl, _⟩ := I.list hq
 exact join_list pl.isList (qfx r') hz fun t' k => ⟨.str (Txt.join z ss), H, I.tok k, ⟨_, rfl⟩, q⟩
theorem qcs : qb7 X (.builtin "sorted") (fun xs H Q => ∃ (p : Addr) (ss : List Str), xs = [.ref p] /\ SqL X.K H p (ss.map V.str) /\ ss.length < 64 /\ ∀ (ss' : List Str) (q : Addr), ss'.Perm ss -> sortedS ss' = true -> H q = none -> Q (.ref q) (upd H q (.lst (ss'.map V.str)))) := by
 intro pins s σ H xs us Q I r h
 obtain ⟨p, ss, rfl, hq, h64, q⟩ := h
 obtain ⟨u, rfl, rx⟩ := vals1 r
 cases rx
 obtain ⟨its, r', pl, hz⟩ := I.list hq
 have hlen := r'.length
 rw [List.length_map] at hlen
 refine sorted_strs pl.isList (qfx r') (by omega) fun out ss' a1 a2 a3 => ?_
 obtain ⟨e, he⟩ := sortedAll_at s.heap its out
 have hv : qba (ss'.map V.str) out.toList := qe6 a1
 have hfr : H (s.heap.objs.size + 1) = none := I.hok.fresh (Nat.le_succ _)
 refine ⟨.ref (s.heap.objs.size + 1), _, I.laid (t' := s.toks) (o := .lst (ss'.map V.str)) (fun b o z => sortedAll_old z) (Nat.le_succ _) ⟨?_, out.toList, e, hv, ?_⟩, rfl, q ss' _ a2 a3 hfr⟩
 ·rw [List.length_map, a2.length_eq, sizeLine_eq]; omega
 ·simpa [seqObj] using he
end
end L2
set_option maxHeartbeats 4000000
namespace L2
open PySem PySem.W PyProof.Rows
noncomputable abbrev gp (p : Array Nat) (i : Nat) : Nat := p.getD i 0
structure Ord (N : Nat) (lt : Nat -> Nat -> Bool) : Prop where
 tr : ∀ i j k, lt i j = true -> lt j k = true -> lt i k = true
 irr : ∀ i, lt i i = false
 tot : ∀ i j, i < N -> j < N -> i ≠ j -> lt i j = true \/ lt j i = true
noncomputable def Pm (N : Nat) (p : Array Nat) : Prop := p.Perm (List.toArray (List.range N))
theorem Pm.size {N : Nat} {p : Array Nat} (h : Pm N p) : p.size = N := by
 have := Array.Perm.size_eq h
 simpa using this
theorem qn4 {p : Array Nat} {i : Nat} (h : i < p.size) : gp p i = p[i] := by simp [gp, Array.getD, h]
theorem qeu {p q : Array Nat} {i j : Nat} (h : p[i]? = q[j]?) : gp p i = gp q j := by simp [gp, Array.getD_eq_getD_getElem?, h]
theorem Pm.lt {N : Nat} {p : Array Nat} (h : Pm N p) {i : Nat} (hi : i < N) : gp p i < N := by
 have hs : i < p.size := by rw [h.size]; exact hi
 rw [qn4 hs]
 have hm : p[i] ∈ (List.toArray (List.range N)) := h.mem_iff.mp (Array.getElem_mem hs)
 simpa using hm
theorem Pm.nd {N : Nat} {p : Array Nat} (h : Pm N p) : p.toList.Nodup := by
 have hp : p.toList.Perm (List.range N) := by simpa using Array.perm_iff_toList_perm.mp h
 exact hp.nodup_iff.mpr List.nodup_range
theorem Pm.inj {N : Nat} {p : Array Nat} (h : Pm N p) {i j : Nat} (hi : i < N) (hj : j < N) (hij : i ≠ j) : gp p i ≠ gp p j := by
 have hsi : i < p.size := by rw [h.size]; exact hi
 have hsj : j < p.size := by rw [h.size]; exact hj
 rw [qn4 hsi, qn4 hsj]
 intro e
 have nd := h.nd
 rcases Nat.lt_or_gt_of_ne hij with z | z
 ·exact List.pairwise_iff_getElem.mp nd i j (by simpa using hsi) (by simpa using hsj) z (by simpa using e)
 ·exact List.pairwise_iff_getElem.mp nd j i (by simpa using hsj) (by simpa using hsi) z (by simpa using e.symm)
section
variable {N : Nat} {lt : Nat -> Nat -> Bool} {cmp : Nat -> Nat -> (Bool -> Shared -> Prop) -> Shared -> Prop} {s : Shared}
noncomputable def Asc (lt : Nat -> Nat -> Bool) (p : Array Nat) (b : Nat) : Prop := ∀ i j, i < j -> j < b -> lt (gp p i) (gp p j) = true
noncomputable def Dsc (lt : Nat -> Nat -> Bool) (p : Array Nat) (b : Nat) : Prop := ∀ i j, i < j -> j < b -> lt (gp p j) (gp p i) = true
theorem Asc.more (O : Ord N lt) {p : Array Nat} {n : Nat} (h : Asc lt p n) (h1 : 1 <= n) (e : lt (gp p (n - 1)) (gp p n) = true) : Asc lt p (n + 1) := fun i j hij hj => by
 by_cases q : j < n
 ·exact h i j hij q
 ·have : j = n := by omega
  subst this
  by_cases z : i = j - 1
  ·rw [z]; exact e
  ·exact O.tr _ _ _ (h i (j - 1) (by omega) (by omega)) e
theorem Dsc.more (O : Ord N lt) {p : Array Nat} {n : Nat} (h : Dsc lt p n) (h1 : 1 <= n) (e : lt (gp p n) (gp p (n - 1)) = true) : Dsc lt p (n + 1) := fun i j hij hj => by
 by_cases q : j < n
 ·exact h i j hij q
 ·have : j = n := by omega
  subst this
  by_cases z : i = j - 1
  ·rw [z]; exact e
  ·exact O.tr _ _ _ e (h i (j - 1) (by omega) (by omega))
theorem Ord.other (O : Ord N lt) {p : Array Nat} (hp : Pm N p) {i j : Nat} (hi : i < N) (hj : j < N) (hij : i ≠ j) (e : lt (gp p i) (gp p j) ≠ true) : lt (gp p j) (gp p i) = true :=
 (O.tot _ _ (hp.lt hi) (hp.lt hj) (hp.inj hi hj hij)).resolve_left e
variable (O : Ord N lt) (hc : ∀ (i j : Nat) (C : Bool -> Shared -> Prop), i < N -> j < N -> i ≠ j -> C (lt i j) s -> cmp i j C s)
include O hc
theorem qms {p : Array Nat} (hp : Pm N p) {Q : Nat -> Shared -> Prop} : ∀ (f n : Nat), 1 <= n -> n + f <= N -> Asc lt p n -> (∀ m, n <= m -> m <= n + f -> Asc lt p m -> (m = n + f \/ lt (gp p m) (gp p (m - 1)) = true) -> Q m s) -> (kas_asc p f n).kasWp cmp Q s
 | 0, n, h1, hn, ha, k => k n (Nat.le_refl _) (Nat.le_refl _) ha (.inl rfl)
 | f + 1, n, h1, hn, ha, k => by
  unfold kas_asc
  refine hc _ _ _ (hp.lt (by omega)) (hp.lt (by omega)) (hp.inj (by omega) (by omega) (by omega)) ?_
  by_cases e : lt (gp p n) (gp p (n - 1)) = true
  ·show KasT.kasWp cmp (if lt (gp p n) (gp p (n - 1)) = true then _ else _) Q s
   rw [if_pos e]
   exact k n (Nat.le_refl _) (by omega) ha (.inr e)
  ·show KasT.kasWp cmp (if lt (gp p n) (gp p (n - 1)) = true then _ else _) Q s
   rw [if_neg e]
   exact qms hp f (n + 1) (by omega) (by omega) (ha.more O h1 (O.other hp (by omega) (by omega) (by omega) e)) fun m a b c d => k m (by omega) (by omega) c (d.imp (fun z => by omega) id)
theorem qog {p : Array Nat} (hp : Pm N p) {Q : Array Nat × Nat × Nat -> Shared -> Prop} : ∀ (f n : Nat), 1 <= n -> n + f <= N -> Dsc lt p n -> (∀ m, n <= m -> m <= n + f -> Dsc lt p m -> Q (p, m, 0) s) -> (kas_desc f p n 0).kasWp cmp Q s
 | 0, n, h1, hn, ha, k => k n (Nat.le_refl _) (Nat.le_refl _) ha
 | f + 1, n, h1, hn, ha, k => by
  unfold kas_desc
  refine hc _ _ _ (hp.lt (by omega)) (hp.lt (by omega)) (hp.inj (by omega) (by omega) (by omega)) ?_
  by_cases e : lt (gp p n) (gp p (n - 1)) = true
  ·show KasT.kasWp cmp (if lt (gp p n) (gp p (n - 1)) = true then _ else _) Q s
   rw [if_pos e, if_neg (by omega)]
   exact qog hp f (n + 1) (by omega) (by omega) (ha.more O h1 e) fun m a b c => k m (by omega) (by omega) c
  ·show KasT.kasWp cmp (if lt (gp p n) (gp p (n - 1)) = true then _ else _) Q s
   rw [if_neg e]
   refine hc _ _ _ (hp.lt (by omega)) (hp.lt (by omega)) (hp.inj (by omega) (by omega) (by omega)) ?_
   have e2 := O.other hp (show n < N by omega) (show n - 1 < N by omega) (by omega) e
   show KasT.kasWp cmp (if lt (gp p (n - 1)) (gp p n) = true then _ else _) Q s
   rw [if_pos e2]
   exact k n (Nat.le_refl _) (by omega) ha
theorem qu1 {p : Array Nat} (hp : Pm N p) {m : Nat} (hm : m <= N) (h : Dsc lt p m) : Pm N (kas_rev p 0 m) /\ Asc lt (kas_rev p 0 m) m := by
 have hz : m <= p.size := by rw [hp.size]; exact hm
 refine ⟨(mirror_perm p 0 m _).trans hp, fun i j hij hj => ?_⟩
 have g : ∀ k, k < m -> gp (kas_rev p 0 m) k = gp p (0 + m - 1 - k) := fun k hk => qeu (by
  unfold kas_rev
  rw [getElem?_mirror_all hz, if_pos ⟨Nat.zero_le _, hk⟩])
 rw [g i (by omega), g j hj]
 exact h _ _ (by omega) (by omega)
theorem qo8 {p : Array Nat} (hp : Pm N p) (h2 : 2 <= N) {Q : Nat × Array Nat -> Shared -> Prop} (h0 : ∀ m q, 1 <= m -> m <= N -> Pm N q -> Asc lt q m -> Q (m, q) s) : (kas_count N p).kasWp cmp Q s := by
 unfold kas_count
 rw [KasT.kasWp_bind]
 refine qms O hc hp (N - 1) 1 (Nat.le_refl _) (by omega) (fun i j a b => by omega) fun m a b c d => ?_
 by_cases e : (m == N) = true
 ·rw [if_pos e]
  exact h0 m p a (by omega) hp c
 ·rw [if_neg e]
  have hm : m ≠ N := fun z => e (beq_iff_eq.mpr z)
  by_cases e1 : m > 1
  ·rw [if_pos e1]
   refine hc _ _ _ (hp.lt (by omega)) (hp.lt (by omega)) (hp.inj (by omega) (by omega) (by omega)) ?_
   show KasT.kasWp cmp (if lt (gp p 0) (gp p (m - 1)) = true then _ else _) Q s
   rw [if_pos (c 0 (m - 1) (by omega) (by omega))]
   exact h0 m p a (by omega) hp c
  ·rw [if_neg e1]
   have : m = 1 := by omega
   subst this
   have e2 : lt (gp p 1) (gp p (1 - 1)) = true := d.resolve_left (by omega)
   unfold kas_descPart
   rw [KasT.kasWp_bind]
   refine qog O hc hp (N - (1 + 1)) (1 + 1) (by omega) (by omega) (fun i j x y => by
    have : i = 0 := by omega
    have : j = 1 := by omega
    subst i j
    exact e2) fun m' a' b' c' => ?_
   show KasT.kasWp cmp (if (0 : Nat) > 0 then _ else _) Q s
   rw [if_neg (by omega)]
   show KasT.kasWp cmp (kas_tail3 m' N p) Q s
   unfold kas_tail3
   rw [KasT.kasWp_bind]
   obtain ⟨r1, r2⟩ := qu1 O hc hp (show m' <= N by omega) c'
   exact qms O hc r1 (N - m') m' (by omega) (by omega) r2 fun m'' x y z w => h0 m'' _ (by omega) (by omega) r1 z
theorem qgh {p : Array Nat} (hp : Pm N p) {k : Nat} (hk : k < N) (ha : Asc lt p k) {Q : Nat -> Shared -> Prop} : ∀ (f l r : Nat), l <= r -> r <= k -> r - l <= f -> (∀ i, i < l -> lt (gp p i) (gp p k) = true) -> (∀ i, r <= i -> i < k -> lt (gp p k) (gp p i) = true) ->
  (∀ l, l <= k -> (∀ i, i < l -> lt (gp p i) (gp p k) = true) -> (∀ i, l <= i -> i < k -> lt (gp p k) (gp p i) = true) -> Q l s) -> (kas_place p k f l r).kasWp cmp Q s
 | 0, l, r, h1, h2, h3, hl, hr, q => by
  have : l = r := by omega
  subst this
  exact q l h2 hl hr
 | f + 1, l, r, h1, h2, h3, hl, hr, q => by
  unfold kas_place
  by_cases e : l ≥ r
  ·rw [if_pos e]
   have : l = r := by omega
   subst this
   exact q l h2 hl hr
  ·rw [if_neg e]
   refine hc _ _ _ (hp.lt hk) (hp.lt (by omega)) (hp.inj hk (by omega) (by omega)) ?_
   by_cases c : lt (gp p k) (gp p ((l + r) / 2)) = true
   ·show KasT.kasWp cmp (if lt (gp p k) (gp p ((l + r) / 2)) = true then _ else _) Q s
    rw [if_pos c]
    refine qgh hp hk ha f l ((l + r) / 2) (by omega) (by omega) (by omega) hl (fun i a b => ?_) q
    by_cases z : i = (l + r) / 2
    ·rw [z]; exact c
    ·exact O.tr _ _ _ c (ha _ _ (by omega) b)
   ·show KasT.kasWp cmp (if lt (gp p k) (gp p ((l + r) / 2)) = true then _ else _) Q s
    rw [if_neg c]
    have c' := O.other hp hk (show (l + r) / 2 < N by omega) (by omega) c
    refine qgh hp hk ha f ((l + r) / 2 + 1) r (by omega) h2 (by omega) (fun i a => ?_) hr q
    by_cases z : i = (l + r) / 2
    ·rw [z]; exact c'
    ·exact O.tr _ _ _ (ha i ((l + r) / 2) (by omega) (by omega)) c'
theorem qqw {Q : Array Nat -> Shared -> Prop} (h0 : ∀ q, Pm N q -> Asc lt q N -> Q q s) : ∀ (f : Nat) (p : Array Nat) (k : Nat), k + f = N -> Pm N p -> Asc lt p k -> (kas_bin f p k).kasWp cmp Q s
 | 0, p, k, hk, hp, ha => h0 p hp (by rw [<- hk]; exact ha)
 | f + 1, p, k, hk, hp, ha => by
  unfold kas_bin
  rw [KasT.kasWp_bind]
  refine qgh O hc hp (show k < N by omega) ha k 0 k (by omega) (Nat.le_refl _) (by omega) (fun i z => by omega) (fun i a b => by omega) fun l hl h1 h2 => ?_
  refine qqw h0 f _ (k + 1) (by omega) ((bubble_perm p k _).trans hp) fun i j hij hj => ?_
  have hs : k < p.size := by rw [hp.size]; omega
  have g : ∀ i, gp (bubble p k (k - l)) i = if i = l then gp p k else if l < i /\ i <= k then gp p (i - 1) else gp p i := fun i => by
   have e := getElem?_bubble hs (k - l) (by omega) i
   have e1 : k - (k - l) = l := by omega
   rw [e1] at e
   by_cases z1 : i = l
   ·rw [if_pos z1] at e ⊢; exact qeu e
   ·rw [if_neg z1] at e ⊢
    by_cases z2 : l < i /\ i <= k
    ·rw [if_pos z2] at e ⊢; exact qeu e
    ·rw [if_neg z2] at e ⊢; exact qeu e
  rw [g i, g j]
  by_cases a1 : i = l
  ·rw [if_pos a1, if_neg (by omega), if_pos (by omega)]
   exact h2 _ (by omega) (by omega)
  ·rw [if_neg a1]
   by_cases a2 : l < i /\ i <= k
   ·rw [if_pos a2, if_neg (by omega), if_pos (by omega)]
    exact ha _ _ (by omega) (by omega)
   ·rw [if_neg a2]
    by_cases b1 : j = l
    ·rw [if_pos b1]; exact h1 i (by omega)
    ·rw [if_neg b1]
     by_cases b2 : l < j /\ j <= k
     ·rw [if_pos b2]
      exact ha _ _ (by omega) (by omega)
     ·rw [if_neg b2]
      exact ha _ _ hij (by omega)
theorem qr7 (h2 : 2 <= N) {Q : Array Nat -> Shared -> Prop} (h0 : ∀ q, Pm N q -> Asc lt q N -> Q q s) : (kas_sort N).kasWp cmp Q s := by
 unfold kas_sort
 rw [KasT.kasWp_bind]
 refine qo8 O hc (Array.Perm.refl _) h2 fun m q a b hp ha => ?_
 show KasT.kasWp cmp (if m < N then _ else _) Q s
 by_cases e : m < N
 ·rw [if_pos e]
  have em : max m 1 = m := by omega
  show KasT.kasWp cmp (kas_bin (N - max m 1) q (max m 1)) Q s
  rw [em]
  exact qqw O hc h0 (N - m) q m (by omega) hp ha
 ·rw [if_neg e]
  have : m = N := by omega
  subst this
  exact h0 q hp ha
end
end L2
namespace L2
open PySem PySem.Spec PyProof.Rows PySem.W PySem.Calls
section
variable {prog : Program} {w : World} {A : Around} {E : Value -> Shared -> Prop} {s : Shared}
noncomputable def qsq (prog : Program) (w : World) (A : Around) (vs : List Value) (lt : Nat -> Nat -> Bool) (s : Shared) : Prop :=
 ∃ κ : SortKind, (∀ Q : SortKind -> Shared -> Prop, Q κ s -> wpAny (model prog w) A (keyKind' vs.toArray) Q (fun _ _ => False) s) /\
  ∀ (i j : Nat) (C : Bool -> Shared -> Prop), i < vs.length -> j < vs.length -> i ≠ j -> C (lt i j) s -> kas_ask prog w A κ vs i j C s
noncomputable def qit (vs : List Value) (p : Array Nat) : List Value := p.toList.map fun i => vs.getD i Value.none
theorem qkx {lt : Nat -> Nat -> Bool} {a : Addr} {vs : List Value} {n : Nat} {P : PySem.Fin -> Shared -> Prop} (ho : s.heap.get? a = some (seqObj "list" vs.toArray n)) (h64 : vs.length < 64) (O : Ord vs.length lt)
  (hk : 2 <= vs.length -> ∀ s' : Shared, (∀ b o, b ≠ a -> s.heap.get? b = some o -> s'.heap.get? b = some o) -> qsq prog w A vs lt s')
  (h : ∀ p, Pm vs.length p -> Asc lt p vs.length -> P (.done (.ret .none)) { s with heap := sortedHeap s.heap a vs (qit vs p).toArray }) :
  wpAny (model prog w) A (Builtin.«list.sort» ⟨[.ref a], []⟩) P E s := by
 rw [list_sort_plain]
 have hlt : a < s.heap.objs.size := Heap.lt_size ho
 have hfit : vs.length <= sizeLine := by rw [sizeLine_eq]; omega
 refine wpAny_bind (listItems_at ho rfl (wpAny_bind (listUpdate_at ho rfl ?_ (by rw [List.size_toArray]; exact hfit) (Nat.zero_le _))))
 obtain ⟨e1, ho1⟩ : ∃ e1, (s.heap.update a (Obj.mapSeq fun _ => (#[] : Array Value))).get? a = some (seqObj "list" #[] e1) := ⟨_, get?_update_seq ho fun _ => #[]⟩
 refine wpAny_bind (seqEpoch_at ho1 rfl (wpAny_bind (wpAny_newTuple (wpAny_bind (wpAny_newList (wpAny_holding ?_) (Nat.zero_le _))) (by show vs.length <= _; exact hfit))))
 have ho2 : (((s.heap.update a (Obj.mapSeq fun _ => (#[] : Array Value))).push (seqObj "tuple" vs.toArray 0)).push (seqObj "list" #[] 0)).get? a = some (seqObj "list" #[] e1) := Heap.get?_push_of_some _ (Heap.get?_push_of_some _ ho1)
 show wpAny (model prog w) A _ P E { s with heap := ((s.heap.update a (Obj.mapSeq fun _ => (#[] : Array Value))).push (seqObj "tuple" vs.toArray 0)).push (seqObj "list" #[] 0) }
 dsimp only
 by_cases h2 : vs.toArray.size < 2
 ·rw [if_pos h2, if_pos h2]
  refine wpAny_bind (wpAny_pure ?_)
  rw [StateT.run_pure]
  refine wpAny_bind (wpAny_pure ?_)
  dsimp only
  have hz : ((vs.toArray.zip vs.toArray).map (·.2)) = (qit vs (List.toArray (List.range vs.length))).toArray := by
   unfold qit
   apply Array.ext
   ·simp
   ·intro i h1 h2
    simp only [Array.size_map, Array.size_zip, List.size_toArray, Nat.min_self] at h1
    simp [h1]
  have es : vs.toArray.size = vs.length := by simp
  refine wpAny_bind (seqEpoch_at ho2 rfl (wpAny_bind (listUpdate_at ho2 rfl ?_ (Nat.zero_le _) ?_)))
  ·simp only [bne_self_eq_false, Bool.false_eq_true, if_false]
   have q := h (List.toArray (List.range vs.length)) (Array.Perm.refl _) (fun i j hij hj => by omega)
   unfold sortedHeap at q
   rw [<- hz] at q
   exact wpAny_pure q
  ·show ((vs.toArray.zip vs.toArray).map (·.2)).size <= sizeLine + 1
   simp only [Array.size_map, Array.size_zip, List.size_toArray, Nat.min_self]
   omega
 ·have h2' : 2 <= vs.length := by rw [List.size_toArray] at h2; omega
  rw [if_neg h2, if_neg h2]
  obtain ⟨κ, kd, ask⟩ := hk h2' { s with heap := ((s.heap.update a (Obj.mapSeq fun _ => (#[] : Array Value))).push (seqObj "tuple" vs.toArray 0)).push (seqObj "list" #[] 0) } fun b o hb e =>
   Heap.get?_push_of_some _ (Heap.get?_push_of_some _ (by rw [Heap.get?_update_ne _ _ _ _ hb]; exact e))
  refine wpAny_bind (wpAny_mono (E := fun _ _ => False) (Q := fun k s' => k = κ /\ s' = { s with heap := ((s.heap.update a (Obj.mapSeq fun _ => (#[] : Array Value))).push (seqObj "tuple" vs.toArray 0)).push (seqObj "list" #[] 0) }) (kd _ ⟨rfl, rfl⟩) ?_ fun _ _ f => f.elim)
  rintro k s' ⟨rfl, rfl⟩
  refine wpAny_bind (wpAny_mono (kat_run (ks := vs) (G := fun p s' => (Pm vs.length p /\ Asc lt p vs.length) /\ s' = { s with heap := ((s.heap.update a (Obj.mapSeq fun _ => (#[] : Array Value))).push (seqObj "tuple" vs.toArray 0)).push (seqObj "list" #[] 0) })
   (Q := fun st' s' => ∃ p : Array Nat, arrOf st' = p.map (kas_item (vs.toArray.zip vs.toArray)) /\ failedOf st' = none /\ (Pm vs.length p /\ Asc lt p vs.length) /\ s' = { s with heap := ((s.heap.update a (Obj.mapSeq fun _ => (#[] : Array Value))).push (seqObj "tuple" vs.toArray 0)).push (seqObj "list" #[] 0) })
   rfl h2' h64 (fun p st' s' _ a2 a3 a4 => ⟨p, a2, a3, a4⟩) (qr7 O ask h2' fun q hq ha => ⟨⟨hq, ha⟩, rfl⟩)) ?_ fun _ _ e => e)
  rintro ⟨⟨⟩, st'⟩ s' ⟨p, har, hf, ⟨hp, ha⟩, rfl⟩
  dsimp only
  rw [kat_snds rfl har]
  have hsz : (List.toArray (p.toList.map fun i => vs.getD i Value.none)).size <= sizeLine + 1 := by
   rw [List.size_toArray, List.length_map, Array.length_toList, hp.size]; omega
  refine wpAny_bind (seqEpoch_at ho2 rfl (wpAny_bind (listUpdate_at ho2 rfl ?_ (Nat.zero_le _) hsz)))
  rw [hf]
  simp only [bne_self_eq_false, Bool.false_eq_true, if_false]
  exact wpAny_pure (h p hp ha)
theorem qja {l : Addr} {o : Obj} {vs : List Value} {n : Nat} {T : String} {Q : List Value -> Shared -> Prop} (hT : T = "list" \/ T = "tuple") (ho : s.heap.get? l = some o) (hc : o.cls = .type T) (hd : o.data = .seq vs.toArray n)
  (h : Q vs { s with heap := (s.heap.push (seqObj "list" #[] 0)).update s.heap.objs.size (Obj.mapSeq (· ++ vs.toArray)) }) (hsz : vs.length <= sizeLine) : wpAny (model prog w) A (collect (.ref l)) Q E s := by
 rcases hT with rfl | rfl
 ·exact collect_list ⟨o, ho, hc, n, hd⟩ h hsz
 ·unfold collect
  refine wpAny_bind (wpAny_runValue (codeAny_builtin entry_proto_collect' ?_))
  show wpAny _ _ (do again (.builtin "list.__iadd__" ⟨[<- newList [], .ref l], []⟩)) _ _ s
  refine wpAny_bind (wpAny_newList (wpAny_pure ⟨Code.quiet_builtin _ (by decide +kernel), codeAny_builtin entry_list_iadd' ?_⟩))
  show wpAny _ _ (Builtin.List.listExtendWith (.ref s.heap.objs.size) (.ref l) (.ref s.heap.objs.size)) _ _ { s with heap := s.heap.push (seqObj "list" #[] 0) }
  unfold Builtin.List.listExtendWith
  have ho' : (s.heap.push (seqObj "list" #[] 0)).get? l = some o := Heap.get?_push_of_some _ ho
  refine wpAny_bind (wpAny_typeOf (T := "tuple") ⟨o, ho', hc⟩ ?_)
  rw [if_pos (by rw [show (Value.type "tuple" == Value.type "tuple") = true from rfl]; simp)]
  refine wpAny_bind (listItems_at ho' hd (wpAny_bind (listItems_at (xs := #[]) (n := 0) (Heap.get?_push_size _ rfl) rfl ?_)))
  rw [if_neg (by simp)]
  refine wpAny_bind (listUpdate_at (xs := #[]) (n := 0) (Heap.get?_push_size _ rfl) rfl (wpAny_pure ?_) (Nat.zero_le _) (by show (#[] ++ vs.toArray).size <= sizeLine + 1; simp only [Array.size_append, List.size_toArray, List.length_nil]; omega))
  show wpAny (model prog w) A (do
    let o <- load s.heap.objs.size
    match o.data with
    | .seq xs _ => pure xs.toList
    | _ => unsupported "internal:collect") Q E { s with heap := (s.heap.push (seqObj "list" #[] 0)).update s.heap.objs.size (Obj.mapSeq (· ++ vs.toArray)) }
  refine wpAny_bind (wpAny_load (get?_update_seq (Heap.get?_push_size _ rfl) _) ?_)
  show wpAny _ _ (pure ((#[] : Array Value) ++ vs.toArray).toList) Q E _
  rw [show ((#[] : Array Value) ++ vs.toArray).toList = vs by simp]
  exact wpAny_pure h
theorem qrg {lt : Nat -> Nat -> Bool} {l : Addr} {o : Obj} {vs : List Value} {n : Nat} {T : String} {Q : Value -> Shared -> Prop} (hT : T = "list" \/ T = "tuple") (ho : s.heap.get? l = some o) (hc : o.cls = .type T) (hd : o.data = .seq vs.toArray n) (h64 : vs.length < 64) (O : Ord vs.length lt)
  (hk : 2 <= vs.length -> ∀ s' : Shared, (∀ b o, s.heap.get? b = some o -> s'.heap.get? b = some o) -> qsq prog w A.in1.in1 vs lt s')
  (h : ∀ p, Pm vs.length p -> Asc lt p vs.length -> Q (.ref (s.heap.objs.size + 1)) { s with heap := sortedAll s.heap vs (qit vs p).toArray }) : wpAny (model prog w) A (call (.builtin "sorted") [.ref l]) Q E s := by
 refine Calls.call_function_entry kind_sorted plain_sorted entry_sorted (args_sorted1 _) ?_
 unfold Builtin.«sorted»
 refine wpAny_bind (m := checkCount "sorted" 1 1 _) (wpAny_pure (wpAny_bind (qja hT ho hc hd (wpAny_bind (wpAny_newList ?_ (by rw [sizeLine_eq]; omega))) (by rw [sizeLine_eq]; omega))))
 have hsz : ((s.heap.push (seqObj "list" #[] 0)).update s.heap.objs.size (Obj.mapSeq (· ++ vs.toArray))).objs.size = s.heap.objs.size + 1 := by rw [Heap.size_update, size_push']
 have hoL : (((s.heap.push (seqObj "list" #[] 0)).update s.heap.objs.size (Obj.mapSeq (· ++ vs.toArray))).push (seqObj "list" vs.toArray 0)).get? (s.heap.objs.size + 1) = some (seqObj "list" vs.toArray 0) := by
  rw [<- hsz]
  exact Heap.get?_push_size _ rfl
 show wpAny _ _ _ _ _ { s with heap := ((s.heap.push (seqObj "list" #[] 0)).update s.heap.objs.size (Obj.mapSeq (· ++ vs.toArray))).push (seqObj "list" vs.toArray 0) }
 rw [hsz]
 have kp : ∀ b o, s.heap.get? b = some o -> (((s.heap.push (seqObj "list" #[] 0)).update s.heap.objs.size (Obj.mapSeq (· ++ vs.toArray))).push (seqObj "list" vs.toArray 0)).get? b = some o := fun b ob e => by
  have hb := Heap.lt_size e
  refine Heap.get?_push_of_some _ ?_
  rw [Heap.get?_update_ne _ _ _ _ (Nat.ne_of_lt hb)]
  exact Heap.get?_push_of_some _ e
 refine wpAny_bind (wpAny_holding (wpAny_call_entry slot_list_sort ⟨_, hoL, rfl⟩ entry_list_sort (qkx hoL h64 O (fun z s' hs' => hk z s' fun b ob e => hs' b ob (by have := Heap.lt_size e; exact Nat.ne_of_lt (Nat.lt_succ_of_lt this)) (kp b ob e)) fun p hp ha => ⟨_, rfl, ?_⟩) (args_list_sort _)))
 exact wpAny_pure ⟨_, rfl, h p hp ha⟩
end
theorem qok {h : Heap} : ∀ {vs fs : List Value}, KatTups h vs fs -> ∀ (i : Nat), i < vs.length -> ∃ a o xs n f, vs.getD i Value.none = .ref a /\ h.get? a = some o /\ o.data = .seq xs n /\ xs[0]? = some f /\ fs[i]? = some f
 | [], [], _, i, hi => absurd hi (Nat.not_lt_zero _)
 | [], _ :: _, t, _, _ => t.elim
 | _ :: _, [], t, _, _ => t.elim
 | v :: vs, f :: fs, t, 0, _ => by
  obtain ⟨⟨a, o, xs, n, rfl, ho, hc, hd, hf⟩, _⟩ := t
  exact ⟨a, o, xs, n, f, rfl, ho, hd, hf, rfl⟩
 | v :: vs, f :: fs, t, i + 1, hi => by
  obtain ⟨_, t⟩ := t
  obtain ⟨a, o, xs, n, g, e1, e2, e3, e4, e5⟩ := qok t i (by simpa using hi)
  exact ⟨a, o, xs, n, g, by simpa using e1, e2, e3, e4, by simpa using e5⟩
theorem qm3 : ∀ {fs : List Value} {ss : List Str}, StrsAre fs ss -> ∀ (i : Nat) (f : Value), fs[i]? = some f -> ∃ t, f = .str (ss.getD i Str.empty) t /\ i < ss.length
 | _, _, .nil, i, f, h => by simp at h
 | _, _, .cons y t r, 0, f, h => by simp at h; exact ⟨t, h.symm, by simp⟩
 | _, _, .cons y t r, i + 1, f, h => by
  obtain ⟨t', e1, e2⟩ := qm3 r i f (by simpa using h)
  exact ⟨t', by simpa using e1, by simpa using e2⟩
theorem qtu {prog : Program} {w : World} {A : Around} {s : Shared} {vs fs : List Value} {ss : List Str} (t : KatTups s.heap vs fs) (hS : StrsAre fs ss) (hne : 0 < fs.length) (hnd : ss.Nodup) :
  qsq prog w A vs (fun i j => decide ((ss.getD i Str.empty).cps.toList < (ss.getD j Str.empty).cps.toList)) s := by
 refine ⟨tuples' (Value.type "str" != Value.type "tuple"), fun Q q => kat_kind (T := Value.type "str") t hne (fun v hv => ?_) (by decide) q, fun i j C hi hj hij q => ?_⟩
 ·obtain ⟨x, u, rfl⟩ := hS.all v hv
  exact Looks.now
 ·obtain ⟨a, o, xs, n, f, e1, e2, e3, e4, e5⟩ := qok t i hi
  obtain ⟨b, o', ys, n', g, g1, g2, g3, g4, g5⟩ := qok t j hj
  obtain ⟨tf, rfl, hil⟩ := qm3 hS i f e5
  obtain ⟨tg, rfl, hjl⟩ := qm3 hS j g g5
  unfold kas_ask
  rw [e1, g1]
  refine kat_lt e2 e3 g2 g3 ?_
  obtain ⟨xr, hx⟩ : ∃ xr, xs.toList = .str (ss.getD i Str.empty) tf :: xr := by
   cases hq : xs.toList with
   | nil => rw [<- Array.getElem?_toList, hq] at e4; simp at e4
   | cons z zr => rw [<- Array.getElem?_toList, hq] at e4; simp at e4; rw [e4]; exact ⟨zr, rfl⟩
  obtain ⟨yr, hy⟩ : ∃ yr, ys.toList = .str (ss.getD j Str.empty) tg :: yr := by
   cases hq : ys.toList with
   | nil => rw [<- Array.getElem?_toList, hq] at g4; simp at g4
   | cons z zr => rw [<- Array.getElem?_toList, hq] at g4; simp at g4; rw [g4]; exact ⟨zr, rfl⟩
  rw [hx, hy]
  have hnE : ss.getD i Str.empty ≠ ss.getD j Str.empty := by
   rw [List.getD_eq_getElem?_getD, List.getD_eq_getElem?_getD, List.getElem?_eq_getElem hil, List.getElem?_eq_getElem hjl]
   intro z
   have z' : ss[i] = ss[j] := z
   rcases Nat.lt_or_gt_of_ne hij with y | y
   ·exact List.pairwise_iff_getElem.mp hnd i j hil hjl y z'
   ·exact List.pairwise_iff_getElem.mp hnd j i hjl hil y z'.symm
  show KatLex prog w A _ _ C ((Value.str (ss.getD i Str.empty) tf, Value.str (ss.getD j Str.empty) tg) :: xr.zip yr) 0 s
  refine kat_cons (wpAny_eqBool_str ?_)
  rw [decide_eq_false hnE]
  refine kat_no ?_
  show wpAny _ A (oneLt' true _ _) C _ s
  exact strKind_oneLt prog w A _ s _ _ _ _ rfl rfl q
theorem qno {x y : Str} (h : x ≠ y) : x.cps.toList < y.cps.toList \/ y.cps.toList < x.cps.toList := by
 by_cases c : x.cps.toList < y.cps.toList
 ·exact .inl c
 ·rcases List.le_iff_lt_or_eq.mp (List.not_lt.mp c) with z | z
  ·exact .inr z
  ·refine absurd ?_ h
   obtain ⟨a⟩ := x
   obtain ⟨b⟩ := y
   have e : b = a := Array.toList_inj.mp z
   rw [e]
noncomputable def qqq (H : Hp) (rs : List (Addr × Str)) : Prop := ∀ r ∈ rs, ∃ rest, H r.1 = some (.tup (.str r.2 :: rest))
noncomputable abbrev refs (rs : List (Addr × Str)) : List V := rs.map fun r => V.ref r.1
noncomputable def nlt (x y : Str) : Prop := x.cps.toList < y.cps.toList
theorem qf4 {P : Program} {w : World} {H : Hp} {h : Heap} (ok : HOk P w H h) : ∀ {rs : List (Addr × Str)} {us : List Value}, qqq H rs -> qba (refs rs) us -> ∃ fs, KatTups h us fs /\ StrsAre fs (rs.map (·.2))
 | [], us, _, r => by cases r; exact ⟨[], trivial, .nil⟩
 | x :: rs, us, hr, r => by
  cases r with
  | @cons _ u _ us' r1 r2 =>
   obtain ⟨fs, t, q⟩ := qf4 ok (rs := rs) (fun y hy => hr y (List.mem_cons_of_mem _ hy)) r2
   obtain ⟨rest, e⟩ := hr x List.mem_cons_self
   cases (show u = Value.ref x.1 from r1)
   obtain ⟨_, its, rv, o, ho, hc, n, hd⟩ := (show qa1 P w H h x.1 (.tup (.str x.2 :: rest)) from ok x.1 _ e)
   cases rv with
   | @cons _ f _ its' rf _ =>
    obtain ⟨tk, rfl⟩ := rf
    exact ⟨.str x.2 tk :: fs, KatTups.cons ho hc hd (by simp) t, .cons _ _ q⟩
theorem qhs {xs : List V} {us : List Value} (r : qba xs us) : ∀ {ps : List Nat}, (∀ i ∈ ps, i < xs.length) -> qba (ps.map fun i => xs.getD i .non) (ps.map fun i => us.getD i Value.none)
 | [], _ => .nil
 | i :: ps, h => by
  have hi := h i List.mem_cons_self
  obtain ⟨u, e, ru⟩ := r.get (List.getElem?_eq_getElem hi)
  refine .cons ?_ (qhs r fun j hj => h j (List.mem_cons_of_mem _ hj))
  show RelV (xs.getD i .non) (us.getD i Value.none)
  rw [List.getD_eq_getElem?_getD, List.getD_eq_getElem?_getD, List.getElem?_eq_getElem hi, e]
  exact ru
theorem qns {α : Type} (d : α) (xs : List α) {p : Array Nat} (h : Pm xs.length p) : (p.toList.map fun i => xs.getD i d).Perm xs := by
 have hp : p.toList.Perm (List.range xs.length) := by simpa using Array.perm_iff_toList_perm.mp h
 have e : (List.range xs.length).map (fun i => xs.getD i d) = xs := by
  apply List.ext_getElem
  ·simp
  ·intro i h1 h2
   simp [h2]
 exact (hp.map _).trans (by rw [e])
section
variable {X : Cx}
theorem qhi : qb7 X (.builtin "sorted") (fun xs H Q => ∃ (p : Addr) (rs : List (Addr × Str)), xs = [.ref p] /\ (SqL X.K H p (refs rs) \/ SqT X.K H p (refs rs)) /\ qqq H rs /\ rs.length < 64 /\ (rs.map (·.2)).Nodup /\
  ∀ (rs' : List (Addr × Str)) (q : Addr), rs'.Perm rs -> (rs'.map (·.2)).Pairwise nlt -> H q = none -> Q (.ref q) (upd H q (.lst (refs rs')))) := by
 intro pins s σ H xs us Q I r h
 obtain ⟨p, rs, rfl, hq, hR, h64, hnd, q⟩ := h
 obtain ⟨u, rfl, rx⟩ := vals1 r
 cases rx
 have core : ∀ (T : String) (o : Obj) (its : List Value) (n : Nat), (T = "list" \/ T = "tuple") -> s.heap.get? p = some o -> o.cls = .type T -> o.data = .seq its.toArray n -> qba (refs rs) its ->
   wpAny (model X.prog X.w) X.A (call (.builtin "sorted") [.ref p]) (EP X pins σ Q) X.xe s := fun T o its n hT ho hc hd r' => by
  have hl := r'.length
  have hl' : its.length = rs.length := by rw [<- hl]; simp
  have O : Ord its.length (fun i j => decide (((rs.map (·.2)).getD i Str.empty).cps.toList < ((rs.map (·.2)).getD j Str.empty).cps.toList)) := by
   refine ⟨fun i j k h1 h2 => ?_, fun i => ?_, fun i j hi hj hij => ?_⟩
   ·exact decide_eq_true (List.lt_trans (of_decide_eq_true h1) (of_decide_eq_true h2))
   ·exact decide_eq_false (List.lt_irrefl _)
   ·have hil : i < (rs.map (·.2)).length := by simpa [<- hl'] using hi
    have hjl : j < (rs.map (·.2)).length := by simpa [<- hl'] using hj
    rw [List.getD_eq_getElem?_getD, List.getD_eq_getElem?_getD, List.getElem?_eq_getElem hil, List.getElem?_eq_getElem hjl]
    have ne : (rs.map (·.2))[i] ≠ (rs.map (·.2))[j] := by
     rcases Nat.lt_or_gt_of_ne hij with y | y
     ·exact List.pairwise_iff_getElem.mp hnd i j hil hjl y
     ·exact fun z => List.pairwise_iff_getElem.mp hnd j i hjl hil y z.symm
    exact (qno ne).imp decide_eq_true decide_eq_true
  refine qrg hT ho hc hd (by omega) O (fun h2 s' hs' => ?_) fun pm hp ha => ?_
  ·obtain ⟨fs, t, hS⟩ := qf4 (I.hok.kept hs') hR r'
   have hfl : 0 < fs.length := by
    have := hS.length
    simp at this
    omega
   exact qtu t hS hfl hnd
  ·obtain ⟨e, he⟩ := sortedAll_at s.heap its (qit its pm).toArray
   have hpm : Pm rs.length pm := by rw [<- hl']; exact hp
   have hlt : ∀ i ∈ pm.toList, i < rs.length := fun i hi => by
    have : i ∈ (List.toArray (List.range rs.length)) := hpm.mem_iff.mp (by simpa using hi)
    simpa using this
   have hv : qba ((pm.toList.map fun i => (refs rs).getD i .non)) (qit its pm) := qhs r' fun i hi => by simpa using hlt i hi
   have he2 : (pm.toList.map fun i => (refs rs).getD i .non) = refs (pm.toList.map fun i => rs.getD i (0, Str.empty)) := by
    unfold refs
    rw [List.map_map]
    exact List.map_congr_left fun i hi => by simp [hlt i hi]
   rw [he2] at hv
   have hfr : H (s.heap.objs.size + 1) = none := I.hok.fresh (Nat.le_succ _)
   have hpe := qns (0, Str.empty) rs hpm
   refine ⟨.ref (s.heap.objs.size + 1), _, I.laid (t' := s.toks) (o := .lst (refs (pm.toList.map fun i => rs.getD i (0, Str.empty)))) (fun b o z => sortedAll_old z) (Nat.le_succ _) ⟨?_, qit its pm, e, hv, ?_⟩, rfl, q _ _ hpe ?_ hfr⟩
   ·unfold refs
    rw [List.length_map, hpe.length_eq, sizeLine_eq]; omega
   ·simpa [seqObj] using he
   ·rw [List.map_map, List.pairwise_map]
    refine List.pairwise_iff_getElem.mpr fun i j hi hj hij => ?_
    have hps := hp.size
    have hi' : i < pm.size := by simpa using hi
    have hj' : j < pm.size := by simpa using hj
    have z := of_decide_eq_true (ha i j hij (by omega))
    rw [qn4 hi', qn4 hj'] at z
    show ((rs.getD pm.toList[i] (0, Str.empty)).2).cps.toList < ((rs.getD pm.toList[j] (0, Str.empty)).2).cps.toList
    have b1 := hlt pm.toList[i] (List.getElem_mem _)
    have b2 := hlt pm.toList[j] (List.getElem_mem _)
    simp only [Array.getElem_toList] at b1 b2 ⊢
    simpa [b1, b2] using z
 rcases hq with hq | hq
 ·obtain ⟨its, r', pl, hz⟩ := I.list hq
  obtain ⟨o, ho, hc, n, hd⟩ := pl.isList
  exact core "list" o its n (.inl rfl) ho hc hd r'
 ·obtain ⟨its, r', pl, hz⟩ := I.tuple hq
  obtain ⟨o, ho, hc, n, hd⟩ := pl
  exact core "tuple" o its n (.inr rfl) ho hc hd r'
end
end L2
namespace L2
open PySem PySem.Spec PyProof.Rows
noncomputable def Its (x : Str) : It := ⟨fun i _ => i < x.length, fun i H v H' => H' = H /\ ∃ c, x.cps[i]? = some c /\ v = .str ⟨#[c]⟩, fun i _ => x.length <= i⟩
theorem qqa {P : Program} {w : World} {K : PySem.W.Frag} {tg : Expr} (x : Str) (t : Tok) (it : Addr) : Turn P w K tg (Its x) [it] it (fun i h => h.IsStrIter it "str_ascii_iterator" x t i) where
 mem := by simp
 obj := fun i h st b hb => by
  have e : b = it := by simpa using hb
  subst e
  obtain ⟨o, e, c, d⟩ := st
  exact ⟨o, e, fun v z => by rw [d] at z; cases z⟩
 keep := fun i h h' st k => by
  obtain ⟨o, e, r⟩ := st
  exact ⟨o, k it (by simp) o e, r⟩
 item := by
  intro X hP hw hK hc i pins s σ H E I hf st hg
  subst hP hw hK
  have hg' : i < x.cps.size := hg
  obtain ⟨f0, f1, f2, f3, f4, f5⟩ := hf it (by simp)
  refine wpAny_pyNext_ascii_item st (Array.getElem?_eq_getElem hg') fun h' st' sb => ?_
  have I1 : Inv X pins σ H { s with heap := h', toks := s.toks + 1 } := I.turned (fun b o hb e => (sb.2 b hb).trans e) f0 f1 f3 f4 f5
  obtain ⟨o, e, c, d⟩ := id st'
  exact ⟨_, rfl, qoo (s := { s with heap := h', toks := s.toks + 1 }) e c d (by decide) ⟨.str ⟨#[x.cps[i]]⟩, H, I1, ⟨_, rfl⟩, ⟨rfl, _, Array.getElem?_eq_getElem hg', rfl⟩, st', fun b hb => (hf b hb).1⟩⟩
 done := by
  intro X hP hw hK hc i pins s σ H E I hf st hg
  subst hP hw hK
  have hg' : x.cps.size <= i := hg
  obtain ⟨f0, f1, f2, f3, f4, f5⟩ := hf it (by simp)
  exact wpAny_pyNext_ascii_end (I.ok.hd hc) st (Array.getElem?_eq_none hg') fun h' eb => ⟨rfl, I.turned (t' := s.toks) (fun b o hb e => eb b o hb e) f0 f1 f3 f4 f5⟩
 self := fun A i s Q E st h => wpAny_pyIter_striter_ascii st h
section
variable {X : Cx} {tg : Expr}
noncomputable def qxh (tl : TE) : TI := fun σ H R => tl σ H fun v H1 => ∃ x : Str, v = .str x /\ x.cps.all (· < 128) = true /\ R (Its x) H1
theorem qti {l : Expr} {tl : TE} (hl : PE X l tl) : PI X tg l (qxh tl) := by
 intro pins s σ H R I h
 refine thn (hl pins s σ H _ I h) fun v s1 ⟨x, H1, I1, r1, q1⟩ => ?_
 obtain ⟨y, rfl, ha, q⟩ := q1
 obtain ⟨t, rfl⟩ := r1
 refine wpAny_pyIter_ascii ha ?_
 refine ⟨s1.heap.objs.size, [s1.heap.objs.size], _, _, H1, rfl, I1.kept (t' := s1.toks) fun b o e => Heap.get?_push_of_some _ e, qqa y t _, ⟨_, Heap.get?_push_size _ rfl, rfl, rfl⟩, fun b hb => ?_, q⟩
 have e : b = s1.heap.objs.size := by simpa using hb
 subst e
 exact I1.fpOk (Nat.le_refl _) (I1.hok.fresh (Nat.le_refl _))
theorem qug : SlR X (fun x lo hi H Q => ∃ z, x = .str z /\ z.length <= sizeLine /\ Q (.str (Txt.slice z lo hi)) H) := by
 intro pins s σ H x v vl vu lo hi sl Q I rx hs pl pu h
 obtain ⟨z, rfl, hz, q⟩ := h
 obtain ⟨t, rfl⟩ := rx
 have fin : ∀ (t' : Tok) (k : Nat), EP X pins σ Q (.str (Txt.slice z lo hi) t') { s with toks := k } := fun t' k => ⟨.str (Txt.slice z lo hi), H, I.tok k, ⟨_, rfl⟩, q⟩
 refine ⟨"str", _, F.slot_str_getitem.lookup, typeIs_str _ _ _, ?_⟩
 obtain ⟨o, ho, hc, hd⟩ := hs
 cases pl with
 | none =>
  cases pu with
  | none => exact wpAny_getItem_str_slice (l := none) (u := none) (st := none) ⟨o, ho, hc, hd⟩ rfl (post_val_or_str ⟨Nat.le_trans (Txt.slice_le z _ _) hz, fun t' k => fin t' k⟩)
  | int j uj => exact wpAny_getItem_str_slice (l := none) (u := some (j, uj)) (st := none) ⟨o, ho, hc, hd⟩ rfl (post_val_or_str ⟨Nat.le_trans (Txt.slice_le z _ _) hz, fun t' k => fin t' k⟩)
 | int i ui =>
  cases pu with
  | none => exact wpAny_getItem_str_slice (l := some (i, ui)) (u := none) (st := none) ⟨o, ho, hc, hd⟩ rfl (post_val_or_str ⟨Nat.le_trans (Txt.slice_le z _ _) hz, fun t' k => fin t' k⟩)
  | int j uj => exact wpAny_getItem_str_slice (l := some (i, ui)) (u := some (j, uj)) (st := none) ⟨o, ho, hc, hd⟩ rfl (post_val_or_str ⟨Nat.le_trans (Txt.slice_le z _ _) hz, fun t' k => fin t' k⟩)
theorem qmt {prog : Program} {w : World} {A : Around} {E : Value -> Shared -> Prop} {s : Shared} {t sl : Addr} {items : Array Value} {vl vu : Value} {lo hi : Option Int} {Q : Value -> Shared -> Prop} (ht : IsTup s.heap t items) (hs : s.heap.IsSliceOf sl vl vu .none) (pl : IsPart vl lo) (pu : IsPart vu hi)
  (h0 : HT.sIx items.size 0 lo = 0) (h1 : HT.sIx items.size items.size hi = items.size) (h : Q (.ref t) s) : wpAny (model prog w) A (getItem (.ref t) (.ref sl)) Q E s := by
 obtain ⟨os, hos, hcs, hds⟩ := id hs
 have hTs : s.TypeIs (.ref sl) "slice" := ⟨os, hos, hcs⟩
 unfold getItem
 try with_reducible refine wpAny_holding ?_
 first | refine wpAny_bind (wpAny_pure ?_) | skip
 refine wpAny_bind (wpAny_sequenceKey ht.typeIs (by decide) (wpAny_bind (wpAny_callSpecial?_slot (name := Str.ofString "__getitem__") ht.typeIs PyProof.Rows.slot_tuple_getitem
  (wpAny_call_entry PyProof.Rows.slot_tuple_getitem ht.typeIs entry_tuple_getitem ?_ (args_tuple_getitem _ _)))))
 show wpAny _ _ (Builtin.Tuple.tupleItemsOf (.ref t) >>= _) _ _ s
 refine wpAny_bind (tupleItemsOf_ ht (wpAny_bind (wpAny_typeOf hTs ?_)))
 rw [if_pos (by decide)]
 refine wpAny_bind (HT.qeq hs pl pu ?_)
 show wpAny _ _ (if (((HT.sIx items.size 0 lo : Nat) : Int) == 0 && (1 : Int) == 1 && (HT.sIx items.size items.size hi - HT.sIx items.size 0 lo) == items.size) = true then _ else _) _ _ s
 rw [h0, h1, if_pos (by simp)]
 refine wpAny_bind (wpAny_bind (wpAny_typeOf ht.typeIs (wpAny_pure ?_)))
 rw [if_pos (by rfl)]
 exact wpAny_bind (wpAny_rule (wpAny_pure ⟨_, rfl, wpAny_pure h⟩))
noncomputable def qyb (K : PySem.W.Frag) : V -> Option Int -> Option Int -> Hp -> VK -> Prop := fun x lo hi H Q => ∃ a xs, x = .ref a /\ SqT K H a xs /\
 (qhg xs lo hi = xs -> Q (.ref a) H) /\ ∀ p, H p = none -> Q (.ref p) (upd H p (.tup (qhg xs lo hi)))
theorem qrq : SlR X (qyb X.K) := by
 intro pins s σ H x v vl vu lo hi sl Q I rx hs pl pu h
 obtain ⟨a, xs, rfl, hx, q1, q2⟩ := h
 by_cases hw : HT.sIx xs.length 0 lo = 0 /\ HT.sIx xs.length xs.length hi = xs.length
 ·cases rx
  obtain ⟨its, r, ht, hz⟩ := I.tuple hx
  have hlen : its.toArray.size = xs.length := by rw [List.size_toArray]; exact r.length.symm
  refine ⟨"tuple", _, PyProof.Rows.slot_tuple_getitem.lookup, ht.typeIs, qmt ht hs pl pu (by rw [hlen]; exact hw.1) (by rw [hlen]; exact hw.2) ⟨.ref a, H, I, rfl, q1 ?_⟩⟩
  unfold qhg
  rw [hw.1, hw.2]
  simp
 ·exact qub pins s σ H (.ref a) v vl vu lo hi sl Q I rx hs pl pu ⟨a, xs, rfl, hx, hw, q2⟩
noncomputable def qty (K : PySem.W.Frag) : R2 := fun x y H Q => ∃ a b xs ys, x = .ref a /\ y = .ref b /\ SqT K H a xs /\ SqT K H b ys /\ xs.length + ys.length <= sizeLine /\
 (xs = [] -> Q (.ref b) H) /\ (ys = [] -> Q (.ref a) H) /\ ∀ p, H p = none -> Q (.ref p) (upd H p (.tup (xs ++ ys)))
theorem qta : OpR X (binaryOp .Add) (qty X.K) := by
 intro pins s σ H x y v u Q I rx ry h
 obtain ⟨a, b, xs, ys, rfl, rfl, ha, hb, hz, q0, q1, q2⟩ := h
 by_cases hx : xs = []
 ·subst hx
  cases rx
  cases ry
  obtain ⟨its, r1, p1, _⟩ := I.tuple ha
  obtain ⟨its2, r2, p2, _⟩ := I.tuple hb
  cases r1
  obtain ⟨⟨cls, dd, data, sl⟩, ho, hc, n, hd⟩ := id p1
  obtain ⟨⟨cls2, dd2, data2, sl2⟩, ho2, hc2, n2, hd2⟩ := id p2
  simp only at hc hd hc2 hd2
  subst hc hd hc2 hd2
  exact concat_meets ⟨_, ho, rfl⟩ ⟨_, ho2, rfl⟩ noFill_tuple_add seq_tuple_add PySem.F.slot_tuple_add PySem.F.entry_tuple_add (PySem.F.args_tuple_add_2 _ _)
   (tuple_addW0 a b _ its2.toArray n n2 dd dd2 sl sl2 (by simp)) ⟨ho, ho2, ⟨.ref b, H, I, rfl, q0 rfl⟩⟩
 ·exact qrl pins s σ H (.ref a) (.ref b) v u Q I rx ry ⟨a, b, xs, ys, rfl, rfl, ha, hb, hx, hz, q1, fun _ => q2⟩
end
section
variable {K : PySem.W.Frag} {g : TG} {tt : TT} {te : TE} {σ' : St} {fin : List V -> Hp -> Prop} {H1 : Hp}
theorem qgp {J : It} {n : Nat} (hn : n < sizeLine) (Pv : Nat -> List V -> St -> Hp -> Prop) (Yd : Nat -> V -> Prop) (h0 : Pv 0 [] σ' H1) (hl : ∀ i ys σ H, i <= n -> Pv i ys σ H -> ys.length <= i)
  (hgo : ∀ i ys σ H, i < n -> Pv i ys σ H -> J.go i H) (hst : ∀ ys σ H, Pv n ys σ H -> J.stop n H) (hy : ∀ i ys σ H x H', i < n -> Pv i ys σ H -> J.yld i H x H' -> H' = H /\ Yd i x)
  (hs : ∀ i x ys σ H, i < n -> Yd i x -> Pv i ys σ H -> g x σ H fun σ2 H2 => tt σ2 H2 fun b H3 => if b = true then te σ2 H3 (fun v H4 => Pv (i + 1) (ys ++ [v]) σ2 H4) else Pv (i + 1) ys σ2 H3) (hd : ∀ ys σ H, Pv n ys σ H -> fin ys H) :
  LcW J g tt te σ' fin H1 := by
 refine ⟨fun i m ys σ H => m = n - i /\ i <= n /\ Pv i ys σ H, ⟨n, by simp, Nat.zero_le _, h0⟩, ?_⟩
 rintro i m ys σ H ⟨rfl, hi, p⟩
 have hly := hl i ys σ H hi p
 by_cases hlt : i < n
 ·refine .inr ⟨hgo i ys σ H hlt p, by omega, fun ys' σ2 H2 => Pv (i + 1) ys' σ2 H2, fun ys' σ2 H2 q => ⟨n - (i + 1), by omega, rfl, hlt, q⟩, fun x H' y => ?_⟩
  obtain ⟨e, yd⟩ := hy i ys σ H x H' hlt p y
  subst e
  exact hs i x ys σ H' hlt yd p
 ·have e : i = n := by omega
  subst e
  exact .inl ⟨hst ys σ H p, by omega, hd ys σ H p⟩
theorem qjf {a : Addr} {xs : List V} (hn : xs.length < sizeLine) (Pv : Nat -> List V -> St -> Hp -> Prop) (h0 : Pv 0 [] σ' H1) (hl : ∀ i ys σ H, i <= xs.length -> Pv i ys σ H -> ys.length <= i /\ SqT K H a xs)
  (hs : ∀ i x ys σ H, xs[i]? = some x -> Pv i ys σ H -> g x σ H fun σ2 H2 => tt σ2 H2 fun b H3 => if b = true then te σ2 H3 (fun v H4 => Pv (i + 1) (ys ++ [v]) σ2 H4) else Pv (i + 1) ys σ2 H3) (hd : ∀ ys σ H, Pv xs.length ys σ H -> fin ys H) :
  LcW (Itt K a) g tt te σ' fin H1 :=
 qgp hn Pv (fun i x => xs[i]? = some x) h0 (fun i ys σ H hi p => (hl i ys σ H hi p).1) (fun i ys σ H hi p => ⟨xs, xs[i], (hl i ys σ H (Nat.le_of_lt hi) p).2, by simp [hi]⟩) (fun ys σ H p => ⟨xs, (hl _ ys σ H (Nat.le_refl _) p).2, Nat.le_refl _⟩)
  (fun i ys σ H x H' hi p y => ⟨y.1, y.2 xs (hl i ys σ H (Nat.le_of_lt hi) p).2⟩) (fun i x ys σ H _ yd p => hs i x ys σ H yd p) hd
theorem qgz {a : Addr} {xs : List V} (hn : xs.length < sizeLine) (Pv : Nat -> List V -> St -> Hp -> Prop) (h0 : Pv 0 [] σ' H1) (hl : ∀ i ys σ H, i <= xs.length -> Pv i ys σ H -> ys.length <= i /\ SqL K H a xs)
  (hs : ∀ i x ys σ H, xs[i]? = some x -> Pv i ys σ H -> g x σ H fun σ2 H2 => tt σ2 H2 fun b H3 => if b = true then te σ2 H3 (fun v H4 => Pv (i + 1) (ys ++ [v]) σ2 H4) else Pv (i + 1) ys σ2 H3) (hd : ∀ ys σ H, Pv xs.length ys σ H -> fin ys H) :
  LcW (Itl K a) g tt te σ' fin H1 :=
 qgp hn Pv (fun i x => xs[i]? = some x) h0 (fun i ys σ H hi p => (hl i ys σ H hi p).1) (fun i ys σ H hi p => ⟨xs, xs[i], (hl i ys σ H (Nat.le_of_lt hi) p).2, by simp [hi]⟩) (fun ys σ H p => ⟨xs, (hl _ ys σ H (Nat.le_refl _) p).2, Nat.le_refl _⟩)
  (fun i ys σ H x H' hi p y => ⟨y.1, y.2 xs (hl i ys σ H (Nat.le_of_lt hi) p).2⟩) (fun i x ys σ H _ yd p => hs i x ys σ H yd p) hd
theorem qn3 {lo : Int} {n : Nat} (hn : n < sizeLine) (Pv : Nat -> List V -> St -> Hp -> Prop) (h0 : Pv 0 [] σ' H1) (hl : ∀ i ys σ H, i <= n -> Pv i ys σ H -> ys.length <= i)
  (hs : ∀ i ys σ H, i < n -> Pv i ys σ H -> g (.int (lo + i)) σ H fun σ2 H2 => tt σ2 H2 fun b H3 => if b = true then te σ2 H3 (fun v H4 => Pv (i + 1) (ys ++ [v]) σ2 H4) else Pv (i + 1) ys σ2 H3) (hd : ∀ ys σ H, Pv n ys σ H -> fin ys H) :
  LcW (Itr lo n) g tt te σ' fin H1 :=
 qgp hn Pv (fun i x => x = .int (lo + i)) h0 hl (fun i ys σ H hi p => hi) (fun ys σ H p => Nat.le_refl _) (fun i ys σ H x H' hi p y => y) (fun i x ys σ H hi yd p => by subst yd; exact hs i ys σ H hi p) hd
theorem qs2 {x : Str} (hn : x.length < sizeLine) (Pv : Nat -> List V -> St -> Hp -> Prop) (h0 : Pv 0 [] σ' H1) (hl : ∀ i ys σ H, i <= x.length -> Pv i ys σ H -> ys.length <= i)
  (hs : ∀ i c ys σ H, x.cps[i]? = some c -> Pv i ys σ H -> g (.str ⟨#[c]⟩) σ H fun σ2 H2 => tt σ2 H2 fun b H3 => if b = true then te σ2 H3 (fun v H4 => Pv (i + 1) (ys ++ [v]) σ2 H4) else Pv (i + 1) ys σ2 H3) (hd : ∀ ys σ H, Pv x.length ys σ H -> fin ys H) :
  LcW (Its x) g tt te σ' fin H1 :=
 qgp hn Pv (fun i v => ∃ c, x.cps[i]? = some c /\ v = .str ⟨#[c]⟩) h0 hl (fun i ys σ H hi p => hi) (fun ys σ H p => Nat.le_refl _) (fun i ys σ H v H' hi p y => y) (fun i v ys σ H hi yd p => by obtain ⟨c, e, rfl⟩ := yd; exact hs i c ys σ H e p) hd
end
section
variable {K : PySem.W.Frag} {tt : TT} {te : TE} {σ' : St} {fin : List V -> Hp -> Prop} {H1 : Hp} {j : Nat}
theorem qgw {a : Addr} {xs : List V} (hn : xs.length < sizeLine) (Pv : Nat -> List V -> St -> Hp -> Prop) (h0 : Pv 0 [] σ' H1) (hl : ∀ i ys σ H, i <= xs.length -> Pv i ys σ H -> ys.length <= i /\ SqT K H a xs)
  (hs : ∀ i x ys σ H, xs[i]? = some x -> Pv i ys σ H -> te (σ.set j (some x)) H fun v H4 => Pv (i + 1) (ys ++ [v]) (σ.set j (some x)) H4) (hd : ∀ ys σ H, Pv xs.length ys σ H -> fin ys H) : LcW (Itt K a) (qdv j) qk9 te σ' fin H1 :=
 qjf hn Pv h0 hl (fun i x ys σ H hx p => by unfold qdv qk9; exact qf9 (hs i x ys σ H hx p)) hd
theorem qcj {a : Addr} {xs : List V} (hn : xs.length < sizeLine) (Pv : Nat -> List V -> St -> Hp -> Prop) (h0 : Pv 0 [] σ' H1) (hl : ∀ i ys σ H, i <= xs.length -> Pv i ys σ H -> ys.length <= i /\ SqL K H a xs)
  (hs : ∀ i x ys σ H, xs[i]? = some x -> Pv i ys σ H -> te (σ.set j (some x)) H fun v H4 => Pv (i + 1) (ys ++ [v]) (σ.set j (some x)) H4) (hd : ∀ ys σ H, Pv xs.length ys σ H -> fin ys H) : LcW (Itl K a) (qdv j) qk9 te σ' fin H1 :=
 qgz hn Pv h0 hl (fun i x ys σ H hx p => by unfold qdv qk9; exact qf9 (hs i x ys σ H hx p)) hd
theorem qdk {lo : Int} {n : Nat} (hn : n < sizeLine) (Pv : Nat -> List V -> St -> Hp -> Prop) (h0 : Pv 0 [] σ' H1) (hl : ∀ i ys σ H, i <= n -> Pv i ys σ H -> ys.length <= i)
  (hs : ∀ i ys σ H, i < n -> Pv i ys σ H -> te (σ.set j (some (.int (lo + i)))) H fun v H4 => Pv (i + 1) (ys ++ [v]) (σ.set j (some (.int (lo + i)))) H4) (hd : ∀ ys σ H, Pv n ys σ H -> fin ys H) : LcW (Itr lo n) (qdv j) qk9 te σ' fin H1 :=
 qn3 hn Pv h0 hl (fun i ys σ H hx p => by unfold qdv qk9; exact qf9 (hs i ys σ H hx p)) hd
theorem qoz {x : Str} (hn : x.length < sizeLine) (Pv : Nat -> List V -> St -> Hp -> Prop) (h0 : Pv 0 [] σ' H1) (hl : ∀ i ys σ H, i <= x.length -> Pv i ys σ H -> ys.length <= i)
  (hs : ∀ i c ys σ H, x.cps[i]? = some c -> Pv i ys σ H -> te (σ.set j (some (.str ⟨#[c]⟩))) H fun v H4 => Pv (i + 1) (ys ++ [v]) (σ.set j (some (.str ⟨#[c]⟩))) H4) (hd : ∀ ys σ H, Pv x.length ys σ H -> fin ys H) : LcW (Its x) (qdv j) qk9 te σ' fin H1 :=
 qs2 hn Pv h0 hl (fun i c ys σ H hx p => by unfold qdv qk9; exact qf9 (hs i c ys σ H hx p)) hd
theorem qdy {a : Addr} {xs : List V} (hn : xs.length < sizeLine) (Pv : Nat -> List V -> St -> Hp -> Prop) (h0 : Pv 0 [] σ' H1) (hl : ∀ i ys σ H, i <= xs.length -> Pv i ys σ H -> ys.length <= i /\ SqT K H a xs)
  (hs : ∀ i x ys σ H, xs[i]? = some x -> Pv i ys σ H -> tt (σ.set j (some x)) H fun b H3 => if b = true then te (σ.set j (some x)) H3 (fun v H4 => Pv (i + 1) (ys ++ [v]) (σ.set j (some x)) H4) else Pv (i + 1) ys (σ.set j (some x)) H3)
  (hd : ∀ ys σ H, Pv xs.length ys σ H -> fin ys H) : LcW (Itt K a) (qdv j) tt te σ' fin H1 := qjf hn Pv h0 hl hs hd
theorem qe1 {a : Addr} {xs : List V} (hn : xs.length < sizeLine) (Pv : Nat -> List V -> St -> Hp -> Prop) (h0 : Pv 0 [] σ' H1) (hl : ∀ i ys σ H, i <= xs.length -> Pv i ys σ H -> ys.length <= i /\ SqL K H a xs)
  (hs : ∀ i x ys σ H, xs[i]? = some x -> Pv i ys σ H -> tt (σ.set j (some x)) H fun b H3 => if b = true then te (σ.set j (some x)) H3 (fun v H4 => Pv (i + 1) (ys ++ [v]) (σ.set j (some x)) H4) else Pv (i + 1) ys (σ.set j (some x)) H3)
  (hd : ∀ ys σ H, Pv xs.length ys σ H -> fin ys H) : LcW (Itl K a) (qdv j) tt te σ' fin H1 := qgz hn Pv h0 hl hs hd
end
section
variable {X : Cx} {pins : List (Addr × Obj)} {σ : St} {H : Hp} {s : Shared} {h' : Heap}
theorem Inv.turnedS {t' : Nat} {ch : List Addr} (I : Inv X pins σ H s) (k : ∀ b o, b ∉ ch -> s.heap.get? b = some o -> h'.get? b = some o) (hf : ∀ b ∈ ch, qg7 X pins H b) : Inv X pins σ H { s with heap := h', toks := t' } := by
 have nit : ∀ b u, H b = some u -> b ∉ ch := fun b u e z => by rw [(hf b z).1] at e; cases e
 have hL : X.env.locals ∉ ch := fun z => (hf _ z).2.1 rfl
 refine I.step (g' := s.gens) (d' := s.drawn) (ch := ch) (fun b hb => ⟨(hf b hb).2.2.2.1, (hf b hb).2.1, (hf b hb).2.2.2.2.1, (hf b hb).2.2.2.2.2⟩) (fun b o _ _ hc e _ => k b o hc e) (fun b o _ _ hc e _ => ⟨o.slots, k b o hc e⟩) (fun _ _ _ _ n => n)
  (fun b o hc e => ⟨o, k b o hc e⟩) (fun _ _ e => e) (fun _ _ _ e => e) (fun b ps e => ⟨#[], by rw [e]; simp⟩) (fun m hm => ?_) (fun b u e => ?_) I.bare
 ·obtain ⟨o, es, ep, ho, r⟩ := hm
  exact ⟨o, es, ep, k _ o hL ho, r⟩
 ·refine (I.hok b u e).stay (fun c v hc q => k c v ?_ q) (fun _ q => q) fun _ _ q => q
  rcases hc with z | z
  ·rw [z]; exact nit b u e
  ·exact nit c _ z
end
noncomputable def Itz (K : PySem.W.Frag) (a b : Addr) : It :=
 ⟨fun i H => ∃ xs ys x y, SqL K H a xs /\ SqL K H b ys /\ xs[i]? = some x /\ ys[i]? = some y,
  fun i H v H' => ∃ T x y, v = .ref T /\ H T = none /\ H' = upd H T (.tup [x, y]) /\ (∀ xs, SqL K H a xs -> xs[i]? = some x) /\ ∀ ys, SqL K H b ys -> ys[i]? = some y,
  fun i H => ∃ xs ys, SqL K H a xs /\ SqL K H b ys /\ (xs.length <= i \/ ys.length <= i)⟩
noncomputable def qwo (z TI TO i1 i2 l1 l2 : Addr) (i : Nat) (h : Heap) : Prop := IsZip h z TI TO .none /\ IsPair h TI (.ref i1) (.ref i2) /\ (∃ a b, IsPair h TO a b) /\ h.IsListIter i1 l1 i /\ h.IsListIter i2 l2 i
theorem qpf {P : Program} {w : World} {K : PySem.W.Frag} {elts : List Expr} {x1} {pos : Pos} (z TI TO i1 i2 l1 l2 : Addr) (D : ZipApart z TI TO i1 i2 l1 l2) :
  Turn P w K (.Tuple elts x1 pos) (Itz K l1 l2) [z, TI, TO, i1, i2] z (qwo z TI TO i1 i2 l1 l2) where
 mem := by simp
 obj := fun i h st b hb => by
  obtain ⟨hz, hTI, ⟨a, c, hTO⟩, ⟨o1, e1, c1, d1⟩, ⟨o2, e2, c2, d2⟩⟩ := st
  simp only [List.mem_cons, List.not_mem_nil, or_false] at hb
  rcases hb with rfl | rfl | rfl | rfl | rfl
  ·exact ⟨_, hz, fun v q => by cases q⟩
  ·exact ⟨_, hTI, fun v q => by cases q⟩
  ·exact ⟨_, hTO, fun v q => by cases q⟩
  ·exact ⟨_, e1, fun v q => by rw [d1] at q; cases q⟩
  ·exact ⟨_, e2, fun v q => by rw [d2] at q; cases q⟩
 keep := fun i h h' st k => by
  obtain ⟨hz, hTI, ⟨a, c, hTO⟩, h1, h2⟩ := st
  exact ⟨k z (by simp) _ hz, k TI (by simp) _ hTI, ⟨a, c, k TO (by simp) _ hTO⟩, h1.at fun o e => k i1 (by simp) o e, h2.at fun o e => k i2 (by simp) o e⟩
 item := by
  intro X hP hw hK hc i pins s σ H E I hf st hg
  subst hP hw hK
  obtain ⟨xs, ys, x, y, hq1, hq2, hx, hy⟩ := hg
  obtain ⟨hz, hTI, ⟨a, c, hTO⟩, h1, h2⟩ := id st
  obtain ⟨its1, rv1, p1, hz1⟩ := I.list hq1
  obtain ⟨its2, rv2, p2, hz2⟩ := I.list hq2
  obtain ⟨u1, hu1, ru1⟩ := rv1.get hx
  obtain ⟨u2, hu2, ru2⟩ := rv2.get hy
  refine wpAny_pyNext_zip_item D hz hTI hTO h1 h2 p1.isList p2.isList (x := u1) (y := u2) (by simpa using hu1) (by simpa using hu2) fun h' a1 a2 a3 a4 a5 a6 a7 => ?_
  refine ⟨_, rfl, wpAny_letOwnedTupleGo_zip (s := { s with heap := h' }) a1 fun h'' z2 sb => ?_⟩
  have sb' := sb.extBut
  generalize hT : s.heap.objs.size = T at *
  have lt : ∀ {b : Addr} {o : Obj}, s.heap.get? b = some o -> b ≠ T := fun {b o} e => by rw [<- hT]; exact Nat.ne_of_lt (Heap.lt_size e)
  have fresh : H T = none := by rw [<- hT]; exact I.hok.fresh (Nat.le_refl _)
  have hne : ∀ b ∈ [z, TI, TO, i1, i2], b ≠ T := fun b hb => by
   obtain ⟨o1, e1, _⟩ := h1
   obtain ⟨o2, e2, _⟩ := h2
   simp only [List.mem_cons, List.not_mem_nil, or_false] at hb
   rcases hb with rfl | rfl | rfl | rfl | rfl
   ·exact lt hz
   ·exact lt hTI
   ·exact lt hTO
   ·exact lt e1
   ·exact lt e2
  have I0 : Inv X pins σ (upd H T (.tup [x, y])) { s with heap := s.heap.push { cls := .type "tuple", data := .seq #[u1, u2] }, toks := s.toks } := by
   subst hT
   exact I.laid (t' := s.toks) (fun b o q => Heap.get?_push_of_some _ q) (Nat.le_refl _) ⟨by show 2 <= sizeLine; decide, [u1, u2], .cons ru1 (.cons ru2 .nil), _, Heap.get?_push_size _ rfl, rfl, 0, rfl⟩
  have up : ∀ b o, b ∉ [z, TI, TO, i1, i2] -> (s.heap.push { cls := .type "tuple", data := .seq #[u1, u2] }).get? b = some o -> h''.get? b = some o := fun b o hb e => by
   simp only [List.mem_cons, List.not_mem_nil, or_false, not_or] at hb
   rcases Heap.get?_push_cases e with ⟨e1, e2⟩ | e1
   ·subst e2
    rw [e1, hT]
    exact sb' _ _ (hne z (by simp)).symm a5
   ·exact sb' _ _ hb.1 (a7 b o hb.1 hb.2.2.1 hb.2.2.2.1 hb.2.2.2.2 e1)
  have I2 : Inv X pins σ (upd H T (.tup [x, y])) { s with heap := h'', toks := s.toks } := Inv.turnedS (s := { s with heap := s.heap.push { cls := .type "tuple", data := .seq #[u1, u2] }, toks := s.toks }) (t' := s.toks) (ch := [z, TI, TO, i1, i2]) I0 up fun b hb => by
   obtain ⟨f0, f1⟩ := hf b hb
   exact ⟨by rw [qag (hne b hb)]; exact f0, f1⟩
  exact ⟨.ref T, upd H T (.tup [x, y]), I2, rfl, ⟨T, x, y, rfl, fresh, rfl, fun ws hw => by rw [I.list_inj hw hq1]; exact hx, fun ws hw => by rw [I.list_inj hw hq2]; exact hy⟩,
   ⟨z2, sb' _ _ D.TIz (a7 _ _ D.TIz D.TITO D.TIi1 D.TIi2 hTI), ⟨_, _, sb' _ _ D.TOz a2⟩, a3.at fun o e => sb' _ _ D.i1z e, a4.at fun o e => sb' _ _ D.i2z e⟩, fun b hb => by rw [qag (hne b hb)]; exact (hf b hb).1⟩
 done := by
  intro X hP hw hK hc i pins s σ H E I hf st hg
  subst hP hw hK
  obtain ⟨xs, ys, hq1, hq2, hx⟩ := hg
  obtain ⟨hz, hTI, ⟨a, c, hTO⟩, h1, h2⟩ := id st
  obtain ⟨its1, rv1, p1, hz1⟩ := I.list hq1
  obtain ⟨its2, rv2, p2, hz2⟩ := I.list hq2
  have hl1 := rv1.length
  have hl2 := rv2.length
  refine wpAny_pyNext_zip_end (I.ok.hd hc) D hz hTI hTO h1 h2 p1.isList p2.isList ?_ fun h' hk => ⟨rfl, I.turnedS (t' := s.toks) (ch := [z, TI, TO, i1, i2]) (fun b o hb e => ?_) hf⟩
  ·rcases hx with q | q
   ·exact .inl (by simp; omega)
   ·exact .inr (by simp; omega)
  ·simp only [List.mem_cons, List.not_mem_nil, or_false, not_or] at hb
   exact hk b o hb.1 hb.2.2.1 hb.2.2.2.1 hb.2.2.2.2 e
 self := fun _ _ _ _ _ st h => wpAny_pyIter_zip st.1 h
theorem boot_zip : bootBuiltins "zip" = some (.type "zip") := by decide +kernel
section
variable {X : Cx}
noncomputable def qxk (K : PySem.W.Frag) (ta : TA) : TI := fun σ H R => ta σ H fun vs H1 => ∃ a b xs ys, vs = [.ref a, .ref b] /\ SqL K H1 a xs /\ SqL K H1 b ys /\ R (Itz K a b) H1
theorem qq2 {a b : Expr} {elts : List Expr} {x1} {tpos : Pos} {ta : TA} {p pos : Pos} (hg : Gl X "zip") (hm : X.mg "zip" = none) (ha : PA X [a, b] ta) (hs : starEach [a, b] X.env = [(false, eval a X.env), (false, eval b X.env)] := by rfl) (hs2 : starEach [b] X.env = [(false, eval b X.env)] := by rfl) :
  PI X (.Tuple elts x1 tpos) (.Call (.Name "zip" p) [a, b] [] pos) (qxk X.K ta) := by
 intro pins s σ H R I h
 refine Call_ (qfk I hg hm boot_zip (PyProof.Rows.callWith_type1 (thn (ha pos pins s σ H _ I h) fun us s1 ⟨vs, H1, I1, r1, q1⟩ => ?_) (by rw [hs, hs2]) (by rw [hs2]; rfl)))
 obtain ⟨a', b', xs, ys, rfl, hq1, hq2, q⟩ := q1
 obtain ⟨u1, u2, rfl, ra, rb⟩ := vals2 r1
 cases ra
 cases rb
 obtain ⟨its1, rv1, p1, hz1⟩ := I1.list hq1
 obtain ⟨its2, rv2, p2, hz2⟩ := I1.list hq2
 have l1 : a' < s1.heap.objs.size := by obtain ⟨o, n, e, _⟩ := p1; exact Heap.lt_size e
 have l2 : b' < s1.heap.objs.size := by obtain ⟨o, n, e, _⟩ := p2; exact Heap.lt_size e
 refine call_zip_2 p1.isList p2.isList fun h' hz hTI hTO hi1 hi2 hsz hk => ?_
 refine wpAny_pyIter_zip hz ?_
 refine ⟨_, [s1.heap.objs.size + 4, s1.heap.objs.size + 2, s1.heap.objs.size + 3, s1.heap.objs.size, s1.heap.objs.size + 1], _, _, H1, rfl, I1.kept (t' := s1.toks) hk, qpf _ _ _ _ _ _ _ (zipApart_new l1 l2), ⟨hz, hTI, ⟨_, _, hTO⟩, hi1, hi2⟩, fun b hb => ?_, q⟩
 have hle : s1.heap.objs.size <= b := by
  simp only [List.mem_cons, List.not_mem_nil, or_false] at hb
  rcases hb with rfl | rfl | rfl | rfl | rfl
  ·exact Nat.le_add_right _ _
  ·exact Nat.le_add_right _ _
  ·exact Nat.le_add_right _ _
  ·exact Nat.le_refl _
  ·exact Nat.le_add_right _ _
 exact I1.fpOk hle (I1.hok.fresh hle)
end
section
variable {prog : Program} {w : World} {A : Around} {E : Value -> Shared -> Prop} {s : Shared}
end
section
variable {X : Cx}
theorem qsa {K : PySem.W.Frag} {g : TG} {tt : TT} {te : TE} {σ' : St} {fin : List V -> Hp -> Prop} {H1 : Hp} {a b : Addr} {xs ys : List V} (hn : min xs.length ys.length < sizeLine) (Pv : Nat -> List V -> St -> Hp -> Prop) (h0 : Pv 0 [] σ' H1)
  (hl : ∀ i zs σ H, i <= min xs.length ys.length -> Pv i zs σ H -> zs.length <= i /\ SqL K H a xs /\ SqL K H b ys)
  (hs : ∀ i x y zs σ H T, xs[i]? = some x -> ys[i]? = some y -> Pv i zs σ H -> H T = none -> g (.ref T) σ (upd H T (.tup [x, y])) fun σ2 H2 => tt σ2 H2 fun b H3 => if b = true then te σ2 H3 (fun v H4 => Pv (i + 1) (zs ++ [v]) σ2 H4) else Pv (i + 1) zs σ2 H3)
  (hd : ∀ zs σ H, Pv (min xs.length ys.length) zs σ H -> fin zs H) : LcW (Itz K a b) g tt te σ' fin H1 := by
 refine ⟨fun i m zs σ H => m = min xs.length ys.length - i /\ i <= min xs.length ys.length /\ Pv i zs σ H, ⟨min xs.length ys.length, by simp, Nat.zero_le _, h0⟩, ?_⟩
 rintro i m zs σ H ⟨rfl, hi, p⟩
 obtain ⟨q0, q1, q2⟩ := hl i zs σ H hi p
 by_cases hlt : i < min xs.length ys.length
 ·have h1 : i < xs.length := by omega
  have h2 : i < ys.length := by omega
  refine .inr ⟨⟨xs, ys, xs[i], ys[i], q1, q2, by simp [h1], by simp [h2]⟩, by omega, fun zs' σ2 H2 => Pv (i + 1) zs' σ2 H2, fun zs' σ2 H2 q => ⟨min xs.length ys.length - (i + 1), by omega, rfl, hlt, q⟩, fun v H' y => ?_⟩
  obtain ⟨T, x, y, rfl, hT, rfl, e1, e2⟩ := y
  exact hs i x y zs σ H T (e1 xs q1) (e2 ys q2) p hT
 ·have e : i = min xs.length ys.length := by omega
  subst e
  refine .inl ⟨⟨xs, ys, q1, q2, ?_⟩, by omega, hd zs σ H p⟩
  rcases Nat.le_total xs.length ys.length with z | z
  ·exact .inl (by omega)
  ·exact .inr (by omega)
end
section
variable {κ : Type} [DecidableEq κ]
noncomputable def qdq (kvs : List (κ × V)) (k : κ) : Option V := (kvs.find? fun kv => decide (kv.1 = k)).map (·.2)
noncomputable def putK (kvs : List (κ × V)) (k : κ) (v : V) : List (κ × V) :=
 if (kvs.any fun kv => decide (kv.1 = k)) = true then kvs.map (fun kv => if kv.1 = k then (kv.1, v) else kv) else kvs ++ [(k, v)]
noncomputable def qxi (kvs : List (κ × V)) (k : κ) : List (κ × V) := kvs.filter fun kv => decide (kv.1 ≠ k)
theorem qbn {p : κ × V} {r : List (κ × V)} {k : κ} (e : p.1 = k) : qdq (p :: r) k = some p.2 := by simp [qdq, List.find?_cons, e]
theorem qbl {p : κ × V} {r : List (κ × V)} {k : κ} (e : ¬ p.1 = k) : qdq (p :: r) k = qdq r k := by simp [qdq, List.find?_cons, e]
theorem qc5 (k : κ) : ∀ kvs : List (κ × V), (kvs.any fun kv => decide (kv.1 = k)) = (qdq kvs k).isSome
 | [] => rfl
 | p :: r => by
  rw [List.any_cons]
  by_cases e : p.1 = k
  ·simp only [qbn e, decide_eq_true e, Bool.true_or, Option.isSome_some]
  ·rw [qbl e, decide_eq_false e, Bool.false_or]; exact qc5 k r
theorem qju (k j : κ) (y : V) : ∀ kvs : List (κ × V), qdq (kvs.map fun kv => if kv.1 = k then (kv.1, y) else kv) j = (qdq kvs j).map fun x => if j = k then y else x
 | [] => rfl
 | p :: r => by
  have ih := qju k j y r
  rw [List.map_cons]
  by_cases h : p.1 = k
  ·rw [if_pos h]
   by_cases e : p.1 = j
   ·rw [qbn (p := (p.1, y)) e, qbn e, Option.map_some, if_pos (e.symm.trans h)]
   ·rw [qbl (p := (p.1, y)) e, qbl e, ih]
  ·rw [if_neg h]
   by_cases e : p.1 = j
   ·rw [qbn (p := p) e, qbn e, Option.map_some, if_neg (fun z => h (e.trans z))]
   ·rw [qbl (p := p) e, qbl e, ih]
theorem qia (k j : κ) (y : V) : ∀ kvs : List (κ × V), qdq kvs k = none -> qdq (kvs ++ [(k, y)]) j = if j = k then some y else qdq kvs j
 | [], _ => by
  by_cases e : k = j
  ·rw [if_pos e.symm]; exact qbn (p := (k, y)) e
  ·rw [if_neg (fun z => e z.symm)]; exact qbl (p := (k, y)) e
 | p :: r, hn => by
  rw [List.cons_append]
  have hk : ¬ p.1 = k := fun z => by rw [qbn z] at hn; cases hn
  rw [qbl hk] at hn
  have ih := qia k j y r hn
  by_cases e : p.1 = j
  ·rw [qbn e, qbn e, if_neg (fun z => hk (e.trans z))]
  ·rw [qbl e, qbl e, ih]
theorem qj9 (kvs : List (κ × V)) (k j : κ) (y : V) : qdq (putK kvs k y) j = if j = k then some y else qdq kvs j := by
 unfold putK
 by_cases a : (kvs.any fun kv => decide (kv.1 = k)) = true
 ·rw [if_pos a, qju]
  rw [qc5] at a
  by_cases e : j = k
  ·obtain ⟨x, hx⟩ := Option.isSome_iff_exists.mp a
   rw [if_pos e, e, hx, Option.map_some, if_pos rfl]
  ·rw [if_neg e]
   cases qdq kvs j with
   | none => rfl
   | some x => rw [Option.map_some, if_neg e]
 ·rw [if_neg a]
  refine qia k j y kvs ?_
  rw [qc5] at a
  cases q : qdq kvs k with
  | none => rfl
  | some x => rw [q] at a; exact (a rfl).elim
theorem qc2 (kvs : List (κ × V)) (k : κ) (v : V) : (putK kvs k v).length <= kvs.length + 1 := by
 unfold putK
 split
 ·rw [List.length_map]; omega
 ·rw [List.length_append, List.length_cons, List.length_nil]; omega
theorem qql {kvs : List (κ × V)} {k : κ} (v : V) (h : qdq kvs k = none) : putK kvs k v = kvs ++ [(k, v)] := by
 unfold putK
 rw [qc5, h]
 exact if_neg (by decide)
theorem qlm.isSome_eq {o : Option V} {u : Option Value} (r : qlm o u) : o.isSome = u.isSome := by
 cases o with
 | none => cases u with
  | none => rfl
  | some _ => exact (show False from r).elim
 | some _ => cases u with
  | none => exact (show False from r).elim
  | some _ => rfl
theorem KV.val {kvs : List (κ × V)} {vs : List (κ × Value)} (r : KV kvs vs) (k : κ) : qlm (qdq kvs k) (valueAt vs k) := by
 unfold KV at r
 induction r with
 | nil => exact True.intro
 | @cons p q ps qs h t ih =>
  obtain ⟨h1, h2⟩ := h
  by_cases e : p.1 = k
  ·have e' : q.1 = k := h1.symm.trans e
   have b : valueAt (q :: qs) k = some q.2 := by simp [valueAt, List.find?_cons, e']
   rw [qbn e, b]; exact h2
  ·have e' : ¬ q.1 = k := fun z => e (h1.trans z)
   have b : valueAt (q :: qs) k = valueAt qs k := by simp [valueAt, List.find?_cons, e']
   rw [qbl e, b]; exact ih
theorem KV.any {kvs : List (κ × V)} {vs : List (κ × Value)} (r : KV kvs vs) (k : κ) : (kvs.any fun kv => decide (kv.1 = k)) = vs.any fun kv => decide (kv.1 = k) := by
 unfold KV at r
 induction r with
 | nil => rfl
 | cons h t ih => rw [List.any_cons, List.any_cons, ih, h.1]
theorem KV.repl {kvs : List (κ × V)} {vs : List (κ × Value)} (r : KV kvs vs) (k : κ) {y : V} {u : Value} (ry : RelV y u) :
  KV (kvs.map fun kv => if kv.1 = k then (kv.1, y) else kv) (vs.map fun kv => if kv.1 = k then (kv.1, u) else kv) := by
 unfold KV at r ⊢
 induction r with
 | nil => exact .nil
 | @cons p q ps qs h t ih =>
  rw [List.map_cons, List.map_cons]
  refine .cons ?_ ih
  obtain ⟨h1, h2⟩ := h
  by_cases e : p.1 = k
  ·rw [if_pos e, if_pos (h1.symm.trans e)]; exact ⟨h1, ry⟩
  ·rw [if_neg e, if_neg (fun z => e (h1.trans z))]; exact ⟨h1, h2⟩
theorem KV.put {kvs : List (κ × V)} {vs : List (κ × Value)} (r : KV kvs vs) (k : κ) {y : V} {u : Value} (ry : RelV y u) : KV (putK kvs k y) (stored vs k u) := by
 unfold putK stored
 rw [r.any k]
 by_cases e : (vs.any fun kv => decide (kv.1 = k)) = true
 ·rw [if_pos e, if_pos e]; exact r.repl k ry
 ·rw [if_neg e, if_neg e]; exact Paired.snoc r ⟨rfl, ry⟩
theorem KV.length {kvs : List (κ × V)} {vs : List (κ × Value)} (r : KV kvs vs) : kvs.length = vs.length := Paired.length r
end
theorem qr3 {P : Program} {w : World} {k : Key} {u : Value} (r : RelV (kV k) u) : (qby P w).is k u = true := by
 cases k with
 | inl i => obtain ⟨t, e⟩ := (show ∃ t, u = Value.int i t from r); subst e; exact qi8 P w i t
 | inr x => obtain ⟨t, e⟩ := (show ∃ t, u = Value.str x t from r); subst e; exact qir P w x t
theorem qih {P : Program} {w : World} : ∀ {ks : List Key} {us : List Value}, qba (ks.map kV) us -> ItemsAre (qby P w) ks us
 | [], _, r => by rw [List.map_nil] at r; cases r; exact .nil
 | k :: ks, _, r => by
  rw [List.map_cons] at r
  cases r with
  | cons h t => exact .cons (qr3 h) (qih t)
noncomputable abbrev KT (H : Hp) : List (List Key × V) -> List (List Key × Addr × Value) -> Prop := Paired fun p q => p.1 = q.1 /\ H q.2.1 = some (.tup (p.1.map kV)) /\ RelV p.2 q.2.2
theorem KT.val {H : Hp} {kvs : List (List Key × V)} {xs : List (List Key × Addr × Value)} (r : KT H kvs xs) (k : List Key) : qlm (qdq kvs k) ((atKey xs k).map (·.2)) := by
 induction r with
 | nil => exact True.intro
 | @cons p q ps qs h t ih =>
  obtain ⟨h1, _, h2⟩ := h
  by_cases e : p.1 = k
  ·have e' : q.1 = k := h1.symm.trans e
   have b : atKey (q :: qs) k = some q.2 := by simp [atKey, List.find?_cons, e']
   rw [qbn e, b]; exact h2
  ·have e' : ¬ q.1 = k := fun z => e (h1.trans z)
   have b : atKey (q :: qs) k = atKey qs k := by simp [atKey, List.find?_cons, e']
   rw [qbl e, b]; exact ih
theorem KT.repl {H : Hp} {kvs : List (List Key × V)} {xs : List (List Key × Addr × Value)} (r : KT H kvs xs) (k : List Key) {y : V} {u : Value} (ry : RelV y u) :
  KT H (kvs.map fun kv => if kv.1 = k then (kv.1, y) else kv) (xs.map (putAt k u)) := by
 induction r with
 | nil => exact .nil
 | @cons p q ps qs h t ih =>
  rw [List.map_cons, List.map_cons]
  refine .cons ?_ ih
  obtain ⟨h1, h2, h3⟩ := h
  unfold putAt
  by_cases e : p.1 = k
  ·rw [if_pos e, if_pos (h1.symm.trans e)]; exact ⟨h1, h2, ry⟩
  ·rw [if_neg e, if_neg (fun z => e (h1.trans z))]; exact ⟨h1, h2, h3⟩
theorem KT.put {H : Hp} {kvs : List (List Key × V)} {xs : List (List Key × Addr × Value)} (r : KT H kvs xs) (k : List Key) {b : Addr} {y : V} {u : Value} (hb : H b = some (.tup (k.map kV))) (ry : RelV y u) :
  KT H (putK kvs k y) (storedH xs k b u) := by
 have e : (kvs.any fun kv => decide (kv.1 = k)) = (atKey xs k).isSome := by
  rw [qc5, (r.val k).isSome_eq, Option.isSome_map]
 unfold putK storedH
 rw [e]
 by_cases q : (atKey xs k).isSome = true
 ·rw [if_pos q, if_pos q]; exact r.repl k ry
 ·rw [if_neg q, if_neg q]; exact Paired.snoc r ⟨rfl, hb, ry⟩
theorem KT.keeps {H H' : Hp} {kvs : List (List Key × V)} {xs : List (List Key × Addr × Value)} (r : KT H kvs xs) (ht : ∀ b ys, H b = some (.tup ys) -> H' b = some (.tup ys)) : KT H' kvs xs :=
 Paired.mapP r fun _ _ z => ⟨z.1, ht _ _ z.2.1, z.2.2⟩
section
variable {P : Program} {w : World} {H : Hp} {h : Heap} {a : Addr}
theorem qvb {u : HO} (ok : HOk P w H h) (e : Rd H a u) : qa1 P w H h a u := e.ok ok
theorem qr1 {kvs : List (Key × V)} (ok : HOk P w H h) (e : Rd H a (.dK kvs)) : kvs.length <= sizeLine /\ (a == sysModules) = false /\ ∃ vs, KV kvs vs /\ h.DictOf (qby P w) a vs :=
 show qa1 P w H h a (.dK kvs) from qvb ok e
theorem qwg {kvs : List (Key × V)} (ok : HOk P w H h) (e : H a = some (.dK kvs)) : kvs.length <= sizeLine /\ (a == sysModules) = false /\ ∃ vs, KV kvs vs /\ h.DictOf (qby P w) a vs := qr1 ok (.inl e)
theorem qkb {ks : List Key} (ok : HOk P w H h) (e : H a = some (.tup (ks.map kV))) : (tupleKind (qby P w)).is h ks a := by
 obtain ⟨_, its, r, o, h1, h2, n, h3⟩ := (show qa1 P w H h a (.tup (ks.map kV)) from ok a _ e)
 exact ⟨o, its.toArray, n, h1, h2, h3, by simpa using qih r⟩
theorem qtb {kvs : List (List Key × V)} (ok : HOk P w H h) (e : Rd H a (.dT kvs)) : kvs.length <= sizeLine /\ (a == sysModules) = false /\
  ∃ xs, KT H kvs xs /\ h.DictOfH (tupleKind (qby P w)) a xs := by
 obtain ⟨z, y, xs, r, o, es, ep, h1, h2, h3, h4, h5⟩ := (show qa1 P w H h a (.dT kvs) from qvb ok e)
 refine ⟨z, y, xs, r, o, es, ep, h1, h2, h3, h4, fun x hx => ?_, h5⟩
 have all : ∀ {l : List (List Key × V)} {m : List (List Key × Addr × Value)}, KT H l m -> ∀ x ∈ m, (tupleKind (qby P w)).is h x.1 x.2.1 := by
  intro l m q
  induction q with
  | nil => intro x hx; exact nomatch hx
  | @cons p q ps qs hq t ih =>
   intro x hx
   rcases List.mem_cons.mp hx with e | hx
   ·subst e
    exact qkb ok (by rw [<- hq.1]; exact hq.2.1)
   ·exact ih x hx
 exact all r x hx
theorem qu6 {kvs : List (List Key × V)} (ok : HOk P w H h) (e : H a = some (.dT kvs)) : kvs.length <= sizeLine /\ (a == sysModules) = false /\
  ∃ xs, KT H kvs xs /\ h.DictOfH (tupleKind (qby P w)) a xs := qtb ok (.inl e)
end
noncomputable def qjm (H : Hp) (a : Addr) (y : V) (r : Option V) : Prop :=
 (∃ kvs k, Rd H a (.dK kvs) /\ y = kV k /\ r = qdq kvs k) \/ ∃ kvs k b, Rd H a (.dT kvs) /\ y = .ref b /\ H b = some (.tup (k.map kV)) /\ r = qdq kvs k
noncomputable def qtd (H : Hp) (a : Addr) (y v : V) (H' : Hp) : Prop :=
 (∃ kvs k, H a = some (.dK kvs) /\ y = kV k /\ kvs.length < sizeLine /\ H' = upd H a (.dK (putK kvs k v))) \/
 ∃ kvs k b, H a = some (.dT kvs) /\ y = .ref b /\ H b = some (.tup (k.map kV)) /\ kvs.length < sizeLine /\ H' = upd H a (.dT (putK kvs k v))
theorem qjm.t {H : Hp} {a b : Addr} {kvs : List (List Key × V)} {k : List Key} (e : H a = some (.dT kvs)) (eb : H b = some (.tup (k.map kV))) : qjm H a (.ref b) (qdq kvs k) := .inr ⟨kvs, k, b, .inl e, rfl, eb, rfl⟩
theorem qtd.t {H : Hp} {a b : Addr} {kvs : List (List Key × V)} {k : List Key} {v : V} (e : H a = some (.dT kvs)) (eb : H b = some (.tup (k.map kV))) (hl : kvs.length < sizeLine) :
  qtd H a (.ref b) v (upd H a (.dT (putK kvs k v))) := .inr ⟨kvs, k, b, e, rfl, eb, hl, rfl⟩
section
variable {X : Cx} {pins : List (Addr × Obj)} {σ : St} {H : Hp} {s : Shared} {a : Addr} {y v : V} {u r : Value} {o : Option V} {A : Around} {E : Value -> Shared -> Prop}
theorem Inv.big (I : Inv X pins σ H s) : sysModules < s.heap.objs.size := by
 have h : mainGlobals < s.heap.objs.size := (I.mod.glob.keeps I.bk).lt
 exact Nat.lt_trans (by decide) h
theorem qhc {Q : Value -> Shared -> Prop} (hu : A.units + 1 < cLine) (I : Inv X pins σ H s) (g : qjm H a y (some v)) (ry : RelV y u) (h : ∀ w' s', Inv X pins σ H s' -> RelV v w' -> Q w' s') :
  wpAny (model X.prog X.w) A (getItem (.ref a) u) Q E s := by
 rcases g with ⟨kvs, k, e, ey, l⟩ | ⟨kvs, k, b, e, ey, eb, l⟩
 ·subst ey
  obtain ⟨z, hd, vs, rel, dd⟩ := qr1 I.hok e
  obtain ⟨w', hw, rw'⟩ := qlm.some_of (v := v) (o := valueAt vs k) (by rw [l]; exact rel.val k)
  exact wpAny_getItem_of (qr3 ry) dd.mapOf hw (h w' _ (I.tok _) rw')
 ·subst ey
  cases (show u = Value.ref b from ry)
  obtain ⟨z, hd, xs, rel, dd⟩ := qtb I.hok e
  obtain ⟨w', hw, rw'⟩ := qlm.some_of (v := v) (o := (atKey xs k).map (·.2)) (by rw [l]; exact rel.val k)
  obtain ⟨p, hp, hp2⟩ := Option.map_eq_some_iff.mp hw
  refine wpAny_getItem_heap (tupleKind_room_in1 hu) (qkb I.hok eb) dd hp ?_
  rw [hp2]
  exact h w' _ (I.tok _) rw'
theorem qi7 {h' : Heap} {t' : Nat} {ob : HO} (I : Inv X pins σ H s) (mu : Mut (H a)) (hs : Heap.SameBut a s.heap h') (he : ∃ q, h'.get? a = some q) (new : qa1 X.prog X.w (upd H a ob) h' a ob) :
  Inv X pins σ (upd H a ob) { s with heap := h', toks := t' } :=
 I.write (x := a) (e := a) mu (.inl rfl) (fun b q hb z => (hs.2 b hb).trans z) he new
theorem qt8 {P : Program} {w : World} {H' : Hp} {h' : Heap} {kvs : List (Key × V)} {vs : List (Key × Value)} (z : kvs.length <= sizeLine) (hd : (a == sysModules) = false) (rel : KV kvs vs) (dd : h'.DictOf (qby P w) a vs) :
  qa1 P w H' h' a (.dK kvs) := ⟨z, hd, vs, rel, dd⟩
theorem qm2 {H' : Hp} {Q : Unit -> Shared -> Prop} (hu : A.units + 1 < cLine) (I : Inv X pins σ H s) (g : qtd H a y v H') (ry : RelV y u) (rv : RelV v r) (h : ∀ s', Inv X pins σ H' s' -> Q () s') :
  wpAny (model X.prog X.w) A (setItem (.ref a) u r) Q E s := by
 rcases g with ⟨kvs, k, e, ey, l, eH⟩ | ⟨kvs, k, b, e, ey, eb, l, eH⟩
 ·subst ey eH
  obtain ⟨z, hd, vs, rel, dd⟩ := qwg I.hok e
  have hz : vs.length <= sizeLine := by rw [<- rel.length]; exact z
  have hl : (putK kvs k v).length <= sizeLine := by have := qc2 kvs k v; omega
  refine wpAny_setItem_pairs (hsz := hz) (qr3 ry) dd fun h' dd' hs => h _ ?_
  have he : ∃ q, h'.get? a = some q := let ⟨q, _, _, hq, _⟩ := dd'; ⟨q, hq⟩
  exact qi7 I (by rw [e]; exact True.intro) hs he (qt8 hl hd (rel.put k rv) dd')
 ·subst ey eH
  cases (show u = Value.ref b from ry)
  obtain ⟨z, hd, xs, rel, dd⟩ := qu6 I.hok e
  have hz : xs.length <= sizeLine := by rw [<- Paired.length rel]; exact z
  have hl : (putK kvs k v).length <= sizeLine := by have := qc2 kvs k v; omega
  refine wpAny_setItem_heap (hsz := hz) (tupleKind_room_in1 hu) (qkb I.hok eb) dd fun h' dd' hs => h _ ?_
  obtain ⟨q, es, ep, hq, h2, h3, h4, _, h5⟩ := dd'
  refine qi7 I (by rw [e]; exact True.intro) hs ⟨q, hq⟩ ⟨hl, hd, _, (rel.put k eb rv).keeps fun c ys ec => ?_, q, es, ep, hq, h2, h3, h4, h5⟩
  rw [qag (qs7 ec e (fun z => nomatch z))]
  exact ec
end
section
variable {X : Cx} {pins : List (Addr × Obj)} {σ : St} {H : Hp} {s : Shared} {a : Addr} {kvs : List (Key × V)} {k : Key} {u : Value} {A : Around} {E : Value -> Shared -> Prop}
end
noncomputable def qw5 (i : Expr) : Prop := ∀ ov iv, subscripted i false ov iv = operate [ov, iv] (getItem ov iv)
theorem qsb {prog : Program} {w : World} {A : Around} {E : Value -> Shared -> Prop} {s : Shared} {env : Env} {value slice : Expr} {pos : Pos} {T id : String} {Q : Value -> Shared -> Prop}
  (hl : typeLookup (.type T) "__getitem__" = pure (some (.builtin id))) (hs : qw5 slice)
  (h : wpAny (model prog w) A (eval value env) (fun o s₁ => wpAny (model prog w) A (eval slice env) (fun i s₂ => s₂.TypeIs o T /\ wpAny (model prog w) A (getItem o i) Q E s₂) E s₁) E s) :
  wpAny (model prog w) A (eval (.Subscript value slice pos) env) Q E s := by
 refine Subscript_ (wpAny_mono h (fun o s₁ h₁ => wpAny_mono h₁ (fun i s₂ h₂ => ?_) fun _ _ x => x) fun _ _ x => x)
 obtain ⟨hT, h₂⟩ := h₂
 unfold subscriptTail
 refine wpAny_bind ?_
 rw [getitemInPython_of_ne hT.not_modules]
 refine wpAny_bind (wpAny_specialOf hT hl ?_)
 have fin : wpAny (model prog w) A (subscripted slice false o i) (fun r s₃ => wpAny (model prog w) A (letTemporaryGo value o r >>= fun _ => pure r) Q E s₃) E s₂ := by
  rw [hs o i]
  exact wpAny_operating (wpAny_mono h₂ (fun r s₃ h₃ => wpAny_bind (wpAny_letTemporaryGo (wpAny_pure h₃))) fun _ _ x => x)
 first
  | exact wpAny_pure (wpAny_bind fin)
  | exact wpAny_bind (wpAny_pure (wpAny_bind fin))
  | exact wpAny_bind fin
theorem qi1 {X : Cx} {pins : List (Addr × Obj)} {σ : St} {H : Hp} {s : Shared} {a : Addr} {y : V} {o : Option V} (I : Inv X pins σ H s) (g : qjm H a y o) : s.TypeIs (.ref a) "dict" := by
 rcases g with ⟨kvs, k, e, _, _⟩ | ⟨kvs, k, b, e, _, _, _⟩
 ·obtain ⟨_, _, vs, _, dd⟩ := qr1 I.hok e
  exact dd.typeIs
 ·obtain ⟨_, _, xs, _, dd⟩ := qtb I.hok e
  exact dd.typeIs
noncomputable def qvx (td ty : TE) : TE := fun σ H Q => td σ H fun x H1 => ty σ H1 fun y H2 => ∃ a v, x = .ref a /\ qjm H2 a y (some v) /\ Q v H2
noncomputable def qvy (td ty tv : TE) (rd : V -> V -> Hp -> VK -> Prop) : TS := fun D σ H => td σ H fun x H1 => ty σ H1 fun y H2 => ∃ a v, x = .ref a /\ qjm H2 a y (some v) /\
 tv σ H2 fun y2 H3 => rd v y2 H3 fun z H4 => ∃ H5, qtd H4 a y z H5 /\ D.nx σ H5
section
variable {X : Cx} {o i e value : Expr} {pos pos' tpos : Pos} {td ty tv : TE}
theorem qi2 (hu : X.A.units + 1 < cLine) (ho : PE X o td) (hi : PE X i ty) (hs : qw5 i) : PE X (.Subscript o i pos) (qvx td ty) := by
 intro pins s σ H Q I h
 refine qsb PySem.F.slot_dict_getitem.lookup hs (thn (ho pins s σ H _ I h) fun u s1 ⟨x, H1, I1, rx, q1⟩ => thn (hi pins s1 σ H1 _ I1 q1) fun iv s2 ⟨y, H2, I2, ry, a, v, ex, g, q2⟩ => ?_)
 subst ex
 obtain rfl : u = Value.ref a := rx
 exact ⟨qi1 I2 g, qhc hu I2 g ry fun w' s3 I3 rw' => ⟨v, H2, I3, rw', q2⟩⟩
theorem qn6 {op : Operator} {rd : V -> V -> Hp -> VK -> Prop} (hu : X.A.units + 1 < cLine) (ho : PE X o td) (hi : PE X i ty) (hv : PE X value tv) (hop : qwq X op rd)
  (ha : ∀ ov iv new, augStore i ov iv new = (do holding [new, ov, iv] (setItem ov iv new); release [new, ov, iv] []; pure .next)) : PS X (.AugAssign (.Subscript o i tpos) op value pos) (qvy td ty tv rd) := by
 intro pins s σ H D I h
 refine wpAny_AugAssign_SubscriptAny (thn (ho pins s σ H _ I h) fun u s1 ⟨x, H1, I1, rx, q1⟩ => thn (hi pins s1 σ H1 _ I1 q1) fun iv s2 ⟨y, H2, I2, ry, a, v, ex, g, q2⟩ => ?_) ha
 subst ex
 obtain rfl : u = Value.ref a := rx
 refine qhc hu I2 g ry fun w' s3 I3 rw' => thn (hv pins s3 σ H2 _ I3 q2) fun w2 s4 ⟨y2, H3, I4, ry2, q3⟩ => thn (hop pins s4 σ H3 v y2 w' w2 _ I4 rw' ry2 q3) fun w3 s5 ⟨z, H4, I5, rz, H5, g5, q4⟩ => ?_
 exact qm2 hu I5 g5 ry rz fun s6 I6 => ⟨σ, H5, I6, q4⟩
end
theorem qqh {P : Program} {w : World} {H : Hp} (h : Heap) (hb : sysModules < h.objs.size) : qa1 P w H (h.push { cls := .type "dict", data := .dict #[] }) h.objs.size (.dT []) :=
 ⟨Nat.zero_le _, beq_eq_false_iff_ne.mpr (Ne.symm (Nat.ne_of_lt hb)), [], .nil, _, #[], 0, Heap.get?_push_size _ rfl, ⟨rfl, rfl, rfl⟩, rfl, rfl, List.nodup_nil⟩
section
variable {X : Cx} {pos : Pos}
end
section
variable {prog : Program} {w : World} {A : Around} {R : Result -> Shared -> Prop} {s : Shared}
theorem qru {kx vx tg iter : Expr} {ifs : List Expr} {scope : Scope} {pos : Pos} {it : Value} {D : Addr} {env : Env} (J : Nat -> Shared -> Prop)
  (turn : ∀ n s, J n s -> wpAny (model prog w) A (pyNext it) (fun r s1 => match r with
   | none => R (.ok .next) s1
   | some v => wpAny (model prog w) A (letOwnedTupleGo tg it v) (fun _ s2 => wpAny (model prog w) A (assign tg env v) (fun _ s3 =>
     wpAny (model prog w) A (forIn ifs true fun c r => if r = true then do let ok <- isTrue c env (eval c env); pure (ForInStep.yield ok) else pure (ForInStep.yield r)) (fun ok s4 =>
      if ok = true then wpAny (model prog w) A (eval kx env) (fun y s5 => wpAny (model prog w) A (eval vx env) (fun x s6 => wpAny (model prog w) A (dictSet D y x) (fun _ s7 => ∃ m, m < n /\ J m s7) (fun _ _ => False) s6) (fun _ _ => False) s5) (fun _ _ => False) s4
      else ∃ m, m < n /\ J m s4) (fun _ _ => False) s3) (fun _ _ => False) s2) (fun _ _ => False) s1) (fun _ _ => False) s)
  (n : Nat) (h : J n s) : codeAny (model prog w) A (.compLoop (.DictComp kx vx [⟨tg, iter, ifs, 0⟩] scope pos) 0 it (.ref D) env) R s := by
 refine codeAny_loop rfl J (fun k t hJ => ?_) n h
 show wpAny _ A ((compTurn (.DictComp kx vx [⟨tg, iter, ifs, 0⟩] scope pos) 0 it (.ref D) env).onRaise (fun x => do noteFrame x env; theTreesLotGoes x)) _ _ t
 refine wpAny_noted (wpAny_mono (E := fun _ _ => False) ?_ (fun _ _ q => q) fun _ _ f => f.elim)
 rw [compTurn_dict]
 refine wpAny_bind (wpAny_standAt (wpAny_bind (thn (turn k t hJ) fun r s1 h1 => ?_)))
 cases r with
 | none => exact wpAny_pure h1
 | some v =>
  refine wpAny_bind (thn h1 fun _ s2 h2 => wpAny_bind (thn h2 fun _ s3 h3 => wpAny_bind (thn h3 fun ok s4 h4 => ?_)))
  cases ok with
  | false => exact wpAny_pure ⟨rfl, h4⟩
  | true => exact wpAny_bind (wpAny_bind (thn h4 fun y s5 h5 => wpAny_bind (wpAny_holding (thn h5 fun x s6 h6 => wpAny_bind (wpAny_standAt (wpAny_holding (thn h6 fun _ s7 h7 => wpAny_pure ⟨rfl, h7⟩)))))))
end
noncomputable def qrt (H : Hp) (a : Addr) (y v : V) (H' : Hp) : Prop := ∃ kvs k b, H a = some (.dT kvs) /\ y = .ref b /\ H b = some (.tup (k.map kV)) /\ kvs.length < sizeLine /\ H' = upd H a (.dT (putK kvs k v))
theorem qm5 {X : Cx} {pins : List (Addr × Obj)} {σ : St} {H H' : Hp} {s : Shared} {a : Addr} {y v : V} {u r : Value} {A : Around} {E : Value -> Shared -> Prop} {Q : Unit -> Shared -> Prop} (hu : A.units < cLine) (I : Inv X pins σ H s) (g : qrt H a y v H') (ry : RelV y u) (rv : RelV v r) (h : ∀ s', Inv X pins σ H' s' -> Q () s') :
  wpAny (model X.prog X.w) A (dictSet a u r) Q E s := by
 obtain ⟨kvs, k, b, e, ey, eb, l, eH⟩ := g
 subst ey eH
 cases (show u = Value.ref b from ry)
 obtain ⟨z, hd, xs, rel, dd⟩ := qu6 I.hok e
 have hz : xs.length <= sizeLine := by rw [<- Paired.length rel]; exact z
 have hl : (putK kvs k v).length <= sizeLine := by have := qc2 kvs k v; omega
 refine wpAny_dictSet_heap (hsz := hz) (show (tupleKind (qby X.prog X.w)).room A from hu) (qkb I.hok eb) dd (fun h' dd' hs => h _ ?_)
 obtain ⟨q, es, ep, hq, h2, h3, h4, _, h5⟩ := dd'
 refine qi7 I (by rw [e]; exact True.intro) hs ⟨q, hq⟩ ⟨hl, hd, _, (rel.put k eb rv).keeps fun c ys ec => ?_, q, es, ep, hq, h2, h3, h4, h5⟩
 rw [qag (qs7 ec e (fun z => nomatch z))]
 exact ec
noncomputable def DcW (D : Addr) (J : It) (g : TG) (tt : TT) (tk tv : TE) (σ' : St) (fin : Hp -> Prop) (H1 : Hp) : Prop :=
 ∃ W : Nat -> Nat -> St -> Hp -> Prop, (∃ m, W 0 m σ' H1) /\ ∀ i m σ H, W i m σ H ->
  (J.stop i H /\ fin H) \/ (J.go i H /\ ∃ Nx : St -> Hp -> Prop, (∀ σ' H', Nx σ' H' -> ∃ m', m' < m /\ W (i + 1) m' σ' H') /\
   ∀ x H', J.yld i H x H' -> g x σ H' fun σ2 H2 => tt σ2 H2 fun b H3 => if b = true then tk σ2 H3 (fun y H4 => tv σ2 H4 fun v H5 => ∃ H6, qrt H5 D y v H6 /\ Nx σ2 H6) else Nx σ2 H3)
noncomputable def qve (i : Nat) (wi : TI) (g : TG) (tt : TT) (tk tv : TE) (ix : List (Option Nat)) : TS := fun E σ H => wi σ H fun J H1 => ∀ D, H1 D = none -> DcW D J g tt tk tv (emb ix σ) (fun H' => E.nx (σ.set i (some (.ref D))) H') (upd H1 D (.dT []))
theorem qsk {b D C : Nat} (h : b < D) (e : C = D + 1) (z : b = C) : False := by omega
section
variable {X : Cx} {scope : Scope} {N : List Str} {ix : List (Option Nat)}
theorem quo {pins pins' : List (Addr × Obj)} {σ σ' : St} {H2 H' : Hp} {s2 s' : Shared} {C : Addr} {fp : List Addr} {h' : Heap} (I2 : Inv X pins σ H2 s2) (hf : ∀ b ∈ fp, qg7 X pins H2 b)
  (I' : Inv (qcd X scope N C s2 H2 fp) pins' σ' H' s') (hC : s2.heap.objs.size <= C) (hs : ∀ b o, b ≠ C -> s'.heap.get? b = some o -> h'.get? b = some o) : Inv X pins σ H' { s' with heap := h' } := by
 have B : Un (frs X.stack) fp H2 H' s2.heap s'.heap := I'.base
 have neC : ∀ b o, s2.heap.get? b = some o -> b ≠ C := fun b o e => Nat.ne_of_lt (Nat.lt_of_lt_of_le (Heap.lt_size e) hC)
 have hCn : H' C = none := I'.free
 have tC : ∀ b u, H' b = some u -> b ≠ C := fun b u e => qaf e hCn
 refine I2.call' (s' := { s' with heap := h' }) (ch := fp) I'.os ⟨fun b o e n hb hx => ?_, fun b o e n hb hx => ?_, fun b o e n hx => ?_, fun b o e hx => ?_, fun b xs e => ?_, fun b o u e => ?_, fun b ps e => ?_⟩ (fun b u e => ?_) I'.bare fun b hb => ⟨(hf b hb).2.2.2.1, (hf b hb).2.1, (hf b hb).2.2.2.2.1, (hf b hb).2.2.2.2.2⟩
 ·exact hs b o (neC b o e) (B.keep b o e n hb hx)
 ·obtain ⟨sl, q⟩ := B.slot b o e n hb hx
  exact ⟨sl, hs b _ (neC b o e) q⟩
 ·exact B.free b o e n hx
 ·obtain ⟨o', q⟩ := B.there b o e hx
  exact ⟨o', hs b o' (neC b o e) q⟩
 ·exact B.tups b xs e
 ·exact B.frzs b o u e
 ·exact B.tbls b ps e
 ·refine (I'.hok b u e).stay (fun c v hc q => hs c v ?_ q) (fun c q => q) fun c xs q => q
  rcases hc with z | z
  ·rw [z]; exact tC b u e
  ·exact tC c _ z
variable {tg iter kx vx : Expr} {ifs : List Expr} {pos : Pos} {g : TG} {tt : TT} {tk tv : TE}
theorem qqr (L : qf3 X scope N ix) (hc : X.calm = true) (hu : X.A.units < cLine) (hg : ∀ C s0 H0 fp, PG (qcd X scope N C s0 H0 fp) tg g) (ht : ∀ C s0 H0 fp, PTs (qcd X scope N C s0 H0 fp) ifs tt) (hk : ∀ C s0 H0 fp, PE (qcd X scope N C s0 H0 fp) kx tk) (hv : ∀ C s0 H0 fp, PE (qcd X scope N C s0 H0 fp) vx tv)
  {pins : List (Addr × Obj)} {σ : St} {H1 : Hp} {s1 : Shared} {it : Addr} {fp : List Addr} {tn : Nat -> Heap -> Prop} {J : It} {fin : Addr -> Hp -> Prop} {E : Value -> Shared -> Prop} {RR : Value -> Addr -> Result -> Shared -> Prop}
  (I1 : Inv X pins σ H1 s1) (T : Turn X.prog X.w X.K tg J fp it tn) (st : tn 0 s1.heap) (f1 : ∀ b ∈ fp, qg7 X pins H1 b) (hW : ∀ D, H1 D = none -> DcW D J g tt tk tv (emb ix σ) (fin D) (upd H1 D (.dT [])))
  (hRR : ∀ D C s' m H', s'.heap.Ns C m -> s'.os = s1.os -> qg7 X pins H' C -> (∀ h', Heap.SameBut C s'.heap h' -> Inv X pins σ H' { s' with heap := h' }) -> fin D H' -> RR (.ref D) C (.ok .next) s') :
  wpAny (model X.prog X.w) X.A newDict (fun acc s3 => wpAny (model X.prog X.w) X.A (newFunctionEnv scope X.env.globals (qg6 X.env scope.names []) [] X.env.qual none .none (some X.env)) (fun cenv s4 =>
   codeAny (model X.prog X.w) X.A (.compStart (.DictComp kx vx [⟨tg, iter, ifs, 0⟩] scope pos) 0 (.ref it) acc { cenv with scope := relabel scope X.env }) (RR acc cenv.locals) s4) E s3) E s1 := by
 have hb1 : ∀ b ∈ fp, b < s1.heap.objs.size := fun b hb => by
  obtain ⟨o, e, _⟩ := T.obj _ _ st b hb
  exact Heap.lt_size e
 have hDn : H1 s1.heap.objs.size = none := I1.hok.fresh (Nat.le_refl _)
 obtain ⟨W, ⟨m0, w0⟩, turn⟩ := hW s1.heap.objs.size hDn
 refine wpAny_newObj_type (wpAny_newFunctionEnv L.nocell (by intro y hy; simp at hy) (fun h1 hns hsb => ?_) L.kind)
 dsimp only at hns hsb ⊢
 have I2 : Inv X pins σ (upd H1 s1.heap.objs.size (.dT [])) { s1 with heap := s1.heap.push { cls := .type "dict", data := .dict #[] }, toks := s1.toks } :=
  I1.laid (t' := s1.toks) (a := s1.heap.objs.size) (o := .dT []) (fun _ _ q => Heap.get?_push_of_some _ q) (Nat.le_refl _) (qqh s1.heap I1.big)
 have f2 : ∀ b ∈ fp, qg7 X pins (upd H1 s1.heap.objs.size (.dT [])) b := fun b hb => by
  obtain ⟨q0, q1⟩ := f1 b hb
  exact ⟨by rw [qag (Nat.ne_of_lt (hb1 b hb))]; exact q0, q1⟩
 have st2 : tn 0 (s1.heap.push { cls := .type "dict", data := .dict #[] }) := T.keep _ _ _ st fun b _ o e => Heap.get?_push_of_some _ e
 generalize hD : s1.heap.objs.size = D at *
 generalize hH2 : upd H1 D (.dT []) = H2 at *
 generalize hG : s1.heap.push { cls := .type "dict", data := .dict #[] } = G at *
 have hGs : G.objs.size = D + 1 := by rw [<- hG, Heap.size_push, hD]
 generalize hCe : G.objs.size = C at *
 have kp : ∀ b o, G.get? b = some o -> h1.get? b = some o := fun b o e => hsb.extBut b o (fun z => by have := Heap.lt_size e; rw [hCe] at this; exact absurd (z ▸ this) (Nat.lt_irrefl _)) (Heap.get?_push_of_some _ e)
 have I4 := qva L (tk := s1.toks + ([] : List (Str × Value)).length) I2 (C := C) (by show G.objs.size <= C; rw [hCe]; exact Nat.le_refl _) f2 (fun b hb => by show b < G.objs.size; rw [hCe, hGs]; exact Nat.lt_succ_of_lt (hb1 b hb)) kp hns
 have st4 : tn 0 h1 := T.keep _ _ _ st2 fun b _ o e => kp b o e
 generalize hs2 : ({ s1 with heap := G, toks := s1.toks } : Shared) = s2 at I2 I4
 have hs2h : s2.heap = G := by rw [<- hs2]
 have hs2o : s2.os = s1.os := by rw [<- hs2]
 have stat : ∀ {H' : Hp}, (∀ b ∈ fp, H' b = none) -> ∀ b ∈ fp, qg7 (qcd X scope N C s2 H2 fp) [] H' b := fun {H'} hn b hb => by
  have hlt := hb1 b hb
  refine ⟨hn b hb, fun z => ?_, fun z => ?_, .inl hb, fun x c e => (f2 b hb).2.2.2.2.1 x c (qbw e), fun p hq z => ?_⟩
  ·exact qsk hlt hGs z
  ·exact (List.mem_cons.mp (I2.stkSub b z)).elim (f2 b hb).2.1 (f2 b hb).2.2.1
  ·have hq' : p ∈ ([] : List (Addr × Obj)) := by simpa [qcd] using hq
   cases hq'
 have loop : ∀ s4 : Shared, Inv (qcd X scope N C s2 H2 fp) [] (emb ix σ) H2 s4 -> tn 0 s4.heap -> codeAny (model X.prog X.w) X.A (.compLoop (.DictComp kx vx [⟨tg, iter, ifs, 0⟩] scope pos) 0 (.ref it) (.ref D) (qcd X scope N C s2 H2 fp).env) (RR (.ref D) C) s4 := by
  intro s4 I4' st4'
  refine qru (fun n s' => ∃ i σ' H', Inv (qcd X scope N C s2 H2 fp) [] σ' H' s' /\ tn i s'.heap /\ (∀ b ∈ fp, H' b = none) /\ W i n σ' H') ?_ m0 ⟨0, emb ix σ, H2, I4', st4', fun b hb => (f2 b hb).1, w0⟩
  rintro n s' ⟨i, σ', H', I', st', fr', w'⟩
  rcases turn i n σ' H' w' with ⟨stop, qf⟩ | ⟨go, Nx, hN, step⟩
  ·refine thn (T.done (qcd X scope N C s2 H2 fp) rfl rfl rfl hc i _ s' σ' H' _ I' (stat fr') st' stop) fun r s5 ⟨hr, I5⟩ => ?_
   subst hr
   obtain ⟨m5, hn5, _⟩ := I5.loc
   refine hRR D C s5 m5 H' hn5 (I5.os.trans hs2o) (I2.fpOk (by rw [hs2h, hCe]; exact Nat.le_refl _) I5.free) (fun h' hs' => ?_) qf
   exact quo I2 f2 I5 (by rw [hs2h, hCe]; exact Nat.le_refl _) fun b o hb e => hs'.extBut b o hb e
  ·refine thn (T.item (qcd X scope N C s2 H2 fp) rfl rfl rfl hc i _ s' σ' H' _ I' (stat fr') st' go) fun r s5 ⟨u, hr, h5⟩ => ?_
   subst hr
   refine thn h5 fun _ s6 ⟨x, H6, I6, r6, y6, st6, fr6⟩ => ?_
   have I6' := I6.pinned (stat fr6) (T.obj _ _ st6)
   refine thn (hg C s2 H2 fp _ s6 σ' H6 x u _ I6' r6 (step x H6 y6)) fun _ s7 ⟨σ7, H7, I7, q7⟩ => ?_
   refine thn (ht C s2 H2 fp _ s7 σ7 H7 _ I7 q7) fun ok s8 ⟨H8, I8, q8⟩ => ?_
   have back : ∀ {H9 : Hp} {s9 : Shared}, Inv (qcd X scope N C s2 H2 fp) ([] ++ qf8 fp s6.heap) σ7 H9 s9 -> tn (i + 1) s9.heap /\ ∀ b ∈ fp, H9 b = none := fun {H9 s9} I9 => by
    refine ⟨T.keep _ _ _ st6 fun b hb o e => (I9.pin (b, o) (List.mem_append_right _ (List.mem_append_right _ (qcf hb e)))).1, fun b hb => ?_⟩
    obtain ⟨o, e, d⟩ := T.obj _ _ st6 b hb
    exact (I9.pin (b, o) (List.mem_append_right _ (List.mem_append_right _ (qcf hb e)))).2.1
   cases ok with
   | false =>
    rw [if_neg Bool.false_ne_true] at q8 ⊢
    obtain ⟨m', hm, w8⟩ := hN _ _ q8
    obtain ⟨st8, fr8⟩ := back I8
    exact ⟨m', hm, i + 1, σ7, H8, I8.unpinned, st8, fr8, w8⟩
   | true =>
    rw [if_pos rfl] at q8 ⊢
    refine thn (hk C s2 H2 fp _ s8 σ7 H8 _ I8 q8) fun yv s9 ⟨y, H9, I9, r9, q9⟩ => ?_
    refine thn (hv C s2 H2 fp _ s9 σ7 H9 _ I9 q9) fun xv s10 ⟨v, H10, I10, r10, H11, g11, q11⟩ => ?_
    refine qm5 (X := qcd X scope N C s2 H2 fp) hu I10 g11 r9 r10 fun s11 I11 => ?_
    obtain ⟨m', hm, w11⟩ := hN _ _ q11
    obtain ⟨st11, fr11⟩ := back I11
    exact ⟨m', hm, i + 1, σ7, H11, I11.unpinned, st11, fr11, w11⟩
 have q := loop _ I4 st4
 subst hs2
 exact codeAny_compStart_dict q (T.self _ 0 _ _ _ st4 q)
theorem qqe {i : Nat} {y : Str} {py spos : Pos} {wi : TI} (hu : X.A.units < cLine) (hN : X.N.Nodup) (hi' : X.N[i]? = some y) (hx : Loc X.env.scope y) (L : qf3 X scope N ix) (hc : X.calm = true) (hi : PI X tg iter wi) (hg : ∀ C s0 H0 fp, PG (qcd X scope N C s0 H0 fp) tg g)
  (ht : ∀ C s0 H0 fp, PTs (qcd X scope N C s0 H0 fp) ifs tt) (hk : ∀ C s0 H0 fp, PE (qcd X scope N C s0 H0 fp) kx tk) (hv : ∀ C s0 H0 fp, PE (qcd X scope N C s0 H0 fp) vx tv)
  (hsw : swapsWith (.DictComp kx vx [⟨tg, iter, ifs, 0⟩] scope pos) (some (.Name y py)) spos.line X.env = pure true := by rfl) (hs : ∀ x, foldedSetIterable iter X.env x = pure x := by intro _; rfl)
  (hf : X.fn y = true \/ X.env.scope.names.lookup y = some .local := by first | exact .inl rfl | exact .inr rfl | assumption) :
  PS X (.Assign [.Name y py] (.DictComp kx vx [⟨tg, iter, ifs, 0⟩] scope pos) spos) (qve i wi g tt tk tv ix) := by
 intro pins s σ H D I h
 rw [exec_Assign_Name_used _ _ _ _ hsw]
 refine wpAny_bind (wpAny_standAt (wpAny_bind ?_))
 show wpAny _ X.A (do let _ <- comprehension (.DictComp kx vx [⟨tg, iter, ifs, 0⟩] scope pos) scope X.env _ newDict false (eval iter X.env) (some (assign (.Name y py) X.env))) _ _ s
 refine wpAny_bind (thn (wpAny_comprehension_free (use := some (assign (.Name y py) X.env)) (Q := fun _ s' => SP X pins D .next s') rfl hs (L.clos I.ok) L.kind L.locals
  (thn (hi pins s σ H _ I h) fun v s1 h1 => thn h1 fun itv s2 h2 => ?_)) fun _ s' hq => wpAny_pure (wpAny_pure hq))
 obtain ⟨it, fp, tn, J, H2, rfl, I2, T, st2, f2, hW⟩ := h2
 refine qqr (RR := fun acc C => compPost (model X.prog X.w) X.A X.xe (some (assign (.Name y py) X.env)) (fun _ s' => SP X pins D .next s') acc C) L hc hu hg ht hk hv I2 T st2 f2 hW ?_
 intro Da C s' m H' hn ho hC hI fin
 have I' := hI s'.heap (Heap.SameBut.refl _ _)
 show wpAny _ X.A (assign (.Name y py) X.env (.ref Da)) _ _ s'
 refine wpAny_assign_Name (qfh (v := .ref Da) I' hN hi' hx rfl (fun s'' I'' ch => ?_) hf)
 obtain ⟨a, hsa, hwa⟩ := ch
 obtain ⟨c1, c2, c3, c4, c5, c6⟩ := hC
 have hCa : C ≠ a := by
  rcases hwa with z | z
  ·rw [z]; exact c2
  ·exact fun w => c5 y a z w.symm
 refine ⟨m, hn.sameBut hsa hCa, fun h' hs' => ⟨_, _, I''.turned (t' := s''.toks) (it := C) (fun b o hb e => hs'.extBut b o hb e) c1 c2 c4 c5 c6, fin⟩⟩
end
inductive qmx (A : Around) (s : Shared) : List (Value × Value) -> List (Bool × Bool) -> Prop
 | nil : qmx A s [] []
 | cons {v u : Value} {e b : Bool} {r : List (Value × Value)} {cs : List (Bool × Bool)} : SeqAt.EqAt A s v u e ->
   (e = false -> ∀ (prog : Program) (w : World) (E : Value -> Shared -> Prop) (Q : Value -> Shared -> Prop), Q (.bool b) s -> wpAny (model prog w) A (richCompare .Lt v u) Q E s) -> qmx A s r cs -> qmx A s ((v, u) :: r) ((e, b) :: cs)
section
open PySem.SeqAt
open PySem.AutoSeq1 (wpAny_loadPart')
open PySem.MeetsSeq PySem.MeetsSeq2 PySem.MeetsSeq3
end
section
variable {prog : Program} {w : World} {A : Around} {E : Value -> Shared -> Prop} {s : Shared}
end
theorem qxn {l I : Nat} (h : l < I) (q : I + 1 = l) : False := by omega
section
variable {prog : Program} {w : World} {A : Around} {R : Result -> Shared -> Prop} {I : Addr} {fp wr : List Addr} {n : Nat} {P : Nat -> Value -> Prop} {St : Nat -> Heap -> Prop}
noncomputable def quj (prog : Program) (w : World) (A : Around) (s0 : Shared) (P : Nat -> Value -> Prop) (St : Nat -> Heap -> Prop) (bt : Nat -> Nat -> Bool) : Prop :=
 ∀ i j k x y (G : Heap) (tk : Nat) (Q : Value -> Shared -> Prop) (E : Value -> Shared -> Prop), St k G -> P i x -> P j y -> Q (.bool (bt i j)) { s0 with heap := G, toks := tk } -> wpAny (model prog w) A (richCompare .Lt x y) Q E { s0 with heap := G, toks := tk }
theorem qoi (W : Walks prog w A.in1 I fp wr n P St) (bt : Nat -> Nat -> Bool) {s0 : Shared} (cmp : quj prog w A.in1 s0 P St bt) (S : Addr) (nS : S ∉ fp) :
  ∀ (k j : Nat) (G0 : Heap) (k0 : Nat) (y : Value) (c : Nat), n - (j + 1) = k -> j + 1 <= n -> St (j + 1) G0 -> P (argBest bt j) y ->
  G0.get? S = some { cls := .type "list", dict := none, data := .seq #[y, y] c, slots := #[] } ->
  (∀ v G tk, P (argBest bt (n - 1)) v -> (∀ b o, b ∉ wr -> b ≠ S -> G0.get? b = some o -> G.get? b = some o) -> R (.ok (.ret v)) { s0 with heap := G, toks := tk }) ->
  codeAny (model prog w) A (.builtin "min.loop" ⟨[.ref I, .none, .ref S], []⟩) R { s0 with heap := G0, toks := k0 } := by
 have nw : S ∉ wr := fun q => nS (W.sub _ q)
 have nm : (toString "min" ++ toString ".loop" : String) = "min.loop" := by decide
 intro k
 induction k with
 | zero =>
  intro j G0 k0 y c hk hj st py hS hR
  have ej : j + 1 = n := by omega
  refine codeAny_builtin F.entry_min_loop ?_
  rw [Around.under_plainId F.plain_min_loop _]
  refine (show wpAny _ A.in1 (seqItems? (.ref S) >>= _) _ _ { s0 with heap := G0, toks := k0 } from wpAny_bind (wpAny_seqItems hS rfl ?_))
  refine (show wpAny _ A.in1 (tryCatch (pyNext (.ref I)) _ >>= _) _ _ { s0 with heap := G0, toks := k0 } from wpAny_bind (wpAny_tryCatch (W.done { s0 with heap := G0, toks := k0 } _ _ (ej ▸ st) fun G tk kp => ?_)))
  have hS2 := kp S _ nw hS
  refine (show wpAny _ A.in1 (updateSeq S (fun _ => #[]) >>= _) _ _ _ from wpAny_bind (wpAny_updateSeq hS2 rfl (wpAny_bind (wpAny_letGo (wpAny_pure ?_)))))
  exact hR y _ tk (by rw [<- ej]; exact py) fun b o h1 h2 e => (Heap.get?_update_other _ _ (Ne.symm h2)).trans (kp b o h1 e)
 | succ k ih =>
  intro j G0 k0 y c hk hj st py hS hR
  have lt : j + 1 < n := by omega
  refine codeAny_builtin F.entry_min_loop ?_
  rw [Around.under_plainId F.plain_min_loop _]
  refine (show wpAny _ A.in1 (seqItems? (.ref S) >>= _) _ _ { s0 with heap := G0, toks := k0 } from wpAny_bind (wpAny_seqItems hS rfl ?_))
  refine (show wpAny _ A.in1 (tryCatch (pyNext (.ref I)) _ >>= _) _ _ { s0 with heap := G0, toks := k0 } from wpAny_bind (wpAny_tryCatch (W.item (j + 1) { s0 with heap := G0, toks := k0 } _ _ lt st fun x G tk px st2 kp => ?_)))
  have hS2 := kp S _ nw hS
  refine (show wpAny _ A.in1 (tryCatch (holding [x, x] (richCompare .Lt x y >>= _)) _ >>= _) _ _ _ from wpAny_bind (wpAny_tryCatch (wpAny_holding (wpAny_bind (cmp (j + 1) (argBest bt j) _ x y G tk _ _ st2 px py ?_)))))
  refine wpAny_bind (wpAny_holding (wpAny_truthy_bool (wpAny_bind (wpAny_letGo (wpAny_pure ?_)))))
  cases hb : bt (j + 1) (argBest bt j) with
  | true =>
   simp only [if_true]
   refine wpAny_bind (wpAny_updateSeq hS2 rfl (wpAny_bind (wpAny_letGo ?_)))
   rw [nm]
   refine wpAny_pure ⟨plainId_quiet F.plain_min_loop _, ih (j + 1) _ _ x _ (by omega) lt (W.frame _ _ _ st2 fun b hf o e => (Heap.get?_update_other _ _ (fun q : S = b => nS (by rw [q]; exact hf))).trans e) (by simp only [argBest, hb, if_true]; exact px) (Heap.get?_update_self _ hS2 rfl) fun v G2 tk2 pv kp2 => ?_⟩
   exact hR v G2 tk2 pv fun b o h1 h2 e => kp2 b o h1 h2 ((Heap.get?_update_other _ _ (Ne.symm h2)).trans (kp b o h1 e))
  | false =>
   simp only [Bool.false_eq_true, if_false]
   refine wpAny_bind (wpAny_letGo ?_)
   rw [nm]
   exact wpAny_pure ⟨plainId_quiet F.plain_min_loop _, ih (j + 1) _ _ y c (by omega) lt st2 (by simp only [argBest, hb, Bool.false_eq_true, if_false]; exact py) hS2 fun v G2 tk2 pv kp2 => hR v G2 tk2 pv fun b o h1 h2 e => kp2 b o h1 h2 (kp b o h1 e)⟩
theorem qnh (W : Walks prog w A.in1 I fp wr n P St) (bt : Nat -> Nat -> Bool) {s0 : Shared} (cmp : quj prog w A.in1 s0 P St bt) (S : Addr) (nS : S ∉ fp) (hn : 0 < n) {G0 : Heap} {k0 : Nat} {c : Nat} (st : St 0 G0)
  (hS : G0.get? S = some { cls := .type "list", dict := none, data := .seq #[] c, slots := #[] })
  (hR : ∀ v G tk, P (argBest bt (n - 1)) v -> (∀ b o, b ∉ wr -> b ≠ S -> G0.get? b = some o -> G.get? b = some o) -> R (.ok (.ret v)) { s0 with heap := G, toks := tk }) :
  codeAny (model prog w) A (.builtin "min.loop" ⟨[.ref I, .none, .ref S], []⟩) R { s0 with heap := G0, toks := k0 } := by
 have nw : S ∉ wr := fun q => nS (W.sub _ q)
 have nm : (toString "min" ++ toString ".loop" : String) = "min.loop" := by decide
 refine codeAny_builtin F.entry_min_loop ?_
 rw [Around.under_plainId F.plain_min_loop _]
 refine (show wpAny _ A.in1 (seqItems? (.ref S) >>= _) _ _ { s0 with heap := G0, toks := k0 } from wpAny_bind (wpAny_seqItems hS rfl ?_))
 refine (show wpAny _ A.in1 (tryCatch (pyNext (.ref I)) _ >>= _) _ _ { s0 with heap := G0, toks := k0 } from wpAny_bind (wpAny_tryCatch (W.item 0 { s0 with heap := G0, toks := k0 } _ _ hn st fun x G tk px st2 kp => ?_)))
 have hS2 := kp S _ nw hS
 refine (show wpAny _ A.in1 (updateSeq S (fun _ => #[x, x]) >>= _) _ _ _ from wpAny_bind (wpAny_updateSeq hS2 rfl ?_))
 rw [nm]
 refine wpAny_pure ⟨plainId_quiet F.plain_min_loop _, qoi W bt cmp S nS _ 0 _ _ x _ rfl hn (W.frame _ _ _ st2 fun b hf o e => (Heap.get?_update_other _ _ (fun q : S = b => nS (by rw [q]; exact hf))).trans e) px (Heap.get?_update_self _ hS2 rfl) fun v G2 tk2 pv kp2 => ?_⟩
 exact hR v G2 tk2 pv fun b o h1 h2 e => kp2 b o h1 h2 ((Heap.get?_update_other _ _ (Ne.symm h2)).trans (kp b o h1 e))
end
section
variable {prog : Program} {w : World} {A : Around} {E : Value -> Shared -> Prop} {s : Shared}
theorem qiz {l : Addr} {its : Array Value} {Q : Value -> Shared -> Prop} (bt : Nat -> Nat -> Bool) (hh : A.handled = none) (hl : s.heap.IsList l its) (hn : 0 < its.size)
  (cmp : ∀ i j x y (G : Heap) (tk : Nat) (Q : Value -> Shared -> Prop) (E : Value -> Shared -> Prop), (∀ b o, s.heap.get? b = some o -> G.get? b = some o) -> its[i]? = some x -> its[j]? = some y -> Q (.bool (bt i j)) { s with heap := G, toks := tk } -> wpAny (model prog w) A.in1 (richCompare .Lt x y) Q E { s with heap := G, toks := tk })
  (h : ∀ v G tk, its[argBest bt (its.size - 1)]? = some v -> (∀ b o, s.heap.get? b = some o -> G.get? b = some o) -> Q v { s with heap := G, toks := tk }) : wpAny (model prog w) A (call (.builtin "min") [.ref l]) Q E s := by
 have nm : (toString "min" ++ toString ".loop" : String) = "min.loop" := by decide
 have hll : l < s.heap.objs.size := by obtain ⟨_, e, _⟩ := hl; exact Heap.lt_size e
 refine call_function_tree F.kind_min F.plain_min F.entry_min (F.args_min1 _) ?_
 refine (show wpAny _ A.in1 (Builtin.Builtins.bindParams "min" ["key", "default"] 0 ⟨[], []⟩ >>= _) _ _ s from wpAny_bind (wpAny_of_eq (show Builtin.Builtins.bindParams "min" ["key", "default"] 0 ⟨[], []⟩ = pure [none, none] from rfl) (wpAny_bind (wpAny_pure (wpAny_bind (wpAny_pyIter_list hl (wpAny_bind (wpAny_newObj_type ?_))))))))
 generalize hG : s.heap.push { cls := .type "list_iterator", data := .fields #[.ref l, .int 0 0] } = G
 generalize hI : s.heap.objs.size = I at *
 have nl : l ≠ I := Nat.ne_of_lt hll
 have gs : G.objs.size = I + 1 := by rw [<- hG, Heap.size_push, hI]
 have W0 := Walks.list (prog := prog) (w := w) (A := A.in1) hh I l nl its
 have W : Walks prog w A.in1 I ([I, l] ++ List.range I) [I] its.size (fun i v => its[i]? = some v) (fun i h => (h.IsListIter I l i /\ h.IsList l its) /\ ∀ b o, s.heap.get? b = some o -> h.get? b = some o) := {
  sub := fun b hb => List.mem_append_left _ (W0.sub b hb)
  frame := fun i h h' st k => ⟨W0.frame i h h' st.1 fun b hb o e => k b (List.mem_append_left _ hb) o e, fun b o e => k b (List.mem_append_right _ (List.mem_range.mpr (by have := Heap.lt_size e; rw [hI] at this; exact this))) o (st.2 b o e)⟩
  item := fun i t Q E hi st hQ => W0.item i t Q E hi st.1 fun v G' tk pv st' k => hQ v G' tk pv ⟨st', fun b o e => k b o (fun z => by
   have z' : b = I := by simpa using z
   have := Heap.lt_size e
   rw [hI, z'] at this
   exact absurd this (Nat.lt_irrefl _)) (st.2 b o e)⟩ k
  done := fun t Q E st hQ => W0.done t Q E st.1 hQ
  self := fun i t Q E st hQ => W0.self i t Q E st.1 hQ }
 have nS : G.objs.size ∉ [I, l] ++ List.range I := fun z => by
  rw [gs] at z
  rcases List.mem_append.mp z with q | q
  ·simp only [List.mem_cons, List.not_mem_nil, or_false] at q
   rcases q with q | q
   ·exact absurd q (Nat.succ_ne_self I)
   ·exact (qxn hll q).elim
  ·exact absurd (List.mem_range.mp q) (Nat.not_lt_of_lt (Nat.lt_succ_self I))
 have kp : ∀ b o, s.heap.get? b = some o -> G.get? b = some o := fun b o e => by rw [<- hG]; exact Heap.get?_push_of_some _ e
 have st0 : G.IsListIter I l 0 /\ G.IsList l its := ⟨⟨_, by rw [<- hG, <- hI]; exact Heap.get?_push_size _ rfl, rfl, rfl⟩, by rw [<- hG]; exact hl.push _⟩
 rw [nm]
 refine wpAny_pure ⟨plainId_quiet F.plain_min_loop _, qnh (s0 := s) W bt (fun i j k x y G' tk Q E st px py hq => cmp i j x y G' tk Q E st.2 px py hq) G.objs.size nS hn (W.frame 0 G _ ⟨st0, kp⟩ fun b _ o e => Heap.get?_push_of_some _ e) (Heap.get?_push_size _ rfl) fun v G' tk pv k => ?_⟩
 exact h v G' tk pv fun b o e => k b o (fun z => by
  have z' : b = I := by simpa using z
  have := Heap.lt_size e
  rw [hI, z'] at this
  exact absurd this (Nat.lt_irrefl _)) (fun z => by
  have := Heap.lt_size (kp b o e)
  rw [z] at this
  exact absurd this (Nat.lt_irrefl _)) (Heap.get?_push_of_some _ (kp b o e))
end
section
variable {X : Cx}
end
section
variable {prog : Program} {w : World} {A : Around} {E : Value -> Shared -> Prop} {s : Shared}
theorem qsm {c t : Addr} {i : Nat} {its : Array Value} {v : Value} {Q : Value -> Shared -> Prop} (hi : s.heap.IsTupleIter c t i) (ht : s.heap.IsTuple t its) (hv : its[i]? = some v)
  (k : ∀ G, G.IsTupleIter c t (i + 1) -> Heap.SameBut c s.heap G -> Q v { s with heap := G }) : wpAny (model prog w) A (Builtin.SmallTypes.nextOf (.ref c)) Q E s := by
 obtain ⟨o, e, cl, d⟩ := id hi
 obtain ⟨o2, e2, _, n2, d2⟩ := ht
 unfold Builtin.SmallTypes.nextOf
 refine wpAny_bind (wpAny_callSpecial?_slot (name := Str.ofString "__next__") hi.typeIs F.slot_tuple_iterator_next (wpAny_call_entry F.slot_tuple_iterator_next hi.typeIs F.entry_tuple_iterator_next ?_ (F.args_tuple_iterator_next_1 _)))
 refine (show wpAny _ _ (field (.ref c) 0 >>= _) _ _ s from wpAny_bind (wpAny_field e d (x := .ref t) rfl ?_))
 refine (show wpAny _ _ (if (Value.ref t == Value.none) = true then _ else _) _ _ s from ?_); rw [if_neg (show ¬ ((Value.ref t == Value.none) = true) from Bool.false_ne_true)]
 refine (show wpAny _ _ (field (.ref c) 1 >>= _) _ _ s from wpAny_bind (wpAny_field e d (x := .int i 0) rfl ?_))
 refine (show wpAny _ _ (seqItems? (.ref t) >>= _) _ _ s from wpAny_bind (wpAny_seqItems e2 d2 ?_)); simp only [Int.toNat_natCast, hv]
 refine wpAny_bind (wpAny_setField e d (by simp) (wpAny_pure ⟨v, rfl, wpAny_pure (k _ ⟨_, Heap.get?_update_self _ e (Obj.isFreed_of_fields (Obj.data_mapFields d _)), (Obj.cls_mapFields ..).trans cl, by rw [Obj.data_mapFields d]; simp [rawInt]⟩ (Heap.SameBut.update ..))⟩))
theorem qth {c t : Addr} {i : Nat} {its : Array Value} {Q : Value -> Shared -> Prop} (hh : A.handled = none) (hi : s.heap.IsTupleIter c t i) (ht : s.heap.IsTuple t its) (hv : its[i]? = none)
  (k : ∀ G x, Heap.ExtBut c s.heap G -> (∃ o, G.get? x = some o /\ o.cls = .type "StopIteration") -> E (.ref x) { s with heap := G }) : wpAny (model prog w) A (Builtin.SmallTypes.nextOf (.ref c)) Q E s := by
 obtain ⟨o, e, cl, d⟩ := id hi
 obtain ⟨o2, e2, _, n2, d2⟩ := ht
 unfold Builtin.SmallTypes.nextOf
 refine wpAny_bind (wpAny_callSpecial?_slot (name := Str.ofString "__next__") hi.typeIs F.slot_tuple_iterator_next (wpAny_call_entry F.slot_tuple_iterator_next hi.typeIs F.entry_tuple_iterator_next ?_ (F.args_tuple_iterator_next_1 _)))
 refine (show wpAny _ _ (field (.ref c) 0 >>= _) _ _ s from wpAny_bind (wpAny_field e d (x := .ref t) rfl ?_))
 refine (show wpAny _ _ (if (Value.ref t == Value.none) = true then _ else _) _ _ s from ?_); rw [if_neg (show ¬ ((Value.ref t == Value.none) = true) from Bool.false_ne_true)]
 refine (show wpAny _ _ (field (.ref c) 1 >>= _) _ _ s from wpAny_bind (wpAny_field e d (x := .int i 0) rfl ?_))
 refine (show wpAny _ _ (seqItems? (.ref t) >>= _) _ _ s from wpAny_bind (wpAny_seqItems e2 d2 ?_)); simp only [Int.toNat_natCast, hv]
 refine wpAny_bind (wpAny_rule (wpAny_bind (wpAny_setField e d (by simp) (show wpAny _ _ (newExc (.type "StopIteration") [] >>= _) _ _ _ from wpAny_bind ?_)))); simp only [newExc, newTuple]
 refine wpAny_bind (wpAny_newObj_type (wpAny_bind (m := firstArgMember _ _) (wpAny_of_eq (a := Value.none) (by first | rfl | (simp only [firstArgMember]; rfl)) (wpAny_newObj_type ?_ (by size_fits)))) (by size_fits)); simp only [raiseNew]
 refine wpAny_bind (wpAny_handled ?_); (first | rw [show A.in1.handled = none from hh] | rw [hh])
 exact wpAny_bind (wpAny_pure (wpAny_throw (k _ _ (((Heap.SameBut.update ..).extBut.push _).push _) ⟨_, Heap.get?_push_size _ rfl, rfl⟩)))
end
section
variable {prog : Program} {w : World} {A : Around} {E : Value -> Shared -> Prop} {s : Shared}
end
section
variable {X : Cx}
end
section
variable {prog : Program} {w : World} {A : Around} {E : Value -> Shared -> Prop} {s : Shared}
theorem qsu {c d : Addr} {i ep : Nat} {o : Obj} {es : Array DictEntry} {Q : Option Value -> Shared -> Prop} (hi : s.heap.IsKeyIter c d i es.size ep) (ho : s.heap.get? d = some o) (hd : o.data = .dict es ep) (lt : i < es.size)
  (q : ∀ G, G.IsKeyIter c d (i + 1) es.size ep -> Heap.SameBut c s.heap G -> Q (some es[i].key) { s with heap := G }) : wpAny (model prog w) A (pyNext (.ref c)) Q E s := by
 obtain ⟨oc, e, cl, dc⟩ := id hi
 have own : Builtin.Dict_items.ownsTuple "dict_keyiterator" = false := by decide
 unfold pyNext
 refine wpAny_bind (wpAny_attempt (wpAny_callSpecial?_slot (name := Str.ofString "__next__") hi.typeIs F.slot_dict_keyiterator_next (wpAny_call_entry F.slot_dict_keyiterator_next hi.typeIs F.entry_dict_keyiterator_next ?_ (F.args_dict_keyiterator_next_1 _))))
 refine wpAny_bind (wpAny_pure (wpAny_bind (wpAny_bind ?_)))
 (first | refine wpAny_bind (wpAny_typeNameOfWhole_keyiter hi.typeIs (wpAny_pure (wpAny_bind (wpAny_fieldsOf e dc ?_)))) | refine wpAny_bind (wpAny_typeNameOf_keyiter hi.typeIs (wpAny_pure (wpAny_bind (wpAny_fieldsOf e dc ?_))))); simp only [own, Bool.false_eq_true, if_false]
 refine (show wpAny _ _ (if (Value.ref d == Value.none) = true then _ else _) _ _ s from ?_); rw [if_neg (show ¬ ((Value.ref d == Value.none) = true) from Bool.false_ne_true)]
 refine wpAny_bind (wpAny_pure (wpAny_bind (wpAny_dictEntries ho hd ?_))); rw [if_neg (by simp)]
 refine wpAny_bind (wpAny_pure (wpAny_bind (wpAny_dictEpoch ho hd ?_))); rw [if_neg (by simp)]
 refine wpAny_pure ?_; simp only [show ¬ ((i : Int) < 0) from by omega, if_false, Int.toNat_natCast, Array.getElem?_eq_getElem lt]
 refine wpAny_bind ?_; (first | refine wpAny_bind (wpAny_typeNameOfWhole_keyiter hi.typeIs (wpAny_pure (wpAny_bind (wpAny_isOneOf_keyiter hi.typeIs ?_)))) | refine wpAny_bind (wpAny_typeNameOf_keyiter hi.typeIs (wpAny_pure (wpAny_bind (wpAny_isOneOf_keyiter hi.typeIs ?_)))))
 refine (show wpAny _ _ (setField (.ref c) 1 (rawInt ((i : Int) + 1)) >>= _) _ _ s from wpAny_bind (wpAny_setField e dc (by simp) ?_))
 have hi2 : (s.heap.update c (Obj.mapFields (·.setIfInBounds 1 (rawInt ((i : Int) + 1))))).IsKeyIter c d (i + 1) es.size ep := ⟨_, Heap.get?_update_self _ e (Obj.isFreed_of_fields (Obj.data_mapFields dc _)), (Obj.cls_mapFields ..).trans cl, by rw [Obj.data_mapFields dc]; simp [rawInt]⟩
 refine wpAny_bind (wpAny_holding (wpAny_bind (wpAny_isOneOf_keyiter (s := { s with heap := s.heap.update c (Obj.mapFields (·.setIfInBounds 1 (rawInt ((i : Int) + 1)))) }) hi2.typeIs ?_)))
 exact (show wpAny _ _ (pure es[i].key) _ _ _ from wpAny_pure (wpAny_pure ⟨_, rfl, wpAny_pure (q _ hi2 (Heap.SameBut.update ..))⟩))
theorem quw {c d : Addr} {i ep : Nat} {o : Obj} {es : Array DictEntry} {Q : Option Value -> Shared -> Prop} (hh : A.handled = none) (hi : s.heap.IsKeyIter c d i es.size ep) (ho : s.heap.get? d = some o) (hd : o.data = .dict es ep) (ge : es.size <= i)
  (q : ∀ G, Heap.ExtBut c s.heap G -> Q none { s with heap := G }) : wpAny (model prog w) A (pyNext (.ref c)) Q E s := by
 obtain ⟨oc, e, cl, dc⟩ := id hi
 have own : Builtin.Dict_items.ownsTuple "dict_keyiterator" = false := by decide
 unfold pyNext
 refine wpAny_bind (wpAny_attempt (wpAny_callSpecial?_slot (name := Str.ofString "__next__") hi.typeIs F.slot_dict_keyiterator_next (wpAny_call_entry F.slot_dict_keyiterator_next hi.typeIs F.entry_dict_keyiterator_next ?_ (F.args_dict_keyiterator_next_1 _))))
 refine wpAny_bind (wpAny_pure (wpAny_bind (wpAny_bind ?_)))
 (first | refine wpAny_bind (wpAny_typeNameOfWhole_keyiter hi.typeIs (wpAny_pure (wpAny_bind (wpAny_fieldsOf e dc ?_)))) | refine wpAny_bind (wpAny_typeNameOf_keyiter hi.typeIs (wpAny_pure (wpAny_bind (wpAny_fieldsOf e dc ?_))))); simp only [own, Bool.false_eq_true, if_false]
 refine (show wpAny _ _ (if (Value.ref d == Value.none) = true then _ else _) _ _ s from ?_); rw [if_neg (show ¬ ((Value.ref d == Value.none) = true) from Bool.false_ne_true)]
 refine wpAny_bind (wpAny_pure (wpAny_bind (wpAny_dictEntries ho hd ?_))); rw [if_neg (by simp)]
 refine wpAny_bind (wpAny_pure (wpAny_bind (wpAny_dictEpoch ho hd ?_))); rw [if_neg (by simp)]
 refine wpAny_pure ?_; simp only [show ¬ ((i : Int) < 0) from by omega, if_false, Int.toNat_natCast, Array.getElem?_eq_none ge]
 refine wpAny_bind ?_; (first | refine wpAny_bind (wpAny_typeNameOfWhole_keyiter hi.typeIs (wpAny_pure ?_)) | refine wpAny_bind (wpAny_typeNameOf_keyiter hi.typeIs (wpAny_pure ?_)))
 refine (show wpAny _ _ (setField (.ref c) 0 .none >>= _) _ _ s from wpAny_bind (wpAny_setField e dc (by simp) (show wpAny _ _ (newExc (.type "StopIteration") [] >>= _) _ _ _ from wpAny_bind ?_))); simp only [newExc, newTuple]
 refine wpAny_bind (wpAny_newObj_type (wpAny_bind (m := firstArgMember _ _) (wpAny_of_eq (a := Value.none) (by first | rfl | (simp only [firstArgMember]; rfl)) (wpAny_newObj_type ?_ (by size_fits)))) (by size_fits)); simp only [raiseNew]
 refine wpAny_bind (wpAny_handled ?_); rw [show A.in1.handled = none from hh]
 refine wpAny_bind (wpAny_pure (wpAny_throw ?_)); refine wpAny_bind (wpAny_isInstance (T := "StopIteration") (b := true) ⟨_, Heap.get?_push_size _ rfl, rfl⟩ isSubtype_stop (wpAny_pure (q _ (((Heap.SameBut.update ..).extBut.push _).push _))))
theorem qr2 {d : Addr} {ep : Nat} {o : Obj} {es : Array DictEntry} {Q : Value -> Shared -> Prop} (nd : (d == sysModules) = false) (ho : s.heap.get? d = some o) (ex : o.ExactDict) (hd : o.data = .dict es ep)
  (q : Q (.ref s.heap.objs.size) { s with heap := s.heap.push { cls := .type "dict_keyiterator", data := .fields #[.ref d, .int 0 0, .int es.size 0, .int ep 0] } }) : wpAny (model prog w) A (pyIter (.ref d)) Q E s := by
 have ty : s.TypeIs (.ref d) "dict" := ⟨o, ho, ex.1⟩
 refine wpAny_pyIter_slot ty F.slot_dict_iter (wpAny_call_entry F.slot_dict_iter ty F.entry_dict_iter ?_ (F.args_dict_iter_1 _))
 unfold Builtin.«dict.__iter__»; refine wpAny_bind ?_; unfold Builtin.Dict.dictSlotNone
 refine wpAny_bind (wpAny_notOrdered_dict ty (show wpAny _ _ (pure (Value.ref d)) _ _ s from wpAny_pure (show wpAny _ _ (Builtin.Dict.showsAll d >>= _) _ _ s from ?_))); unfold Builtin.Dict.showsAll; rw [if_neg (by rw [nd]; exact Bool.false_ne_true)]
 refine wpAny_bind (wpAny_pure (wpAny_bind (wpAny_dictEntries ho hd (wpAny_bind (wpAny_dictEpoch ho hd (wpAny_bind (wpAny_newObj_type (wpAny_pure ⟨_, rfl, "dict_keyiterator", _, ⟨_, Heap.get?_push_size _ rfl, rfl⟩, F.slot_dict_keyiterator_next.lookup, ?_⟩))))))))
 simpa [rawInt] using q
end
theorem Inv.freeze {X : Cx} {pins : List (Addr × Obj)} {σ : St} {H : Hp} {s : Shared} {a : Addr} {o : Obj} {kvs : List (List Key × V)} (I : Inv X pins σ H s) (e : H a = some (.dT kvs)) (ho : s.heap.get? a = some o) : Inv X pins σ (upd H a (.frz o (.dT kvs))) s := by
 have ne : ∀ b u, H b = some u -> (∀ k, u ≠ .dT k) -> b ≠ a := fun b u q n z => by
  rw [z, e] at q
  cases q
  exact n _ rfl
 have st : ∀ {b : Addr} {u : HO}, qa1 X.prog X.w H s.heap b u -> qa1 X.prog X.w (upd H a (.frz o (.dT kvs))) s.heap b u := fun x => x.stay (fun _ _ _ q => q) (fun b q => by rw [qag (ne b _ q (by intro k z; cases z))]; exact q) fun b xs q => by rw [qag (ne b _ q (by intro k z; cases z))]; exact q
 refine I.step (h' := s.heap) (g' := s.gens) (t' := s.toks) (d' := s.drawn) (ch := []) (fun _ z => nomatch z) (fun b o _ _ _ q _ => q) (fun b o _ _ _ q _ => ⟨o.slots, q⟩) (fun b o' _ q n => ?_) (fun b o _ q => ⟨o, q⟩) (fun b xs q => ?_) (fun b o u q => ?_) (fun b ps q => ?_) (fun m h => h) (fun b u q => ?_) I.bare
 ·rw [qag (fun z => by rw [z, e] at n; cases n)]; exact n
 ·rw [qag (ne b _ q (by intro k z; cases z))]; exact q
 ·rw [qag (ne b _ q (by intro k z; cases z))]; exact q
 ·exact ⟨#[], by rw [qag (ne b _ q (by intro k z; cases z)), q]; simp⟩
 ·by_cases hb : b = a
  ·subst hb
   rw [qab] at q
   cases q
   exact ⟨ho, st (I.hok b _ e)⟩
  ·rw [qag hb] at q
   exact st (I.hok b u q)
noncomputable def Itd (a : Addr) (o : Obj) : It :=
 ⟨fun i H => ∃ kvs, H a = some (.frz o (.dT kvs)) /\ i < kvs.length,
  fun i H v H' => H' = H /\ ∀ kvs, H a = some (.frz o (.dT kvs)) -> ∃ p b, kvs[i]? = some p /\ v = .ref b /\ H b = some (.tup (p.1.map kV)),
  fun i H => ∃ kvs, H a = some (.frz o (.dT kvs)) /\ kvs.length <= i⟩
theorem Paired.at {α β : Type} {F : α -> β -> Prop} : ∀ {l : List α} {m : List β}, Paired F l m -> ∀ {i : Nat} {x : α}, l[i]? = some x -> ∃ y, m[i]? = some y /\ F x y
 | _, _, .cons r t, 0, x, h => by simp at h; subst h; exact ⟨_, rfl, r⟩
 | _, _, .cons r t, i + 1, x, h => by simpa using Paired.at t (by simpa using h)
theorem qof {P : Program} {w : World} {K : PySem.W.Frag} {tg : Expr} (a it : Addr) (o : Obj) (es : Array DictEntry) (ep : Nat) (hd : o.data = .dict es ep) : Turn P w K tg (Itd a o) [it] it (fun i h => h.IsKeyIter it a i es.size ep) where
 mem := by simp
 obj := fun i h st b hb => by
  have e : b = it := by simpa using hb
  subst e
  obtain ⟨o, e, c, d⟩ := st
  exact ⟨o, e, fun v z => by rw [d] at z; cases z⟩
 keep := fun i h h' st k => st.at fun o e => k it (by simp) o e
 item := by
  intro X hP hw hK hc i pins s σ H E I hf st hg
  subst hP hw hK
  obtain ⟨kvs, ha, lt⟩ := hg
  obtain ⟨ho, _, _, xs, rel, o2, es2, ep2, h1, _, h2, h3, _⟩ := (show qa1 X.prog X.w H s.heap a (.frz o (.dT kvs)) from I.hok a _ ha)
  rw [ho] at h1
  cases h1
  rw [hd] at h2
  cases h2
  have hl := Paired.length rel
  have hes : es.size = xs.length := size_of_entries h3
  have lt2 : i < es.size := by omega
  obtain ⟨p, hp⟩ : ∃ p, kvs[i]? = some p := ⟨_, List.getElem?_eq_getElem lt⟩
  obtain ⟨y, hy, r1, r2, r3⟩ := Paired.at rel hp
  have ek : es[i].key = .ref y.2.1 := by
   have q := entry_at h3 i
   rw [hy, Array.getElem?_eq_getElem lt2] at q
   simp only [Option.map_some, Option.some.injEq] at q
   rw [q]; rfl
  obtain ⟨f0, f1, f2, f3, f4, f5⟩ := hf it (by simp)
  refine qsu st ho hd lt2 fun h' st' sb => ?_
  rw [ek]
  have I1 : Inv X pins σ H { s with heap := h' } := I.turned (t' := s.toks) (fun b o hb e => (sb.2 b hb).trans e) f0 f1 f3 f4 f5
  obtain ⟨o', e, c, d⟩ := id st'
  exact ⟨_, rfl, qoo (s := { s with heap := h' }) e c d (by decide) ⟨.ref y.2.1, H, I1, rfl, ⟨rfl, fun kvs' ha' => by rw [ha] at ha'; cases ha'; exact ⟨p, _, hp, rfl, r2⟩⟩, st', fun b hb => (hf b hb).1⟩⟩
 done := by
  intro X hP hw hK hc i pins s σ H E I hf st hg
  subst hP hw hK
  obtain ⟨kvs, ha, ge⟩ := hg
  obtain ⟨ho, _, _, xs, rel, o2, es2, ep2, h1, _, h2, h3, _⟩ := (show qa1 X.prog X.w H s.heap a (.frz o (.dT kvs)) from I.hok a _ ha)
  rw [ho] at h1
  cases h1
  rw [hd] at h2
  cases h2
  have hl := Paired.length rel
  have hes : es.size = xs.length := size_of_entries h3
  obtain ⟨f0, f1, f2, f3, f4, f5⟩ := hf it (by simp)
  exact quw (I.ok.hd hc) st ho hd (by omega) fun h' eb => ⟨rfl, I.turned (t' := s.toks) (fun b o hb e => eb b o hb e) f0 f1 f3 f4 f5⟩
 self := fun _ _ _ _ _ st h => wpAny_pyIter_keyiter st h
section
variable {X : Cx} {tg : Expr}
noncomputable def qwe (tl : TE) : TI := fun σ H R => tl σ H fun x H1 => ∃ a kvs, x = .ref a /\ H1 a = some (.dT kvs) /\ ∀ o, R (Itd a o) (upd H1 a (.frz o (.dT kvs)))
theorem qn2 {l : Expr} {tl : TE} (hl : PE X l tl) : PI X tg l (qwe tl) := by
 intro pins s σ H R I h
 refine thn (hl pins s σ H _ I h) fun v s1 ⟨x, H1, I1, r1, q1⟩ => ?_
 obtain ⟨a, kvs, rfl, ha, q⟩ := q1
 cases r1
 obtain ⟨_, nd, xs, rel, o, es, ep, ho, ex, hd, h3, _⟩ := (show qa1 X.prog X.w H1 s1.heap a (.dT kvs) from I1.hok a _ ha)
 refine qr2 nd ho ex hd ?_
 have I2 := I1.freeze ha ho
 refine ⟨s1.heap.objs.size, [s1.heap.objs.size], _, _, _, rfl, I2.kept (t' := s1.toks) fun b o e => Heap.get?_push_of_some _ e, qof a _ o es ep hd, ⟨_, Heap.get?_push_size _ rfl, rfl, rfl⟩, fun b hb => ?_, q o⟩
 have e : b = s1.heap.objs.size := by simpa using hb
 subst e
 exact I2.fpOk (Nat.le_refl _) (I2.hok.fresh (Nat.le_refl _))
end
section
variable {X : Cx} {scope : Scope} {N : List Str} {ix : List (Option Nat)}
variable {tg iter kx vx : Expr} {ifs : List Expr} {pos : Pos} {g : TG} {tt : TT} {tk tv : TE}
end
structure M1 (X : Cx) (o : Expr) (m : Str) (apos : Pos) (e : Expr) (cpos : Pos) : Prop where
 base : attributeBase o m X.env (eval o X.env) = eval o X.env
 few : ((backTo cpos (starEach [e] X.env)).all (fun x => !x.1) && (backToKw cpos (keywordEach [] X.env)).all (fun x => x.1.isSome)
  && decide (([e] : List Expr).length + ([] : List Keyword).length + (if ([] : List Keyword).isEmpty then 0 else 1) < 30)) = true
 line : (apos.endLine == cpos.line) = true
 trees : backTo cpos (starEach [e] X.env) = [(false, eval e X.env)]
structure M2 (X : Cx) (o : Expr) (m : Str) (apos : Pos) (e f : Expr) (cpos : Pos) : Prop where
 base : attributeBase o m X.env (eval o X.env) = eval o X.env
 few : ((backTo cpos (starEach [e, f] X.env)).all (fun x => !x.1) && (backToKw cpos (keywordEach [] X.env)).all (fun x => x.1.isSome)
  && decide (([e, f] : List Expr).length + ([] : List Keyword).length + (if ([] : List Keyword).isEmpty then 0 else 1) < 30)) = true
 line : (apos.endLine == cpos.line) = true
 trees : backTo cpos (starEach [e, f] X.env) = [(false, eval e X.env), (false, eval f X.env)]
section
variable {X : Cx} {pins : List (Addr × Obj)} {σ : St} {H : Hp} {s : Shared} {a : Addr} {y d : V} {u r : Value} {o : Option V} {A : Around} {E : Value -> Shared -> Prop}
end
section
variable {X : Cx} {o e f : Expr} {apos cpos : Pos} {td ty tx : TE}
end
section
variable {X : Cx} {pins : List (Addr × Obj)} {σ : St} {H : Hp} {s : Shared} {a : Addr} {kvs : List (Key × V)} {A : Around} {E : Value -> Shared -> Prop}
end
section
variable {X : Cx} {pins : List (Addr × Obj)} {σ : St} {H : Hp} {s : Shared} {a : Addr} {y : V} {u : Value} {A : Around} {E : Value -> Shared -> Prop}
end
section
variable {X : Cx}
end
section
variable {κ : Type} [DecidableEq κ]
end
end L2
namespace L2
open PySem PySem.Spec PyProof.Rows PySem.W PySem.Calls
theorem qa1.get {P : Program} {w : World} {H : Hp} {h : Heap} {a : Addr} {o : HO} (x : qa1 P w H h a o) : ∃ ob, h.get? a = some ob := by
 cases o with
 | lst xs => obtain ⟨_, _, _, _, e⟩ := x; exact ⟨_, e⟩
 | tup xs => obtain ⟨_, _, _, ob, e, _⟩ := x; exact ⟨_, e⟩
 | dK kvs => obtain ⟨_, _, _, _, o, _, _, e, _⟩ := x; exact ⟨_, e⟩
 | dT kvs => obtain ⟨_, _, _, _, o, _, _, e, _⟩ := x; exact ⟨_, e⟩
 | set S n => obtain ⟨o, _, _, _, e, _⟩ := x; exact ⟨_, e⟩
 | ins C dx fs => obtain ⟨_, _, _, e, _⟩ := x; exact ⟨_, e⟩
 | own y => obtain ⟨_, e⟩ := x; exact ⟨_, e⟩
 | xd fs => obtain ⟨_, ⟨_, _, _, e, _⟩, _⟩ := x; exact ⟨_, e⟩
 | rng lo hi => obtain ⟨_, _, _, e⟩ := x; exact ⟨_, e⟩
 | frz ob u => obtain ⟨e, _⟩ := x; exact ⟨_, e⟩
 | tbl ps => exact ⟨_, (show h.get? a = some _ from x)⟩
 | met f y => exact ⟨_, (show h.get? a = some _ from x)⟩
 | ext φ => obtain ⟨_, ⟨_, e⟩, _⟩ := x; exact ⟨_, e⟩
theorem HOk.freeN {P : Program} {w : World} {H : Hp} {h : Heap} {a : Addr} (x : HOk P w H h) (e : h.get? a = none) : H a = none := by
 cases q : H a with
 | none => rfl
 | some u => obtain ⟨ob, e'⟩ := (x a u q).get; rw [e] at e'; cases e'
theorem Inv.laidN {X : Cx} {pins : List (Addr × Obj)} {σ : St} {H : Hp} {s : Shared} {h' : Heap} {a : Addr} {o : HO} {t' : Nat} (I : Inv X pins σ H s) (k : ∀ b u, s.heap.get? b = some u -> h'.get? b = some u) (hp : s.heap.get? a = none) (new : qa1 X.prog X.w (upd H a o) h' a o) :
  Inv X pins σ (upd H a o) { s with heap := h', toks := t' } := by
 have hn := I.hok.freeN hp
 refine I.un ⟨fun b ob e _ _ _ => k b ob e, fun b ob e _ _ _ => ⟨ob.slots, k b ob e⟩, fun b ob e n _ => ?_, fun b ob e _ => ⟨ob, k b ob e⟩, fun b xs e => ?_, fun b ob u e => ?_, fun b ps e => ⟨#[], ?_⟩⟩ fun b u e => ?_
 ·rw [qag (fun z => by rw [z, hp] at e; cases e)]; exact n
 ·rw [qag (qaf e hn)]; exact e
 ·rw [qag (qaf e hn)]; exact e
 ·rw [qag (qaf e hn)]; simpa using e
 ·by_cases hb : b = a
  ·subst hb; rw [qab] at e; cases e; exact new
  ·rw [qag hb] at e
   exact (I.hok b u e).stay (fun c v _ q => k c v q) (fun c q => by rw [qag (qaf q hn)]; exact q) fun c xs q => by rw [qag (qaf q hn)]; exact q
section
variable {X : Cx}
end
section
variable {prog : Program} {w : World} {A : Around} {E : Value -> Shared -> Prop} {s : Shared}
end
section
variable {prog : Program} {w : World} {A : Around} {R : Result -> Shared -> Prop} {K : Type} [DecidableEq K] {knd : PySem.KeyKind prog w K}
end
section
variable {X : Cx}
end
end L2
namespace L2
open PySem PySem.Spec PyProof.Rows
theorem qon : bootBuiltins "enumerate" = some (.type "enumerate") := by decide +kernel
section
variable {X : Cx}
end
end L2
namespace L2
open PySem PySem.Spec PyProof.Rows PySem.W PySem.Calls
section
variable {X : Cx}
end
noncomputable def qd9 : Value -> Str
 | .str x _ => x
 | _ => default
structure qau (w : World) (o : Obj) (ss : List Str) (es : Array (Int × Value)) (ep : Nat) (t : SetTable) : Prop where
 cls : o.cls = .type "set"
 dic : o.dict = none
 slo : o.slots = #[]
 dat : o.data = .set es ep t
 els : ∀ e ∈ es.toList, ∃ tk, e.2 = .str (qd9 e.2) tk /\ e.1 = hashStr w (qd9 e.2)
 all : (es.toList.map fun e => qd9 e.2).Perm ss
 one : ss.Nodup
 few : ss.length < 4000
 fit : t.fits es.size = true
 led : t.led = !w.params.followText "set-order"
 pla : es.size = 0 \/ t.plain = false
theorem qau.size {w : World} {o : Obj} {ss : List Str} {es : Array (Int × Value)} {ep : Nat} {t : SetTable} (x : qau w o ss es ep t) : es.size = ss.length := by
 have := x.all.length_eq
 rw [List.length_map, Array.length_toList] at this; exact this
theorem qau.elems {P : Program} {w : World} {o : Obj} {ss : List Str} {es : Array (Int × Value)} {ep : Nat} {t : SetTable} (x : qau w o ss es ep t) : ElemsOf (PySem.strKind P w) es.toList := by
 intro e he
 obtain ⟨tk, h1, h2⟩ := x.els e he
 refine ⟨⟨qd9 e.2, ?_, h2⟩, ?_⟩
 ·have z := PySem.strKind_is P w (qd9 e.2) tk
  rw [<- h1] at z; exact z
 ·rw [h1]; rfl
theorem qg1 (t : SetTable) (n : Nat) : (t.orStandIn n).led = t.led := by
 unfold SetTable.orStandIn; split <;> rfl
theorem qlr (t : SetTable) (es : Array (Int × Value)) (h : Int) (x : Value) : (layNew t es h x).2.1.led = t.led := by
 unfold layNew
 split
 ·exact qg1 _ _
 ·rfl
theorem qhl (t : SetTable) (es : Array (Int × Value)) (n : Nat) : (relayAll t es n).2.1.led = t.led /\ (t.plain = false -> (relayAll t es n).2.1.plain = false) := by
 unfold relayAll
 split
 ·rename_i t' order he
  have hz : t'.led = t.led /\ t'.plain = t.plain := by
   unfold SetTable.relaid SetTable.laid at he
   revert he
   cases SetTable.layClean (SetTable.sizeAbove n - 1) (es.map (·.1)) with
   | none => intro he; cases he
   | some ow => intro he; cases he; exact ⟨rfl, rfl⟩
  dsimp only
  split
  ·exact ⟨hz.1, fun e => hz.2.trans e⟩
  ·exact ⟨rfl, fun _ => rfl⟩
 ·exact ⟨rfl, fun _ => rfl⟩
theorem qh9 {h : Heap} {a : Addr} {o : Obj} {es es' : Array (Int × Value)} {ep : Nat} {t t' : SetTable} (ho : h.get? a = some o) (hd : o.data = .set es ep t) :
  (h.update a (Obj.putSet es' t')).get? a = some { o with data := .set es' (ep + 1) t' } := by
 have q := Heap.get?_update_self (Obj.putSet es' t') ho (by rw [putSet_of es' t' hd]; rfl)
 rw [putSet_of es' t' hd] at q
 exact q
section
variable {prog : Program} {w : World} {A : Around} {E : Value -> Shared -> Prop} {s : Shared}
theorem qo9 {a : Addr} {o : Obj} {ss : List Str} {k : Str} {tk : Tok} {es : Array (Int × Value)} {ep : Nat} {t : SetTable} {R : Option Bool -> Shared -> Prop}
  (ho : s.heap.get? a = some o) (x : qau w o ss es ep t) (hk : k ∉ ss) (few : ss.length + 1 < 4000)
  {L : Array (Int × Value) × SetTable × Bool × Bool} (hL : layNew t es (hashStr w k) (.str k tk) = L)
  (h : ∀ (h' : Heap) (o' : Obj) es' ep' t', Heap.SameBut a s.heap h' -> h'.get? a = some o' -> qau w o' (k :: ss) es' ep' t' -> R (some true) { s with heap := h' }) (g : Bool -> Sem Unit) (hg : ∀ (b : Bool) (s₁ : Shared) (Q' : Unit -> Shared -> Prop), Q' () s₁ -> wpAny (model prog w) A (g b) Q' E s₁) :
  wpAny (model prog w) A (do
   storeSet a L.1 { L.2.1 with plain := false }
   if (!L.2.2.1 && ({ L.2.1 with plain := false } : SetTable).tooFull) = true then do
    g (relayAll { L.2.1 with plain := false } L.1 (SetTable.grown L.1.size)).2.2
    storeSet a (relayAll { L.2.1 with plain := false } L.1 (SetTable.grown L.1.size)).1 (relayAll { L.2.1 with plain := false } L.1 (SetTable.grown L.1.size)).2.1
    pure (some true)
   else pure (some true)) R E s := by
 have pm := layNew_perm t es (hashStr w k) (.str k tk)
 have pf := layNew_fits t es (hashStr w k) (.str k tk)
 have pl := qlr t es (hashStr w k) (.str k tk)
 rw [hL] at pm pf pl
 obtain ⟨e1, t1, b1, b2⟩ := L
 dsimp only at pm pf pl ⊢
 rw [Array.toList_push] at pm
 have hsz := x.size
 have z1 : e1.size = ss.length + 1 := by
  have := pm.length_eq
  rw [List.length_append, Array.length_toList, Array.length_toList] at this
  rw [this, hsz]; rfl
 have mk : ∀ {e2 : Array (Int × Value)} {t2 : SetTable} {o2 : Obj} {ep2 : Nat}, e2.toList.Perm e1.toList -> o2.cls = .type "set" -> o2.dict = none -> o2.slots = #[] -> o2.data = .set e2 ep2 t2 -> t2.fits e2.size = true -> t2.led = t.led -> t2.plain = false -> qau w o2 (k :: ss) e2 ep2 t2 := by
  intro e2 t2 o2 ep2 p1 c1 c2 c3 c4 c5 c6 c7
  have p2 := p1.trans pm
  refine ⟨c1, c2, c3, c4, fun e he => ?_, ?_, ?_, ?_, c5, c6.trans x.led, .inr c7⟩
  ·rcases List.mem_append.mp (p2.mem_iff.mp he) with q | q
   ·exact x.els e q
   ·rw [List.mem_singleton.mp q]; exact ⟨tk, rfl, rfl⟩
  ·refine (p2.map _).trans ?_
   rw [List.map_append]
   exact (List.perm_append_comm).trans (List.Perm.cons k x.all)
  ·exact List.nodup_cons.mpr ⟨hk, x.one⟩
  ·rw [List.length_cons]; exact few
 have fz : ({ t1 with plain := false } : SetTable).fits e1.size = true := SetTable.fits_plain_off pf
 refine wpAny_bind (wpAny_storeSet_of ho x.dat ?_ (by rw [z1, sizeLine_eq]; omega))
 have g1 := qh9 (es' := e1) (t' := { t1 with plain := false }) ho x.dat
 have sb := Heap.SameBut.update s.heap a (Obj.putSet e1 { t1 with plain := false })
 split
 ·have rp := relayAll_perm { t1 with plain := false } e1 (SetTable.grown e1.size)
  have rf := relayAll_fits { t1 with plain := false } e1 (SetTable.grown e1.size)
  have rl := qhl { t1 with plain := false } e1 (SetTable.grown e1.size)
  generalize relayAll { t1 with plain := false } e1 (SetTable.grown e1.size) = R2 at rp rf rl ⊢
  have z2 : R2.1.size = ss.length + 1 := by
   have := rp.length_eq
   rw [Array.length_toList, Array.length_toList] at this
   rw [this, z1]
  refine wpAny_bind (hg _ _ _ ?_)
  refine wpAny_bind (wpAny_storeSet_of g1 rfl ?_ (by rw [z2, sizeLine_eq]; omega))
  have g2 := qh9 (es' := R2.1) (t' := R2.2.1) g1 rfl
  exact wpAny_pure (h _ _ R2.1 _ R2.2.1 (sb.trans (Heap.SameBut.update _ a _)) g2 (mk rp x.cls x.dic x.slo rfl rf (rl.1.trans pl) (rl.2 rfl)))
 ·exact wpAny_pure (h _ _ e1 _ _ sb g1 (mk (List.Perm.refl _) x.cls x.dic x.slo rfl fz pl rfl))
end
noncomputable def qdu : List Str -> List Str
 | [] => []
 | k :: r => if k ∈ qdu r then qdu r else k :: qdu r
theorem qp6 (l : List Str) : (qdu l).length <= l.length := by
 induction l with
 | nil => exact Nat.le_refl _
 | cons a r ih =>
  unfold qdu
  split
  ·rw [List.length_cons]; omega
  ·rw [List.length_cons, List.length_cons]; omega
theorem qii {l : List Str} (h : l.Nodup) : qdu l = l := by
 induction l with
 | nil => rfl
 | cons a r ih =>
  obtain ⟨h1, h2⟩ := List.nodup_cons.mp h
  unfold qdu
  rw [ih h2, if_neg h1]
section
variable {prog : Program} {w : World} {A : Around} {E : Value -> Shared -> Prop} {s : Shared}
theorem qpp {a : Addr} {o : Obj} {l : List Str} {k : Str} {tk : Tok} {es : Array (Int × Value)} {ep : Nat} {t : SetTable} {Q : Bool -> Shared -> Prop}
  (ho : s.heap.get? a = some o) (x : qau w o (qdu l) es ep t) (few : l.length + 1 < 4000)
  (h : ∀ (b : Bool) (h' : Heap) (o' : Obj) es' ep' t', Heap.SameBut a s.heap h' -> h'.get? a = some o' -> qau w o' (qdu (k :: l)) es' ep' t' -> Q b { s with heap := h' }) :
  wpAny (model prog w) A (setAddHashed a (.str k tk) (hashStr w k)) Q E s := by
 have hl := qp6 l
 have hsz := x.size
 have hel := x.elems (P := prog)
 have hkey := PySem.strKind_is prog w k tk
 unfold setAddHashed setAddHashedIn
 refine wpAny_holding (wpAny_bind (wpAny_setState_of ho x.dat x.fit ?_))
 dsimp only
 rw [byScan_of (knd := PySem.strKind prog w) rfl (by rw [hsz]; have : scanBound = 4096 := rfl; omega) hel]
 rw [if_pos rfl]
 unfold setAddByScan
 refine wpAny_bind (wpAny_bind (wpAny_rule ?_))
 refine wpAny_bind (wpAny_setScan_of (knd := PySem.strKind prog w) (k := k) hkey ho x.dat x.fit hel ?_)
 have mem : ∀ e ∈ es.toList, (PySem.strKind prog w).is k e.2 = true ↔ qd9 e.2 = k := by
  intro e he
  obtain ⟨t', h1, _⟩ := x.els e he
  rw [h1]
  show Value.isStrOf k (.str (qd9 e.2) t') = true ↔ qd9 (.str (qd9 e.2) t') = k
  simp [Value.isStrOf, qd9]
 cases hf : List.findIdx? (fun e => (PySem.strKind prog w).is k e.2) es.toList with
 | some j =>
  dsimp only
  obtain ⟨hj, hp, _⟩ := List.findIdx?_eq_some_iff_getElem.mp hf
  have hin : k ∈ qdu l := x.all.mem_iff.mp (List.mem_map.mpr ⟨_, List.getElem_mem hj, (mem _ (List.getElem_mem hj)).mp hp⟩)
  refine wpAny_pure (wpAny_pure ?_)
  have e2 : qdu (k :: l) = qdu l := by show (if k ∈ qdu l then _ else _) = _; rw [if_pos hin]
  exact h false s.heap o es ep t (Heap.SameBut.refl a s.heap) ho (by rw [e2]; exact x)
 | none =>
  dsimp only
  have hin : k ∉ qdu l := by
   intro hk
   obtain ⟨e, he, ee⟩ := List.mem_map.mp (x.all.mem_iff.mpr hk)
   have := List.findIdx?_eq_none_iff.mp hf e he
   rw [(mem e he).mpr ee] at this; cases this
  have e2 : qdu (k :: l) = k :: qdu l := by show (if k ∈ qdu l then _ else _) = _; rw [if_neg hin]
  have fin : ∀ (h' : Heap) (o' : Obj) es' ep' t', Heap.SameBut a s.heap h' -> h'.get? a = some o' -> qau w o' (k :: qdu l) es' ep' t' -> Q true { s with heap := h' } := fun h' o' es' ep' t' c1 c2 c3 => h true h' o' es' ep' t' c1 c2 (by rw [e2]; exact c3)
  have hgw : ∀ (b : Bool) (s₁ : Shared) (Q' : Unit -> Shared -> Prop), Q' () s₁ -> wpAny (model prog w) A (match b with | true => rule "set.scan.the-table-gave-way" | false => pure ()) Q' E s₁ := fun b s₁ Q' q => by
   cases b
   ·exact wpAny_pure q
   ·exact wpAny_rule q
  generalize hL : layNew t es (hashStr w k) (.str k tk) = L
  obtain ⟨e1, t1, b1, b2⟩ := L
  dsimp only
  refine wpAny_bind (hgw _ _ _ ?_)
  have tail := fun (g : Bool -> Sem Unit) hg => qo9 (A := A) (E := E) (prog := prog) (R := fun r s' => wpAny (model prog w) A (match r with | some added => pure added | none => setAddHashedIn a (.str k tk) (hashStr w k) 99999) Q E s') ho x hin (by omega) hL (fun h' o' es' ep' t' c1 c2 c3 => wpAny_pure (fin h' o' es' ep' t' c1 c2 c3)) g hg
  dsimp only at tail
  split
  ·refine wpAny_bind ?_
   rw [hashByValue_scannable 8 rfl]
   refine wpAny_pure ?_
   exact tail _ hgw
  ·rename_i hpl
   refine wpAny_bind (wpAny_pure ?_)
   have hp : t1.plain = false := by cases q : t1.plain with | false => rfl | true => exact absurd q hpl
   have et : t1 = { t1 with plain := false } := by cases t1; cases hp; rfl
   rw [if_pos rfl]
   rw [et]
   exact tail _ hgw
end
section
variable {prog : Program} {w : World} {A : Around} {E : Value -> Shared -> Prop} {s : Shared}
theorem qf0 {I S : Addr} {fp : List Addr} {its : List Value} {ss : List Str} {St : Nat -> Heap -> Prop} {R : Result -> Shared -> Prop} {m : Nat} (hm : m = its.length)
  (W : Walks prog w A.in1 I fp [I] m (fun i v => its[i]? = some v) St) (hS : S ∉ fp) (hv : qba (ss.map V.str) its) (few : ss.length + 1 < 4000) :
  ∀ (k i : Nat) (s : Shared) (o : Obj) (es : Array (Int × Value)) (ep : Nat) (t : SetTable), its.length - i = k -> i <= its.length -> St i s.heap -> s.heap.get? S = some o -> qau w o (qdu (ss.take i).reverse) es ep t ->
   (∀ (h' : Heap) (tk : Nat) (o' : Obj) es' ep' t', (∀ b ob, b ≠ S -> b ≠ I -> s.heap.get? b = some ob -> h'.get? b = some ob) -> h'.get? S = some o' -> qau w o' (qdu ss.reverse) es' ep' t' -> R (.ok (.ret .none)) { s with heap := h', toks := tk }) ->
   codeAny (model prog w) A (.builtin "set.update.loop" ⟨[.ref S, .ref I], []⟩) R s := by
 have hlen : ss.length = its.length := by have := hv.length; rwa [List.length_map] at this
 subst hm
 have hIS : S ≠ I := fun e => hS (by rw [e]; exact W.sub I (List.mem_singleton.mpr rfl))
 intro k
 induction k with
 | zero =>
  intro i s o es ep t hk hi st ho x q
  have e : i = its.length := by omega
  subst e
  refine codeAny_builtin F.entry_set_update_loop ?_
  rw [Around.under_plainId F.plain_set_update_loop _]
  show wpAny _ A.in1 (pyNext (.ref I) >>= _) _ _ s
  refine wpAny_bind (W.done s _ _ st fun h' tk kp => ?_)
  show wpAny _ A.in1 (ret Value.none) _ _ _
  rw [<- hlen, List.take_length] at x
  exact wpAny_pure (q h' tk o es ep t (fun b ob _ hb e => kp b ob (by simpa using hb) e) (kp S o (by simpa using hIS) ho) x)
 | succ k ih =>
  intro i s o es ep t hk hi st ho x q
  have hlt : i < its.length := by omega
  have hls : i < ss.length := by omega
  refine codeAny_builtin F.entry_set_update_loop ?_
  rw [Around.under_plainId F.plain_set_update_loop _]
  show wpAny _ A.in1 (pyNext (.ref I) >>= _) _ _ s
  refine wpAny_bind (W.item i s _ _ hlt st fun v h1 tk1 hP st1 kp => ?_)
  obtain ⟨u, hu, ru⟩ := hv.get (i := i) (x := .str ss[i]) (by rw [List.getElem?_map, List.getElem?_eq_getElem hls]; rfl)
  have ev : v = u := by rw [hP] at hu; cases hu; rfl
  subst ev
  obtain ⟨tv, rfl⟩ := ru
  have ho1 : h1.get? S = some o := kp S o (by simpa using hIS) ho
  show wpAny _ A.in1 (holding [Value.str ss[i] tv] (setAdd S (.str ss[i] tv)) >>= _) _ _ _
  refine wpAny_bind (wpAny_holding ?_)
  unfold setAdd
  refine wpAny_holding ?_
  refine wpAny_bind ((PySem.strKind prog w).pyHash (k := ss[i]) (PySem.strKind_is prog w _ _) ?_)
  have htl : (ss.take i).reverse.length + 1 < 4000 := by rw [List.length_reverse, List.length_take]; omega
  refine qpp (s := { s with heap := h1, toks := tk1 + 1 }) ho1 x htl fun b h2 o2 es2 ep2 t2 sb ho2 x2 => ?_
  have e3 : ss[i] :: (ss.take i).reverse = (ss.take (i + 1)).reverse := by
   rw [List.take_add_one, List.getElem?_eq_getElem hls, List.reverse_append]; rfl
  rw [e3] at x2
  refine wpAny_pure ⟨plainId_quiet F.plain_set_update_loop _, ih (i + 1) _ o2 es2 ep2 t2 (by omega) hlt (W.frame _ h1 _ st1 fun b hb ob e => ?_) ho2 x2 fun h' tk o' es' ep' t' kp' c1 c2 => ?_⟩
  ·rw [sb.2 b (fun z => hS (by rw [<- z]; exact hb))]; exact e
  ·refine q h' tk o' es' ep' t' (fun b ob b1 b2 e => kp' b ob b1 b2 ?_) c1 c2
   show h2.get? b = some ob
   rw [sb.2 b b1]
   exact kp b ob (by simpa using b2) e
theorem qjx (a : Value) {Q₁ : Value -> Shared -> Prop}
  (h : Q₁ (.ref s.heap.objs.size) { s with heap := s.heap.push { cls := .type "set", dict := none, data := .set #[] 0 (.fresh 0 0 (!w.params.followText "set-order")) } }) :
  codeAny (model prog w) A (.call (.builtin "set.__new__") ⟨[.type "set", a], []⟩) (wants Q₁ E) s := by
 refine codeAny_of_tree ?_
 show wpAny _ A.in1 (checkBuiltinCall "set.__new__" ⟨[.type "set", a], []⟩ >>= fun _ => again (.builtin "set.__new__" ⟨[.type "set", a], []⟩)) _ _ s
 refine wpAny_bind (wpAny_of_eq (PySem.F.newCall_set_1 a) (wpAny_pure ⟨plainId_quiet PySem.F.plain_set_new _, codeAny_builtin PySem.F.entry_set_new ?_⟩))
 rw [Around.under_plainId PySem.F.plain_set_new _]
 unfold Builtin.«set.__new__» Builtin.Frozenset.newClass
 have known := sub_set_self
 obtain ⟨h0, g0, d0, tk0, os0⟩ := s
 dsimp only
 wp_walk
 refine wpAny_askSetting (wpAny_pure ?_)
 dsimp only
 simp only [newObj]
 exact wpAny_bind (wpAny_alloc (wpAny_pure (wpAny_pure h)))
theorem qfe (w : World) : qau w { cls := .type "set", dict := none, data := .set #[] 0 (.fresh 0 0 (!w.params.followText "set-order")) } [] #[] 0 (.fresh 0 0 (!w.params.followText "set-order")) :=
 ⟨rfl, rfl, rfl, rfl, fun e he => (by cases he), List.Perm.nil, List.nodup_nil, (by decide), rfl, rfl, .inl rfl⟩
end
end L2
set_option maxHeartbeats 8000000
namespace L2
open PySem PySem.Spec PyProof.Rows PySem.W PySem.Calls
section
variable {prog : Program} {w : World} {A : Around} {E : Value -> Shared -> Prop} {s : Shared}
theorem sub_tuple_set : isSubtype (.type "tuple") (.type "set") = pure false := by rw [isSubtype_type]; kernel_rfl
theorem qg4 : isSubtype (.type "tuple") (.type "frozenset") = pure false := by rw [isSubtype_type]; kernel_rfl
theorem qfo {l : Addr} {its : List Value} {ss : List Str} {Q : Value -> Shared -> Prop}
  (hh : A.handled = none) (hl : s.heap.IsTuple l its.toArray) (hv : qba (ss.map V.str) its) (few : ss.length + 1 < 4000)
  (h : ∀ (h' : Heap) (tk : Nat) (o' : Obj) es' ep' t', (∀ b ob, s.heap.get? b = some ob -> h'.get? b = some ob) -> h'.get? s.heap.objs.size = some o' -> qau w o' (qdu ss.reverse) es' ep' t' -> Q (.ref s.heap.objs.size) { s with heap := h', toks := tk }) :
  wpAny (model prog w) A (call (.type "set") [.ref l]) Q E s := by
 obtain ⟨mro0, mrot, hmro⟩ := PySem.F.called_set.mro
 have made := PySem.F.called_set.made
 have subs := PySem.F.called_set.sub
 have nt := PySem.F.called_set.notType
 have cc := PySem.F.called_set.canCreate
 have ct := PySem.F.typeCall_set_1 (.ref l)
 refine wpAny_call (codeAny_of_tree ?_)
 show wpAny _ _ (callAny (.type "set") _) _ _ _
 refine wpAny_pure ⟨Code.quiet_builtin _ (by decide +kernel), codeAny_builtin PySem.F.entry_type_call ?_⟩
 rw [Around.under_plain (weight_type_call_type "set" [.ref l] []) rfl]
 repeat (any_goals (first | assumption | wp_step))
 refine codeAny_mono (qjx (.ref l) (E := E) (Q₁ := fun obj s₁ => obj = .ref s.heap.objs.size /\ s₁ = { s with heap := s.heap.push { cls := .type "set", dict := none, data := .set #[] 0 (.fresh 0 0 (!w.params.followText "set-order")) } }) ⟨rfl, rfl⟩) fun r s₁ hr => ?_
 generalize hbt : (!w.params.followText "set-order") = bt at hr
 cases r with
 | error e => exact hr
 | ok fl =>
  cases fl with
  | ret obj =>
   obtain ⟨rfl, rfl⟩ := hr
   have g0 : (s.heap.push { cls := .type "set", dict := none, data := .set #[] 0 (.fresh 0 0 bt) }).get? s.heap.objs.size = some { cls := .type "set", dict := none, data := .set #[] 0 (.fresh 0 0 bt) } := Heap.get?_push_size _ rfl
   have ty : Shared.TypeIs { s with heap := s.heap.push { cls := .type "set", dict := none, data := .set #[] 0 (.fresh 0 0 bt) } } (.ref s.heap.objs.size) "set" := ⟨_, g0, rfl⟩
   have ini := PySem.F.called_set.init.lookup
   have inb := PySem.F.called_set.init.bind (.ref s.heap.objs.size)
   repeat (any_goals (first | assumption | wp_step))
   refine codeAny_mono (codeAny_call_builtin (R := wants (fun r s₂ => r = .none /\ ∃ h' tk o' es' ep' t', s₂ = { s with heap := h', toks := tk } /\ (∀ b ob, s.heap.get? b = some ob -> h'.get? b = some ob) /\ h'.get? s.heap.objs.size = some o' /\ qau w o' (qdu ss.reverse) es' ep' t') E)
    PySem.F.called_set.init.plain PySem.F.entry_set_init (check_set_init_1 ty ?_)) fun r₂ s₂ hr₂ => ?_
   ·obtain ⟨ol, hol, cl, nl, dl⟩ := hl
    obtain ⟨c1, c2, c3, c4⟩ := ol
    simp only at cl dl
    subst cl; subst dl
    have hol1 : (s.heap.push { cls := .type "set", dict := none, data := .set #[] 0 (.fresh 0 0 bt) }).get? l = some { cls := .type "tuple", dict := c2, data := .seq its.toArray nl, slots := c4 } := Heap.get?_push_of_some _ hol
    have n1 := sub_tuple_set
    have n2 := qg4
    have n3 : (Value.type "tuple" == Value.type "dict") = false := by decide
    have hl1 : (s.heap.push { cls := .type "set", dict := none, data := .set #[] 0 (.fresh 0 0 bt) }).IsTuple l its.toArray := ⟨_, hol1, rfl, nl, rfl⟩
    unfold Builtin.«set.__init__» noKeywords Builtin.Frozenset.updateFrom
    generalize hpi : pyIter = pit
    wp_walk
    subst hpi
    refine wpAny_pyIter_tuple hl1 ?_
    refine wpAny_bind (wpAny_runValue ?_)
    have lt0 : l < s.heap.objs.size := Heap.lt_size hol
    have h3 : A.in1.in1.in1.handled = none := by simp [hh]
    have ne1 : l ≠ (s.heap.push { cls := .type "set", dict := none, data := .set #[] 0 (.fresh 0 0 bt) }).objs.size := by
     rw [Heap.size_push]; exact Nat.ne_of_lt (Nat.lt_succ_of_lt lt0)
    have out : s.heap.objs.size ∉ [(s.heap.push { cls := .type "set", dict := none, data := .set #[] 0 (.fresh 0 0 bt) }).objs.size, l] := by
     rw [Heap.size_push]
     intro z
     rcases List.mem_cons.mp z with z | z
     ·exact absurd z (Nat.ne_of_lt (Nat.lt_succ_self _))
     ·exact absurd (List.mem_singleton.mp z) (Nat.ne_of_gt lt0)
    have W := Walks.tuple (prog := prog) (w := w) h3 (s.heap.push { cls := .type "set", dict := none, data := .set #[] 0 (.fresh 0 0 bt) }).objs.size l ne1 its.toArray
    have hW : (fun (i : Nat) (v : Value) => its.toArray[i]? = some v) = fun i v => its[i]? = some v := by funext i v; rw [List.getElem?_toArray]
    rw [hW] at W
    have g1 : ((s.heap.push { cls := .type "set", dict := none, data := .set #[] 0 (.fresh 0 0 bt) }).push { cls := .type "tuple_iterator", data := .fields #[.ref l, .int 0 0] }).get? s.heap.objs.size = some { cls := .type "set", dict := none, data := .set #[] 0 (.fresh 0 0 bt) } := Heap.get?_push_of_some _ g0
    refine qf0 (List.size_toArray) W out hv few (its.length - 0) 0 _ _ #[] 0 (.fresh 0 0 bt) rfl (Nat.zero_le _)
     ⟨⟨_, Heap.get?_push_size _ rfl, rfl, rfl⟩, hl1.push _⟩ g1 (by subst hbt; exact qfe w) fun h' tk o' es' ep' t' kp c1 c2 => ?_
    show wpAny _ _ _ _ _ _
    refine wpAny_pure ?_
    show wpAny _ _ (ret Value.none) _ _ _
    refine wpAny_pure ⟨rfl, h', tk, o', es', ep', t', rfl, fun b ob e => kp b ob (Nat.ne_of_lt (Heap.lt_size e)) ?_ (Heap.get?_push_of_some _ (Heap.get?_push_of_some _ e)), c1, c2⟩
    rw [Heap.size_push]; exact Nat.ne_of_lt (Nat.lt_succ_of_lt (Heap.lt_size e))
   ·cases r₂ with
    | error e => exact hr₂
    | ok fl₂ =>
     cases fl₂ with
     | ret r =>
      obtain ⟨rfl, h', tk, o', es', ep', t', rfl, kp, c1, c2⟩ := hr₂
      repeat (any_goals (first | assumption | wp_step))
      exact h h' tk o' es' ep' t' kp c1 c2
     | _ => exact hr₂.elim
  | _ => exact hr.elim
theorem sub_list_set : isSubtype (.type "list") (.type "set") = pure false := by rw [isSubtype_type]; kernel_rfl
theorem qij : isSubtype (.type "list") (.type "frozenset") = pure false := by rw [isSubtype_type]; kernel_rfl
theorem qgo {l : Addr} {its : List Value} {ss : List Str} {Q : Value -> Shared -> Prop}
  (hh : A.handled = none) (hl : s.heap.IsList l its.toArray) (hv : qba (ss.map V.str) its) (few : ss.length + 1 < 4000)
  (h : ∀ (h' : Heap) (tk : Nat) (o' : Obj) es' ep' t', (∀ b ob, s.heap.get? b = some ob -> h'.get? b = some ob) -> h'.get? s.heap.objs.size = some o' -> qau w o' (qdu ss.reverse) es' ep' t' -> Q (.ref s.heap.objs.size) { s with heap := h', toks := tk }) :
  wpAny (model prog w) A (call (.type "set") [.ref l]) Q E s := by
 obtain ⟨mro0, mrot, hmro⟩ := PySem.F.called_set.mro
 have made := PySem.F.called_set.made
 have subs := PySem.F.called_set.sub
 have nt := PySem.F.called_set.notType
 have cc := PySem.F.called_set.canCreate
 have ct := PySem.F.typeCall_set_1 (.ref l)
 refine wpAny_call (codeAny_of_tree ?_)
 show wpAny _ _ (callAny (.type "set") _) _ _ _
 refine wpAny_pure ⟨Code.quiet_builtin _ (by decide +kernel), codeAny_builtin PySem.F.entry_type_call ?_⟩
 rw [Around.under_plain (weight_type_call_type "set" [.ref l] []) rfl]
 repeat (any_goals (first | assumption | wp_step))
 refine codeAny_mono (qjx (.ref l) (E := E) (Q₁ := fun obj s₁ => obj = .ref s.heap.objs.size /\ s₁ = { s with heap := s.heap.push { cls := .type "set", dict := none, data := .set #[] 0 (.fresh 0 0 (!w.params.followText "set-order")) } }) ⟨rfl, rfl⟩) fun r s₁ hr => ?_
 generalize hbt : (!w.params.followText "set-order") = bt at hr
 cases r with
 | error e => exact hr
 | ok fl =>
  cases fl with
  | ret obj =>
   obtain ⟨rfl, rfl⟩ := hr
   have g0 : (s.heap.push { cls := .type "set", dict := none, data := .set #[] 0 (.fresh 0 0 bt) }).get? s.heap.objs.size = some { cls := .type "set", dict := none, data := .set #[] 0 (.fresh 0 0 bt) } := Heap.get?_push_size _ rfl
   have ty : Shared.TypeIs { s with heap := s.heap.push { cls := .type "set", dict := none, data := .set #[] 0 (.fresh 0 0 bt) } } (.ref s.heap.objs.size) "set" := ⟨_, g0, rfl⟩
   have ini := PySem.F.called_set.init.lookup
   have inb := PySem.F.called_set.init.bind (.ref s.heap.objs.size)
   repeat (any_goals (first | assumption | wp_step))
   refine codeAny_mono (codeAny_call_builtin (R := wants (fun r s₂ => r = .none /\ ∃ h' tk o' es' ep' t', s₂ = { s with heap := h', toks := tk } /\ (∀ b ob, s.heap.get? b = some ob -> h'.get? b = some ob) /\ h'.get? s.heap.objs.size = some o' /\ qau w o' (qdu ss.reverse) es' ep' t') E)
    PySem.F.called_set.init.plain PySem.F.entry_set_init (check_set_init_1 ty ?_)) fun r₂ s₂ hr₂ => ?_
   ·obtain ⟨ol, hol, cl, nl, dl⟩ := hl
    obtain ⟨c1, c2, c3, c4⟩ := ol
    simp only at cl dl
    subst cl; subst dl
    have hol1 : (s.heap.push { cls := .type "set", dict := none, data := .set #[] 0 (.fresh 0 0 bt) }).get? l = some { cls := .type "list", dict := c2, data := .seq its.toArray nl, slots := c4 } := Heap.get?_push_of_some _ hol
    have n1 := sub_list_set
    have n2 := qij
    have n3 : (Value.type "list" == Value.type "dict") = false := by decide
    have hl1 : (s.heap.push { cls := .type "set", dict := none, data := .set #[] 0 (.fresh 0 0 bt) }).IsList l its.toArray := ⟨_, hol1, rfl, nl, rfl⟩
    unfold Builtin.«set.__init__» noKeywords Builtin.Frozenset.updateFrom
    generalize hpi : pyIter = pit
    wp_walk
    subst hpi
    refine wpAny_pyIter_list hl1 ?_
    refine wpAny_bind (wpAny_runValue ?_)
    have lt0 : l < s.heap.objs.size := Heap.lt_size hol
    have h3 : A.in1.in1.in1.handled = none := by simp [hh]
    have ne1 : l ≠ (s.heap.push { cls := .type "set", dict := none, data := .set #[] 0 (.fresh 0 0 bt) }).objs.size := by
     rw [Heap.size_push]; exact Nat.ne_of_lt (Nat.lt_succ_of_lt lt0)
    have out : s.heap.objs.size ∉ [(s.heap.push { cls := .type "set", dict := none, data := .set #[] 0 (.fresh 0 0 bt) }).objs.size, l] := by
     rw [Heap.size_push]
     intro z
     rcases List.mem_cons.mp z with z | z
     ·exact absurd z (Nat.ne_of_lt (Nat.lt_succ_self _))
     ·exact absurd (List.mem_singleton.mp z) (Nat.ne_of_gt lt0)
    have W := Walks.list (prog := prog) (w := w) h3 (s.heap.push { cls := .type "set", dict := none, data := .set #[] 0 (.fresh 0 0 bt) }).objs.size l ne1 its.toArray
    have hW : (fun (i : Nat) (v : Value) => its.toArray[i]? = some v) = fun i v => its[i]? = some v := by funext i v; rw [List.getElem?_toArray]
    rw [hW] at W
    have g1 : ((s.heap.push { cls := .type "set", dict := none, data := .set #[] 0 (.fresh 0 0 bt) }).push { cls := .type "list_iterator", data := .fields #[.ref l, .int 0 0] }).get? s.heap.objs.size = some { cls := .type "set", dict := none, data := .set #[] 0 (.fresh 0 0 bt) } := Heap.get?_push_of_some _ g0
    refine qf0 (List.size_toArray) W out hv few (its.length - 0) 0 _ _ #[] 0 (.fresh 0 0 bt) rfl (Nat.zero_le _)
     ⟨⟨_, Heap.get?_push_size _ rfl, rfl, rfl⟩, hl1.push _⟩ g1 (by subst hbt; exact qfe w) fun h' tk o' es' ep' t' kp c1 c2 => ?_
    show wpAny _ _ _ _ _ _
    refine wpAny_pure ?_
    show wpAny _ _ (ret Value.none) _ _ _
    refine wpAny_pure ⟨rfl, h', tk, o', es', ep', t', rfl, fun b ob e => kp b ob (Nat.ne_of_lt (Heap.lt_size e)) ?_ (Heap.get?_push_of_some _ (Heap.get?_push_of_some _ e)), c1, c2⟩
    rw [Heap.size_push]; exact Nat.ne_of_lt (Nat.lt_succ_of_lt (Heap.lt_size e))
   ·cases r₂ with
    | error e => exact hr₂
    | ok fl₂ =>
     cases fl₂ with
     | ret r =>
      obtain ⟨rfl, h', tk, o', es', ep', t', rfl, kp, c1, c2⟩ := hr₂
      repeat (any_goals (first | assumption | wp_step))
      exact h h' tk o' es' ep' t' kp c1 c2
     | _ => exact hr₂.elim
  | _ => exact hr.elim
end
theorem qaz : Slot "set_iterator" "__next__" "set_iterator.__next__" :=
 .of (owner := "set_iterator") (n := "__next__") (by rw [typeLookup_type, builtinLookup_eq_fast]; kernel_rfl) (by decide +kernel) (by decide +kernel) (by decide +kernel) (by first | exact .inl (by decide +kernel) | exact .inr (by decide +kernel)) (by rw [isSubtype_type]; kernel_rfl)
theorem qb2 : entryFor table "set_iterator.__next__" = some Builtin.«set_iterator.__next__» := entryFor_of_tree (by kernel_rfl)
theorem qh7 : Manifest.owners.lookup (String.ofList ['r', 'o', 't', 'a', 'r', 'e', 't', 'i', '_', 't', 'e', 's'].reverse) = some Manifest.sig_set_iterator := by kernel_rfl
theorem qce (a : Value) : argsOk "set_iterator.__next__" ⟨[a], []⟩ := by
 unfold argsOk
 rw [signature?_of (id := "set_iterator.__next__") (n := ['_', '_', 't', 'x', 'e', 'n', '_', '_']) (o := ['r', 'o', 't', 'a', 'r', 'e', 't', 'i', '_', 't', 'e', 's']) (by kernel_rfl) qh7]
 kernel_rfl
theorem qd6 : Slot "set_iterator" "__iter__" "set_iterator.__iter__" :=
 .of (owner := "set_iterator") (n := "__iter__") (by rw [typeLookup_type, builtinLookup_eq_fast]; kernel_rfl) (by decide +kernel) (by decide +kernel) (by decide +kernel) (by first | exact .inl (by decide +kernel) | exact .inr (by decide +kernel)) (by rw [isSubtype_type]; kernel_rfl)
theorem qgl (a : Value) : argsOk "set_iterator.__iter__" ⟨[a], []⟩ := by
 unfold argsOk
 rw [signature?_of (id := "set_iterator.__iter__") (n := ['_', '_', 'r', 'e', 't', 'i', '_', '_']) (o := ['r', 'o', 't', 'a', 'r', 'e', 't', 'i', '_', 't', 'e', 's']) (by kernel_rfl) qh7]
 kernel_rfl
theorem qfp : entryFor table "set_iterator.__iter__" = some Builtin.«dict_keyiterator.__iter__» :=
 entryFor_alias (id' := "dict_keyiterator.__iter__") (by kernel_rfl) (by first | rfl | decide +kernel | (unfold String.splitOn; simp +decide [String.splitOnAux])) (by decide +kernel) (by kernel_rfl)
theorem qfs : entryFor table "set.__iter__" = some Builtin.«frozenset.__iter__» :=
 entryFor_alias (id' := "frozenset.__iter__") (by kernel_rfl) (by first | rfl | decide +kernel | (unfold String.splitOn; simp +decide [String.splitOnAux])) (by decide +kernel) (by kernel_rfl)
noncomputable def qiq (first : Value) (i : Nat) (a : Addr) (n ep : Nat) : Array Value := #[first, rawInt (i : Int), .ref a, rawInt (n : Int), rawInt (ep : Int)]
noncomputable def qdr (h : Heap) (I : Addr) (first : Value) (i : Nat) (a : Addr) (n ep : Nat) : Prop := ∃ o, h.get? I = some o /\ o.cls = .type "set_iterator" /\ o.data = .fields (qiq first i a n ep)
theorem qdr.typ {s : Shared} {I : Addr} {first : Value} {i : Nat} {a : Addr} {n ep : Nat} (x : qdr s.heap I first i a n ep) : s.TypeIs (.ref I) "set_iterator" := let ⟨o, h1, h2, _⟩ := x; ⟨o, h1, h2⟩
theorem qdr.stay {h h' : Heap} {I : Addr} {first : Value} {i : Nat} {a : Addr} {n ep : Nat} (x : qdr h I first i a n ep) (e : ∀ o, h.get? I = some o -> h'.get? I = some o) : qdr h' I first i a n ep := let ⟨o, h1, h2⟩ := x; ⟨o, e o h1, h2⟩
theorem qc7 {α : Type} : ∀ (l : List α) (i : Nat) (h : i < l.length), (l[i] :: l.eraseIdx i).Perm l
 | [], _, h => absurd h (Nat.not_lt_zero _)
 | a :: r, 0, _ => List.Perm.refl _
 | a :: r, i + 1, h => by
  show (r[i]'(Nat.lt_of_succ_lt_succ h) :: a :: r.eraseIdx i).Perm (a :: r)
  exact (List.Perm.swap _ _ _).trans (List.Perm.cons a (qc7 r i (Nat.lt_of_succ_lt_succ h)))
section
variable {prog : Program} {w : World} {A : Around} {E : Value -> Shared -> Prop} {s : Shared}
theorem qkq {src : Source} {n : Nat} {Q : Nat -> Shared -> Prop} (hn : n ≠ 0) (h : ∀ i d, i < n -> Q i { s with drawn := d }) : wpAny (model prog w) A (choose src n) Q E s := by
 intro Γ p hΓ
 show Sem.wp _ _ (.choose src n .pure) _ _ _ _
 rw [Sem.wp_choose]
 refine ⟨hn, ?_⟩
 rw [Sem.wp_pure]
 exact h _ _ (Nat.mod_lt _ (Nat.pos_of_ne_zero hn))
theorem qk6 {α : Type} : ∀ (n : Nat) (xs : List α) (s : Shared) (Q : List α -> Shared -> Prop), n = xs.length -> (∀ ys d, ys.Perm xs -> Q ys { s with drawn := d }) -> wpAny (model prog w) A (drawOrder n xs) Q E s := by
 intro n
 induction n with
 | zero =>
  intro xs s Q hn h
  have : xs = [] := List.length_eq_zero_iff.mp hn.symm
  subst this
  unfold drawOrder
  exact wpAny_pure (h [] s.drawn (List.Perm.refl _))
 | succ n ih =>
  intro xs s Q hn h
  cases xs with
  | nil => cases hn
  | cons x r =>
   unfold drawOrder
   refine wpAny_bind (qkq (by rw [List.length_cons]; exact Nat.succ_ne_zero _) fun i d hi => ?_)
   rw [List.getElem?_eq_getElem hi]
   dsimp only
   have hlen : n = ((x :: r).eraseIdx i).length := by
    have := List.length_eraseIdx (l := x :: r) (i := i)
    rw [if_pos hi] at this
    rw [this]; omega
   refine wpAny_bind (ih _ _ _ hlen fun ys d' pm => wpAny_pure ?_)
   refine h _ d' ?_
   exact (List.Perm.cons _ pm).trans (qc7 (x :: r) i hi)
theorem qg0 {I : Addr} {first : Value} {i : Nat} {a : Addr} {n ep : Nat} {Q : Value -> Shared -> Prop} (x : qdr s.heap I first i a n ep) (h : Q (.ref I) s) : wpAny (model prog w) A (pyIter (.ref I)) Q E s := by
 refine wpAny_pyIter_slot x.typ qd6 (wpAny_call_entry qd6 x.typ qfp ?_ (qgl _))
 show wpAny _ _ (ret (.ref I)) _ _ s
 exact wpAny_pure ⟨_, rfl, "set_iterator", _, x.typ, qaz.lookup, h⟩
theorem qh3 {Q : Option Value -> Shared -> Prop} {R : Fin -> Shared -> Prop} (hh : A.handled = none)
  (hQ : ∀ h', (∀ b o, s.heap.get? b = some o -> h'.get? b = some o) -> Q none { s with heap := h' }) :
  wpAny (model prog w) A.in1 (newExc (.type "StopIteration") [] >>= raiseNew) R (fun e s' => wpAny (model prog w) A (do if <- isInstance e (.type "StopIteration") then pure none else throw e) Q E s') s := by
 refine wpAny_bind ?_
 simp only [newExc, newTuple]
 refine wpAny_bind (wpAny_newObj_type ?_ (by size_fits))
 refine wpAny_bind (m := firstArgMember _ _) (wpAny_of_eq (a := Value.none) (by first | rfl | (simp only [firstArgMember]; rfl)) ?_)
 refine wpAny_newObj_type ?_ (by size_fits)
 simp only [raiseNew]
 refine wpAny_bind (wpAny_handled ?_)
 rw [show A.in1.handled = none from hh]
 refine wpAny_bind (wpAny_pure (wpAny_throw ?_))
 refine wpAny_bind (wpAny_isInstance (T := "StopIteration") (b := true) ⟨_, Heap.get?_push_size _ rfl, rfl⟩ isSubtype_stop ?_)
 exact wpAny_pure (hQ _ fun b o e => Heap.get?_push_of_some _ (Heap.get?_push_of_some _ e))
end
theorem qj4 (first : Value) (i : Nat) (a : Addr) (n ep : Nat) (x : Value) : (qiq first i a n ep).setIfInBounds 0 x = qiq x i a n ep := by simp [qiq]
theorem qjt (first : Value) (i : Nat) (a : Addr) (n ep : Nat) : (qiq first i a n ep).setIfInBounds 1 (rawInt ((i : Int) + 1)) = qiq first (i + 1) a n ep := by simp [qiq]
section
variable {prog : Program} {w : World} {A : Around} {E : Value -> Shared -> Prop} {s : Shared}
theorem qgu {h : Heap} {I : Addr} {first : Value} {i : Nat} {a : Addr} {n ep : Nat} {o : Obj} (ho : h.get? I = some o) (hc : o.cls = .type "set_iterator") (hd : o.data = .fields (qiq first i a n ep)) (j : Nat) (y : Value) :
  ∃ o', (h.update I (Obj.mapFields (·.setIfInBounds j y))).get? I = some o' /\ o'.cls = .type "set_iterator" /\ o'.data = .fields ((qiq first i a n ep).setIfInBounds j y) :=
 ⟨_, Heap.get?_update_self _ ho (Obj.isFreed_of_fields (Obj.data_mapFields hd _)), (Obj.cls_mapFields ..).trans hc, Obj.data_mapFields hd _⟩
theorem qkg {I a : Addr} {o : Obj} {ss : List Str} {es : Array (Int × Value)} {ep : Nat} {t : SetTable} {slot next i : Nat} {v : Value} {Q : Option Value -> Shared -> Prop}
  (hit : qdr s.heap I (rawInt (slot : Int)) i a es.size ep) (hne : a ≠ I) (ho : s.heap.get? a = some o) (x : qau w o ss es ep t)
  (nx : ∀ (A : Around) (E : Value -> Shared -> Prop) (Q : Option (Value × Nat) -> Shared -> Prop), Q (some (v, next)) s -> wpAny (model prog w) A (setNext a slot i ep) Q E s)
  (hQ : ∀ h', qdr h' I (rawInt (next : Int)) (i + 1) a es.size ep -> Heap.SameBut I s.heap h' -> Q (some v) { s with heap := h' }) : wpAny (model prog w) A (pyNext (.ref I)) Q E s := by
 obtain ⟨oi, hoi, hci, hdi⟩ := id hit
 unfold pyNext
 refine wpAny_bind (wpAny_attempt (wpAny_callSpecial?_slot (name := Str.ofString "__next__") hit.typ qaz (wpAny_call_entry qaz hit.typ qb2 ?_ (qce _))))
 unfold Builtin.«set_iterator.__next__»
 refine wpAny_bind (wpAny_of_eq (a := (Value.ref I, [])) rfl ?_)
 dsimp only
 refine wpAny_bind (wpAny_fieldsOf hoi hdi ?_)
 show wpAny _ _ (setEntries a >>= _) _ _ s
 refine wpAny_bind (wpAny_setEntries_of ho x.dat x.fit ?_)
 show wpAny _ _ (if ((es.size : Int) != (es.size : Int)) = true then _ else _) _ _ s
 rw [if_neg (by simp)]
 show wpAny _ _ (setNext a slot i ep >>= _) _ _ s
 refine wpAny_bind (nx _ _ _ ?_)
 show wpAny _ _ (setField (.ref I) 0 (rawInt (next : Int)) >>= _) _ _ s
 refine wpAny_bind (wpAny_setField hoi hdi (by simp [qiq]) ?_)
 obtain ⟨o1, g1, c1, d1⟩ := qgu hoi hci hdi 0 (rawInt (next : Int))
 rw [qj4] at d1
 show wpAny _ _ (setField (.ref I) 1 (rawInt ((i : Int) + 1)) >>= _) _ _ _
 refine wpAny_bind (wpAny_setField g1 d1 (by simp [qiq]) ?_)
 obtain ⟨o2, g2, c2, d2⟩ := qgu g1 c1 d1 1 (rawInt ((i : Int) + 1))
 rw [qjt] at d2
 exact wpAny_pure ⟨v, rfl, wpAny_pure (hQ _ ⟨o2, g2, c2, d2⟩ ((Heap.SameBut.update ..).trans (Heap.SameBut.update ..)))⟩
theorem qi4 {I a : Addr} {o : Obj} {ss : List Str} {es : Array (Int × Value)} {ep : Nat} {t : SetTable} {slot i : Nat} {Q : Option Value -> Shared -> Prop} (hh : A.handled = none)
  (hit : qdr s.heap I (rawInt (slot : Int)) i a es.size ep) (hne : a ≠ I) (ho : s.heap.get? a = some o) (x : qau w o ss es ep t)
  (nx : ∀ (A : Around) (E : Value -> Shared -> Prop) (Q : Option (Value × Nat) -> Shared -> Prop), Q none s -> wpAny (model prog w) A (setNext a slot i ep) Q E s)
  (hQ : ∀ h', (∀ b o, b ≠ I -> s.heap.get? b = some o -> h'.get? b = some o) -> Q none { s with heap := h' }) : wpAny (model prog w) A (pyNext (.ref I)) Q E s := by
 obtain ⟨oi, hoi, hci, hdi⟩ := id hit
 unfold pyNext
 refine wpAny_bind (wpAny_attempt (wpAny_callSpecial?_slot (name := Str.ofString "__next__") hit.typ qaz (wpAny_call_entry qaz hit.typ qb2 ?_ (qce _))))
 unfold Builtin.«set_iterator.__next__»
 refine wpAny_bind (wpAny_of_eq (a := (Value.ref I, [])) rfl ?_)
 dsimp only
 refine wpAny_bind (wpAny_fieldsOf hoi hdi ?_)
 show wpAny _ _ (setEntries a >>= _) _ _ s
 refine wpAny_bind (wpAny_setEntries_of ho x.dat x.fit ?_)
 show wpAny _ _ (if ((es.size : Int) != (es.size : Int)) = true then _ else _) _ _ s
 rw [if_neg (by simp)]
 show wpAny _ _ (setNext a slot i ep >>= _) _ _ s
 refine wpAny_bind (nx _ _ _ ?_)
 show wpAny _ _ (setField (.ref I) 2 .none >>= _) _ _ s
 refine wpAny_bind (wpAny_setField hoi hdi (by simp [qiq]) ?_)
 refine qh3 hh fun h' kp => hQ h' fun b ob hb e => kp b ob ?_
 exact (Heap.get?_update_other _ _ (Ne.symm hb)).trans e
theorem ql6 {I a tp : Addr} {o : Obj} {ss : List Str} {es : Array (Int × Value)} {ep : Nat} {t : SetTable} {i p : Nat} {v : Value} {ps : Array Value} {Q : Option Value -> Shared -> Prop}
  (hit : qdr s.heap I (.ref tp) i a es.size ep) (ho : s.heap.get? a = some o) (x : qau w o ss es ep t) (htp : s.heap.IsTuple tp ps) (hp : ps[i]? = some (rawInt (p : Int))) (hv : (es[p]?).map (·.2) = some v)
  (hQ : ∀ h', qdr h' I (.ref tp) (i + 1) a es.size ep -> Heap.SameBut I s.heap h' -> Q (some v) { s with heap := h' }) : wpAny (model prog w) A (pyNext (.ref I)) Q E s := by
 obtain ⟨oi, hoi, hci, hdi⟩ := id hit
 obtain ⟨ot, hot, _, nt, hdt⟩ := htp
 unfold pyNext
 refine wpAny_bind (wpAny_attempt (wpAny_callSpecial?_slot (name := Str.ofString "__next__") hit.typ qaz (wpAny_call_entry qaz hit.typ qb2 ?_ (qce _))))
 unfold Builtin.«set_iterator.__next__»
 refine wpAny_bind (wpAny_of_eq (a := (Value.ref I, [])) rfl ?_)
 dsimp only
 refine wpAny_bind (wpAny_fieldsOf hoi hdi ?_)
 show wpAny _ _ (setEntries a >>= _) _ _ s
 refine wpAny_bind (wpAny_setEntries_of ho x.dat x.fit ?_)
 show wpAny _ _ (if ((es.size : Int) != (es.size : Int)) = true then _ else _) _ _ s
 rw [if_neg (by simp)]
 show wpAny _ _ (seqItems? (.ref tp) >>= _) _ _ s
 refine wpAny_bind (wpAny_seqItems hot hdt ?_)
 dsimp only [Int.toNat_natCast]
 rw [hp]
 dsimp only [rawInt]
 refine wpAny_bind ?_
 unfold setNextDrawn
 refine wpAny_bind (wpAny_setState_of ho x.dat x.fit ?_)
 dsimp only
 rw [if_neg (by simp)]
 try rw [Int.toNat_natCast]
 cases he : es[p]? with
 | none => rw [he] at hv; cases hv
 | some ev =>
  rw [he] at hv
  cases hv
  refine wpAny_pure ?_
  show wpAny _ _ (setField (.ref I) 1 (rawInt ((i : Int) + 1)) >>= _) _ _ _
  refine wpAny_bind (wpAny_setField hoi hdi (by simp [qiq]) ?_)
  obtain ⟨o2, g2, c2, d2⟩ := qgu hoi hci hdi 1 (rawInt ((i : Int) + 1))
  rw [qjt] at d2
  exact wpAny_pure ⟨_, rfl, wpAny_pure (hQ _ ⟨o2, g2, c2, d2⟩ (Heap.SameBut.update ..))⟩
theorem qor {I a tp : Addr} {o : Obj} {ss : List Str} {es : Array (Int × Value)} {ep : Nat} {t : SetTable} {i : Nat} {ps : Array Value} {Q : Option Value -> Shared -> Prop} (hh : A.handled = none)
  (hit : qdr s.heap I (.ref tp) i a es.size ep) (ho : s.heap.get? a = some o) (x : qau w o ss es ep t) (htp : s.heap.IsTuple tp ps) (hp : ps[i]? = none)
  (hQ : ∀ h', (∀ b o, b ≠ I -> s.heap.get? b = some o -> h'.get? b = some o) -> Q none { s with heap := h' }) : wpAny (model prog w) A (pyNext (.ref I)) Q E s := by
 obtain ⟨oi, hoi, hci, hdi⟩ := id hit
 obtain ⟨ot, hot, _, nt, hdt⟩ := htp
 unfold pyNext
 refine wpAny_bind (wpAny_attempt (wpAny_callSpecial?_slot (name := Str.ofString "__next__") hit.typ qaz (wpAny_call_entry qaz hit.typ qb2 ?_ (qce _))))
 unfold Builtin.«set_iterator.__next__»
 refine wpAny_bind (wpAny_of_eq (a := (Value.ref I, [])) rfl ?_)
 dsimp only
 refine wpAny_bind (wpAny_fieldsOf hoi hdi ?_)
 show wpAny _ _ (setEntries a >>= _) _ _ s
 refine wpAny_bind (wpAny_setEntries_of ho x.dat x.fit ?_)
 show wpAny _ _ (if ((es.size : Int) != (es.size : Int)) = true then _ else _) _ _ s
 rw [if_neg (by simp)]
 show wpAny _ _ (seqItems? (.ref tp) >>= _) _ _ s
 refine wpAny_bind (wpAny_seqItems hot hdt ?_)
 dsimp only [Int.toNat_natCast]
 rw [hp]
 dsimp only
 refine wpAny_bind (wpAny_setField hoi hdi (by simp [qiq]) ?_)
 obtain ⟨o1, g1, c1, d1⟩ := qgu hoi hci hdi 0 (rawInt 0)
 rw [qj4] at d1
 refine wpAny_bind (wpAny_setField g1 d1 (by simp [qiq]) ?_)
 refine qh3 hh fun h' kp => hQ h' fun b ob hb e => kp b ob ?_
 exact (Heap.get?_update_other _ _ (Ne.symm hb)).trans ((Heap.get?_update_other _ _ (Ne.symm hb)).trans e)
end
theorem qrj {α : Type} (next : Nat -> Nat) : ∀ (n k : Nat) (left : List α) (out : Array α), n = left.length -> (pickOrder.go next n k left out).toList.Perm (out.toList ++ left) := by
 intro n
 induction n with
 | zero =>
  intro k left out hn
  have : left = [] := List.length_eq_zero_iff.mp hn.symm
  subst this
  unfold pickOrder.go
  rw [List.append_nil]
 | succ n ih =>
  intro k left out hn
  unfold pickOrder.go
  have hi : next k % left.length < left.length := Nat.mod_lt _ (by omega)
  rw [List.getElem?_eq_getElem hi]
  dsimp only
  have hl : n = (left.eraseIdx (next k % left.length)).length := by
   have := List.length_eraseIdx (l := left) (i := next k % left.length)
   rw [if_pos hi] at this
   rw [this]; omega
  refine (ih _ _ _ hl).trans ?_
  rw [Array.toList_push, List.append_assoc]
  exact List.Perm.append_left _ (qc7 left _ hi)
theorem qcy {α : Type} (next : Nat -> Nat) (xs : Array α) : (pickOrder next xs).toList.Perm xs.toList := by
 unfold pickOrder
 have := qrj next xs.size 0 xs.toList #[] (Array.length_toList).symm
 simpa using this
section
variable {prog : Program} {w : World} {A : Around} {E : Value -> Shared -> Prop} {s : Shared}
theorem qni {a : Addr} {o : Obj} {ss : List Str} {es : Array (Int × Value)} {ep slot i : Nat} {t : SetTable} (hb : w.params.followText "set-order" = true) (ho : s.heap.get? a = some o) (x : qau w o ss es ep t) {Q : Option (Value × Nat) -> Shared -> Prop}
  (h : Q (((pickOrder (w.params.setOrder a ep) es)[i]?).map fun e => (e.2, slot)) s) : wpAny (model prog w) A (setNext a slot i ep) Q E s := by
 unfold setNext
 refine wpAny_bind (wpAny_setState_of ho x.dat x.fit ?_)
 dsimp only
 unfold setsByText
 refine wpAny_bind (wpAny_bind (wpAny_askSetting (wpAny_pure ?_)))
 show wpAny _ _ (if w.params.followText "set-order" = true then _ else _) _ _ s
 rw [if_pos hb, if_neg (by simp)]
 unfold setWalk
 refine wpAny_bind ?_
 refine wpAny_bind (wpAny_setState_of ho x.dat x.fit ?_)
 dsimp only
 unfold setsByText
 refine wpAny_bind (wpAny_bind (wpAny_askSetting (wpAny_pure ?_)))
 show wpAny _ _ (if w.params.followText "set-order" = true then _ else _) _ _ s
 rw [if_pos hb]
 exact wpAny_bind (wpAny_askSetting (wpAny_pure (wpAny_pure h)))
theorem qmz {a : Addr} {o : Obj} {ss : List Str} {es : Array (Int × Value)} {ep slot i : Nat} {t : SetTable} (hb : w.params.followText "set-order" = false) (ho : s.heap.get? a = some o) (x : qau w o ss es ep t) (h1 : es.size <= 1) {Q : Option (Value × Nat) -> Shared -> Prop}
  (h : Q (match es[SetTable.below t.place slot]?, t.place[SetTable.below t.place slot]? with | some (_, x), some j => some (x, j + 1) | _, _ => none) s) : wpAny (model prog w) A (setNext a slot i ep) Q E s := by
 have hl : t.led = true := by rw [x.led, hb]; rfl
 unfold setNext
 refine wpAny_bind (wpAny_setState_of ho x.dat x.fit ?_)
 dsimp only
 unfold setsByText
 refine wpAny_bind (wpAny_bind (wpAny_askSetting (wpAny_pure ?_)))
 show wpAny _ _ (if w.params.followText "set-order" = true then _ else if (!t.plain && decide (es.size > 1)) = true then _ else _) _ _ s
 rw [if_neg (by rw [hb]; exact Bool.false_ne_true), if_neg (by rw [decide_eq_false (Nat.not_lt.mpr h1), Bool.and_false]; exact Bool.false_ne_true)]
 refine wpAny_bind (show wpAny _ _ (if (!t.led && !es.isEmpty) = true then unsupported "set:maker-not-led" else pure ()) _ _ s from ?_)
 rw [if_neg (by rw [hl]; exact Bool.false_ne_true)]
 exact wpAny_pure (wpAny_pure h)
structure qs6 (prog : Program) (w : World) (A : Around) (s s₁ : Shared) (a I : Addr) (ss : List Str) (fp : List Addr) (ws : List Value) (St : Nat -> Heap -> Prop) : Prop where
 os : s₁.os = s.os
 gens : s₁.gens = s.gens
 toks : s₁.toks = s.toks
 keep : ∀ b o, s.heap.get? b = some o -> s₁.heap.get? b = some o
 new : ∀ b ∈ fp, b = a \/ s.heap.objs.size <= b
 newI : s.heap.objs.size <= I
 wk : Walks prog w A I fp [I] ss.length (fun i v => ws[i]? = some v) St
 st : St 0 s₁.heap
 txt : ∃ ss', StrsAre ws ss' /\ ss'.Perm ss
theorem qeg {o : Obj} {ss : List Str} {es : Array (Int × Value)} {ep : Nat} {t : SetTable} (x : qau w o ss es ep t) {L : List (Int × Value)} (p : L.Perm es.toList) : ∃ ss', StrsAre (L.map (·.2)) ss' /\ ss'.Perm ss := by
 refine ⟨L.map fun e => qd9 e.2, ?_, (p.map _).trans x.all⟩
 have : ∀ e ∈ L, ∃ tk, e.2 = .str (qd9 e.2) tk := fun e he => let ⟨tk, h, _⟩ := x.els e (p.mem_iff.mp he); ⟨tk, h⟩
 clear p
 induction L with
 | nil => exact .nil
 | cons e r ih =>
  obtain ⟨tk, h⟩ := this e (.head _)
  have q := ih fun e he => this e (.tail _ he)
  show StrsAre (e.2 :: r.map (·.2)) (qd9 e.2 :: r.map fun e => qd9 e.2)
  rw [h]
  exact .cons _ tk q
end
section
variable {prog : Program} {w : World} {A : Around} {E : Value -> Shared -> Prop} {s : Shared}
theorem qmw {a I : Addr} {o : Obj} {ss : List Str} {es : Array (Int × Value)} {ep : Nat} {t : SetTable} (hh : A.handled = none) (hb : w.params.followText "set-order" = true) (x : qau w o ss es ep t) (hne : a ≠ I) :
  Walks prog w A I [I, a] [I] ss.length (fun i v => ((pickOrder (w.params.setOrder a ep) es).toList.map (·.2))[i]? = some v) (fun i h => qdr h I (rawInt 0) i a es.size ep /\ h.get? a = some o) where
 sub := fun b hb => by rw [List.mem_singleton.mp hb]; exact .head _
 frame := fun i h h' st kp => ⟨st.1.stay fun o e => kp I (.head _) o e, kp a (.tail _ (.head _)) o st.2⟩
 item := fun i s Q E hi st hQ => by
  have hl : (pickOrder (w.params.setOrder a ep) es).size = ss.length := by
   have := (qcy (w.params.setOrder a ep) es).length_eq
   rw [Array.length_toList, Array.length_toList, x.size] at this; exact this
  have hi' : i < (pickOrder (w.params.setOrder a ep) es).size := by omega
  have e1 : (pickOrder (w.params.setOrder a ep) es)[i]? = some (pickOrder (w.params.setOrder a ep) es)[i] := Array.getElem?_eq_getElem hi'
  refine qkg (slot := 0) (next := 0) (v := ((pickOrder (w.params.setOrder a ep) es)[i]).2) st.1 hne st.2 x (fun A E Q q => qni hb st.2 x (by rw [e1]; exact q)) fun h' hit' sb => ?_
  refine hQ _ h' s.toks (by rw [List.getElem?_map, Array.getElem?_toList, e1]; rfl) ⟨hit', (sb.2 a hne).trans st.2⟩ fun b ob hb e => (sb.2 b (by simpa using hb)).trans e
 done := fun s Q E st hQ => by
  have hl : (pickOrder (w.params.setOrder a ep) es).size = ss.length := by
   have := (qcy (w.params.setOrder a ep) es).length_eq
   rw [Array.length_toList, Array.length_toList, x.size] at this; exact this
  have e1 : (pickOrder (w.params.setOrder a ep) es)[ss.length]? = none := by rw [<- hl]; simp
  exact qi4 (slot := 0) hh st.1 hne st.2 x (fun A E Q q => qni hb st.2 x (by rw [e1]; exact q)) fun h' kp => hQ h' s.toks fun b ob hb e => kp b ob (by simpa using hb) e
 self := fun i s Q E st hQ => qg0 st.1 hQ
theorem qk4 {a I tp : Addr} {o : Obj} {ss : List Str} {es : Array (Int × Value)} {ep : Nat} {t : SetTable} {ps : List Nat} (hh : A.handled = none) (x : qau w o ss es ep t) (hne : a ≠ I) (hnt : tp ≠ I) (hps : ps.Perm (List.range es.size)) :
  Walks prog w A I [I, a, tp] [I] ss.length (fun i v => (ps.map fun p => (es.getD p (0, .none)).2)[i]? = some v) (fun i h => qdr h I (.ref tp) i a es.size ep /\ h.get? a = some o /\ h.IsTuple tp (ps.map fun (p : Nat) => rawInt (p : Int)).toArray) where
 sub := fun b hb => by rw [List.mem_singleton.mp hb]; exact .head _
 frame := fun i h h' st kp => ⟨st.1.stay fun o e => kp I (.head _) o e, kp a (.tail _ (.head _)) o st.2.1, st.2.2.at fun o e => kp tp (.tail _ (.tail _ (.head _))) o e⟩
 item := fun i s Q E hi st hQ => by
  have hl : ps.length = ss.length := by have := hps.length_eq; rw [List.length_range, x.size] at this; exact this
  have hi' : i < ps.length := by omega
  have hp : ps[i] < es.size := List.mem_range.mp (hps.mem_iff.mp (List.getElem_mem hi'))
  have e1 : (ps.map fun (p : Nat) => rawInt (p : Int)).toArray[i]? = some (rawInt (ps[i] : Int)) := by rw [List.getElem?_toArray, List.getElem?_map, List.getElem?_eq_getElem hi']; rfl
  have e2 : es[ps[i]]? = some es[ps[i]] := Array.getElem?_eq_getElem hp
  refine ql6 (p := ps[i]) (v := (es[ps[i]]).2) st.1 st.2.1 x st.2.2 e1 (by rw [e2]; rfl) fun h' hit' sb => ?_
  refine hQ _ h' s.toks ?_ ⟨hit', (sb.2 a hne).trans st.2.1, st.2.2.at fun o e => (sb.2 tp hnt).trans e⟩ fun b ob hb e => (sb.2 b (by simpa using hb)).trans e
  rw [List.getElem?_map, List.getElem?_eq_getElem hi']
  show some (es.getD ps[i] (0, .none)).2 = _
  rw [Array.getD_eq_getD_getElem?, e2]; rfl
 done := fun s Q E st hQ => by
  have hl : ps.length = ss.length := by have := hps.length_eq; rw [List.length_range, x.size] at this; exact this
  have e1 : (ps.map fun (p : Nat) => rawInt (p : Int)).toArray[ss.length]? = none := by rw [<- hl]; simp
  exact qor hh st.1 st.2.1 x st.2.2 e1 fun h' kp => hQ h' s.toks fun b ob hb e => kp b ob (by simpa using hb) e
 self := fun i s Q E st hQ => qg0 st.1 hQ
theorem qlo {p : Array Nat} (h : p.size = 1) : SetTable.below p 0 = 0 := by
 unfold SetTable.below
 rw [h]
 show (if 0 < 1 then if p.getD 0 0 < 0 then _ else _ else _) = 0
 rw [if_pos (by decide), if_neg (Nat.not_lt_zero _)]
 rfl
theorem qln {p : Array Nat} {j : Nat} (h : p.size = 1) (hj : p[0]? = some j) : SetTable.below p (j + 1) = 1 := by
 unfold SetTable.below
 rw [h]
 show (if 0 < 1 then if p.getD 0 (j + 1) < j + 1 then _ else _ else _) = 1
 rw [if_pos (by decide), if_pos (by rw [Array.getD_eq_getD_getElem?, hj]; exact Nat.lt_succ_self j)]
 rfl
theorem qmp {p : Array Nat} (j : Nat) (h : p.size = 0) : SetTable.below p j = 0 := by
 unfold SetTable.below
 rw [h]; rfl
theorem qoy {a I : Addr} {o : Obj} {ss : List Str} {es : Array (Int × Value)} {ep : Nat} {t : SetTable} (hh : A.handled = none) (hb : w.params.followText "set-order" = false) (x : qau w o ss es ep t) (h1 : es.size <= 1) (hne : a ≠ I) :
  Walks prog w A I [I, a] [I] ss.length (fun i v => (es.toList.map (·.2))[i]? = some v) (fun i h => qdr h I (rawInt ((if i = 0 then 0 else t.place.getD 0 0 + 1 : Nat) : Int)) i a es.size ep /\ h.get? a = some o) where
 sub := fun b hb => by rw [List.mem_singleton.mp hb]; exact .head _
 frame := fun i h h' st kp => ⟨st.1.stay fun o e => kp I (.head _) o e, kp a (.tail _ (.head _)) o st.2⟩
 item := fun i s Q E hi st hQ => by
  have hs := x.size
  have hi0 : i = 0 := by omega
  subst hi0
  have hz : es.size = 1 := by omega
  have hpz : t.place.size = 1 := by
   have := x.fit
   unfold SetTable.fits at this
   rw [hz] at this
   simp at this; exact this.1
  have hp0 : t.place[0]? = some t.place[0] := Array.getElem?_eq_getElem (by omega)
  have he0 : es[0]? = some es[0] := Array.getElem?_eq_getElem (by omega)
  have hd0 : t.place.getD 0 0 = t.place[0] := by rw [Array.getD_eq_getD_getElem?, hp0]; rfl
  refine qkg (slot := 0) (next := t.place[0] + 1) (v := (es[0]).2) st.1 hne st.2 x (fun A E Q q => qmz hb st.2 x h1 (by rw [qlo hpz, hp0, he0]; exact q)) fun h' hit' sb => ?_
  refine hQ _ h' s.toks (by rw [List.getElem?_map, Array.getElem?_toList, he0]; rfl) ⟨?_, (sb.2 a hne).trans st.2⟩ fun b ob hb e => (sb.2 b (by simpa using hb)).trans e
  rw [if_neg (Nat.succ_ne_zero _), hd0]
  exact hit'
 done := fun s Q E st hQ => by
  have hs := x.size
  have hpz : t.place.size = es.size := by
   have := x.fit
   unfold SetTable.fits at this
   simp at this; exact this.1
  by_cases hz : es.size = 0
  ·have e0 : ss.length = 0 := by omega
   rw [e0, if_pos rfl] at st
   have : es[0]? = none := Array.getElem?_eq_none (by omega)
   exact qi4 (slot := 0) hh st.1 hne st.2 x (fun A E Q q => qmz hb st.2 x h1 (by rw [qmp 0 (by omega), this]; exact q)) fun h' kp => hQ h' s.toks fun b ob hb e => kp b ob (by simpa using hb) e
  ·have hz1 : es.size = 1 := by omega
   have e0 : ss.length = 1 := by omega
   rw [e0, if_neg (by decide)] at st
   have hp0 : t.place[0]? = some t.place[0] := Array.getElem?_eq_getElem (by omega)
   have hd0 : t.place.getD 0 0 = t.place[0] := by rw [Array.getD_eq_getD_getElem?, hp0]; rfl
   rw [hd0] at st
   have : es[1]? = none := Array.getElem?_eq_none (by omega)
   exact qi4 (slot := t.place[0] + 1) hh st.1 hne st.2 x (fun A E Q q => qmz hb st.2 x h1 (by rw [qln (by omega) hp0, this]; exact q)) fun h' kp => hQ h' s.toks fun b ob hb e => kp b ob (by simpa using hb) e
 self := fun i s Q E st hQ => qg0 st.1 hQ
end
theorem qlu (es : Array (Int × Value)) : (List.range es.size).map (fun p => es.getD p (0, .none)) = es.toList := by
 apply List.ext_getElem
 ·simp
 ·intro i h1 h2
  simp at h1
  simp [h1]
section
variable {prog : Program} {w : World} {A : Around} {E : Value -> Shared -> Prop} {s : Shared}
theorem qlv {a : Addr} {o : Obj} {ss : List Str} {es : Array (Int × Value)} {ep : Nat} {t : SetTable} {Q : Value -> Shared -> Prop} (hh : A.handled = none) (ho : s.heap.get? a = some o) (x : qau w o ss es ep t)
  (h : ∀ (s₁ : Shared) (I : Addr) (fp : List Addr) (ws : List Value) (St : Nat -> Heap -> Prop), qs6 prog w A s s₁ a I ss fp ws St -> Q (.ref I) s₁) : wpAny (model prog w) A (pyIter (.ref a)) Q E s := by
 have hT : s.TypeIs (.ref a) "set" := ⟨o, ho, x.cls⟩
 have hla : a < s.heap.objs.size := Heap.lt_size ho
 refine wpAny_pyIter_slot hT PySem.F.slot_set_iter (wpAny_call_entry PySem.F.slot_set_iter hT qfs ?_ (PySem.F.args_set_iter_1 _))
 unfold Builtin.«frozenset.__iter__» Builtin.Frozenset.slot0
 refine wpAny_bind (wpAny_bind (wpAny_of_eq (a := (Value.ref a, [])) rfl (wpAny_pure ?_)))
 unfold Builtin.Frozenset.sizeOf
 refine wpAny_bind (wpAny_bind (wpAny_setEntries_of ho x.dat x.fit (wpAny_pure ?_)))
 unfold setDrawn
 refine wpAny_bind ?_
 refine wpAny_bind (wpAny_setState_of ho x.dat x.fit ?_)
 dsimp only
 unfold setsByText
 refine wpAny_bind (wpAny_bind (wpAny_askSetting (wpAny_pure (wpAny_pure ?_))))
 show wpAny _ _ (if (!w.params.followText "set-order" && (!t.plain && decide (es.size > 1))) = true then _ else _) _ _ s
 by_cases hc : (!w.params.followText "set-order" && (!t.plain && decide (es.size > 1))) = true
 ·rw [if_pos hc]
  refine wpAny_bind (qk6 es.size (List.range es.size) s _ (List.length_range).symm fun ps d hps => ?_)
  have hpl : ps.length = ss.length := by have := hps.length_eq; rw [List.length_range, x.size] at this; exact this
  have hfew := x.few
  refine wpAny_bind (wpAny_newTuple (items := ps.map fun (i : Nat) => rawInt (i : Int)) ?_ (by rw [List.length_map, sizeLine_eq]; omega))
  have ho1 : (s.heap.push { cls := .type "tuple", data := .seq (ps.map fun (i : Nat) => rawInt (i : Int)).toArray }).get? a = some o := Heap.get?_push_of_some _ ho
  refine wpAny_bind (wpAny_setEpoch_of (s := { s with heap := s.heap.push { cls := .type "tuple", data := .seq (ps.map fun (i : Nat) => rawInt (i : Int)).toArray }, drawn := d }) ho1 x.dat x.fit ?_)
  refine wpAny_bind (wpAny_newObj_type (wpAny_pure ⟨_, rfl, "set_iterator", _, ⟨_, Heap.get?_push_size _ rfl, rfl⟩, qaz.lookup, ?_⟩))
  have hsz : (s.heap.push { cls := .type "tuple", data := .seq (ps.map fun (i : Nat) => rawInt (i : Int)).toArray }).objs.size = s.heap.objs.size + 1 := size_push' ..
  have hI : a ≠ (s.heap.push { cls := .type "tuple", data := .seq (ps.map fun (i : Nat) => rawInt (i : Int)).toArray }).objs.size := by rw [hsz]; exact Nat.ne_of_lt (Nat.lt_succ_of_lt hla)
  have hI2 : s.heap.objs.size ≠ (s.heap.push { cls := .type "tuple", data := .seq (ps.map fun (i : Nat) => rawInt (i : Int)).toArray }).objs.size := by rw [hsz]; exact Nat.ne_of_lt (Nat.lt_succ_self _)
  have W := qk4 (prog := prog) (A := A) hh x hI hI2 hps
  refine h _ _ _ _ _ ⟨rfl, rfl, rfl, fun b ob e => Heap.get?_push_of_some _ (Heap.get?_push_of_some _ e), fun b hb => ?_, ?_, W, ?_, ?_⟩
  ·rcases List.mem_cons.mp hb with e | hb
   ·rw [e, hsz]; exact .inr (Nat.le_succ _)
   ·rcases List.mem_cons.mp hb with e | hb
    ·exact .inl e
    ·rw [List.mem_singleton.mp hb]; exact .inr (Nat.le_refl _)
  ·rw [hsz]; exact Nat.le_succ _
  ·exact ⟨⟨_, Heap.get?_push_size _ rfl, rfl, rfl⟩, Heap.get?_push_of_some _ ho1, ⟨_, Heap.get?_push_of_some _ (Heap.get?_push_size _ rfl), rfl, _, rfl⟩⟩
  ·have e1 : (ps.map fun p => (es.getD p (0, .none)).2) = (ps.map fun p => es.getD p (0, .none)).map (·.2) := by rw [List.map_map]; rfl
   rw [e1]
   refine qeg x ?_
   have := hps.map fun p => es.getD p ((0 : Int), Value.none)
   rw [qlu] at this; exact this
 ·rw [if_neg hc]
  refine wpAny_bind (wpAny_pure ?_)
  refine wpAny_bind (wpAny_setEpoch_of ho x.dat x.fit ?_)
  refine wpAny_bind (wpAny_newObj_type (wpAny_pure ⟨_, rfl, "set_iterator", _, ⟨_, Heap.get?_push_size _ rfl, rfl⟩, qaz.lookup, ?_⟩))
  have hI : a ≠ s.heap.objs.size := Nat.ne_of_lt hla
  have nw : ∀ b ∈ [s.heap.objs.size, a], b = a \/ s.heap.objs.size <= b := fun b hb => by
   rcases List.mem_cons.mp hb with e | hb
   ·rw [e]; exact .inr (Nat.le_refl _)
   ·exact .inl (List.mem_singleton.mp hb)
  cases hb : w.params.followText "set-order" with
  | true => exact h _ _ _ _ _ ⟨rfl, rfl, rfl, fun b ob e => Heap.get?_push_of_some _ e, nw, Nat.le_refl _, qmw hh hb x hI, ⟨⟨_, Heap.get?_push_size _ rfl, rfl, rfl⟩, Heap.get?_push_of_some _ ho⟩, qeg x (qcy _ es)⟩
  | false =>
   have h1 : es.size <= 1 := by
    rcases x.pla with z | z
    ·omega
    ·rw [hb, z] at hc
     simp at hc; omega
   exact h _ _ _ _ _ ⟨rfl, rfl, rfl, fun b ob e => Heap.get?_push_of_some _ e, nw, Nat.le_refl _, qoy hh hb x h1 hI, ⟨⟨_, Heap.get?_push_size _ rfl, rfl, rfl⟩, Heap.get?_push_of_some _ ho⟩, qeg x (List.Perm.refl _)⟩
theorem qib : typeLookup (.type "set") "__len__" = pure (some (.builtin "set.__len__")) := by rw [typeLookup_type, builtinLookup_eq_fast]; kernel_rfl
theorem qo7 {r : Addr} {Q : Bool -> Shared -> Prop} (hT : s.TypeIs (.ref r) "set") (h : ∀ b, Q b s) : wpAny (model prog w) A (Builtin.List.listLengthHint (.ref r)) Q E s := by
 unfold Builtin.List.listLengthHint
 refine wpAny_bind (wpAny_specialOf hT qib ?_)
 generalize hid : ("set.__len__" : String) = id0
 wp_delta
 rw [show splitId id0 = some ("set", "__len__") from by subst hid; decide +kernel]
 subst hid
 refine wpAny_bind (wpAny_isInstance (T := "set") (b := true) hT (by rw [isSubtype_type]; kernel_rfl) ?_)
 refine wpAny_ite_split (fun z => absurd z (by decide)) (fun _ => ?_)
 refine wpAny_ite_split (fun _ => ?_) (fun z => absurd (by decide +kernel) z)
 refine wpAny_bind (wpAny_typeOf hT ?_)
 exact wpAny_pure (h _)
end
section
variable {prog : Program} {w : World} {A : Around} {E : Value -> Shared -> Prop} {s : Shared}
theorem qqk {ws : List Value} {n : Nat} {acc : Array Value} (hw : ws.length = n) (h : ItemsOf (fun i v => ws[i]? = some v) acc n) : acc.toList = ws := by
 apply List.ext_getElem?
 intro i
 by_cases hi : i < acc.size
 ·have e : acc.toList[i]? = some acc[i] := by rw [Array.getElem?_toList]; exact Array.getElem?_eq_getElem hi
  rw [e]
  exact (h.2 i acc[i] (Array.getElem?_eq_getElem hi)).symm
 ·have h1 := h.1
  rw [List.getElem?_eq_none (by rw [Array.length_toList]; omega), List.getElem?_eq_none (by omega)]
theorem qh0 {R : Result -> Shared -> Prop} {a S : Addr} {o : Obj} {ss : List Str} {es : Array (Int × Value)} {ep : Nat} {t : SetTable} (hh : A.handled = none) (ho : s.heap.get? a = some o) (x : qau w o ss es ep t) (res : Value) (c₀ : Nat)
  (hSa : S ≠ a) (hS : s.heap.get? S = some { cls := .type "list", data := .seq #[] c₀ })
  (hR : ∀ (s' : Shared) acc c' ss', s'.os = s.os -> s'.gens = s.gens -> (∀ b o, b ≠ S -> s.heap.get? b = some o -> s'.heap.get? b = some o) -> s'.heap.get? S = some { cls := .type "list", dict := none, data := .seq acc c', slots := #[] } -> StrsAre acc.toList ss' -> ss'.Perm ss -> R (.ok (.ret res)) s') :
  wpAny (model prog w) A.in1 (Builtin.List.listExtendWith (.ref S) (.ref a) res)
   (fun fin s' => match fin with | .done f => R (.ok f) s' | .again c' => c'.quiet = true /\ codeAny (model prog w) A c' R s') (fun e s' => R (.error e) s') s := by
 have hT : s.TypeIs (.ref a) "set" := ⟨o, ho, x.cls⟩
 have hSlt : S < s.heap.objs.size := Heap.lt_size hS
 have hfew := x.few
 unfold Builtin.List.listExtendWith
 refine wpAny_bind (wpAny_typeOf (T := "set") hT ?_)
 have n1 : Builtin.List.listSameRef (.ref S) (.ref a) = false := by simp [Builtin.List.listSameRef, hSa]
 have n2 : (Value.type "set" == Value.type "list") = false := by decide
 have n3 : (Value.type "set" == Value.type "tuple") = false := by decide
 simp only [n1, n2, n3, Bool.or_false, Bool.false_eq_true, if_false]
 refine wpAny_bind (qlv (A := A.in1) hh ho x fun s₁ I fp ws St K => ?_)
 obtain ⟨ss', hw1, hw2⟩ := K.txt
 have hws : ws.length = ss.length := by rw [StrsAre.length hw1]; exact hw2.length_eq
 have hSf : S ∉ fp := fun z => (K.new S z).elim hSa fun q => Nat.lt_irrefl _ (Nat.lt_of_lt_of_le hSlt q)
 have hSI : S ≠ I := fun e => Nat.lt_irrefl _ (Nat.lt_of_lt_of_le hSlt (e ▸ K.newI))
 have hn : ss.length <= sizeLine := by rw [sizeLine_eq]; omega
 have key : ∀ (h : Heap) (c₁ : Nat), St 0 h -> (∀ b o, b ≠ S -> s₁.heap.get? b = some o -> h.get? b = some o) -> h.get? S = some { cls := .type "list", data := .seq #[] c₁ } ->
   codeAny (model prog w) A (.builtin "list.extend.loop" ⟨[.ref S, .ref I, res], []⟩) R { s₁ with heap := h } := by
  intro h c₁ st hk hS1
  refine codeAny_extend_loopS K.wk.toS hn S hSf res ss.length 0 _ #[] c₁ rfl (Nat.zero_le _) st hS1 (ItemsOf.nil _) fun s' acc c' hm hS' hacc => ?_
  rw [<- qqk hws hacc] at hw1
  refine hR s' acc c' ss' (hm.os.trans K.os) ((show s'.gens = s₁.gens from hm.gens).trans K.gens) (fun b ob hb e => hm.heap b ob (fun z => ?_) (hk b ob hb (K.keep b ob e))) hS' hw1 hw2
  rcases List.mem_cons.mp z with z | z
  ·exact hb z
  ·exact absurd (Heap.lt_size e) (by rw [List.mem_singleton.mp z]; exact Nat.not_lt.mpr K.newI)
 have hS1 := K.keep _ _ hS
 have hT1 : s₁.TypeIs (.ref a) "set" := ⟨o, K.keep _ _ ho, x.cls⟩
 refine wpAny_bind (wpAny_holding (qo7 hT1 fun hb => ?_))
 refine wpAny_ite_split (fun _ => ?_) (fun _ => wpAny_pure ⟨plainId_quiet PySem.F.plain_extend_loop _, key _ c₀ K.st (fun b ob _ e => e) hS1⟩)
 refine wpAny_bind (wpAny_rule ?_)
 refine wpAny_bind ?_
 show wpAny _ _ (updateSeq S (·.push .none) >>= fun _ => updateSeq S (·.pop)) _ _ _
 refine wpAny_bind (wpAny_updateSeq hS1 rfl ?_)
 have hS2 := Heap.get?_update_self (Obj.mapSeq (·.push Value.none)) hS1 rfl
 refine wpAny_updateSeq (hz := by seq_fits) hS2 rfl ?_
 have hS3 := Heap.get?_update_self (Obj.mapSeq (·.pop)) hS2 rfl
 refine wpAny_pure ⟨plainId_quiet PySem.F.plain_extend_loop _, key _ _ (K.wk.frame 0 _ _ K.st fun b hb ob e => ?_) (fun b ob hb e => ?_) hS3⟩
 ·have hbS : b ≠ S := fun z => hSf (z ▸ hb)
  exact (Heap.get?_update_other _ _ (Ne.symm hbS)).trans ((Heap.get?_update_other _ _ (Ne.symm hbS)).trans e)
 ·exact (Heap.get?_update_other _ _ (Ne.symm hb)).trans ((Heap.get?_update_other _ _ (Ne.symm hb)).trans e)
theorem qgg {R : List Value -> Shared -> Prop} {a : Addr} {o : Obj} {ss : List Str} {es : Array (Int × Value)} {ep : Nat} {t : SetTable} (hh : A.handled = none) (ho : s.heap.get? a = some o) (x : qau w o ss es ep t)
  (h : ∀ (s' : Shared) (acc : List Value) ss', s'.os = s.os -> s'.gens = s.gens -> (∀ b o, s.heap.get? b = some o -> s'.heap.get? b = some o) -> StrsAre acc ss' -> ss'.Perm ss -> R acc s') :
  wpAny (model prog w) A (collect (.ref a)) R E s := by
 unfold collect
 refine wpAny_bind (wpAny_runValue (codeAny_builtin entry_proto_collect' ?_))
 rw [Around.under_plainId PySem.F.plain_proto_collect _]
 show wpAny _ A.in1 (newList [] >>= fun l => again (.builtin "list.__iadd__" ⟨[l, .ref a], []⟩)) _ _ s
 refine wpAny_bind (wpAny_newObj_type ?_)
 refine wpAny_pure ⟨plainId_quiet PySem.F.plain_list_iadd _, codeAny_builtin entry_list_iadd' ?_⟩
 rw [Around.under_plainId PySem.F.plain_list_iadd _]
 have hS1 : (s.heap.push { cls := .type "list", data := .seq ([] : List Value).toArray }).get? s.heap.objs.size = some { cls := .type "list", data := .seq #[] } := Heap.get?_push_size _ rfl
 have hla : s.heap.objs.size ≠ a := Nat.ne_of_gt (Heap.lt_size ho)
 show wpAny _ A.in1 (Builtin.List.listExtendWith (.ref s.heap.objs.size) (.ref a) (.ref s.heap.objs.size)) _ _ _
 have key := qh0 (prog := prog) (A := A) (s := { s with heap := s.heap.push { cls := .type "list", data := .seq ([] : List Value).toArray } })
  (R := fun (q : Result) (s' : Shared) => ∃ (acc : Array Value) (c' : Nat) (ss' : List Str), q = .ok (.ret (.ref s.heap.objs.size)) /\ s'.os = s.os /\ s'.gens = s.gens /\
   (∀ b o, s.heap.get? b = some o -> s'.heap.get? b = some o) /\ s'.heap.get? s.heap.objs.size = some { cls := .type "list", dict := none, data := .seq acc c', slots := #[] } /\ StrsAre acc.toList ss' /\ ss'.Perm ss)
  hh (Heap.get?_push_of_some _ ho) x (.ref s.heap.objs.size) 0 hla hS1
  (fun s' acc c' ss' z1 z2 z3 z4 z5 z6 => ⟨acc, c', ss', rfl, z1, z2, fun b ob e => z3 b ob (Nat.ne_of_lt (Heap.lt_size e)) (Heap.get?_push_of_some _ e), z4, z5, z6⟩)
 refine wpAny_mono key (fun fin s' y => ?_) fun e s' y => ?_
 ·cases fin with
  | done f =>
   obtain ⟨acc, c', ss', e, z1, z2, z3, z4, z5, z6⟩ := y
   cases e
   show wpAny _ A (load s.heap.objs.size >>= _) _ _ _
   exact wpAny_bind (wpAny_load z4 (wpAny_pure (h s' acc.toList ss' z1 z2 z3 z5 z6)))
  | again c₁ =>
   refine ⟨y.1, codeAny_mono y.2 fun q s₂ y => ?_⟩
   obtain ⟨acc, c', ss', rfl, z1, z2, z3, z4, z5, z6⟩ := y
   show wpAny _ A (load s.heap.objs.size >>= _) _ _ _
   exact wpAny_bind (wpAny_load z4 (wpAny_pure (h s₂ acc.toList ss' z1 z2 z3 z5 z6)))
 ·obtain ⟨_, _, _, e', _⟩ := y
  cases e'
end
noncomputable def qhw (w : World) (a : Addr) (ss : List Str) : HO := .ext fun h => ∃ o es ep t, h.get? a = some o /\ qau w o ss es ep t
section
variable {X : Cx}
theorem ql7 {P : Program} {w : World} {H : Hp} {h : Heap} {a : Addr} {ss : List Str} {o : Obj} {es : Array (Int × Value)} {ep : Nat} {t : SetTable} (ho : h.get? a = some o) (x : qau w o ss es ep t) : qa1 P w H h a (qhw w a ss) :=
 ⟨⟨o, es, ep, t, ho, x⟩, ⟨o, ho⟩, fun h1 h2 ⟨o, es, ep, t, q, y⟩ k => ⟨o, es, ep, t, k o q, y⟩⟩
theorem Inv.draw {pins : List (Addr × Obj)} {σ : List (Option V)} {H : Hp} {s s' : Shared} (I : Inv X pins σ H s) (h1 : s'.os = s.os) (h2 : s'.gens = s.gens) (h3 : s'.heap = s.heap) : Inv X pins σ H s' := by
 obtain ⟨a1, a2, a3, a4, a5, a6, a7, a8, a9, a10, a11⟩ := I
 exact ⟨a1, h1.trans a2, by rw [h2]; exact a3, by rw [h3]; exact a4, by rw [h3]; exact a5, by rw [h3]; exact a6, a7, a8, by rw [h3]; exact a9, by rw [h3]; exact a10, a11⟩
theorem qlx (hc : X.calm = true) : qb7 X (.type "set") (fun xs H Q => ∃ (p : Addr) (ss : List Str), xs = [.ref p] /\ SqT X.K H p (ss.map V.str) /\ ss.length < 3000 /\
  ∀ (a : Addr), H a = none -> Q (.ref a) (upd H a (qhw X.w a (qdu ss.reverse)))) := by
 intro pins s σ H xs us Q I r h
 obtain ⟨p, ss, rfl, hq, h3, q⟩ := h
 obtain ⟨u, rfl, rx⟩ := vals1 r
 cases rx
 obtain ⟨its, r', hp, hz⟩ := I.tuple hq
 refine qfo (I.ok.hd hc) hp r' (by omega) fun h' tk o' es' ep' t' kp ho x => ?_
 exact ⟨.ref s.heap.objs.size, _, I.laid (h' := h') (t' := tk) (o := qhw X.w s.heap.objs.size (qdu ss.reverse)) kp (Nat.le_refl _) (ql7 ho x), rfl, q _ (I.hok.fresh (Nat.le_refl _))⟩
theorem qkt (hc : X.calm = true) : qb7 X (.type "set") (fun xs H Q => ∃ (p : Addr) (ss : List Str), xs = [.ref p] /\ SqL X.K H p (ss.map V.str) /\ ss.length < 3000 /\
  ∀ (a : Addr), H a = none -> Q (.ref a) (upd H a (qhw X.w a (qdu ss.reverse)))) := by
 intro pins s σ H xs us Q I r h
 obtain ⟨p, ss, rfl, hq, h3, q⟩ := h
 obtain ⟨u, rfl, rx⟩ := vals1 r
 cases rx
 obtain ⟨its, r', hp, hz⟩ := I.list hq
 refine qgo (I.ok.hd hc) hp.isList r' (by omega) fun h' tk o' es' ep' t' kp ho x => ?_
 exact ⟨.ref s.heap.objs.size, _, I.laid (h' := h') (t' := tk) (o := qhw X.w s.heap.objs.size (qdu ss.reverse)) kp (Nat.le_refl _) (ql7 ho x), rfl, q _ (I.hok.fresh (Nat.le_refl _))⟩
theorem qol : qb7 X (.builtin "len") (fun xs H Q => ∃ (a : Addr) (ss : List Str), xs = [.ref a] /\ H a = some (qhw X.w a ss) /\ Q (.int ss.length) H) := by
 intro pins s σ H xs us Q I r h
 obtain ⟨a, ss, rfl, ha, q⟩ := h
 obtain ⟨u, rfl, rx⟩ := vals1 r
 cases rx
 obtain ⟨⟨o, es, ep, t, ho, x⟩, _, _⟩ := I.hok a _ ha
 have hf := x.few
 have hz := x.size
 refine call_len_set ho ⟨x.cls, x.dic, x.slo⟩ x.dat x.fit (by omega) ?_
 rw [hz]
 exact ⟨.int ss.length, H, I.tok _, ⟨_, rfl⟩, q⟩
theorem qfr (hc : X.calm = true) : qb7 X (.builtin "sorted") (fun xs H Q => ∃ (a : Addr) (ss : List Str), xs = [.ref a] /\ H a = some (qhw X.w a ss) /\ ss.length < 64 /\
  ∀ (ss' : List Str) (q : Addr), ss'.Perm ss -> sortedS ss' = true -> H q = none -> Q (.ref q) (upd H q (.lst (ss'.map V.str)))) := by
 intro pins s σ H xs us Q I r h
 obtain ⟨a, ss, rfl, ha, h64, q⟩ := h
 obtain ⟨u, rfl, rx⟩ := vals1 r
 cases rx
 obtain ⟨⟨o, es, ep, t, ho, x⟩, _, _⟩ := I.hok a _ ha
 refine call_function_entry kind_sorted plain_sorted entry_sorted (args_sorted1 _) ?_
 unfold Builtin.«sorted»
 refine wpAny_bind (m := checkCount "sorted" 1 1 _) (wpAny_pure ?_)
 refine wpAny_bind (qgg (A := X.A.in1) (I.ok.hd hc) ho x fun s1 acc ss1 z1 z2 kp hS hpm => ?_)
 have hl1 : acc.length = ss.length := by rw [StrsAre.length hS]; exact hpm.length_eq
 refine wpAny_bind (wpAny_newList ?_ (by rw [hl1, sizeLine_eq]; omega))
 have hoL : (s1.heap.push (seqObj "list" acc.toArray 0)).get? s1.heap.objs.size = some (seqObj "list" acc.toArray 0) := Heap.get?_push_size _ rfl
 show wpAny _ _ _ _ _ { s1 with heap := s1.heap.push (seqObj "list" acc.toArray 0) }
 refine wpAny_bind (wpAny_holding (wpAny_call_entry slot_list_sort ⟨_, hoL, rfl⟩ entry_list_sort (list_sort_treeK (s := { s1 with heap := s1.heap.push (seqObj "list" acc.toArray 0) }) strKind_oneLt hoL hS.keysOf (fun v₁ v₂ rest e => keyKind_strs (by rw [<- e]; exact hS)) (by rw [hl1]; omega) fun st' a1 a2 => ⟨_, rfl, ?_⟩) (args_list_sort _)))
 obtain ⟨ss', h1, h2, h3⟩ := sorted_out_str hS a1 a2
 refine wpAny_pure ⟨_, rfl, ?_⟩
 obtain ⟨e, he⟩ := sortedHeap_at (h := s1.heap.push (seqObj "list" acc.toArray 0)) (out := (arrOf st').map (·.2)) hoL
 have hnone : s.heap.get? s1.heap.objs.size = none := by
  cases e0 : s.heap.get? s1.heap.objs.size with
  | none => rfl
  | some o => exact absurd (Heap.lt_size (kp _ _ e0)) (Nat.lt_irrefl _)
 have hold : ∀ b o, s.heap.get? b = some o -> (sortedHeap (s1.heap.push (seqObj "list" acc.toArray 0)) s1.heap.objs.size acc ((arrOf st').map (·.2))).get? b = some o := fun b o eb => by
  have l1 := Heap.lt_size (kp b o eb)
  rw [sortedHeap_old (Nat.ne_of_lt l1) (by rw [size_push']; exact Nat.lt_succ_of_lt l1)]
  exact Heap.get?_push_of_some _ (kp b o eb)
 have hfr : H s1.heap.objs.size = none := I.hok.freeN hnone
 have hv' : qba (ss'.map V.str) ((arrOf st').map (·.2)).toList := qe6 h1
 have I2 := I.laidN (h' := sortedHeap (s1.heap.push (seqObj "list" acc.toArray 0)) s1.heap.objs.size acc ((arrOf st').map (·.2))) (t' := s1.toks) (o := .lst (ss'.map V.str)) hold hnone ⟨(by rw [List.length_map, (h2.trans hpm).length_eq, sizeLine_eq]; omega), ((arrOf st').map (·.2)).toList, e, hv', (by rw [Array.toArray_toList]; exact he)⟩
 exact ⟨.ref s1.heap.objs.size, _, I2.draw z1 z2 rfl, rfl, q ss' _ (h2.trans hpm) h3 hfr⟩
end
section
variable {X : Cx} {tg : Expr}
end
end L2
namespace L2
open PySem
section
variable {X : Cx} {scope : Scope} {N : List Str} {ix : List (Option Nat)}
variable {tg iter kx vx : Expr} {ifs : List Expr} {pos : Pos} {g : TG} {tt : TT} {tk tv : TE}
noncomputable def tDc (wi : TI) (g : TG) (tt : TT) (tk tv : TE) (ix : List (Option Nat)) : TE := fun σ H Q => wi σ H fun J H1 => ∀ D, H1 D = none -> DcW D J g tt tk tv (emb ix σ) (fun H' => Q (.ref D) H') (upd H1 D (.dT []))
theorem qv8 {wi : TI} (hu : X.A.units < cLine) (L : qf3 X scope N ix) (hc : X.calm = true) (hi : PI X tg iter wi) (hg : ∀ C s0 H0 fp, PG (qcd X scope N C s0 H0 fp) tg g)
  (ht : ∀ C s0 H0 fp, PTs (qcd X scope N C s0 H0 fp) ifs tt) (hk : ∀ C s0 H0 fp, PE (qcd X scope N C s0 H0 fp) kx tk) (hv : ∀ C s0 H0 fp, PE (qcd X scope N C s0 H0 fp) vx tv) (hs : ∀ x, foldedSetIterable iter X.env x = pure x := by intro _; rfl) :
  PE X (.DictComp kx vx [⟨tg, iter, ifs, 0⟩] scope pos) (tDc wi g tt tk tv ix) := by
 intro pins s σ H Q I h
 show wpAny _ X.A (comprehension (.DictComp kx vx [⟨tg, iter, ifs, 0⟩] scope pos) scope X.env _ newDict false (eval iter X.env)) _ _ s
 refine wpAny_comprehension_free (use := none) rfl hs (L.clos I.ok) L.kind L.locals (thn (hi pins s σ H _ I h) fun v s1 h1 => thn h1 fun itv s2 h2 => ?_)
 obtain ⟨it, fp, tn, J, H2, rfl, I2, T, st2, f2, hW⟩ := h2
 refine qqr (RR := fun acc C => compPost (model X.prog X.w) X.A X.xe none (EP X pins σ Q) acc C) L hc hu hg ht hk hv I2 T st2 f2 hW ?_
 intro D C s' m H' hn ho hC hI fin
 exact ⟨m, hn, fun h' hs' => ⟨.ref D, _, hI h' hs', rfl, fin⟩⟩
theorem Inv.thaw {pins : List (Addr × Obj)} {σ : St} {H : Hp} {s : Shared} {a : Addr} {o : Obj} {u : HO} (I : Inv X pins σ H s) (e : H a = some (.frz o u)) (h0 : ∀ o u, X.H₀ a ≠ some (.frz o u)) (hx : ∀ xs, u ≠ .tup xs) (hy : ∀ y, u ≠ .own y) : Inv X pins σ (upd H a u) s := by
 have ne : ∀ b v, H b = some v -> (∀ o u, v ≠ .frz o u) -> b ≠ a := fun b v q n z => by
  rw [z, e] at q
  cases q
  exact n _ _ rfl
 have st : ∀ {b : Addr} {v : HO}, qa1 X.prog X.w H s.heap b v -> qa1 X.prog X.w (upd H a u) s.heap b v := fun x => x.stay (fun _ _ _ q => q) (fun b q => by rw [qag (ne b _ q (by intro k l z; cases z))]; exact q) fun b xs q => by rw [qag (ne b _ q (by intro k l z; cases z))]; exact q
 have hok : HOk X.prog X.w (upd H a u) s.heap := fun b v q => by
  by_cases hb : b = a
  ·subst hb
   rw [qab] at q
   cases q
   exact st (I.hok b _ e).2
  ·rw [qag hb] at q
   exact st (I.hok b v q)
 have fr : ∀ b, H b = none -> upd H a u b = none := fun b n => by rw [qag (fun z => by rw [z, e] at n; cases n)]; exact n
 exact ⟨I.ok, I.os, I.bare, ⟨I.base.keep, I.base.slot, fun b o q n hx => fr b (I.base.free b o q n hx), I.base.there,
  fun b xs q => by rw [qag (ne b _ (I.base.tups b xs q) (by intro k l z; cases z))]; exact I.base.tups b xs q,
  fun b o' v q => by rw [qag (fun z => h0 o' v (by rw [<- z]; exact q))]; exact I.base.frzs b o' v q,
  fun b ps q => by
   obtain ⟨m, e'⟩ := I.base.tbls b ps q
   exact ⟨m, by rw [qag (ne b _ e' (by intro k l z; cases z))]; exact e'⟩⟩, I.loc, I.cell, fr _ I.free, fun x c q => fr c (I.freeC x c q), fun p hp => by
  obtain ⟨a1, a2, a3⟩ := I.pin p hp
  exact ⟨a1, fr _ a2, a3⟩, hok, I.len⟩
end
noncomputable def iOr (t u : TI) : TI := fun σ H R => t σ H R \/ u σ H R
theorem qp4 {X : Cx} {tg l : Expr} {t u : TI} (h1 : PI X tg l t) (h2 : PI X tg l u) : PI X tg l (iOr t u) := fun pins s σ H R I h =>
 h.elim (h1 pins s σ H R I) (h2 pins s σ H R I)
theorem qgd {K : PySem.W.Frag} {tl : TE} {g : TG} {tb : TS} {D : Ends} {σ : St} {H Hb : Hp} {a : Addr} {xs : List V} (htl : ∀ Q : VK, Q (.ref a) H -> tl σ H Q) (hb : Hb a = some (.lst xs) \/ Hb a = some (.tup xs)) (s0 : qar Hb H) (Pv : Nat -> St -> Hp -> Prop) (h0 : Pv 0 σ H) (hl : ∀ i σ' H', i <= xs.length -> Pv i σ' H' -> qar Hb H')
  (hs : ∀ i x σ H, xs[i]? = some x -> Pv i σ H -> g x σ H fun σ2 H2 => tb { D with nx := Pv (i + 1), ct := Pv (i + 1), bk := D.nx } σ2 H2) (hd : ∀ σ H, Pv xs.length σ H -> D.nx σ H) : qwv (iOr (qsr K tl) (qwu K tl)) g tb D σ H := by
 rcases hb with hb | hb
 ·exact .inl (htl _ ⟨a, rfl, ⟨xs, SqL.of (s0 _ _ hb)⟩, qdn Pv h0 (fun i σ H' hi p => SqL.of (hl i σ H' hi p _ _ hb)) hs hd⟩)
 ·exact .inr (htl _ ⟨a, rfl, ⟨xs, SqT.of (s0 _ _ hb)⟩, qs9 Pv h0 (fun i σ H' hi p => SqT.of (hl i σ H' hi p _ _ hb)) hs hd⟩)
theorem qo2 {g : TG} {tt : TT} {te : TE} {σ' : St} {fin : List V -> Hp -> Prop} {H1 : Hp} {a : Addr} {o : Obj} {kvs : List (List Key × V)} (hn : kvs.length < sizeLine) (Pv : Nat -> List V -> St -> Hp -> Prop) (h0 : Pv 0 [] σ' H1) (hl : ∀ i ys σ H, i <= kvs.length -> Pv i ys σ H -> ys.length <= i /\ H a = some (.frz o (.dT kvs)))
  (hs : ∀ i p b ys σ H, kvs[i]? = some p -> H b = some (.tup (p.1.map kV)) -> Pv i ys σ H -> g (.ref b) σ H fun σ2 H2 => tt σ2 H2 fun b H3 => if b = true then te σ2 H3 (fun v H4 => Pv (i + 1) (ys ++ [v]) σ2 H4) else Pv (i + 1) ys σ2 H3) (hd : ∀ ys σ H, Pv kvs.length ys σ H -> fin ys H) :
  LcW (Itd a o) g tt te σ' fin H1 := by
 refine ⟨fun i m ys σ H => m = kvs.length - i /\ i <= kvs.length /\ Pv i ys σ H, ⟨kvs.length, by simp, Nat.zero_le _, h0⟩, ?_⟩
 rintro i m ys σ H ⟨rfl, hi, p⟩
 obtain ⟨q0, q1⟩ := hl i ys σ H hi p
 by_cases h : i < kvs.length
 ·refine .inr ⟨⟨kvs, q1, h⟩, by omega, fun ys' σ2 H2 => Pv (i + 1) ys' σ2 H2, fun ys' σ2 H2 q => ⟨kvs.length - (i + 1), by omega, rfl, h, q⟩, fun v H' y => ?_⟩
  obtain ⟨rfl, y⟩ := y
  obtain ⟨p', b, e1, rfl, e2⟩ := y kvs q1
  exact hs i p' b ys σ H' e1 e2 p
 ·have e : i = kvs.length := by omega
  subst e
  exact .inl ⟨⟨kvs, q1, Nat.le_refl _⟩, by omega, hd ys σ H p⟩
theorem qov {a : Addr} {o : Obj} {kvs : List (List Key × V)} {g : TG} {tb : TS} {D : Ends} {σ : St} {H : Hp} (Pv : Nat -> St -> Hp -> Prop) (h0 : Pv 0 σ H) (hl : ∀ i σ H, i <= kvs.length -> Pv i σ H -> H a = some (.frz o (.dT kvs)))
  (hs : ∀ i p b σ H, kvs[i]? = some p -> H b = some (.tup (p.1.map kV)) -> Pv i σ H -> g (.ref b) σ H fun σ2 H2 => tb { D with nx := Pv (i + 1), ct := Pv (i + 1), bk := D.nx } σ2 H2) (hd : ∀ σ H, Pv kvs.length σ H -> D.nx σ H) :
  ∃ W : Nat -> Nat -> St -> Hp -> Prop, (∃ m, W 0 m σ H) /\ ∀ i m σ H, W i m σ H ->
   ((Itd a o).stop i H /\ D.nx σ H) \/ ((Itd a o).go i H /\ ∃ N : St -> Hp -> Prop, (∀ σ' H', N σ' H' -> ∃ m', m' < m /\ W (i + 1) m' σ' H') /\ ∀ x H', (Itd a o).yld i H x H' -> g x σ H' fun σ2 H2 => tb { D with nx := N, ct := N, bk := D.nx } σ2 H2) := by
 refine ⟨fun i m σ H => m = kvs.length - i /\ i <= kvs.length /\ Pv i σ H, ⟨kvs.length, by simp, Nat.zero_le _, h0⟩, ?_⟩
 rintro i m σ H ⟨rfl, hi, p⟩
 have q := hl i σ H hi p
 by_cases hlt : i < kvs.length
 ·refine .inr ⟨⟨kvs, q, hlt⟩, Pv (i + 1), fun σ' H' p' => ⟨kvs.length - (i + 1), by omega, rfl, hlt, p'⟩, fun x H' y => ?_⟩
  obtain ⟨e, y⟩ := y
  subst e
  obtain ⟨p', b, e1, rfl, e2⟩ := y kvs q
  exact hs i p' b σ _ e1 e2 p
 ·have e : i = kvs.length := by omega
  subst e
  exact .inl ⟨⟨kvs, q, Nat.le_refl _⟩, hd σ H p⟩
end L2
namespace L2
open PySem PySem.Spec PyProof.Rows PySem.W PySem.Calls
open Builtin
theorem qst (l : Addr) (items : Array Value) (n : Nat) (o : Obj) (x : Int) (u : Tok) (hc : o.cls = .type "tuple") (hd : o.data = .seq items n) (h1 : 0 <= x) (h2 : x <= 1000) (h0 : items.isEmpty = false) (hz : items.size <= 1000) :
  Meets (Builtin.«tuple.__mul__» ⟨[.ref l, .int x u], []⟩) (fun _ R s => s.heap.get? l = some o /\ (x = 1 -> R (.ok (.ret (Value.ref l))) s) /\ (x ≠ 1 -> R (.ok (.ret (Value.ref s.heap.objs.size))) { s with heap := s.heap.push { cls := Value.type "tuple", data := Data.seq (List.foldl (fun x1 x2 => x1 ++ x2) #[] (List.replicate x.toNat items)) }, toks := s.toks })) :=
 .of_wp fun prog w A R s h => by
  obtain ⟨hp, g, d, tk, os⟩ := s
  obtain ⟨hl, k1, k2⟩ := h
  have c1 : (decide (x < -(2 ^ 63)) || decide (x ≥ 2 ^ 63)) = false := by simp; omega
  have hT : (⟨hp, g, d, tk, os⟩ : Shared).TypeIs (.ref l) "tuple" := ⟨o, hl, hc⟩
  unfold Builtin.«tuple.__mul__»
  wp_walk
  rw [if_neg (by rw [c1]; exact Bool.false_ne_true)]
  have itm : ∀ {Q : Array Value -> Shared -> Prop} {E : Value -> Shared -> Prop}, Q items ⟨hp, g, d, tk, os⟩ -> wpAny (model prog w) A.in1 (Tuple.tupleItemsOf (.ref l)) Q E ⟨hp, g, d, tk, os⟩ := fun q => by
   unfold Tuple.tupleItemsOf
   refine wpAny_bind ?_
   unfold seqItems?
   refine wpAny_bind (wpAny_load hl ?_)
   rw [hd]
   exact wpAny_pure (wpAny_pure q)
  refine wpAny_bind (itm ?_)
  rw [h0]
  by_cases c : x = 1
  ·subst c
   rw [if_pos (by rfl)]
   wp_walk
   exact ⟨_, rfl, k1 rfl⟩
  ·rw [if_neg (by simpa using c)]
   by_cases c0 : x = 0
   ·subst c0
    rw [if_pos (by rfl)]
    wp_walk
    refine ⟨_, rfl, ?_⟩
    exact k2 c
   ·have hp1 : ¬ ((decide (x <= 0) || false) = true) := by simp; omega
    have hb : (items.size : Int) * x <= 1000 * 1000 := Int.mul_le_mul (by omega) h2 h1 (by decide)
    rw [if_neg hp1, if_neg (by omega), if_neg (by unfold Tuple.tupleTooMany; simp; rw [sizeLine_eq]; omega)]
    unfold Tuple.tupleExact
    refine wpAny_bind (wpAny_newObj_type ?_ ?_)
    ·exact wpAny_pure ⟨_, rfl, k2 c⟩
    ·have e := foldl_rep items.toList x.toNat []
     rw [List.nil_append] at e
     have e' : List.foldl (fun x1 x2 : Array Value => x1 ++ x2) #[] (List.replicate x.toNat items) = (List.replicate x.toNat items.toList).flatten.toArray := by
      rw [<- e]
     rw [e']
     show (List.replicate x.toNat items.toList).flatten.toArray.size <= sizeLine
     have hx : x.toNat <= 1000 := by omega
     rw [List.size_toArray, len_rep, sizeLine_eq]
     have := Nat.mul_le_mul hx (show items.toList.length <= 1000 by simpa using hz)
     omega
theorem qep : fillsNumberSlot (.type "tuple") "mul" = pure false :=
 PySem.fillsNumberSlot_seq (id := "tuple.__mul__") (r := some (.builtin "tuple.__rmul__")) F.slot_tuple_mul.lookup (by decide +kernel) F.slot_tuple_rmul.lookup (by decide +kernel)
theorem qho : seqRepeat? (.type "tuple") = pure (some (.builtin "tuple.__mul__")) := by
 unfold seqRepeat?
 have e1 := PySem.seqSlot_of (T := "tuple") (name := "__mul__") (id := "tuple.__mul__") F.slot_tuple_mul.lookup (by decide +kernel)
 have e2 := PySem.seqSlot_of (T := "tuple") (name := "__rmul__") (id := "tuple.__rmul__") F.slot_tuple_rmul.lookup (by decide +kernel)
 rw [e1, e2]; rfl
theorem qlc (a : Int) (t : Tok) (l : Addr) (o : Obj) (its : Array Value) (n : Nat) (hc : o.cls = .type "tuple") (hd : o.data = .seq its n) :
  Meets (Builtin.«int.__rmul__» ⟨[.int a t, .ref l], []⟩) (fun _ R s => s.heap.get? l = some o /\ R (.ok (.ret Value.notImplemented)) s) :=
 .of_wp fun prog w A R s h => by
  obtain ⟨hp, g, d, tk, os⟩ := s
  obtain ⟨hl, h⟩ := h
  have hT : (⟨hp, g, d, tk, os⟩ : Shared).TypeIs (.ref l) "tuple" := ⟨o, hl, hc⟩
  wp_walk
  rw [hd]
  wp_walk
  exact ⟨_, rfl, h⟩
noncomputable def qwp : R2 := fun x y H Q => ∃ l k xs, x = .ref l /\ y = .int k /\ H l = some (.tup xs) /\ xs ≠ [] /\ xs.length <= 1000 /\ 0 <= k /\ k <= 1000 /\ (k = 1 -> Q (.ref l) H) /\ (k ≠ 1 -> ∀ p, H p = none -> Q (.ref p) (upd H p (.tup (List.replicate k.toNat xs).flatten)))
theorem qsv {X : Cx} : OpR X (binaryOp .Mult) qwp := by
 intro pins s σ H x y v u Q I rx ry h
 obtain ⟨l, k, xs, rfl, rfl, hH, hne, hz, h1, h2, q1, q2⟩ := h
 cases rx
 obtain ⟨t, rfl⟩ := ry
 obtain ⟨_, its, r, o, e, hc, n, hd⟩ := (show qa1 X.prog X.w H s.heap l (.tup xs) from I.hok l _ hH)
 have hl := r.length
 have h0 : its.toArray.isEmpty = false := by
  cases its with
  | nil => cases xs with
   | nil => exact absurd rfl hne
   | cons _ _ => cases hl
  | cons _ _ => rfl
 have hnew : List.foldl (fun x1 x2 : Array Value => x1 ++ x2) #[] (List.replicate k.toNat its.toArray) = (List.replicate k.toNat its).flatten.toArray := by
  have := foldl_rep its k.toNat []
  rw [List.nil_append] at this
  exact this
 refine wpAny_binaryOp_repeat_ref (T := "tuple") (U := "int") (by decide) ⟨_, e, hc⟩ (fun s' => typeIs_int s' k t) qep F.fills_int_mul F.slot_int_rmul qho F.slot_int_index.lookup
  (call_meets F.slot_int_rmul (typeIs_int s k t) F.entry_int_rmul (F.args_int_rmul_2 _ _) (qlc k t l o _ n hc hd)
   ⟨e, rfl, ⟨_, e, hc⟩, call_meets F.slot_tuple_mul ⟨_, e, hc⟩ F.entry_tuple_mul (F.args_tuple_mul_2 _ _) (qst l its.toArray n o k t hc hd h1 h2 h0 (by rw [List.size_toArray]; omega)) ⟨e, fun c => ?_, fun c => ?_⟩⟩)
 ·exact ⟨.ref l, H, I, rfl, q1 c⟩
 ·rw [hnew]
  have hb : (List.replicate k.toNat xs).flatten.length <= sizeLine := by
   have hx : k.toNat <= 1000 := by omega
   rw [len_rep, sizeLine_eq]
   have := Nat.mul_le_mul hx hz
   omega
  refine ⟨.ref s.heap.objs.size, _, I.laid (a := s.heap.objs.size) (o := .tup (List.replicate k.toNat xs).flatten) (t' := s.toks) (fun b u q => Heap.get?_push_of_some _ q) (Nat.le_refl _) ⟨hb, _, r.rep k.toNat, ?_⟩, rfl, q2 c _ (I.hok.fresh (Nat.le_refl _))⟩
  exact ⟨_, Heap.get?_push_size _ rfl, rfl, 0, rfl⟩
noncomputable def qwa : R2 := fun x y H Q => ∃ l k xs, x = .ref l /\ y = .int k /\ H l = some (.tup xs) /\ xs ≠ [] /\ xs.length <= 1000 /\ 0 <= k /\ k <= 1000 /\ ∀ p H', qar H H' -> H' p = some (.tup (List.replicate k.toNat xs).flatten) -> Q (.ref p) H'
theorem qs4 {X : Cx} : OpR X (binaryOp .Mult) qwa := by
 intro pins s σ H x y v u Q I rx ry h
 obtain ⟨l, k, xs, h1, h2, hH, hne, hz, h3, h4, q⟩ := h
 refine qsv pins s σ H x y v u Q I rx ry ⟨l, k, xs, h1, h2, hH, hne, hz, h3, h4, fun c => q l H (qar.refl H) ?_, fun c p hp => q p _ (fun b o e => by rw [qag (qaf e hp)]; exact e) qab⟩
 subst c
 rw [hH]
 simp
end L2
namespace L2
open PySem PySem.Spec PyProof.Rows
open AutoSeq1 (wpAny_loadPart')
section
variable {prog : Program} {w : World} {A : Around} {E : Value -> Shared -> Prop} {s : Shared}
theorem qq1 (hh : A.handled = none) (it t : Addr) (ne : t ≠ it) (its : Array Value) : Draws prog w A it [it, t] its.size (fun i v => its[i]? = some v) (fun i h => h.IsTupleIter it t i /\ h.IsTuple t its) where
 live := fun _ _ st => let ⟨o, ho, _⟩ := st.1; ⟨o, ho⟩
 frame := fun _ _ _ st k => ⟨st.1.at fun o e => k it (by simp) o e, st.2.at fun o e => k t (by simp) o e⟩
 item := fun i s Q E hi st q => qsm st.1 st.2 (v := its[i]) (by simp [hi]) fun G j b => q _ G s.toks (by simp [hi]) ⟨j, st.2.extBut b.extBut ne⟩ b
 done := fun s Q E st k => qth hh st.1 st.2 (by simp) k
theorem qot (t : Addr) (its : Array Value) : Meets (Builtin.«enumerate.__new__» ⟨[.type "enumerate", .ref t], []⟩) (fun _ R s => s.heap.IsTuple t its /\
   R (.ok (.ret (.ref (s.heap.push { cls := .type "tuple_iterator", data := .fields #[.ref t, .int 0 0] }).objs.size)))
    { s with heap := (s.heap.push { cls := .type "tuple_iterator", data := .fields #[.ref t, .int 0 0] }).push { cls := .type "enumerate", data := .fields #[.none, .bool false, .ref s.heap.objs.size, rawInt 0, .none, .none] } }) :=
 .of_wp fun prog w A R s h => by
  obtain ⟨hp, g, d, tk, os⟩ := s; obtain ⟨hT, h⟩ := h
  have sb := sub_enumerate; obtain ⟨o, ho, _⟩ := id hT
  wp_walk using wpAny_loadPart' ho
  refine wpAny_stack_any fun st => wpAny_pure ?_
  split
  ·rename_i c _ _ _ _ _
   cases (c == Value.type "enumerate") <;> (wp_walk using wpAny_loadPart' ho, wpAny_pyIter_tuple hT; exact ⟨_, rfl, h⟩)
  ·wp_walk using wpAny_loadPart' ho, wpAny_pyIter_tuple hT; exact ⟨_, rfl, h⟩
theorem qss {t : Addr} {its : Array Value} {Q : Value -> Shared -> Prop} (hT : s.heap.IsTuple t its)
  (q : ∀ G, IsEnum G (s.heap.objs.size + 1) s.heap.objs.size 0 .none -> G.IsTupleIter s.heap.objs.size t 0 -> (∀ c o, s.heap.get? c = some o -> G.get? c = some o) -> Q (.ref (s.heap.objs.size + 1)) { s with heap := G }) :
  wpAny (model prog w) A (call (.type "enumerate") [.ref t]) Q E s := by
 refine callType_new F.called_enumerate (by decide) (F.typeCall_enumerate_1 _) (F.newCall_enumerate_1 _) (fun obj => F.args_object_init_2 obj _) F.entry_enumerate_new (qot t its) ⟨hT, ?_⟩
 have z : (s.heap.push { cls := .type "tuple_iterator", data := .fields #[.ref t, .int 0 0] }).objs.size = s.heap.objs.size + 1 := Heap.size_push ..
 have g2 := Heap.get?_push_size (s.heap.push { cls := .type "tuple_iterator", data := .fields #[.ref t, .int 0 0] }) (o := { cls := .type "enumerate", data := .fields #[.none, .bool false, .ref s.heap.objs.size, rawInt 0, .none, .none] }) rfl
 show _ /\ _
 rw [z] at g2 ⊢
 exact ⟨⟨_, g2, rfl⟩, q _ g2 ⟨_, Heap.get?_push_of_some _ (Heap.get?_push_size _ rfl), rfl, rfl⟩ fun c o e => Heap.get?_push_of_some _ (Heap.get?_push_of_some _ e)⟩
end
noncomputable def ItT (K : PySem.W.Frag) (a : Addr) : It :=
 ⟨fun i H => ∃ xs x, SqT K H a xs /\ xs[i]? = some x,
  fun i H v H' => ∃ T x, v = .ref T /\ H T = none /\ H' = upd H T (.tup [.int i, x]) /\ ∀ xs, SqT K H a xs -> xs[i]? = some x,
  fun i H => ∃ xs, SqT K H a xs /\ xs.length = i⟩
noncomputable def qyl (e it l : Addr) (i : Nat) (h : Heap) : Prop := (∃ old, IsEnum h e it i old) /\ h.IsTupleIter it l i
theorem qr0 {P : Program} {w : World} {K : PySem.W.Frag} {elts : List Expr} {x1} {pos : Pos} (e it l : Addr) (hei : e ≠ it) (hle : l ≠ e) (hli : l ≠ it) :
  Turn P w K (.Tuple elts x1 pos) (ItT K l) [e, it] e (qyl e it l) where
 mem := by simp
 obj := fun i h st b hb => by
  obtain ⟨⟨old, he⟩, ⟨o1, e1, c1, d1⟩⟩ := st
  simp only [List.mem_cons, List.not_mem_nil, or_false] at hb
  rcases hb with rfl | rfl
  ·exact ⟨_, he, fun v q => by cases q⟩
  ·exact ⟨_, e1, fun v q => by rw [d1] at q; cases q⟩
 keep := fun i h h' st k => by
  obtain ⟨⟨old, he⟩, h1⟩ := st
  exact ⟨⟨old, k e (by simp) _ he⟩, h1.at fun o q => k it (by simp) o q⟩
 item := by
  intro X hP hw hK hc i pins s σ H E I hf st hg
  subst hP hw hK
  obtain ⟨xs, x, hq1, hx⟩ := hg
  obtain ⟨⟨old, he⟩, h1⟩ := id st
  obtain ⟨its1, rv1, p1, hz1⟩ := I.tuple hq1
  obtain ⟨u1, hu1, ru1⟩ := rv1.get hx
  have hlt : i < its1.toArray.size := by
   have := (List.getElem?_eq_some_iff.mp hu1).1
   simpa using this
  refine wpAny_pyNext_enum_itemD (qq1 (A := X.A.in1) (I.ok.hd hc) it l hli its1.toArray) he ⟨h1, p1⟩ hlt hei (by simp [hei, hle.symm]) fun x' h' tk hx' a1 a2 a3 a4 a5 => ?_
  have ex : x' = u1 := by
   have : its1.toArray[i]? = some u1 := by simpa using hu1
   exact Option.some.inj (hx'.symm.trans this)
  subst ex
  refine ⟨_, rfl, wpAny_letOwnedTupleGo_enum (s := { s with heap := h', toks := tk + 1 }) a1 fun h'' z2 sb => ?_⟩
  have sb' := sb.extBut
  generalize hT : s.heap.objs.size = T at *
  have lt : ∀ {b : Addr} {o : Obj}, s.heap.get? b = some o -> b ≠ T := fun {b o} e => by rw [<- hT]; exact Nat.ne_of_lt (Heap.lt_size e)
  have fresh : H T = none := by rw [<- hT]; exact I.hok.fresh (Nat.le_refl _)
  have hne : ∀ b ∈ [e, it], b ≠ T := fun b hb => by
   obtain ⟨o1, e1, _⟩ := h1
   simp only [List.mem_cons, List.not_mem_nil, or_false] at hb
   rcases hb with rfl | rfl
   ·exact lt he
   ·exact lt e1
  have I0 : Inv X pins σ (upd H T (.tup [.int i, x])) { s with heap := s.heap.push { cls := .type "tuple", data := .seq #[.int i tk, x'] }, toks := s.toks } := by
   subst hT
   exact I.laid (t' := s.toks) (fun b o q => Heap.get?_push_of_some _ q) (Nat.le_refl _) ⟨by show 2 <= sizeLine; decide, [.int i tk, x'], .cons ⟨_, rfl⟩ (.cons ru1 .nil), _, Heap.get?_push_size _ rfl, rfl, 0, rfl⟩
  have up : ∀ b o, b ∉ [e, it] -> (s.heap.push { cls := .type "tuple", data := .seq #[.int i tk, x'] }).get? b = some o -> h''.get? b = some o := fun b o hb q => by
   simp only [List.mem_cons, List.not_mem_nil, or_false, not_or] at hb
   rcases Heap.get?_push_cases q with ⟨e1, e2⟩ | e1
   ·subst e2
    rw [e1, hT]
    exact sb' _ _ (hne e (by simp)).symm a3
   ·exact sb' _ _ hb.1 (a5 b o hb.1 hb.2 e1)
  have I2 : Inv X pins σ (upd H T (.tup [.int i, x])) { s with heap := h'', toks := tk + 1 } := Inv.turnedS (s := { s with heap := s.heap.push { cls := .type "tuple", data := .seq #[.int i tk, x'] }, toks := s.toks }) (t' := tk + 1) (ch := [e, it]) I0 up fun b hb => by
   obtain ⟨f0, f1⟩ := hf b hb
   exact ⟨by rw [qag (hne b hb)]; exact f0, f1⟩
  exact ⟨.ref T, upd H T (.tup [.int i, x]), I2, rfl, ⟨T, x, rfl, fresh, rfl, fun ws hw => by rw [I.tuple_inj hw hq1]; exact hx⟩,
   ⟨⟨_, by simpa using z2⟩, a2.1.at fun o q => sb' _ _ hei.symm q⟩, fun b hb => by rw [qag (hne b hb)]; exact (hf b hb).1⟩
 done := by
  intro X hP hw hK hc i pins s σ H E I hf st hg
  subst hP hw hK
  obtain ⟨xs, hq1, hx⟩ := hg
  obtain ⟨⟨old, he⟩, h1⟩ := id st
  obtain ⟨its1, rv1, p1, hz1⟩ := I.tuple hq1
  have hl1 := rv1.length
  have en : i = its1.toArray.size := by simp; omega
  subst en
  refine wpAny_pyNext_enum_endD (qq1 (A := X.A.in1) (I.ok.hd hc) it l hli its1.toArray) he ⟨h1, p1⟩ fun h' hk => ⟨rfl, I.turnedS (t' := s.toks) (ch := [e, it]) (fun b o hb q => ?_) hf⟩
  simp only [List.mem_cons, List.not_mem_nil, or_false, not_or] at hb
  exact hk b o hb.2 q
 self := fun _ _ _ _ _ st h => by obtain ⟨⟨old, he⟩, _⟩ := st; exact wpAny_pyIter_enum he h
section
variable {X : Cx}
noncomputable def qx3 (K : PySem.W.Frag) (ta : TA) : TI := fun σ H R => ta σ H fun vs H1 => ∃ a xs, vs = [.ref a] /\ SqT K H1 a xs /\ R (ItT K a) H1
theorem qt1 {a : Expr} {elts : List Expr} {x1} {tpos : Pos} {ta : TA} {p pos : Pos} (hg : Gl X "enumerate") (hm : X.mg "enumerate" = none) (ha : PA X [a] ta) (hs : starEach [a] X.env = [(false, eval a X.env)] := by rfl) :
  PI X (.Tuple elts x1 tpos) (.Call (.Name "enumerate" p) [a] [] pos) (qx3 X.K ta) := by
 intro pins s σ H R I h
 refine Call_ (qfk I hg hm qon (PyProof.Rows.callWith_type1 (thn (ha pos pins s σ H _ I h) fun us s1 ⟨vs, H1, I1, r1, q1⟩ => ?_) (by rw [hs]; rfl) rfl))
 obtain ⟨a', xs, rfl, hq1, q⟩ := q1
 obtain ⟨u1, rfl, ra⟩ := vals1 r1
 cases ra
 obtain ⟨its1, rv1, p1, hz1⟩ := I1.tuple hq1
 have hlt : a' < s1.heap.objs.size := by obtain ⟨o, ho, _⟩ := id p1; exact Heap.lt_size ho
 refine qss p1 fun G he hit hk => wpAny_pyIter_enum he ?_
 refine ⟨s1.heap.objs.size + 1, [s1.heap.objs.size + 1, s1.heap.objs.size], _, _, H1, rfl, I1.kept (t' := s1.toks) hk, qr0 _ _ _ (Nat.succ_ne_self _) (Nat.ne_of_lt (Nat.lt_succ_of_lt hlt)) (Nat.ne_of_lt hlt), ⟨⟨_, he⟩, hit⟩, fun b hb => ?_, q⟩
 have hle : s1.heap.objs.size <= b := by
  simp only [List.mem_cons, List.not_mem_nil, or_false] at hb
  rcases hb with rfl | rfl
  ·exact Nat.le_add_right _ _
  ·exact Nat.le_refl _
 exact I1.fpOk hle (I1.hok.fresh hle)
end
end L2
namespace L2
open PySem
noncomputable def qvs (H0 : Hp) (t : TS) : TS := fun D σ H => t { D with nx := fun σ' H' => ∃ a o kvs, H' a = some (.frz o (.dT kvs)) /\ (∀ o u, H0 a ≠ some (.frz o u)) /\ D.nx σ' (upd H' a (.dT kvs)) } σ H
theorem qsf {X : Cx} {st : Stmt} {t : TS} (h : PS X st t) : PS X st (qvs X.H₀ t) := fun pins s σ H D I q => thn (h pins s σ H _ I q) fun f s1 p => by
 cases f with
 | next =>
  obtain ⟨σ', H', I', a, o, kvs, e, h0, d⟩ := p
  exact ⟨σ', _, I'.thaw e h0 (fun _ z => by cases z) (fun _ z => by cases z), d⟩
 | _ => exact p
theorem qre {K : PySem.W.Frag} {a : Addr} {xs : List V} {g : TG} {tb : TS} {D : Ends} {σ : St} {H : Hp} (Pv : Nat -> St -> Hp -> Prop) (h0 : Pv 0 σ H) (hl : ∀ i σ H, i <= xs.length -> Pv i σ H -> SqT K H a xs)
  (hs : ∀ i x σ H T, xs[i]? = some x -> Pv i σ H -> H T = none -> g (.ref T) σ (upd H T (.tup [.int i, x])) fun σ2 H2 => tb { D with nx := Pv (i + 1), ct := Pv (i + 1), bk := D.nx } σ2 H2) (hd : ∀ σ H, Pv xs.length σ H -> D.nx σ H) :
  ∃ W : Nat -> Nat -> St -> Hp -> Prop, (∃ m, W 0 m σ H) /\ ∀ i m σ H, W i m σ H ->
   ((ItT K a).stop i H /\ D.nx σ H) \/ ((ItT K a).go i H /\ ∃ N : St -> Hp -> Prop, (∀ σ' H', N σ' H' -> ∃ m', m' < m /\ W (i + 1) m' σ' H') /\ ∀ x H', (ItT K a).yld i H x H' -> g x σ H' fun σ2 H2 => tb { D with nx := N, ct := N, bk := D.nx } σ2 H2) := by
 refine ⟨fun i m σ H => m = xs.length - i /\ i <= xs.length /\ Pv i σ H, ⟨xs.length, by simp, Nat.zero_le _, h0⟩, ?_⟩
 rintro i m σ H ⟨rfl, hi, p⟩
 have q := hl i σ H hi p
 by_cases hlt : i < xs.length
 ·refine .inr ⟨⟨xs, xs[i], q, by simp [hlt]⟩, Pv (i + 1), fun σ' H' p' => ⟨xs.length - (i + 1), by omega, rfl, hlt, p'⟩, fun x H' y => ?_⟩
  obtain ⟨T, x', rfl, hT, rfl, e1⟩ := y
  exact hs i x' σ H T (e1 xs q) p hT
 ·have e : i = xs.length := by omega
  subst e
  exact .inl ⟨⟨xs, q, rfl⟩, hd σ H p⟩
end L2
namespace L2
open PySem PySem.Spec PyProof.Rows PySem.W PySem.Calls
noncomputable def qui (fl : Value) (h : Heap) (e T : Addr) (cls a0 : Value) (dx : Option Addr) : Prop := ∃ oe vs oT ts, h.get? e = some oe /\ oe.cls = cls /\ vs[0]? = some a0 /\ oe.data = Data.fields vs /\ vs[1]? = some (Value.ref T) /\ T ≠ e /\ h.get? T = some oT /\ oT.data = Data.fields ts /\ ts[3]? = some fl /\ oe.dict = dx
noncomputable abbrev Trc : Heap -> Addr -> Addr -> Value -> Value -> Option Addr -> Prop := qui .none
noncomputable def CXE (P : Program) (w : World) : CXT := fun outer H s E e s' => ∃ (ea T : Addr) (cls a0 : Value) (dx : Option Addr) (H' : Hp), e = .ref ea /\ s'.os = s.os /\ AllBare s'.gens /\ Un (frs outer) [] H H' s.heap s'.heap /\ HOk P w H' s'.heap /\ s.heap.get? ea = none /\ s.heap.get? T = none /\ H' ea = none /\ H' T = none /\ Trc s'.heap ea T cls a0 dx /\ E cls dx H'
theorem qic {h base : Heap} : ∀ {l : List Env}, h.FunFrames base l -> ∀ b ∈ frs l, ∃ o, h.get? b = some o /\ ∀ vs : Array Value, o.data ≠ Data.fields vs
 | [], _, b, hb => by simp [frs] at hb
 | e :: l, k, b, hb => by
  simp only [Heap.FunFrames] at k
  obtain ⟨k1, ⟨L, o, k2, k3, k4, k5⟩, k6⟩ := k
  unfold frs at hb
  rw [List.filterMap_cons, k2] at hb
  rcases List.mem_cons.mp hb with z | z
  ·rw [z]; exact ⟨o, k4, k5⟩
  ·exact qic k6 b z
theorem qnf (o : Obj) (f : Array Value -> Array Value) : (o.mapFields f).dict = o.dict := by
 obtain ⟨c, d, dt, sl⟩ := o
 cases dt <;> rfl
structure Moved (fr : List Addr) (g : List Addr) (h h' : Heap) : Prop where
 keep : ∀ b o, h.get? b = some o -> b ∉ fr -> b ∉ g -> h'.get? b = some o
 slot : ∀ b o, h.get? b = some o -> b ∈ fr -> ∃ sl, h'.get? b = some { o with slots := sl }
section
variable {M : Model} {A : Around} {E : Value -> Shared -> Prop} {s : Shared} {env : Env} {outer : List Env} {L e T : Addr} {base : Heap} {cls a0 : Value} {dx : Option Addr} {Q : Unit -> Shared -> Prop}
theorem qny {oe : Obj} {vs : Array Value} {head : Value} {had : Bool}
  (hf : A.frames = some (env :: outer)) (ff : s.heap.FunFrames base (env :: outer)) (hL : env.frame = some L) (he : s.heap.get? e = some oe) (hd : oe.data = Data.fields vs) (hz : 1 < vs.size) (h0 : vs[0]? = some a0)
  (k : ∀ (h' : Heap) (T' : Addr), Moved (frs (env :: outer)) [e] s.heap h' -> s.heap.get? T' = none -> qui (rawInt L) h' e T' oe.cls a0 oe.dict -> Q () { s with heap := h' }) :
  wpAny M A (do let a <- frameOf env; let pl <- entryPlaceOf L had; let b <- EntryCells.newEntry head a .none (rawInt L) .none pl; setField (.ref e) 1 b) Q E s := by
 have efr : e ∉ frs (env :: outer) := fun hm => by
  obtain ⟨o, q, nf⟩ := qic ff e hm
  rw [he] at q; cases q
  exact nf _ hd
 refine wpAny_bind (wpAny_frameOf_fun hf ff hL fun g1 so => wpAny_bind (wpAny_entryPlaceOf fun pl hpl => ?_))
 unfold EntryCells.newEntry newFields
 refine wpAny_bind (wpAny_newObj_type ?_ (hpl.sizeOk5 _ _ _ _ _))
 generalize hob : ({ cls := .type "traceback", dict := none, data := .fields ([head, .ref L, .none, rawInt L, .none] ++ (if pl.isEmpty then List.replicate 6 Value.none else pl)).toArray } : Obj) = ob
 have obf : ob.isFreed = false := by rw [<- hob]; rfl
 have e1 : g1.get? e = some oe := (so.2.1 e efr).trans he
 have nz : g1.objs.size ≠ e := Nat.ne_of_gt (Heap.lt_size e1)
 have e2 := Heap.get?_push_of_some (h := g1) ob e1
 refine wpAny_setField e2 hd hz ?_
 have hd3 := Obj.data_mapFields hd (fun z => z.setIfInBounds 1 (Value.ref g1.objs.size))
 have e3 := Heap.get?_update_self (Obj.mapFields fun z => z.setIfInBounds 1 (Value.ref g1.objs.size)) e2 (Obj.isFreed_of_fields hd3)
 have fresh : s.heap.get? g1.objs.size = none := by
  cases hc : s.heap.get? g1.objs.size with
  | none => rfl
  | some o =>
   obtain ⟨sl, q⟩ := so.2.2 _ o hc
   exact absurd (Heap.lt_size q) (Nat.lt_irrefl _)
 have up : ∀ b o, b ≠ e -> g1.get? b = some o -> ((g1.push ob).update e (Obj.mapFields fun z => z.setIfInBounds 1 (Value.ref g1.objs.size))).get? b = some o := fun b o n q => by
  rw [Heap.get?_update_other _ _ (Ne.symm n)]
  exact Heap.get?_push_of_some _ q
 refine k _ g1.objs.size ⟨fun b o q hb hg => up b o (fun z => hg (by simp [z])) ((so.2.1 b hb).trans q), fun b o q hb => ?_⟩ fresh ⟨_, _, ob, _, e3, Obj.cls_mapFields _ _, ?_, hd3, ?_, nz, ?_, by rw [<- hob], ?_, qnf _ _⟩
 ·obtain ⟨sl, q1⟩ := so.2.2 b o q
  exact ⟨sl, up b _ (fun z => efr (z ▸ hb)) q1⟩
 ·rw [Array.getElem?_setIfInBounds_ne (by decide)]; exact h0
 ·simp [hz]
 ·rw [Heap.get?_update_other _ _ (Ne.symm nz)]
  exact Heap.get?_push_size g1 obf
 ·first | (simp; done) | (rcases hpl with rfl | ⟨_, _, _, _, _, _, _, rfl⟩ <;> simp)
theorem ground {fl : Value} (ht : qui fl s.heap e T cls a0 dx)
  (k : ∀ h' : Heap, (∀ b, b ≠ T -> h'.get? b = s.heap.get? b) -> Trc h' e T cls a0 dx -> Q () { s with heap := h' }) :
  wpAny M A (setFlight (.ref e) none) Q E s := by
 obtain ⟨oe, vs, oT, ts, h1, h2, h3, h4, h5, h6, h7, h8, h9, h10⟩ := ht
 have z3 : 3 < ts.size := (Array.getElem?_eq_some_iff.mp h9).1
 unfold setFlight
 refine wpAny_bind (wpAny_field h1 h4 h5 ?_)
 rw [if_pos (show (Value.ref T != Value.none) = true from by simp)]
 refine wpAny_setField h7 h8 z3 (k _ (fun b n => Heap.get?_update_other _ _ (Ne.symm n)) ?_)
 have d8 := Obj.data_mapFields h8 (fun z => z.setIfInBounds 3 ((none : Option Addr).elim Value.none fun f => rawInt f))
 exact ⟨oe, vs, _, _, (Heap.get?_update_other _ _ h6).trans h1, h2, h3, h4, h5, h6, Heap.get?_update_self _ h7 (Obj.isFreed_of_fields d8), d8, by simp [z3], h10⟩
theorem qqc {oe : Obj} {vs : Array Value} (hf : A.frames = some (env :: outer)) (hL : env.frame = some L) (ff : s.heap.FunFrames base (env :: outer)) (h1 : s.heap.get? e = some oe) (h2 : oe.data = Data.fields vs) (h3 : vs[1]? = some Value.none) (h4 : vs[0]? = some a0)
  (k : ∀ (h' : Heap) (T' : Addr), Moved (frs (env :: outer)) [e] s.heap h' -> s.heap.get? T' = none -> qui (rawInt L) h' e T' oe.cls a0 oe.dict -> Q () { s with heap := h' }) :
  wpAny M A (noteFrame (.ref e) env) Q E s := by
 unfold noteFrame
 simp only [hL]
 refine wpAny_bind (wpAny_field h1 h2 h3 ?_)
 rw [if_neg (by decide)]
 exact qny hf ff hL h1 h2 (Array.getElem?_eq_some_iff.mp h3).1 h4 k
theorem qhb (hf : A.frames = some (env :: outer)) (hL : env.frame = some L) (ff : s.heap.FunFrames base (env :: outer)) (ht : Trc s.heap e T cls a0 dx)
  (k : ∀ (h' : Heap) (T' : Addr), Moved (frs (env :: outer)) [e, T] s.heap h' -> s.heap.get? T' = none -> qui (rawInt L) h' e T' cls a0 dx -> Q () { s with heap := h' }) :
  wpAny M A (noteFrame (.ref e) env) Q E s := by
 obtain ⟨oe, vs, oT, ts, h1, rfl, h3, h4, h5, h6, h7, h8, h9, rfl⟩ := ht
 unfold noteFrame
 simp only [hL]
 refine wpAny_bind (wpAny_field h1 h4 h5 ?_)
 rw [if_pos (show (Value.ref T != Value.none) = true from by simp)]
 refine wpAny_bind (wpAny_field h7 h8 h9 ?_)
 rw [if_neg (show ¬ ((Value.none == rawInt L) = true) from by simp [rawInt])]
 refine wpAny_bind (wpAny_setField h7 h8 (Array.getElem?_eq_some_iff.mp h9).1 ?_)
 have oth : ∀ b, b ≠ T -> (s.heap.update T (Obj.mapFields fun z => z.setIfInBounds 3 Value.none)).get? b = s.heap.get? b := fun b n => Heap.get?_update_other _ _ (Ne.symm n)
 have nT : ∀ b, b ∈ frs (env :: outer) -> b ≠ T := fun b hb z => by
  obtain ⟨o, q, nf⟩ := qic ff b hb
  rw [z, h7] at q; cases q
  exact nf _ h8
 refine qny (s := { s with heap := s.heap.update T (Obj.mapFields fun z => z.setIfInBounds 3 Value.none) }) hf (ff.of_keeps fun b o q nf => ⟨o, (oth b fun z => ?_).trans q, rfl⟩) hL ((oth e (Ne.symm h6)).trans h1) h4 (Array.getElem?_eq_some_iff.mp h5).1 h3 fun h' T' mv nw tr => k h' T' ⟨fun b o q hb hg => ?_, fun b o q hb => ?_⟩ ?_ tr
 ·rw [z, h7] at q; cases q
  exact nf _ h8
 ·exact mv.keep b o ((oth b fun z => hg (by simp [z])).trans q) hb fun z => hg (by simp at z; simp [z])
 ·exact mv.slot b o ((oth b (nT b hb)).trans q) hb
 ·have z : T' ≠ T := fun z => by
   have d8 := Obj.data_mapFields h8 (fun z => z.setIfInBounds 3 Value.none)
   have g7 := Heap.get?_update_self (Obj.mapFields fun z => z.setIfInBounds 3 Value.none) h7 (Obj.isFreed_of_fields d8)
   have nw' : (s.heap.update T (Obj.mapFields fun z => z.setIfInBounds 3 Value.none)).get? T' = none := nw
   rw [z, g7] at nw'
   cases nw'
  exact (oth T' z).symm.trans nw
theorem Moved.ground {fr g : List Addr} {h h' h'' : Heap} (m : Moved fr g h h') (nT : h.get? T = none) (nf : ∀ b ∈ fr, ∃ o, h.get? b = some o) (k : ∀ b, b ≠ T -> h''.get? b = h'.get? b) : Moved fr g h h'' :=
 ⟨fun b o q hb hg => (k b fun z => by rw [z, nT] at q; cases q).trans (m.keep b o q hb hg), fun b o q hb => by
  obtain ⟨sl, e⟩ := m.slot b o q hb
  exact ⟨sl, (k b fun z => by rw [z, nT] at q; cases q).trans e⟩⟩
theorem qhp (hf : A.frames = some (env :: outer)) (hL : env.frame = some L) (ff : s.heap.FunFrames base (env :: outer)) (ht : Trc s.heap e T cls a0 dx)
  (k : ∀ (h' : Heap) (T' : Addr), Moved (frs (env :: outer)) [e, T] s.heap h' -> s.heap.get? T' = none -> Trc h' e T' cls a0 dx -> Q () { s with heap := h' }) :
  wpAny M A (leaving env (.ref e)) Q E s := by
 unfold leaving
 refine wpAny_bind (qhb hf hL ff ht fun h1 T1 mv nw tr => ground tr fun h2 same tr2 => k h2 T1 (mv.ground nw (fun b hb => let ⟨o, q, _⟩ := qic ff b hb; ⟨o, q⟩) same) nw tr2)
theorem leave_new {oe : Obj} {vs : Array Value} (hf : A.frames = some (env :: outer)) (hL : env.frame = some L) (ff : s.heap.FunFrames base (env :: outer)) (h1 : s.heap.get? e = some oe) (h2 : oe.data = Data.fields vs) (h3 : vs[1]? = some Value.none) (h4 : vs[0]? = some a0)
  (k : ∀ (h' : Heap) (T' : Addr), Moved (frs (env :: outer)) [e] s.heap h' -> s.heap.get? T' = none -> Trc h' e T' oe.cls a0 oe.dict -> Q () { s with heap := h' }) :
  wpAny M A (leaving env (.ref e)) Q E s := by
 unfold leaving
 refine wpAny_bind (qqc hf hL ff h1 h2 h3 h4 fun g1 T1 mv nw tr => ground tr fun g2 same tr2 => k g2 T1 (mv.ground nw (fun b hb => let ⟨o, q, _⟩ := qic ff b hb; ⟨o, q⟩) same) nw tr2)
theorem qe5 (hf : A.frames = some (env :: outer)) (hL : env.frame = some L) (ff : s.heap.FunFrames base (env :: outer)) (ht : Trc s.heap e T cls a0 dx)
  (k : ∀ (h' : Heap) (T' : Addr), Moved (frs (env :: outer)) [e, T] s.heap h' -> s.heap.get? T' = none -> Trc h' e T' cls a0 dx -> Q () { s with heap := h' }) :
  wpAny M A (noteFrame (.ref e) env) (fun _ s2 => wpAny M A (setFlight (.ref e) none) (fun _ s3 => Q () s3) E s2) E s :=
 qhb hf hL ff ht fun h1 T1 mv nw tr => ground tr fun h2 same tr2 => k h2 T1 (mv.ground nw (fun b hb => let ⟨o, q, _⟩ := qic ff b hb; ⟨o, q⟩) same) nw tr2
end
theorem qa1.got {P : Program} {w : World} {H : Hp} {h : Heap} {a : Addr} {o : HO} (x : qa1 P w H h a o) : ∃ ob, h.get? a = some ob := by
 cases o with
 | lst xs => obtain ⟨_, _, _, _, e⟩ := x; exact ⟨_, e⟩
 | tup xs => obtain ⟨_, _, _, o, e, _⟩ := x; exact ⟨_, e⟩
 | dK kvs => obtain ⟨_, _, _, _, o, _, _, e, _⟩ := x; exact ⟨_, e⟩
 | dT kvs => obtain ⟨_, _, _, _, o, _, _, e, _⟩ := x; exact ⟨_, e⟩
 | set S n => obtain ⟨o, _, _, _, e, _⟩ := x; exact ⟨_, e⟩
 | ins C dx fs => obtain ⟨_, _, _, e, _⟩ := x; exact ⟨_, e⟩
 | own y => exact x
 | xd fs => obtain ⟨_, ⟨_, _, _, e, _⟩, _⟩ := x; exact ⟨_, e⟩
 | rng lo hi => obtain ⟨_, _, _, e⟩ := x; exact ⟨_, e⟩
 | frz ob u => obtain ⟨e, _⟩ := x; exact ⟨_, e⟩
 | tbl ps => exact ⟨_, (show h.get? a = some _ from x)⟩
 | met f y => exact ⟨_, (show h.get? a = some _ from x)⟩
 | ext φ => obtain ⟨_, e, _⟩ := x; exact e
theorem qq5 {CX : CXT} {P : Program} {w : World} {K : PySem.W.Frag} {mg : Str -> Option Value} {base : Heap} {N : List Str} {qual : Str} {scope : Scope} {f : Addr} {cd : Value} {A : Around} {outer : List Env} {s0 : Shared} {H0 : Hp} {E0' : XK}
  {pins : List (Addr × Obj)} {σ : St} {H' : Hp} {s' : Shared} {E : XK} {ea T' : Addr} {cls a0 : Value} {dx : Option Addr} {h' : Heap} {G : List Addr}
  (I : Inv (qlb CX P w K mg base N qual scope f cd A outer s0 H0 E0') pins σ H' s')
  (mv : Moved (frs (envOfC qual scope s0.heap.objs.size f cd :: outer)) G s'.heap h')
  (hG : ∀ b ∈ G, s0.heap.get? b = none /\ H' b = none) (tr : Trc h' ea T' cls a0 dx) (e1 : s0.heap.get? ea = none) (e2 : H' ea = none) (e3 : T' ∈ G \/ s'.heap.get? T' = none) (hE : E cls dx H') :
  CXE P w outer H0 s0 E (.ref ea) { s' with heap := h' } := by
 have kp := mv.keep
 have sl := mv.slot
 have base' := I.base
 have hok := I.hok
 have nL : ∀ b o, s0.heap.get? b = some o -> b ∉ frs outer -> b ∉ frs (envOfC qual scope s0.heap.objs.size f cd :: outer) := fun b o q hb hm => by
  have hm' : b ∈ s0.heap.objs.size :: frs outer := hm
  rcases List.mem_cons.mp hm' with z | z
  ·exact absurd (Heap.lt_size q) (by rw [z]; exact Nat.lt_irrefl _)
  ·exact hb z
 have nG : ∀ b o, s0.heap.get? b = some o -> b ∉ G := fun b o q hb => by rw [(hG b hb).1] at q; cases q
 have mO : ∀ b, b ∈ frs outer -> b ∈ frs (envOfC qual scope s0.heap.objs.size f cd :: outer) := fun b hb => List.mem_cons_of_mem _ hb
 have T0 : s0.heap.get? T' = none := by
  rcases e3 with z | z
  ·exact (hG _ z).1
  ·cases hc : s0.heap.get? T' with
   | none => rfl
   | some o =>
    obtain ⟨o', q⟩ := base'.there T' o hc (by show T' ∉ []; simp)
    rw [z] at q; cases q
 have TH : H' T' = none := by
  rcases e3 with z | z
  ·exact (hG _ z).2
  ·cases hc : H' T' with
   | none => rfl
   | some o =>
    obtain ⟨ob, q⟩ := qa1.got (hok T' o hc)
    rw [z] at q; cases q
 refine ⟨ea, T', cls, a0, dx, H', rfl, I.os, I.bare, ?_, ?_, e1, T0, e2, TH, tr, hE⟩
 ·refine ⟨fun b o q n hb hx => ?_, fun b o q n hb hx => ?_, fun b o q n hx => base'.free b o q n hx, fun b o q hx => ?_, base'.tups, base'.frzs, base'.tbls⟩
  ·exact kp b o (base'.keep b o q n hb hx) (nL b o q hb) (nG b o q)
  ·obtain ⟨s1, q1⟩ := base'.slot b o q n hb hx
   obtain ⟨s2, q2⟩ := sl b _ q1 (mO b hb)
   exact ⟨s2, q2⟩
  ·obtain ⟨o', q'⟩ := base'.there b o q hx
   by_cases hb : b ∈ frs (envOfC qual scope s0.heap.objs.size f cd :: outer)
   ·obtain ⟨s2, q2⟩ := sl b _ q' hb
    exact ⟨_, q2⟩
   ·exact ⟨o', kp b o' q' hb (nG b o q)⟩
 ·intro a o hH
  have nf : ∀ b u, H' b = some u -> b ∉ frs (envOfC qual scope s0.heap.objs.size f cd :: outer) /\ b ∉ G := fun b u q => ⟨fun hm => (by
   have := I.stkFree b hm
   rw [q] at this; cases this), fun hm => (by rw [(hG b hm).2] at q; cases q)⟩
  refine (hok a o hH).stay (fun b u hb q => ?_) (fun _ q => q) fun _ _ q => q
  rcases hb with z | z
  ·rw [z] at q ⊢; exact kp a u q (nf a o hH).1 (nf a o hH).2
  ·exact kp b u q (nf b _ z).1 (nf b _ z).2
theorem qt6 {P : Program} {w : World} {K : PySem.W.Frag} {mg : Str -> Option Value} {base : Heap} {N : List Str} {qual : Str} {scope : Scope} {f : Addr} {cd : Value} {A : Around} {outer : List Env} {s0 : Shared} {H0 : Hp} {E : XK} :
  qfb (CXE P w) (qlb (CXE P w) P w K mg base N qual scope f cd A outer s0 H0 E) E := by
 intro pins σ H s e s' I h
 obtain ⟨ea, T, cls, a0, dx, H', rfl, os, bare, un, hok, n1, n2, m1, m2, trc, hE⟩ := h
 have I' : Inv (qlb (CXE P w) P w K mg base N qual scope f cd A outer s0 H0 E) pins σ H' s' := I.call' (ch := []) os un hok bare (by simp)
 have back : ∀ b, s.heap.get? b = none -> s0.heap.get? b = none := fun b q => by
  cases hc : s0.heap.get? b with
  | none => rfl
  | some o =>
   obtain ⟨o', q'⟩ := I.base.there b o hc (by show b ∉ []; simp)
   rw [q] at q'; cases q'
 show wpAny (model P w) (A.deeper (envOfC qual scope s0.heap.objs.size f cd)) (leaving (envOfC qual scope s0.heap.objs.size f cd) (.ref ea)) _ _ s'
 refine qhp (outer := outer) (L := s0.heap.objs.size) I'.ok.frames rfl I'.stack trc fun h' T' mv nw tr' => ?_
 exact qq5 (G := [ea, T]) I' mv (fun b hb => by
  simp at hb
  rcases hb with z | z
  ·rw [z]; exact ⟨back _ n1, m1⟩
  ·rw [z]; exact ⟨back _ n2, m2⟩) tr' (back _ n1) m1 (.inr nw) hE
theorem quu {P : Program} {w : World} {K : PySem.W.Frag} {mg : Str -> Option Value} {base : Heap} {N : List Str} {qual : Str} {scope : Scope} {f : Addr} {cd : Value} {A : Around} {outer : List Env} {s0 : Shared} {H0 : Hp} {E : XK}
  {pins : List (Addr × Obj)} {σ : St} {H : Hp} {s : Shared} {ea : Addr} {oe : Obj} {vs : Array Value} {a0 : Value}
  (I : Inv (qlb (CXE P w) P w K mg base N qual scope f cd A outer s0 H0 E) pins σ H s) (h1 : s.heap.get? ea = some oe) (h2 : oe.data = Data.fields vs) (h3 : vs[1]? = some Value.none) (h4 : vs[0]? = some a0) (back : s0.heap.get? ea = none) (he : H ea = none) (hE : E oe.cls oe.dict H) :
  (qlb (CXE P w) P w K mg base N qual scope f cd A outer s0 H0 E).xe (.ref ea) s := by
 show wpAny (model P w) (A.deeper (envOfC qual scope s0.heap.objs.size f cd)) (leaving (envOfC qual scope s0.heap.objs.size f cd) (.ref ea)) _ _ s
 refine leave_new (outer := outer) (L := s0.heap.objs.size) I.ok.frames rfl I.stack h1 h2 h3 h4 fun h'' T' mv nT tr => ?_
 exact qq5 (G := [ea]) I mv (fun b hb => by
  have z : b = ea := by simpa using hb
  rw [z]; exact ⟨back, he⟩) tr back he (.inr nT) hE
noncomputable def qry (h : Heap) (C : Addr) : Prop := ∃ (nm q : Str) (N : Addr) (bs bm bmB : List Value) (hdct : Bool) (sn : List Str) (sub : List Value) (ab : Bool) (col : Option Bool) (dd : Option Addr) (k0 k1 k2 k3 k5 : Option Value) (mN : Str -> Option Value) (B Bn newId nid initId inN : String) (bmN : List Value),
 h.get? C = some (excClassObj nm q C N bs bm hdct sn sub ab col dd k0 k1 k2 k3 k5 newId) /\ h.Ns N mN /\ mN (Str.ofString "__init__") = none /\ OwnTail h bmB bm /\ bm.contains (Value.type "BaseException") = true /\ ExcBaseFacts Bn newId inN bmN /\ bmB.contains (Value.type Bn) = true /\ ExcBaseFacts B nid initId bmB
section
variable {X : Cx} {x : Str} {C : Addr} {e : Expr} {es : List Expr} {t : TA} {np cpos pos : Pos} {W : Hp -> Prop}
end
section
variable {P : Program} {w : World} {K : PySem.W.Frag} {mg : Str -> Option Value} {base : Heap}
theorem Fun.okX {x qual : Str} {st : Stmt} {f : Addr} {fd : FuncData} {N ps : List Str} {k : Nat} {sp : Sp} (F : Fun K x qual st f fd) (S : qao N ps (qai st)) (len : ∀ vs H Q E, sp vs H Q E -> vs.length = ps.length)
  (hbody : ∀ (cdv : Value) (A : Around) (outer : List Env) (s : Shared) (H : Hp) (vs : List V) (Q : VK) (E : XK), qcl k (A.deeper (envOfC qual (qai st) s.heap.objs.size f cdv)) -> sp vs H Q E ->
   ∃ t, PSs (qlb (CXE P w) P w K mg base N qual (qai st) f cdv A outer s H E) (qbt st) t /\ t { nx := fun _ H' => Q .non H', rt := Q } (start N vs) H) : qca P w K mg base (CXE P w) (k + 1) f fd ps sp := by
 obtain ⟨oc, od, kV, doc, pm, an, cdv, ct, osl, rfl, lk, hcd⟩ := F.ex
 exact qtl lk hcd S len fun A outer s H vs Q E hr hsp => hbody cdv A outer s H vs Q E hr hsp
noncomputable def FnX (P : Program) (w : World) (K : PySem.W.Frag) (mg : Str -> Option Value) (base : Heap) (k : Nat) (x : Str) (ps : List Str) (sp : Sp) : Prop :=
 ∃ f fd, mg x = some (.ref f) /\ PySem.W.keepIn K (.ref f) = true /\ Binds K fd ps [] /\ qca P w K mg base (CXE P w) k f fd ps sp
end
theorem qq4 {X : Cx} {k : Nat} {x : Str} {ps : List Str} {sp : Sp} {E : XK} {e : Expr} {es : List Expr} {t : TA} {p pos : Pos} (F : FnX X.prog X.w X.K X.mg X.base k x ps sp) (hr : qcl k X.A) (hx : qfb (CXE X.prog X.w) X E) (ha : PA X (e :: es) t) (hg : Gl X x := by rfl)
  (hdb : (x == ("__debug__" : Str)) = false := by decide) (he : starEach (e :: es) X.env = (false, eval e X.env) :: starEach es X.env := by rfl) (hpl : (backTo pos (starEach es X.env)).any (·.1) = false := by rfl) :
  PE X (.Call (.Name x p) (e :: es) [] pos) (qoh sp [] E t) := by
 obtain ⟨f, fd, h1, h2, h3, h4⟩ := F
 exact qmr h4 hr hg h1 h2 h3 .nil hx ha hdb he hpl
noncomputable def XP (X : Cx) (pins : List (Addr × Obj)) (Ex : St -> Value -> Option Addr -> Hp -> Prop) (e : Value) (s1 : Shared) : Prop :=
 ∃ (σ : St) (H : Hp) (s : Shared), Inv X pins σ H s /\ CXE X.prog X.w X.stack H s (fun cls dx H' => Ex σ cls dx H') e s1
noncomputable abbrev TEX := (St -> Value -> Option Addr -> Hp -> Prop) -> St -> Hp -> VK -> Prop
noncomputable abbrev TSX := (St -> Value -> Option Addr -> Hp -> Prop) -> Ends -> St -> Hp -> Prop
noncomputable def PEX (X : Cx) (e : Expr) (t : TEX) : Prop := ∀ (pins : List (Addr × Obj)) (s : Shared) (σ : St) (H : Hp) (Q : VK) (Ex : St -> Value -> Option Addr -> Hp -> Prop), Inv X pins σ H s -> t Ex σ H Q -> wpAny (model X.prog X.w) X.A (eval e X.env) (EP X pins σ Q) (XP X pins Ex) s
noncomputable def PSX (X : Cx) (st : Stmt) (t : TSX) : Prop := ∀ (pins : List (Addr × Obj)) (s : Shared) (σ : St) (H : Hp) (D : Ends) (Ex : St -> Value -> Option Addr -> Hp -> Prop), Inv X pins σ H s -> t Ex D σ H -> wpAny (model X.prog X.w) X.A (exec st X.env) (SP X pins D) (XP X pins Ex) s
section
variable {X : Cx} {k : Nat} {x : Str} {ps : List Str} {sp : Sp} {e : Expr} {es : List Expr} {t : TA} {p pos : Pos}
noncomputable def que (sp : Sp) (t : TA) : TEX := fun Ex σ H Q => t σ H fun vs H1 => sp vs H1 Q (fun cls dx H' => Ex σ cls dx H')
theorem qmq (F : FnX X.prog X.w X.K X.mg X.base k x ps sp) (hr : qcl k X.A) (ha : PA X.nox (e :: es) t) (hg : Gl X x := by rfl)
  (hdb : (x == ("__debug__" : Str)) = false := by decide) (he : starEach (e :: es) X.env = (false, eval e X.env) :: starEach es X.env := by rfl) (hpl : (backTo pos (starEach es X.env)).any (·.1) = false := by rfl) :
  PEX X (.Call (.Name x p) (e :: es) [] pos) (que sp t) := by
 obtain ⟨f, fd, hm, hk, hb, F⟩ := F
 intro pins s σ H Q Ex I h
 refine wpAny_Call_Name_kw (qdt I hg hm ?_ hdb)
 have I0 : Inv X.nox pins σ H s := ⟨⟨I.ok.mod, I.ok.kind, I.ok.glob, I.ok.blt, I.ok.above, I.ok.inj, I.ok.has, I.ok.cab, I.ok.hd, I.ok.frames, I.ok.stk, I.ok.exf, I.ok.bs, I.ok.bsz, I.ok.noex, I.ok.exfs, I.ok.funs, I.ok.frf⟩, I.os, I.bare, I.base, I.loc, I.cell, I.free, I.freeC, I.pin, I.hok, I.len⟩
 refine PySem.W.callWith_K (h₀ := X.base) I.ok.mod.kin hk (wpAny_mono (ha pos pins s σ H _ I0 h) (fun us s1 hq => ?_) fun _ _ z => False.elim z) he hpl
 obtain ⟨vs, H1, I1, r, q⟩ := hq
 have I2 : Inv X pins σ H1 s1 := ⟨⟨I1.ok.mod, I1.ok.kind, I1.ok.glob, I1.ok.blt, I1.ok.above, I1.ok.inj, I1.ok.has, I1.ok.cab, I1.ok.hd, I1.ok.frames, I1.ok.stk, I1.ok.exf, I1.ok.bs, I1.ok.bsz, I1.ok.noex, I1.ok.exfs, I1.ok.funs, I1.ok.frf⟩, I1.os, I1.bare, I1.base, I1.loc, I1.cell, I1.free, I1.freeC, I1.pin, I1.hok, I1.len⟩
 refine ⟨I2.kIn, ?_⟩
 have hl : us.length = ps.length := by rw [<- r.length]; exact F.len _ _ _ _ q
 have hbb := hb s1 us I2.kIn (by simpa using hl)
 simp only [List.append_nil] at hbb
 refine wpAny_call (codeAny_mono (F.run X.A X.stack s1 H1 ⟨us, []⟩ us vs Q (fun cls dx H' => Ex σ cls dx H') hr I2.env0 hbb r q) fun r s' hq => ?_)
 cases r with
 | error e => exact ⟨σ, H1, s1, I2, hq⟩
 | ok fl =>
  cases fl with
  | ret u => exact I2.after hq
  | next => exact False.elim hq
  | brk => exact False.elim hq
  | cont => exact False.elim hq
noncomputable def qtt (te : TEX) : TSX := fun Ex D σ H => te Ex σ H fun _ H1 => D.nx σ H1
theorem qrr {te : TEX} (he : PEX X e te) (hs : swapsWith e none pos.line X.env = pure false := by rfl) : PSX X (.Expr e pos) (qtt te) := by
 intro pins s σ H D Ex I h
 exact wpAny_Expr_any (thn (he pins s σ H _ Ex I h) fun v s1 ⟨x, H1, I1, r1, q1⟩ => ⟨σ, H1, I1, q1⟩) I.quiet hs
noncomputable def qv2 (i : Nat) (te : TEX) : TSX := fun Ex D σ H => te Ex σ H fun y H1 => D.nx (σ.set i (some y)) H1
theorem qt4 {te : TEX} {i : Nat} {y : Str} {pos' : Pos} (hN : X.N.Nodup) (hi : X.N[i]? = some y) (hx : Loc X.env.scope y) (he : PEX X e te) (hs : swapsWith e (some (.Name y pos')) pos.line X.env = pure false := by rfl) (hf : X.fn y = true \/ X.env.scope.names.lookup y = some .local := by first | exact .inl rfl | exact .inr rfl | assumption) :
  PSX X (.Assign [.Name y pos'] e pos) (qv2 i te) := by
 intro pins s σ H D Ex I h
 refine wpAny_Assign_Name (thn (he pins s σ H _ Ex I h) fun v s1 ⟨z, H1, I1, r1, q1⟩ => ?_) hs
 exact qc4 I1 hN hi hx r1 (fun s2 I2 => ⟨_, H1, I2, q1⟩) hf
end
theorem OwnTail.has {h : Heap} {a b : List Value} {v : Value} (x : OwnTail h a b) (hv : a.contains v = true) : b.contains v = true := by
 induction x with
 | base => exact hv
 | own _ _ _ _ ih => rw [List.contains_cons, ih, Bool.or_true]
theorem qso {K : Frag} {h : Heap} {C : Addr} {bmB : List Value} {newId initId B : String} (X : K.In h) (hx : excIn K C bmB newId = true) (f : ExcBaseFacts B newId initId bmB) : qry h C := by
 unfold excIn at hx
 split at hx
 ·rename_i dct cd sl heq
  split at hx
  ·rename_i C' bm k0 k1 k2 k3 n k5 hm hs
   simp only [Bool.and_eq_true, Bool.not_eq_true', beq_iff_eq] at hx
   obtain ⟨⟨⟨⟨⟨h1, h2⟩, h3⟩, h4⟩, h5⟩, h6⟩ := hx
   subst h1
   subst h2
   have ho := X _ _ heq
   have hsl : sl = #[k0, k1, k2, k3, some (.builtin n), k5] := by
    rw [<- Array.toList_inj]; exact hs
   obtain ⟨nm, bs, mro, ns, qn, hdct, sn, sub, ab, col, hdel⟩ := cd
   simp only at hm h3 h4 h5 h6
   subst hm
   subst h3
   subst hsl
   refine ⟨nm, qn, ns, bs, bm, bmB, hdct, sn, sub, ab, col, dct, k0, k1, k2, k3, k5, h.nsMap ns, B, B, n, n, initId, initId, bmB, ho, ?_, nsMap_none_of_in X h5 h6, tail_of_in X h4, OwnTail.has (tail_of_in X h4) f.hasBase, f, f.hasB, f⟩
   exact Heap.Ns.of_isNs (isNs_of_in X h5)
  ·cases hx
 ·cases hx
theorem qfq : isSubtype (.type "type") (.type "tuple") = pure false := by rw [isSubtype_type]; kernel_rfl
theorem qf6 {M : Model} {A : Around} {E : Value -> Shared -> Prop} {nm q nm' q' : Str} {C N R N' : Addr} {bs bm bs' bm' : List Value} {hdct hdct' : Bool} {sn sn' : List Str} {sub sub' : List Value} {ab ab' : Bool} {col col' : Option Bool} {dd dd' : Option Addr} {k0 k1 k2 k3 k5 l0 l1 l2 l3 l5 : Option Value} {newId newId' : String}
  {s : Shared} {e : Addr} {oe : Obj} {Q : Bool -> Shared -> Prop} (hC : s.heap.get? C = some (excClassObj nm q C N bs bm hdct sn sub ab col dd k0 k1 k2 k3 k5 newId)) (hR : s.heap.get? R = some (excClassObj nm' q' R N' bs' bm' hdct' sn' sub' ab' col' dd' l0 l1 l2 l3 l5 newId'))
  (he : s.heap.get? e = some oe) (hc : oe.cls = .ref C) (hb : bm'.contains (.type "BaseException") = true) (k : Q ((Value.ref C :: bm).contains (.ref R)) s) : wpAny M A (excMatches (.ref e) (.ref R)) Q E s := by
 unfold excMatches
 refine wpAny_bind (wpAny_isInstance (T := "type") ⟨_, hR, rfl⟩ qfq ?_)
 simp only [Bool.false_eq_true, if_false, pure_bind, List.forIn_cons, List.forIn_nil]
 obtain ⟨h, g, d, tk, os⟩ := s
 have hex : ∀ {Q' : Bool -> Shared -> Prop}, Q' true ⟨h, g, d, tk, os⟩ -> wpAny M A (isExcClass (.ref R)) Q' E ⟨h, g, d, tk, os⟩ := fun {Q'} qq => by
  unfold isExcClass isType
  simp only [bind_assoc, pure_bind]
  refine wpAny_bind (wpAny_loadPart hR ?_)
  simp only [if_true]
  refine wpAny_isSubtype_exc hR ?_
  rw [List.contains_cons, hb, Bool.or_true]
  exact qq
 refine wpAny_bind (wpAny_bind (wpAny_bind (hex ?_)))
 simp only [Bool.not_true, Bool.false_eq_true, if_false]
 refine wpAny_pure (wpAny_pure (wpAny_bind (wpAny_typeOf_ref he ?_)))
 rw [hc]
 refine wpAny_bind (wpAny_bind (wpAny_bind (wpAny_isSubtype_exc hC ?_)))
 cases c : (Value.ref C :: bm).contains (Value.ref R) with
 | true =>
  rw [c] at k
  exact wpAny_pure (wpAny_pure (wpAny_pure k))
 | false =>
  rw [c] at k
  exact wpAny_pure (wpAny_pure (wpAny_pure k))
section
variable {X : Cx} {pins : List (Addr × Obj)} {σ : List (Option V)} {H H' : Hp} {s : Shared} {h' : Heap}
theorem Inv.stepN {g' : Array GenState} {t' : Nat} {d' : Drawn} {ch : List Addr} (I : Inv X pins σ H s)
  (hch : ∀ b ∈ ch, X.s₀.heap.get? b = none /\ b ≠ X.env.locals /\ (∀ x c, X.env.cells.lookup x = some c -> c ≠ b) /\ ∀ p ∈ X.pn ++ pins, p.1 ≠ b)
  (keep : ∀ b o, b ≠ X.env.locals -> b ∉ X.fs -> b ∉ ch -> s.heap.get? b = some o -> H b = none -> h'.get? b = some o)
  (slot : ∀ b o, b ≠ X.env.locals -> b ∈ X.fs -> b ∉ ch -> s.heap.get? b = some o -> H b = none -> ∃ sl, h'.get? b = some { o with slots := sl }) (free : ∀ b o, b ∉ ch -> s.heap.get? b = some o -> H b = none -> H' b = none)
  (there : ∀ b o, b ∉ ch -> s.heap.get? b = some o -> ∃ o', h'.get? b = some o')
  (tups : ∀ b xs, H b = some (.tup xs) -> H' b = some (.tup xs)) (frzs : ∀ b o u, H b = some (.frz o u) -> H' b = some (.frz o u)) (tbls : ∀ b ps, H b = some (.tbl ps) -> ∃ more, H' b = some (.tbl (ps ++ more)))
  (ns : ∀ m, s.heap.Ns X.env.locals m -> h'.Ns X.env.locals m) (hok : HOk X.prog X.w H' h') (hg : AllBare g') :
  Inv X pins σ H' { s with heap := h', gens := g', drawn := d', toks := t' } := by
 have neL : ∀ b o, X.s₀.heap.get? b = some o -> b ≠ X.env.locals := fun b o e => Nat.ne_of_lt (Nat.lt_of_lt_of_le (Heap.lt_size e) I.ok.above)
 have neC : ∀ b o, X.s₀.heap.get? b = some o -> b ∉ X.ex -> b ∉ ch := fun b o e hx hb => by
  rw [(hch b hb).1] at e; cases e
 have cellK : ∀ x c, X.env.cells.lookup x = some c -> ∀ v, s.heap.IsCell c v -> h'.IsCell c v := fun x c e v ⟨o, ho, hd⟩ => by
  have nch : c ∉ ch := fun z => (hch c z).2.2.1 x c e rfl
  by_cases hc : c ∈ X.fs
  ·obtain ⟨sl, q⟩ := slot c o (I.cne x c e) hc nch ho (I.freeC x c e)
   exact ⟨_, q, hd⟩
  ·exact ⟨o, keep c o (I.cne x c e) hc nch ho (I.freeC x c e), hd⟩
 refine ⟨I.ok, I.os, hg, ⟨fun b o e n hb hx => ?_, fun b o e n hb hx => ?_, fun b o e n hx => ?_, fun b o e hx => ?_, fun b xs e => tups b xs (I.base.tups b xs e), fun b o xs e => frzs b o xs (I.base.frzs b o xs e), fun b ps e => ?_⟩, ?_, fun x c e => ?_, ?_, fun x c e => ?_, fun p hp => ?_, hok, I.len⟩
 ·exact keep b o (neL b o e) hb (neC b o e hx) (I.base.keep b o e n hb hx) (I.base.free b o e n hx)
 ·obtain ⟨sl, e1⟩ := I.base.slot b o e n hb hx
  obtain ⟨sl', e2⟩ := slot b _ (neL b o e) hb (neC b o e hx) e1 (I.base.free b o e n hx)
  exact ⟨sl', e2⟩
 ·obtain ⟨o', e1⟩ := I.base.there b o e hx
  exact free b o' (neC b o e hx) e1 (I.base.free b o e n hx)
 ·obtain ⟨o', e1⟩ := I.base.there b o e hx
  exact there b o' (neC b o e hx) e1
 ·obtain ⟨m1, e1⟩ := I.base.tbls b ps e
  obtain ⟨m2, e2⟩ := tbls b _ e1
  exact ⟨m1 ++ m2, by rw [e2, Array.append_assoc]⟩
 ·obtain ⟨m, hn, hl⟩ := I.loc
  refine ⟨m, ns m hn, fun i x v e1 e2 e3 => ?_⟩
  obtain ⟨u, r, l⟩ := hl i x v e1 e2 e3
  refine ⟨u, r, ?_⟩
  rcases l with l | ⟨k, c, e, z⟩
  ·exact .inl l
  ·exact .inr ⟨k, c, e, cellK x c e _ z⟩
 ·obtain ⟨v, z⟩ := I.cell x c e
  exact ⟨v, cellK x c e v z⟩
 ·obtain ⟨m, ⟨o, _, _, ho, _⟩, _⟩ := I.loc
  exact free _ o (fun z => (hch _ z).2.1 rfl) ho I.free
 ·obtain ⟨v, o, ho, hd⟩ := I.cell x c e
  exact free c o (fun z => (hch c z).2.2.1 x c e rfl) ho (I.freeC x c e)
 ·obtain ⟨e, n, ne, nf, d⟩ := I.pin p hp
  have nch : p.1 ∉ ch := fun z => (hch p.1 z).2.2.2 p hp rfl
  exact ⟨keep p.1 p.2 ne nf nch e n, free p.1 p.2 nch e n, ne, nf, d⟩
theorem Inv.moved {G : List Addr} (I : Inv X pins σ H s) (hG : ∀ b ∈ G, X.s₀.heap.get? b = none /\ H b = none /\ b ≠ X.env.locals /\ (∀ x c, X.env.cells.lookup x = some c -> c ≠ b) /\ ∀ p ∈ X.pn ++ pins, p.1 ≠ b)
  (kp : ∀ b o, s.heap.get? b = some o -> b ∉ frs X.stack -> b ∉ G -> h'.get? b = some o) (sl : ∀ b o, s.heap.get? b = some o -> b ∈ frs X.stack -> ∃ sl, h'.get? b = some { o with slots := sl }) :
  Inv X pins σ H { s with heap := h' } := by
 refine I.stepN (g' := s.gens) (d' := s.drawn) (t' := s.toks) (ch := G) (fun b hb => ⟨(hG b hb).1, (hG b hb).2.2⟩) (fun b o hL hb hc e _ => kp b o e (fun z => (List.mem_cons.mp (I.stkSub b z)).elim hL hb) hc) (fun b o hL hb hc e _ => ?_) (fun _ _ _ _ n => n) (fun b o hc e => ?_) (fun _ _ e => e) (fun _ _ _ e => e) (fun b ps e => ⟨#[], by rw [e]; simp⟩) (fun m hm => ?_) (fun b u e => ?_) I.bare
 ·by_cases z : b ∈ frs X.stack
  ·exact sl b o e z
  ·exact ⟨o.slots, kp b o e z hc⟩
 ·by_cases z : b ∈ frs X.stack
  ·obtain ⟨q, q'⟩ := sl b o e z
   exact ⟨_, q'⟩
  ·exact ⟨o, kp b o e z hc⟩
 ·obtain ⟨o, es, ep, ho, r⟩ := hm
  by_cases z : X.env.locals ∈ frs X.stack
  ·obtain ⟨q, q'⟩ := sl _ o ho z
   exact ⟨_, es, ep, q', r⟩
  ·exact ⟨o, es, ep, kp _ o ho z (fun y => (hG _ y).2.2.1 rfl), r⟩
 ·have nf : ∀ c v, H c = some v -> c ∉ frs X.stack /\ c ∉ G := fun c v q => ⟨fun hm => (by
   have := I.stkFree c hm
   rw [q] at this; cases this), fun hm => (by rw [(hG c hm).2.1] at q; cases q)⟩
  refine (I.hok b u e).stay (fun c v hc q => ?_) (fun _ q => q) fun _ _ q => q
  rcases hc with z | z
  ·rw [z] at q ⊢; exact kp b v q (nf b u e).1 (nf b u e).2
  ·exact kp c v q (nf c _ z).1 (nf c _ z).2
end
section
variable {X : Cx} {pins : List (Addr × Obj)} {σ : List (Option V)} {H : Hp} {s : Shared}
theorem qnk {M : Model} {A : Around} {E : Value -> Shared -> Prop} {i : Nat} {x : Str} {v : V} {Q : Unit -> Shared -> Prop} (I : Inv X pins σ H s) (hN : X.N.Nodup) (hi : X.N[i]? = some x) (hk : X.env.scope.names.lookup x = some .local) (hv : σ[i]? = some (some v))
  (h : ∀ s', Inv X pins (σ.set i none) H s' -> Q () s') : wpAny M A (unbindName X.env x) Q E s := by
 obtain ⟨m, hn, hl⟩ := id I.loc
 have hcls : (X.env.scope.kind == .class || (X.env.scope.kind == .module && X.env.locals != X.env.globals)) = false := by rw [I.ok.kind]; rfl
 have hlen : i < σ.length := by rw [I.len]; exact (List.getElem?_eq_some_iff.mp hi).1
 obtain ⟨u, r, lk⟩ := hl i x v hi hv (.inl hk)
 have hm : m x = some u := by
  rcases lk with ⟨_, e⟩ | ⟨z, _⟩
  ·exact e
  ·have hk' : X.env.kindOf x = some .local := hk
   rcases z with z | z <;> (rw [hk'] at z; cases z)
 refine wpAny_unbindName_local hk hn hm hcls fun h' u' hn' hs => ?_
 have nb : ∀ b o, X.s₀.heap.get? b = some o -> b ≠ X.env.locals := fun b o e => Nat.ne_of_lt (Nat.lt_of_lt_of_le (Heap.lt_size e) I.ok.above)
 have cne := I.cne
 refine h _ ⟨I.ok, I.os, I.bare, ⟨fun b o e n hb hx => (hs.2 b (nb b o e)).trans (I.base.keep b o e n hb hx), fun b o e n hb hx => ?_, I.base.free, fun b o e hx => ?_, I.base.tups, I.base.frzs, I.base.tbls⟩, ⟨_, hn', fun j y w e1 e2 e3 => ?_⟩, fun y c e => ?_, I.free, I.freeC, fun p hp => ?_, fun b ob e => ?_, ?_⟩
 ·obtain ⟨sl, e1⟩ := I.base.slot b o e n hb hx
  exact ⟨sl, (hs.2 b (nb b o e)).trans e1⟩
 ·obtain ⟨o', e1⟩ := I.base.there b o e hx
  exact ⟨o', (hs.2 b (nb b o e)).trans e1⟩
 ·by_cases hj : j = i
  ·subst hj
   rw [List.getElem?_set_self hlen] at e2
   cases e2
  ·rw [List.getElem?_set_ne (Ne.symm hj)] at e2
   obtain ⟨u2, r2, q⟩ := hl j y w e1 e2 e3
   refine ⟨u2, r2, ?_⟩
   rcases q with ⟨k, e⟩ | ⟨k, c, e, z⟩
   ·refine .inl ⟨k, ?_⟩
    have : y ≠ x := fun e => hj (qgc hN e1 (e ▸ hi))
    simp [this, e]
   ·exact .inr ⟨k, c, e, z.sameBut hs (cne y c e)⟩
 ·obtain ⟨w', z⟩ := I.cell y c e
  exact ⟨w', z.sameBut hs (cne y c e)⟩
 ·obtain ⟨e, n, ne, nf, d⟩ := I.pin p hp
  exact ⟨(hs.2 p.1 ne).trans e, n, ne, nf, d⟩
 ·refine (I.hok b ob e).stay (fun c w' hc q => (hs.2 c ?_).trans q) (fun _ q => q) fun _ _ q => q
  rintro rfl
  rcases hc with z | z
  ·have := I.free
   rw [z] at this; rw [this] at e; cases e
  ·rw [I.free] at z; cases z
 ·rw [List.length_set]; exact I.len
end
section
variable {X : Cx} {pins : List (Addr × Obj)} {σ : St} {H : Hp} {s : Shared} {ea C : Addr} {o : HO}
theorem Inv.track (I : Inv X pins σ H s) (hn : H ea = none) (h0 : X.s₀.heap.get? ea = none) (hl : ea ≠ X.env.locals) (hc : ∀ x c, X.env.cells.lookup x = some c -> c ≠ ea) (hp : ∀ p ∈ X.pn ++ pins, p.1 ≠ ea)
  (new : qa1 X.prog X.w (upd H ea o) s.heap ea o) : Inv X pins σ (upd H ea o) s := by
 have J := I.stepN (h' := s.heap) (H' := upd H ea o) (g' := s.gens) (d' := s.drawn) (t' := s.toks) (ch := [ea]) (fun b hb => by
   have z : b = ea := by simpa using hb
   rw [z]; exact ⟨h0, hl, hc, hp⟩) (fun b o _ _ _ e _ => e) (fun b o _ _ _ e _ => ⟨o.slots, e⟩) (fun b o hb e n => by rw [qag (fun z => hb (by simp [z]))]; exact n) (fun b o _ e => ⟨o, e⟩)
  (fun b xs e => by rw [qag (qaf e hn)]; exact e) (fun b o u e => by rw [qag (qaf e hn)]; exact e) (fun b ps e => ⟨#[], by rw [qag (qaf e hn), e]; simp⟩) (fun m hm => hm) (fun b u e => ?_) I.bare
 ·exact J
 ·by_cases z : b = ea
  ·rw [z, qab] at e
   cases e
   rw [z]; exact new
  ·rw [qag z] at e
   exact (I.hok b u e).stay (fun _ _ _ q => q) (fun b q => by rw [qag (qaf q hn)]; exact q) (fun b xs q => by rw [qag (qaf q hn)]; exact q)
noncomputable def qh1 (ea C : Addr) (dx : Option Addr) : HO := .ext fun h => ∃ oe vs, h.get? ea = some oe /\ oe.cls = .ref C /\ oe.dict = dx /\ oe.data = Data.fields vs
theorem qr9 {P : Program} {w : World} {H : Hp} {h : Heap} {oe : Obj} {dx : Option Addr} {vs : Array Value} (h1 : h.get? ea = some oe) (h2 : oe.cls = .ref C) (h3 : oe.dict = dx) (h4 : oe.data = Data.fields vs) : qa1 P w H h ea (qh1 ea C dx) :=
 ⟨⟨oe, vs, h1, h2, h3, h4⟩, ⟨oe, h1⟩, fun h1' h2' ⟨o, vs', q1, q2⟩ k => ⟨o, vs', k o q1, q2⟩⟩
end
noncomputable def Cx.held (X : Cx) (ea : Addr) : Cx := { X with A := X.A.mark (some (.ref ea)), calm := false, xe := fun _ _ => False }
section
variable {X : Cx} {pins : List (Addr × Obj)} {σ : St} {H : Hp} {s : Shared} {ea : Addr}
theorem Inv.held (I : Inv X pins σ H s) (ea : Addr) : Inv (X.held ea) pins σ H s :=
 ⟨⟨I.ok.mod, I.ok.kind, I.ok.glob, I.ok.blt, I.ok.above, I.ok.inj, I.ok.has, I.ok.cab, (fun z => by cases z), I.ok.frames, I.ok.stk, I.ok.exf, I.ok.bs, I.ok.bsz, I.ok.noex, I.ok.exfs, I.ok.funs, I.ok.frf⟩, I.os, I.bare, I.base, I.loc, I.cell, I.free, I.freeC, I.pin, I.hok, I.len⟩
theorem Inv.unheld (ok : X.Ok) (I : Inv (X.held ea) pins σ H s) : Inv X pins σ H s :=
 ⟨ok, I.os, I.bare, I.base, I.loc, I.cell, I.free, I.freeC, I.pin, I.hok, I.len⟩
theorem qgq {M : Model} {A : Around} {E : Value -> Shared -> Prop} {i : Nat} {n : Str} {pos : Pos} {Q : Unit -> Shared -> Prop} (I : Inv X pins σ H s) (hN : X.N.Nodup) (hi : X.N[i]? = some n) (hk : X.env.scope.names.lookup n = some .local)
  (h : ∀ s', Inv X pins (σ.set i none) H s' -> Q () s') : wpAny M A (do bindName X.env n Value.none; unbindBehindTheSuite X.env n pos) Q E s := by
 refine wpAny_bind (wpAny_bindName (qc4 I hN hi (.inl hk) (v := .non) rfl (fun s' I' => ?_) (.inr hk)))
 have hl : i < σ.length := by rw [I.len]; exact (List.getElem?_eq_some_iff.mp hi).1
 unfold unbindBehindTheSuite
 refine wpAny_onRaise (qnk I' hN hi hk (v := .non) (List.getElem?_set_self hl) fun s2 I2 => h s2 ?_)
 rw [List.set_set] at I2
 exact I2
noncomputable def Under (h : Heap) (C R : Addr) : Prop := ∃ (nm q : Str) (N : Addr) (bs bm : List Value) (hdct : Bool) (sn : List Str) (sub : List Value) (ab : Bool) (col : Option Bool) (dd : Option Addr) (k0 k1 k2 k3 k5 : Option Value) (newId : String),
 h.get? C = some (excClassObj nm q C N bs bm hdct sn sub ab col dd k0 k1 k2 k3 k5 newId) /\ (Value.ref C :: bm).contains (.ref R) = true
noncomputable def qvf (D : Ends) (j : Nat) : Ends := { nx := fun σ H => D.nx (σ.set j none) H, rt := D.rt, bk := fun σ H => D.bk (σ.set j none) H, ct := fun σ H => D.ct (σ.set j none) H }
noncomputable def qym (tx : TSX) (th : TS) (j : Nat) (U : Addr -> Prop) : TS := fun D σ H => tx (fun σ1 cls dx H' => ∃ C, cls = .ref C /\ U C /\ ∀ ea, H' ea = none -> th (qvf D j) (σ1.set j (some (.ref ea))) (upd H' ea (qh1 ea C dx))) D σ H
end
section
variable {X : Cx} {st b0 : Stmt} {suite : List Stmt} {tx : TSX} {th : TS} {x n : Str} {R : Addr} {j : Nat} {np hpos pos : Pos}
theorem quf (hst : PSX X st tx) (hx : X.mg x = some (.ref R)) (hR : qry X.base R) (hth : ∀ ea, PSs (X.held ea) (b0 :: suite) th) (hN : X.N.Nodup) (hj : X.N[j]? = some n) (hn : X.env.scope.names.lookup n = some .local) (hstk : X.stack = X.env :: X.outer) (hfr : X.env.frame = some X.env.locals) (hex : X.ex = [])
  (hg : Gl X x := by rfl) (hdb : (x == ("__debug__" : Str)) = false := by decide) :
  PS X (.Try [st] [.ExceptHandler (some (.Name x np)) (some n) (b0 :: suite) hpos] [] [] pos) (qym tx th j fun C => Under X.base C R) := by
 intro pins s σ H D I h
 refine wpAny_Try_except (wpAny_execs_cons (wpAny_mono (hst pins s σ H D _ I h) (fun f s1 q => ?_) (fun e s1 q => ?_)))
 ·cases f with
  | next => exact wpAny_execs_nil (wpAny_execs_nil q)
  | ret v => exact q
  | brk => exact q
  | cont => exact q
 ·obtain ⟨σ1, H1, s2, I1, ea, T, cls, a0, dx, H', rfl, os, bare, un, hok, n1, n2, m1, m2, trc, C, rfl, hu, hth'⟩ := q
  have I' : Inv X pins σ1 H' s1 := I1.call' (ch := []) os un hok bare (by simp)
  have ffs := I'.stack
  rw [hstk] at ffs
  have afr : X.A.frames = some (X.env :: X.outer) := by rw [<- hstk]; exact I'.ok.frames
  have there : ∀ b o, s2.heap.get? b = some o -> ∃ o', s1.heap.get? b = some o' := fun b o q => un.there b o q (by simp)
  have newAt : ∀ b, s2.heap.get? b = none -> X.s₀.heap.get? b = none /\ b ≠ X.env.locals /\ (∀ x c, X.env.cells.lookup x = some c -> c ≠ b) /\ ∀ p ∈ X.pn ++ pins, p.1 ≠ b := fun b q => by
   refine ⟨?_, fun z => ?_, fun y c e z => ?_, fun p hp z => ?_⟩
   ·cases hc : X.s₀.heap.get? b with
    | none => rfl
    | some o =>
     obtain ⟨o', q'⟩ := I1.base.there b o hc (by rw [hex]; simp)
     rw [q] at q'; cases q'
   ·obtain ⟨m, ⟨o, _, _, ho, _⟩, _⟩ := I1.loc
    rw [<- z, q] at ho; cases ho
   ·obtain ⟨v, o, ho, _⟩ := I1.cell y c e
    rw [z, q] at ho; cases ho
   ·have := (I1.pin p hp).1
    rw [z, q] at this; cases this
  have noH : ∀ b, s1.heap.get? b = none -> H' b = none := fun b q => by
   cases hc : H' b with
   | none => rfl
   | some o =>
    obtain ⟨ob, q'⟩ := qa1.got (hok b o hc)
    rw [q] at q'; cases q'
  have mk : ∀ b, s2.heap.get? b = none -> H' b = none -> X.s₀.heap.get? b = none /\ H' b = none /\ b ≠ X.env.locals /\ (∀ x c, X.env.cells.lookup x = some c -> c ≠ b) /\ ∀ p ∈ X.pn ++ pins, p.1 ≠ b := fun b q1 q2 => ⟨(newAt b q1).1, q2, (newAt b q1).2⟩
  refine qe5 (Q := fun _ s3 => wpAny (model X.prog X.w) X.A (handleBy (Value.ref ea) X.env [ExceptHandler.ExceptHandler (some (Expr.Name x np)) (some n) (b0 :: suite) hpos]) (SP X pins D) X.xe s3) (base := X.base) afr hfr ffs trc fun h3 T3 mv3 nw3 tr3 => ?_
  have nT3 : s2.heap.get? T3 = none /\ H' T3 = none := by
   refine ⟨?_, noH T3 nw3⟩
   cases hc : s2.heap.get? T3 with
   | none => rfl
   | some o =>
    obtain ⟨o', q'⟩ := there T3 o hc
    rw [nw3] at q'; cases q'
  have I3 : Inv X pins σ1 H' { s1 with heap := h3 } := I'.moved (G := [ea, T]) (fun b hb => by
   simp at hb
   rcases hb with z | z
   ·rw [z]; exact mk ea n1 m1
   ·rw [z]; exact mk T n2 m2) (fun b o q hb hg => mv3.keep b o q (by rw [<- hstk]; exact hb) hg) (fun b o q hb => mv3.slot b o q (by rw [<- hstk]; exact hb))
  refine wpAny_handleBy_cons (codeAny_handlers_test ?_) (by intro z; cases z)
  refine qdt (X := X.held ea) (I3.held ea) hg hx ?_ hdb
  obtain ⟨nm, q, N, bs, bm, bmB, hdct, sn, sub, ab, col, dd, k0, k1, k2, k3, k5, mN, B, Bn, newId, nid, initId, inN, bmN, a1, a2, a3, a4, a5, a6, a7, a8⟩ := hR
  obtain ⟨nm', q', N', bs', bm', hdct', sn', sub', ab', col', dd', l0, l1, l2, l3, l5, newId', c1, c2⟩ := hu
  obtain ⟨oe, vs, oT, ts, g1, g2, g3, g4, g5, g6, g7, g8, g9, g10⟩ := id tr3
  refine qf6 (I3.bk _ _ c1) (I3.bk _ _ a1) g1 g2 a5 ?_
  rw [c2]
  show codeAny _ _ (Code.handlers (.ref ea) [ExceptHandler.ExceptHandler none (some n) (b0 :: suite) hpos] X.env) _ _
  refine codeAny_handlers_suite_as (ground tr3 fun h4 same4 tr4 => ?_)
  have I4 : Inv X pins σ1 H' { s1 with heap := h4 } := Inv.moved (s := { s1 with heap := h3 }) (h' := h4) (G := [T3]) I3 (fun b hb => by
   have z : b = T3 := by simpa using hb
   rw [z]; exact mk T3 nT3.1 nT3.2) (fun b o q hb hg => (same4 b fun z => hg (by simp [z])).trans q) (fun b o q hb => ⟨o.slots, (same4 b fun z => by
    obtain ⟨o2, q2, nf⟩ := qic I3.stack b hb
    rw [z, g7] at q2; cases q2; exact nf _ g8).trans q⟩)
  obtain ⟨oe4, vs4, oT4, ts4, f1, f2, _, f4, _, _, _, _, _, f10⟩ := id tr4
  have I4t : Inv X pins σ1 (upd H' ea (qh1 ea C dx)) { s1 with heap := h4 } := I4.track m1 (newAt ea n1).1 (newAt ea n1).2.1 (newAt ea n1).2.2.1 (newAt ea n1).2.2.2 (qr9 f1 f2 f10 f4)
  refine qc4 (X := X.held ea) (I4t.held ea) hN hj (.inl hn) (v := .ref ea) rfl (fun s5 I5 => ?_) (.inr hn)
  refine wpAny_mono (hth ea pins s5 (σ1.set j (some (.ref ea))) (upd H' ea (qh1 ea C dx)) (qvf D j) I5 (hth' ea m1)) (fun f s6 q6 => ?_) (fun _ _ z => False.elim z)
  cases f with
  | next =>
   obtain ⟨σ2, H2, J, q⟩ := q6
   exact qgq (J.unheld I.ok) hN hj hn fun s7 I7 => ⟨σ2.set j none, H2, I7, q⟩
  | brk =>
   obtain ⟨σ2, H2, J, q⟩ := q6
   exact qgq (J.unheld I.ok) hN hj hn fun s7 I7 => ⟨σ2.set j none, H2, I7, q⟩
  | cont =>
   obtain ⟨σ2, H2, J, q⟩ := q6
   exact qgq (J.unheld I.ok) hN hj hn fun s7 I7 => ⟨σ2.set j none, H2, I7, q⟩
  | ret u =>
   obtain ⟨v, σ2, H2, J, rv, q⟩ := q6
   exact qgq (J.unheld I.ok) hN hj hn fun s7 I7 => ⟨v, σ2.set j none, H2, I7, rv, q⟩
end
section
variable {X : Cx} {pins : List (Addr × Obj)} {σ : St} {H : Hp} {s : Shared}
end
section
variable {X : Cx} {st : Stmt} {rest : List Stmt} {t u : TSX} {pos : Pos}
end
open Builtin Builtin.ObjectAttr
inductive qdo (h : Heap) (S : List Str) (bmB : List Value) : List Value -> Prop
 | base : qdo h S bmB bmB
 | own {B : Addr} {c0 : Value} {dd : Option Addr} {cd : ClassData} {sl : Array (Option Value)} {m : Str -> Option Value} {tl : List Value} (e : h.get? B = some ⟨c0, dd, .cls cd, sl⟩) (n : h.Ns cd.ns m) (i : ∀ x ∈ S, m x = none) (r : qdo h S bmB tl) : qdo h S bmB (.ref B :: tl)
section
variable {h h' : Heap} {S : List Str} {bmB tl : List Value}
theorem qdo.stays (k : ∀ b o, h.get? b = some o -> h'.get? b = some o) (x : qdo h S bmB tl) : qdo h' S bmB tl := by
 induction x with
 | base => exact .base
 | own e n i _ ih => exact .own (k _ _ e) (n.keeps k) i ih
theorem qdo.plain (hS : Str.ofString "__init__" ∈ S) (x : qdo h S bmB tl) : OwnTail h bmB tl := by
 induction x with
 | base => exact .base
 | own e n i _ ih => exact .own e n (i _ hS) ih
theorem qdo.has (x : qdo h S bmB tl) {T : String} {b : Bool} (hb : bmB.contains (.type T) = b) : tl.contains (.type T) = b := by
 induction x with
 | base => exact hb
 | own _ _ _ _ ih => rw [List.contains_cons, ih]; rfl
theorem qdo.passes {self : Value} {what : Str} (x : qdo h S bmB tl) (hb : refuseLoop self what bmB = pure ()) : refuseLoop self what tl = pure () := by
 induction x with
 | base => exact hb
 | own _ _ _ _ ih => rw [refuseLoop_ref]; exact ih
end
section
variable {M : Model} {A : Around} {E : Value -> Shared -> Prop} {h : Heap} {g : Array GenState} {d : Drawn} {t : Nat} {os : OsState} {S : List Str} {bmB tl : List Value} {x : Str} {y : Option Value} {Q : Option Value -> Shared -> Prop}
theorem qsp (hx : x ∈ S) (T : qdo h S bmB tl) (hr : lookupAlong bmB x = pure y) (hq : Q y ⟨h, g, d, t, os⟩) : wpAny M A (lookupAlong tl x) Q E ⟨h, g, d, t, os⟩ := by
 induction T with
 | base => rw [hr]; exact wpAny_pure hq
 | own e n i _ ih =>
  rw [lookupAlong_cons]
  refine wpAny_bind (wpAny_classOwn_cls e n ?_)
  rw [i x hx]
  exact ih
variable {nm q : Str} {C N : Addr} {bs bm : List Value} {hdct : Bool} {sn : List Str} {sub : List Value} {ab : Bool} {col : Option Bool} {dd : Option Addr} {k0 k1 k2 k3 k5 : Option Value} {B newId : String} {mN : Str -> Option Value}
theorem qd2 (c1 : h.get? C = some (excClassObj nm q C N bs bm hdct sn sub ab col dd k0 k1 k2 k3 k5 newId)) (c2 : h.Ns N mN) (c3 : mN x = none) (hx : x ∈ S) (T : qdo h S bmB bm) (mr : mroOf (.type B) = pure bmB) (hB : typeLookup (.type B) x = pure y) (hq : Q y ⟨h, g, d, t, os⟩) :
  wpAny M A (typeLookup (.ref C) x) Q E ⟨h, g, d, t, os⟩ := by
 have hr : lookupAlong bmB x = pure y := by rw [typeLookup_eq, mr] at hB; exact hB
 rw [typeLookup_eq]
 refine wpAny_bind (wpAny_mroOf_exc c1 ?_)
 rw [lookupAlong_cons]
 refine wpAny_bind (wpAny_classOwn_exc c1 c2 ?_)
 rw [c3]
 exact qsp hx T hr hq
end
structure qlz (S : List Str) (h : Heap) (C f : Addr) (nm q : Str) (N : Addr) (bs bm bmB : List Value) (sn : List Str) (sub : List Value) (ab : Bool) (col : Option Bool) (dd : Option Addr) (k0 k1 k2 k3 k5 : Option Value) (mN : Str -> Option Value) (B newId initId sa ow : String) : Prop where
 at_ : h.get? C = some (excClassObj nm q C N bs bm true sn sub ab col dd k0 k1 k2 k3 k5 newId)
 ns : h.Ns N mN
 init : mN (Str.ofString "__init__") = some (.ref f)
 no : ∀ x ∈ S, mN x = none
 tail : qdo h (Str.ofString "__init__" :: S) bmB bm
 bf : ExcBaseFacts B newId initId bmB
 sf : StoreFacts B bmB sa ow
 af : ExcAttrBase B bmB
theorem qlz.stays {S : List Str} {h h' : Heap} {C f : Addr} {nm q : Str} {N : Addr} {bs bm bmB : List Value} {sn : List Str} {sub : List Value} {ab : Bool} {col : Option Bool} {dd : Option Addr} {k0 k1 k2 k3 k5 : Option Value} {mN : Str -> Option Value} {B newId initId sa ow : String}
  (x : qlz S h C f nm q N bs bm bmB sn sub ab col dd k0 k1 k2 k3 k5 mN B newId initId sa ow) (k : ∀ b o, h.get? b = some o -> h'.get? b = some o) : qlz S h' C f nm q N bs bm bmB sn sub ab col dd k0 k1 k2 k3 k5 mN B newId initId sa ow :=
 ⟨k _ _ x.at_, x.ns.keeps k, x.init, x.no, x.tail.stays k, x.bf, x.sf, x.af⟩
section
variable {prog : Program} {w : World} {A : Around} {E : Value -> Shared -> Prop} {h : Heap} {g : Array GenState} {d : Drawn} {t : Nat} {os : OsState}
 {S : List Str} {C f : Addr} {nm q : Str} {N : Addr} {bs bm bmB : List Value} {sn : List Str} {sub : List Value} {ab : Bool} {col : Option Bool} {dd : Option Addr} {k0 k1 k2 k3 k5 : Option Value} {mN : Str -> Option Value} {B newId initId sa ow : String}
theorem qk5 (x : qlz S h C f nm q N bs bm bmB sn sub ab col dd k0 k1 k2 k3 k5 mN B newId initId sa ow) {us : List Value} {oI : Obj} {Q : Fin -> Shared -> Prop} (f1 : h.get? f = some oI) (f2 : oI.cls = .type "function")
  (k : ∀ h' e, h.MadeExcOf h' e (.ref C) us -> wpAny (model prog w) A (call (.ref f) (.ref e :: us)) (fun r s' => r = .none /\ Q (.done (.ret (.ref e))) s') E ⟨h', g, d, t, os⟩) (hl : us.length <= sizeLine) :
  wpAny (model prog w) A (Builtin.«type.__call__» ⟨.ref C :: us, []⟩) Q E ⟨h, g, d, t, os⟩ := by
 have c1 := x.at_
 have T := x.tail.plain (List.mem_cons_self ..)
 repeat (first | with_reducible refine wpAny_loadPart_at c1 ?_ | with_reducible refine wpAny_madeBy_exc c1 ?_ | wp_step)
 refine codeAny_call_builtin_code (Code.quiet_builtin _ x.bf.quiet) (wpAny_check_new_subT x.bf T c1 (codeAny_exc_new_subT x.bf T c1 ?_ hl))
 show wpAny _ _ _ _ _ _
 generalize hob : ({ cls := .ref C, data := .fields #[.ref h.objs.size, .none, .none, .none, .bool false, .none] } : Obj) = ob
 generalize hot : ({ cls := .type "tuple", data := .seq us.toArray } : Obj) = ot
 have kp : ∀ b o, h.get? b = some o -> ((h.push ot).push ob).get? b = some o := fun b o z => Heap.get?_push_of_some _ (Heap.get?_push_of_some _ z)
 have g1 : ((h.push ot).push ob).get? (h.objs.size + 1) = some ob := by
  have := Heap.get?_push_size (h.push ot) (o := ob) (by rw [<- hob]; rfl)
  rwa [Heap.size_push] at this
 have oc : ob.cls = .ref C := by rw [<- hob]
 have c2 := kp _ _ c1
 have cC : (Value.ref C :: bm).contains (.ref C) = true := by simp
 unfold isInstance
 repeat (first | (with_reducible refine wpAny_loadPart_at g1 ?_; rw [oc]) | (with_reducible refine wpAny_isSubtype_exc c2 ?_; rw [cC]) | wp_step)
 show wpAny _ _ (typeLookup (.ref C) _) _ _ _
 refine wpAny_typeLookup_tail c2 (x.ns.keeps kp) (T.keeps kp) x.bf.mroIs x.bf.init.lookup ?_
 rw [show mN "__init__" = some (.ref f) from x.init]
 refine wpAny_holding (wpAny_bind ?_)
 unfold bindSpecial
 refine wpAny_bind (wpAny_typeOf (T := "function") ⟨_, kp _ _ f1, f2⟩ ?_)
 rw [if_pos (by decide)]
 refine wpAny_pure (wpAny_bind (wpAny_mono (k _ (h.objs.size + 1) ⟨kp, Heap.get?_none_of_le (Nat.le_succ _), h.objs.size, by rw [hob]; exact g1, Heap.get?_none_of_le (Nat.le_refl _), ?_⟩) (fun r s' hr => ?_) fun _ _ z => z))
 ·rw [hot]
  exact Heap.get?_push_of_some _ (Heap.get?_push_size h (by rw [<- hot]; rfl))
 ·obtain ⟨rfl, hQ⟩ := hr
  wp_walk
  exact hQ
theorem qtw (x : qlz S h C f nm q N bs bm bmB sn sub ab col dd k0 k1 k2 k3 k5 mN B newId initId sa ow) {us : List Value} {oI : Obj} {Q : Value -> Shared -> Prop} (f1 : h.get? f = some oI) (f2 : oI.cls = .type "function")
  (k : ∀ h' e, h.MadeExcOf h' e (.ref C) us -> wpAny (model prog w) (A.under (.builtin "type.__call__" ⟨.ref C :: us, []⟩)) (call (.ref f) (.ref e :: us)) (fun r s' => r = .none /\ Q (.ref e) s') E ⟨h', g, d, t, os⟩) (hl : us.length <= sizeLine) :
  wpAny (model prog w) A (call (.ref C) us) Q E ⟨h, g, d, t, os⟩ := by
 have l1 := tc_lookup
 have l2 := tc_bind (.ref C)
 have c1 := x.at_
 have hT : (⟨h, g, d, t, os⟩ : Shared).TypeIs (.ref C) "type" := ⟨_, c1, rfl⟩
 refine wpAny_call (codeAny_of_tree ?_)
 show wpAny _ _ (callAny (.ref C) _) _ _ _
 repeat (any_goals (first | assumption | with_reducible refine wpAny_loadPart_at c1 ?_ | wp_step))
 refine ⟨rfl, codeAny_call_builtin_at (Code.quiet_builtin _ (by decide +kernel)) entry_typeCall (wpAny_check_type_call_sub c1 (qk5 x f1 f2 (fun h' e m => ?_) hl))⟩
 exact k h' e m
end
noncomputable def qh4 (C : Addr) (dx : Option Addr) (t : Addr) : Obj := { cls := .ref C, dict := dx, data := .fields #[.ref t, .none, .none, .none, .bool false, .none] }
noncomputable def qoq (e C : Addr) (dx : Option Addr) : HO := .ext fun h => ∃ t, h.get? e = some (qh4 C dx t)
theorem ql0 {P : Program} {w : World} {H : Hp} {h : Heap} {e C t : Addr} {dx : Option Addr} (q : h.get? e = some (qh4 C dx t)) : qa1 P w H h e (qoq e C dx) :=
 ⟨⟨t, q⟩, ⟨_, q⟩, fun h1 h2 ⟨t', z⟩ k => ⟨t', k _ z⟩⟩
theorem qnb {P : Program} {w : World} {H : Hp} {h : Heap} {e C : Addr} {dx : Option Addr} (x : qa1 P w H h e (qoq e C dx)) : ∃ t, h.get? e = some (qh4 C dx t) := x.1
noncomputable def del (H : Hp) (a : Addr) : Hp := fun b => if b = a then none else H b
theorem qgf {H : Hp} {a : Addr} : del H a a = none := by unfold del; rw [if_pos rfl]
theorem qdp {H : Hp} {a b : Addr} (h : b ≠ a) : del H a b = H b := by unfold del; rw [if_neg h]
section
variable {X : Cx} {pins : List (Addr × Obj)} {σ : St} {H : Hp} {s : Shared} {ea : Addr} {φ : Heap -> Prop}
theorem Inv.untrack (I : Inv X pins σ H s) (he : H ea = some (.ext φ)) : Inv X pins σ (del H ea) s := by
 have ne : ∀ b u, H b = some u -> (∀ ψ, u ≠ .ext ψ) -> b ≠ ea := fun b u q n z => by
  rw [z, he] at q; cases q
  exact n _ rfl
 have J := I.step (h' := s.heap) (H' := del H ea) (g' := s.gens) (d' := s.drawn) (t' := s.toks) (ch := []) (fun b hb => absurd hb (by simp)) (fun b o _ _ _ e _ => e) (fun b o _ _ _ e _ => ⟨o.slots, e⟩) (fun b o _ _ n => by
   by_cases z : b = ea
   ·rw [z]; exact qgf
   ·rw [qdp z]; exact n) (fun b o _ e => ⟨o, e⟩)
  (fun b xs e => by rw [qdp (ne b _ e fun _ z => by cases z)]; exact e) (fun b o u e => by rw [qdp (ne b _ e fun _ z => by cases z)]; exact e) (fun b ps e => ⟨#[], by rw [qdp (ne b _ e fun _ z => by cases z), e]; simp⟩) (fun m hm => hm) (fun b u e => ?_) I.bare
 ·exact J
 ·by_cases z : b = ea
  ·rw [z, qgf] at e; cases e
  ·rw [qdp z] at e
   exact (I.hok b u e).stay (fun _ _ _ q => q) (fun b q => by rw [qdp (ne b _ q fun _ z => by cases z)]; exact q) (fun b xs q => by rw [qdp (ne b _ q fun _ z => by cases z)]; exact q)
end
section
variable {M : Model} {A : Around} {E : Value -> Shared -> Prop} {s : Shared} {env : Env} {x : Sem Value} {Q : Flow -> Shared -> Prop}
 {nm q : Str} {C N : Addr} {bs bm : List Value} {hdct : Bool} {sn : List Str} {sub : List Value} {ab : Bool} {col : Option Bool} {dd : Option Addr} {k0 k1 k2 k3 k5 : Option Value} {newId : String}
theorem qk3 (hb : bm.contains (.type "BaseException") = true) (hh : A.handled = none)
  (h : wpAny M A x (fun v s1 => ∃ e t dx, v = .ref e /\ s1.heap.get? C = some (excClassObj nm q C N bs bm hdct sn sub ab col dd k0 k1 k2 k3 k5 newId) /\ s1.heap.get? e = some (qh4 C dx t) /\ E (.ref e) s1) E s) :
  wpAny M A (raiseStmt env (some x) none) Q E s := by
 have cB : (Value.ref C :: bm).contains (.type "BaseException") = true := by rw [List.contains_cons, hb, Bool.or_true]
 unfold raiseStmt
 refine wpAny_bind (wpAny_mono h (fun v s1 h1 => ?_) fun _ _ z => z)
 obtain ⟨e, t, dx, rfl, c1, e1, hE⟩ := h1
 unfold qh4 at e1
 obtain ⟨hp, g, d, tk, os⟩ := s1
 repeat (first | with_reducible refine wpAny_loadPart_at e1 ?_ | with_reducible refine wpAny_loadPart_at c1 ?_ | (with_reducible refine wpAny_isSubtype_exc c1 ?_; rw [cB]) | wp_step)
 exact wpAny_raiseNew_none hh hE
end
noncomputable def qrb (S : List Str) (h : Heap) (C f : Addr) : Prop := ∃ nm q N bs bm bmB sn sub ab col dd k0 k1 k2 k3 k5 mN B newId initId sa ow, qlz S h C f nm q N bs bm bmB sn sub ab col dd k0 k1 k2 k3 k5 mN B newId initId sa ow /\ (∀ x ∈ S, x ≠ Str.ofString "__setattr__" -> x ≠ Str.ofString "__getattribute__" -> x ≠ Str.ofString "__getattr__" -> typeLookup (.type B) x = pure none) /\ ∃ oI, h.get? f = some oI /\ oI.cls = .type "function"
noncomputable def qsh (C : Addr) (t : TA) (sp : Sp) (W : Value -> Option Addr -> Hp -> Prop) : TS := fun _ σ H => t σ H fun vs H1 => vs.length <= sizeLine /\ ∀ e, H1 e = none ->
 sp (.ref e :: vs) (upd H1 e (qoq e C none)) (fun v H2 => v = .non /\ ∃ dx, H2 e = some (qoq e C dx) /\ W (.ref C) dx (del H2 e)) E0
section
variable {X : Cx} {x : Str} {C f : Addr} {fd : FuncData} {ps : List Str} {sp : Sp} {k : Nat} {e : Expr} {es : List Expr} {t : TA} {np cpos pos : Pos} {W : Value -> Option Addr -> Hp -> Prop} {S : List Str}
theorem qoe (hx : X.mg x = some (.ref C)) (hC : qrb S X.base C f) (F : qca X.prog X.w X.K X.mg X.base CX0 k f fd ps sp) (hr : qcl (k + 1) X.A) (hbi : Binds X.K fd ps []) (hd : X.A.handled = none) (ha : PA X (e :: es) t)
  (xe : ∀ (pins : List (Addr × Obj)) (σ : St) (H : Hp) (s : Shared) (ea : Addr) (oe : Obj) (vs : Array Value) (a0 : Value), Inv X pins σ H s -> s.heap.get? ea = some oe -> oe.data = Data.fields vs -> vs[1]? = some Value.none -> vs[0]? = some a0 -> X.s₀.heap.get? ea = none -> H ea = none -> W oe.cls oe.dict H -> X.xe (.ref ea) s)
  (hex : X.ex = []) (hg : Gl X x := by rfl) (hdb : (x == ("__debug__" : Str)) = false := by decide) (he : starEach (e :: es) X.env = (false, eval e X.env) :: starEach es X.env := by rfl) (hpl : (backTo cpos (starEach (e :: es) X.env)).any (·.1) = false := by rfl) :
  PS X (.Raise (some (.Call (.Name x np) (e :: es) [] cpos)) none pos) (qsh C t sp W) := by
 intro pins s σ H D I h
 obtain ⟨nm, q, N, bs, bm, bmB, sn, sub, ab, col, dd, k0, k1, k2, k3, k5, mN, B, newId, initId, sa, ow, EI, _, oI, f1, f2⟩ := hC
 rw [arm_exec_Raise]
 have hb : bm.contains (.type "BaseException") = true := EI.tail.has EI.bf.hasBase
 refine wpAny_bind (wpAny_standAt (qk3 (C := C) (nm := nm) (q := q) (N := N) (bs := bs) (bm := bm) (hdct := true) (sn := sn) (sub := sub) (ab := ab) (col := col) (dd := dd) (k0 := k0) (k1 := k1) (k2 := k2) (k3 := k3) (k5 := k5) (newId := newId) hb hd (wpAny_bind (wpAny_mono (wpAny_Call_ofName (qdt I hg hx ?_ hdb)) (fun v s3 h3 => wpAny_bind (wpAny_standAt (wpAny_pure h3))) fun _ _ z => z))))
 unfold callWith
 have hpa := ha cpos pins s σ H _ I h
 have eb : backTo cpos (starEach (e :: es) X.env) = (false, eval e X.env) :: backTo cpos (starEach es X.env) := by rw [he]; rfl
 rw [eb] at hpa hpl ⊢
 refine wpAny_bind (wpAny_holding (Calls.evalArgs_plain (thn hpa fun us s2 hq => wpAny_bind (wpAny_standAt ?_))))
 obtain ⟨vs, H1, I1, r1, hl, hw⟩ := hq
 simp only [hpl]
 have kb := I1.bk
 have EI2 := EI.stays kb
 obtain ⟨hp, g, d, tk, os⟩ := s2
 refine wpAny_bind (wpAny_keeperOf_exc EI2.at_ (wpAny_bind (qtw EI2 (kb _ _ f1) f2 (fun h' ea m => ?_) (by show us.length <= sizeLine; rw [<- r1.length]; exact hl))))
 obtain ⟨keeps, new, t0, there, tn, tt⟩ := m
 have I2 : Inv X pins σ H1 ⟨h', g, d, tk, os⟩ := I1.kept (s := ⟨hp, g, d, tk, os⟩) (t' := tk) keeps
 have he1 : H1 ea = none := by
  cases hc : H1 ea with
  | none => rfl
  | some o =>
   obtain ⟨ob, q⟩ := qa1.got (I1.hok ea o hc)
   rw [new] at q; cases q
 have back : X.s₀.heap.get? ea = none := by
  cases hc : X.s₀.heap.get? ea with
  | none => rfl
  | some o =>
   obtain ⟨o', q'⟩ := I1.base.there ea o hc (by rw [hex]; simp)
   rw [new] at q'; cases q'
 have nl : ea ≠ X.env.locals := fun z => by
  obtain ⟨m, ⟨o, _, _, ho, _⟩, _⟩ := I1.loc
  rw [<- z, new] at ho; cases ho
 have nc : ∀ x c, X.env.cells.lookup x = some c -> c ≠ ea := fun y c e z => by
  obtain ⟨v, o, ho, _⟩ := I1.cell y c e
  rw [z, new] at ho; cases ho
 have np' : ∀ p ∈ X.pn ++ pins, p.1 ≠ ea := fun p hp z => by
  have := (I1.pin p hp).1
  rw [z, new] at this; cases this
 have I3 : Inv X pins σ (upd H1 ea (qoq ea C none)) ⟨h', g, d, tk, os⟩ := I2.track he1 back nl nc np' (ql0 (t := t0) there)
 have hs := hw ea he1
 have r2 : qba (V.ref ea :: vs) (Value.ref ea :: us) := .cons rfl r1
 have hln : (Value.ref ea :: us).length = ps.length := by
  rw [<- r2.length]; exact F.len _ _ _ _ hs
 have hbb := hbi ⟨h', g, d, tk, os⟩ (.ref ea :: us) I3.kIn (by simpa using hln)
 simp only [List.append_nil] at hbb
 refine wpAny_call (codeAny_mono (F.run _ X.stack _ _ ⟨Value.ref ea :: us, []⟩ (Value.ref ea :: us) _ _ E0 (hr.make C us []) (I3.env0.make C us []) hbb r2 hs) fun r s' hq' => ?_)
 cases r with
 | error e => exact False.elim hq'
 | ok fl =>
  cases fl with
  | ret u =>
   obtain ⟨v, H', J, rv, ev, dx, hd2, hW⟩ := I3.after hq'
   subst ev
   cases (show u = Value.none from rv)
   obtain ⟨t1, q1⟩ := qnb (J.hok ea _ hd2)
   refine ⟨rfl, wpAny_bind (wpAny_holding (wpAny_point (wpAny_pure ⟨ea, t1, dx, rfl, (J.bk _ _ EI.at_), q1, ?_⟩)))⟩
   exact xe pins σ (del H' ea) s' ea _ _ _ (J.untrack hd2) q1 rfl rfl rfl back qgf hW
  | next => exact False.elim hq'
  | brk => exact False.elim hq'
  | cont => exact False.elim hq'
end
open Builtin Builtin.ObjectAttr
section
variable {prog : Program} {w : World} {A : Around} {E : Value -> Shared -> Prop} {h : Heap} {g : Array GenState} {d : Drawn} {t : Nat} {os : OsState}
 {S : List Str} {C f x : Addr} {nm q : Str} {N : Addr} {bs bm bmB : List Value} {sn : List Str} {sub : List Value} {ab : Bool} {col : Option Bool} {dd : Option Addr} {k0 k1 k2 k3 k5 : Option Value} {mN : Str -> Option Value} {B newId initId sa ow : String}
 {o : Obj} {vs : Array Value} {name : Str} {v : Value}
theorem qmy {M : Model} {nv : Value} {Q : Unit -> Shared -> Prop} (K : qlz S h C f nm q N bs bm bmB sn sub ab col dd k0 k1 k2 k3 k5 mN B newId initId sa ow) (x1 : h.get? x = some o) (x2 : o.cls = .ref C) (hq : Q () ⟨h, g, d, t, os⟩) :
  wpAny M A (checkBuiltinCall sa ⟨[.ref x, nv, v], []⟩) Q E ⟨h, g, d, t, os⟩ := by
 have c1 := K.at_
 have cB : (Value.ref C :: bm).contains (.type ow) = true := by rw [List.contains_cons, K.tail.has K.sf.hasOwner, Bool.or_true]
 have ha := K.sf.args (.ref x) nv v
 simp only [checkBuiltinCall, K.sf.kind, K.sf.split]
 refine wpAny_bind ?_
 unfold isInstance
 repeat (first | (with_reducible refine wpAny_loadPart_at x1 ?_; rw [x2]) | (with_reducible refine wpAny_isSubtype_exc c1 ?_; rw [cB]) | wp_step)
 cases hs : Manifest.signature? sa with
 | none => exact wpAny_pure hq
 | some sig =>
  simp only [argsOk, hs] at ha
  show wpAny M A (Bind.checkArgs sa sig ⟨[.ref x, nv, v], []⟩) Q E _
  rw [show Bind.checkArgs sa sig ⟨[.ref x, nv, v], []⟩ = pure () from ha]
  exact wpAny_pure hq
theorem ql4 {tk : Tok} {Q : Fin -> Shared -> Prop} (K : qlz S h C f nm q N bs bm bmB sn sub ab col dd k0 k1 k2 k3 k5 mN B newId initId sa ow) (hS : name ∈ S) (hB : typeLookup (.type B) name = pure none)
  (x1 : h.get? x = some o) (x2 : o.cls = .ref C) (x3 : o.dict = none) (x4 : o.data = .fields vs)
  (hq : ∀ h' tk', h'.get? x = some { o with dict := some h.objs.size } -> h'.Ns1 h.objs.size (fun y => if y = name then some v else none) -> (∀ b u, b ≠ x -> h.get? b = some u -> h'.get? b = some u) -> Q (.done (.ret .none)) ⟨h', g, d, tk', os⟩) :
  wpAny (model prog w) A (Builtin.«object.__setattr__» ⟨[.ref x, .str name tk, v], []⟩) Q E ⟨h, g, d, t, os⟩ := by
 have c1 := K.at_
 have hp : refuseLoop (.ref x) "__setattr__" bm = pure () := K.tail.passes (K.sf.passes (.ref x))
 have hn := K.no name hS
 unfold Builtin.«object.__setattr__»
 repeat (first | rw [refuse_eq] | (rw [refuseLoop_ref, hp]) | (with_reducible refine wpAny_loadPart_at x1 ?_; rw [x2]) | with_reducible refine wpAny_mroOf_exc c1 ?_ | with_reducible refine qd2 c1 K.ns hn (List.mem_cons_of_mem _ hS) K.tail K.sf.mro hB ?_ | wp_step)
 rw [x3, if_neg (by simp [typeHasDict])]
 split
 ·rename_i z
  cases z
 split
 ·rename_i c z
  rw [x4] at z; cases z
 ·generalize hod : ({ cls := .type "dict", data := .dict #[] } : Obj) = od
  have e1 : (h.push od).get? x = some o := Heap.get?_push_of_some _ x1
  have nx : x ≠ h.objs.size := Nat.ne_of_lt (Heap.lt_size x1)
  refine wpAny_bind (wpAny_alloc' (wpAny_bind (wpAny_update' e1 (wpAny_pure ?_))))
  generalize hU : (fun o : Obj => ({ cls := o.cls, dict := some h.objs.size, data := o.data, slots := o.slots } : Obj)) = U
  have nf : (U o).isFreed = false := by
   rw [<- hU]
   have z := (Heap.get?_some_iff.mp x1).2
   obtain ⟨_, _, dt, _⟩ := o
   cases dt <;> first | rfl | exact z
  have gd : ((h.push od).update x U).get? h.objs.size = some od := (Heap.get?_update_ne _ _ _ _ nx.symm).trans (Heap.get?_push_at rfl (by rw [<- hod]; rfl))
  have nd : ((h.push od).update x U).Ns h.objs.size (fun _ => none) := ⟨_, #[], _, gd, by rw [<- hod], fun e he => absurd he (by simp), fun _ => rfl⟩
  show wpAny _ _ (storeInDict h.objs.size (.str name tk) name v) _ _ _
  unfold storeInDict newKeyGuard
  refine wpAny_bind (wpAny_pure (wpAny_bind (wpAny_nsSet1 (Heap.Ns1.of_empty nd) fun h' n' hs => ?_)))
  obtain ⟨oD, esD, epD, hoD, hdD, hcD⟩ := n'.count (Within.cons name v Within.nil)
  refine wpAny_bind (wpAny_lookBehind hoD (by rw [hdD]; exact pastItsLine_dict (Nat.le_trans hcD (by rw [List.length_cons, List.length_nil, sizeLine_eq]; omega))) ?_)
  wp_walk
  refine hq h' _ ?_ n' fun b u n q => (hs.2 b (Nat.ne_of_lt (Heap.lt_size q))).trans ((Heap.get?_update_ne _ _ _ _ n).trans (Heap.get?_push_of_some _ q))
  have e2 := (hs.2 x nx).trans (Heap.get?_update_self U e1 nf)
  rw [e2, <- hU]
theorem qph {Q : Unit -> Shared -> Prop} (K : qlz S h C f nm q N bs bm bmB sn sub ab col dd k0 k1 k2 k3 k5 mN B newId initId sa ow) (hsa : Str.ofString "__setattr__" ∈ S) (hS : name ∈ S) (hB : typeLookup (.type B) name = pure none)
  (x1 : h.get? x = some o) (x2 : o.cls = .ref C) (x3 : o.dict = none) (x4 : o.data = .fields vs)
  (hq : ∀ h' tk', h'.get? x = some { o with dict := some h.objs.size } -> h'.Ns1 h.objs.size (fun y => if y = name then some v else none) -> (∀ b u, b ≠ x -> h.get? b = some u -> h'.get? b = some u) -> Q () ⟨h', g, d, tk', os⟩) :
  wpAny (model prog w) A (setAttr (.ref x) name v) Q E ⟨h, g, d, t, os⟩ := by
 have c1 := K.at_
 have b3 := K.sf.slot.bind (.ref x)
 have hn := K.no _ hsa
 unfold setAttr callSpecial? specialOf
 repeat (any_goals (first | assumption | (with_reducible refine wpAny_loadPart_at x1 ?_; rw [x2]) | with_reducible refine qd2 c1 K.ns hn (List.mem_cons_of_mem _ hsa) K.tail K.sf.mro K.sf.slot.lookup ?_ | wp_step))
 refine codeAny_call_builtin K.sf.slot.plain K.sf.entry (qmy K x1 x2 (ql4 K hS hB x1 x2 x3 x4 fun h' tk' a b c => ?_))
 repeat (any_goals (first | assumption | wp_step))
 exact hq h' tk' a b c
end
open Builtin Builtin.ObjectAttr
section
variable {prog : Program} {w : World} {A : Around} {E : Value -> Shared -> Prop} {h : Heap} {g : Array GenState} {d : Drawn} {t : Nat} {os : OsState}
 {S : List Str} {C f x dx : Addr} {nm q : Str} {N : Addr} {bs bm bmB : List Value} {sn : List Str} {sub : List Value} {ab : Bool} {col : Option Bool} {dd : Option Addr} {k0 k1 k2 k3 k5 : Option Value} {mN mA : Str -> Option Value} {B newId initId sa ow : String}
 {o : Obj} {vs : Array Value} {name : Str} {v : Value}
theorem qn7 {M : Model} {nv : Value} {Q : Unit -> Shared -> Prop} (K : qlz S h C f nm q N bs bm bmB sn sub ab col dd k0 k1 k2 k3 k5 mN B newId initId sa ow) (x1 : h.get? x = some o) (x2 : o.cls = .ref C) (hq : Q () ⟨h, g, d, t, os⟩) :
  wpAny M A (checkBuiltinCall "BaseException.__getattribute__" ⟨[.ref x, nv], []⟩) Q E ⟨h, g, d, t, os⟩ := by
 have c1 := K.at_
 have b1 : builtinKind "BaseException.__getattribute__" = some .slot := by decide +kernel
 have b2 : splitId "BaseException.__getattribute__" = some ("BaseException", "__getattribute__") := by decide +kernel
 have cB : (Value.ref C :: bm).contains (.type "BaseException") = true := by rw [List.contains_cons, K.tail.has K.af.hasBase]; rfl
 have ha := F.args_bexc_ga (.ref x) nv
 simp only [checkBuiltinCall, b1, b2]
 refine wpAny_bind ?_
 unfold isInstance
 repeat (first | (with_reducible refine wpAny_loadPart_at x1 ?_; rw [x2]) | (with_reducible refine wpAny_isSubtype_exc c1 ?_; rw [cB]) | wp_step)
 exact hq
theorem qna {tk : Tok} {Q : Fin -> Shared -> Prop} (K : qlz S h C f nm q N bs bm bmB sn sub ab col dd k0 k1 k2 k3 k5 mN B newId initId sa ow) (hS : name ∈ S) (hB : typeLookup (.type B) name = pure none)
  (x1 : h.get? x = some o) (x2 : o.cls = .ref C) (x3 : o.dict = some dx) (x4 : o.data = .fields vs) (x5 : h.Ns1 dx mA) (hv : mA name = some v) (hq : Q (.done (.ret v)) ⟨h, g, d, t, os⟩) :
  wpAny (model prog w) A (Builtin.«object.__getattribute__» ⟨[.ref x, .str name tk], []⟩) Q E ⟨h, g, d, t, os⟩ := by
 have c1 := K.at_
 have hn := K.no name hS
 unfold Builtin.«object.__getattribute__»
 repeat (first | (with_reducible refine wpAny_loadPart_at x1 ?_; rw [x2]) | with_reducible refine qd2 c1 K.ns hn (List.mem_cons_of_mem _ hS) K.tail K.sf.mro hB ?_ | wp_step)
 split
 ·rename_i c z
  rw [x4] at z; cases z
 unfold instanceDict
 repeat (first | (with_reducible refine wpAny_loadPart_at x1 ?_; rw [x2]) | with_reducible refine wpAny_loadPart_at c1 ?_ | wp_step)
 rw [x3]
 repeat (first | (with_reducible refine wpAny_nsGet x5.ns ?_; rw [hv]) | wp_step)
 exact hq
theorem qo6 {expr : Bool} {Q : Value -> Shared -> Prop} (K : qlz S h C f nm q N bs bm bmB sn sub ab col dd k0 k1 k2 k3 k5 mN B newId initId sa ow) (hga : Str.ofString "__getattribute__" ∈ S) (hgb : Str.ofString "__getattr__" ∈ S) (hS : name ∈ S) (hB : typeLookup (.type B) name = pure none)
  (x1 : h.get? x = some o) (x2 : o.cls = .ref C) (x3 : o.dict = some dx) (x4 : o.data = .fields vs) (x5 : h.Ns1 dx mA) (hv : mA name = some v) (hh : handedOut v = pure v) (hq : Q v ⟨h, g, d, t + 1, os⟩) :
  wpAny (model prog w) A (getAttr (.ref x) name expr) Q E ⟨h, g, d, t, os⟩ := by
 have c1 := K.at_
 have b3 := K.af.ga.bind (.ref x)
 have n1 := K.no _ hga
 have n2 := K.no _ hgb
 have z2 : (Value.builtin "BaseException.__getattribute__" == Value.builtin "object.__getattribute__") = false := by decide +kernel
 have z0 : (expr && onTheHeap (Value.builtin "BaseException.__getattribute__")) = false := by cases expr <;> rfl
 have z1 : (onTheHeap (Value.ref C) && Value.builtin "BaseException.__getattribute__" == Value.builtin "object.__getattribute__") = false := by rw [z2]; rfl
 unfold getAttr getAttrBy
 repeat (any_goals (first | assumption | (with_reducible refine wpAny_loadPart_at x1 ?_; rw [x2]) | with_reducible refine qd2 c1 K.ns n1 (List.mem_cons_of_mem _ hga) K.tail K.sf.mro K.af.ga.lookup ?_ | with_reducible refine qd2 c1 K.ns n2 (List.mem_cons_of_mem _ hgb) K.tail K.sf.mro K.af.noGetattr ?_ | wp_step))
 refine codeAny_call_builtin K.af.ga.plain F.entry_bexc_ga (qn7 K x1 x2 (qna K hS hB x1 x2 x3 x4 x5 hv ?_))
 repeat (any_goals (first | assumption | wp_step))
end
section
variable {X : Cx} {S : List Str} {o e value : Expr} {n : Str} {pos pos' : Pos} {ta tv : TE} {C f : Addr}
noncomputable def qwk (C : Addr) (ta : TE) (n : Str) : TE := fun σ H Q => ta σ H fun x H1 => ∃ a dx fs v, x = .ref a /\ H1 a = some (qh1 a C (some dx)) /\ H1 dx = some (.xd fs) /\ fs.lookup n = some v /\ Q v H1
theorem qrn (hC : qrb S X.base C f) (h1 : Str.ofString "__getattribute__" ∈ S) (h2 : Str.ofString "__getattr__" ∈ S) (h3 : n ∈ S) (h4 : n ≠ Str.ofString "__setattr__" /\ n ≠ Str.ofString "__getattribute__" /\ n ≠ Str.ofString "__getattr__") (he : PE X e ta) (hb : attributeBase e n X.env (eval e X.env) = eval e X.env := by rfl) :
  PE X (.Attribute e n pos) (qwk C ta n) := by
 intro pins s σ H Q I h
 obtain ⟨nm, q, N, bs, bm, bmB, sn, sub, ab, col, dd, k0, k1, k2, k3, k5, mN, B, newId, initId, sa, ow, EI, noB, _⟩ := hC
 refine qsy hb (thn (he pins s σ H _ I h) fun u s1 ⟨x, H1, I1, rx, a, dx, fs, v, ex, ea, ed, l, q⟩ => ?_)
 subst ex
 obtain rfl : u = Value.ref a := rx
 obtain ⟨⟨oe, vs, o1, o2, o3, o4⟩, _⟩ := (show qa1 X.prog X.w H1 s1.heap a (qh1 a C (some dx)) from I1.hok a _ ea)
 obtain ⟨mA, nA, rA⟩ := (show qa1 X.prog X.w H1 s1.heap dx (.xd fs) from I1.hok dx _ ed)
 obtain ⟨u', hu, ru⟩ := qlm.some_of (v := v) (o := mA n) (by rw [<- l]; exact rA n)
 obtain ⟨hp, g, d, tk, os⟩ := s1
 refine qo6 (EI.stays I1.bk) h1 h2 h3 (noB n h3 h4.1 h4.2.1 h4.2.2) o1 o2 o3 o4 nA hu (PySem.W.handedOut_of (qm6 ru)) ⟨v, H1, ?_, ru, q⟩
 exact I1.tok (tk + 1)
noncomputable def qwc (C : Addr) (ta tv : TE) (n : Str) : TS := fun D σ H => tv σ H fun y H1 => ta σ H1 fun x H2 => ∃ a, x = .ref a /\ H2 a = some (qoq a C none) /\ ∀ dx, H2 dx = none -> dx ≠ a -> D.nx σ (upd (upd H2 a (qoq a C (some dx))) dx (.xd [(n, y)]))
theorem qro (hC : qrb S X.base C f) (h1 : Str.ofString "__setattr__" ∈ S) (h3 : n ∈ S) (h4 : n ≠ Str.ofString "__setattr__" /\ n ≠ Str.ofString "__getattribute__" /\ n ≠ Str.ofString "__getattr__") (ha : PE X o ta) (hv : PE X value tv) (hs : swapsWith value (some (.Attribute o n pos')) pos.line X.env = pure false := by rfl) :
  PS X (.Assign [.Attribute o n pos'] value pos) (qwc C ta tv n) := by
 intro pins s σ H D I h
 obtain ⟨nm, q, N, bs, bm, bmB, sn, sub, ab, col, dd, k0, k1, k2, k3, k5, mN, B, newId, initId, sa, ow, EI, noB, _⟩ := hC
 refine plainObj_wpAny_Assign_Attribute (thn (hv pins s σ H _ I h) fun u s1 ⟨y, H1, I1, ry, q⟩ => thn (ha pins s1 σ H1 _ I1 q) fun ov s2 ⟨x, H2, I2, rx, a, ex, ea, q2⟩ => ?_) hs
 subst ex
 obtain rfl : ov = Value.ref a := rx
 obtain ⟨t0, o1⟩ := qnb (I2.hok a _ ea)
 obtain ⟨hp, g, d, tk, os⟩ := s2
 refine qph (EI.stays I2.bk) h1 h3 (noB n h3 h4.1 h4.2.1 h4.2.2) o1 rfl rfl rfl fun h' tk' a1 a2 a3 => ?_
 have hn : H2 hp.objs.size = none := I2.hok.fresh (Nat.le_refl _)
 have ne : hp.objs.size ≠ a := Nat.ne_of_gt (Heap.lt_size o1)
 refine ⟨σ, _, ?_, q2 hp.objs.size hn ne⟩
 obtain ⟨oD, es, ep, b1, b2⟩ := id a2
 have J := I2.write (x := a) (e := a) (o := qoq a C (some hp.objs.size)) (h' := h') (t' := tk') (by rw [ea]; exact True.intro) (.inl rfl) (fun b u n q => a3 b u n q) ⟨_, a1⟩ (ql0 (t := t0) a1)
 refine Inv.track (s := ⟨h', g, d, tk', os⟩) J (by rw [qag ne]; exact hn) ?_ ?_ ?_ ?_ ⟨_, a2, fun z => ?_⟩
 ·exact Heap.get?_none_of_le I2.sz
 ·exact Nat.ne_of_gt I2.lt
 ·intro y c e z
  obtain ⟨v, o, ho, _⟩ := I2.cell y c e
  exact absurd (Heap.lt_size ho) (by rw [z]; exact Nat.lt_irrefl _)
 ·intro p hp' z
  have := (I2.pin p hp').1
  exact absurd (Heap.lt_size this) (by rw [z]; exact Nat.lt_irrefl _)
 ·show qlm (List.lookup z [(n, y)]) (if z = n then some u else none)
  by_cases c : z = n
  ·rw [c, if_pos rfl]
   have : List.lookup n [(n, y)] = some y := by simp [List.lookup]
   rw [this]; exact ry
  ·rw [if_neg c]
   have : List.lookup z [(n, y)] = none := by
    unfold List.lookup
    rw [show (z == n) = false from beq_eq_false_iff_ne.mpr c]
    rfl
   rw [this]; exact True.intro
theorem qhu {C D : Addr} (hi : PySem.W.isIn X.K (.ref C) D = true) : qb7 X (.builtin "isinstance") (fun xs H Q => ∃ a dx, xs = [.ref a, .ref D] /\ H a = some (qh1 a C dx) /\ Q (.bl true) H) := by
 intro pins s σ H xs us Q I r h
 obtain ⟨a, dx, rfl, ea, q⟩ := h
 obtain ⟨u, w', rfl, rx, ry⟩ := vals2 r
 cases (show u = Value.ref a from rx)
 cases (show w' = Value.ref D from ry)
 obtain ⟨⟨oe, vs, o1, o2, o3, o4⟩, _⟩ := (show qa1 X.prog X.w H s.heap a (qh1 a C dx) from I.hok a _ ea)
 refine PySem.W.isi_call I.kIn (t := .ref C) (fun M A Q E s' k hq => ?_) hi (fun z => nomatch z) ⟨.bl true, H, I, rfl, q⟩
 refine wpAny_typeOf_ref (k _ _ o1) ?_
 rw [o2]; exact hq
end
theorem qlt {K : Frag} {h : Heap} {N : Addr} {m : Str -> Option Value} {x : Str} {v : Value} (X : K.In h) (G : h.Ns N m) (e : nsIn K N x = some (some v)) : m x = some v := by
 obtain ⟨o, es, ep, ho, hd, _, hf⟩ := G
 unfold nsIn at e
 split at e
 ·rename_i c d es' n' sl q
  have q2 := X _ _ q
  rw [ho] at q2
  cases q2
  cases hd
  split at e
  ·rename_i z hz
   rw [<- hf]
   unfold nsFind findBy
   rw [<- Array.find?_toList, hz]
   simpa using e
  ·split at e <;> simp at e
 ·cases e
noncomputable def qp9 (K : Frag) (S : List Str) (bmB : List Value) : List Value -> Bool
 | [] => bmB == []
 | v :: r => (v :: r) == bmB || (match v with
  | .ref A => (match K.lookup A with
   | some ⟨_, _, .cls cd, _⟩ => nsOkIn K cd.ns && S.all (fun x => nsIn K cd.ns x == some none) && qp9 K S bmB r
   | _ => false)
  | _ => false)
theorem qj2 {K : Frag} {h : Heap} {S : List Str} {bmB : List Value} (X : K.In h) : ∀ {l : List Value}, qp9 K S bmB l = true -> qdo h S bmB l
 | [], e => by
  have z : bmB = [] := beq_iff_eq.mp e
  rw [z]; exact .base
 | v :: r, e => by
  unfold qp9 at e
  rcases Bool.or_eq_true_iff.mp e with q | q
  ·rw [beq_iff_eq.mp q]; exact .base
  ·split at q
   ·split at q
    ·rename_i ho
     simp only [Bool.and_eq_true, List.all_eq_true, beq_iff_eq] at q
     exact .own (X _ _ ho) (.of_isNs (isNs_of_in X q.1.1)) (fun x hx => nsMap_none_of_in X q.1.1 (q.1.2 x hx)) (qj2 X q.2)
    ·cases q
   ·cases q
noncomputable def qht (K : Frag) (S : List Str) (C f : Addr) (bmB : List Value) (newId : String) : Bool := match K.lookup C with
 | some ⟨.type "type", _, .cls cd, sl⟩ => (match cd.mro, sl.toList with
  | .ref C' :: bm, [_, _, _, _, some (.builtin n), _] => C' == C && n == newId && !cd.hasDel && cd.hasDict && qp9 K (Str.ofString "__init__" :: S) bmB bm && nsOkIn K cd.ns && nsIn K cd.ns (Str.ofString "__init__") == some (some (.ref f)) && S.all (fun x => nsIn K cd.ns x == some none) && (match K.lookup f with | some o => o.cls == .type "function" | none => false)
  | _, _ => false)
 | _ => false
theorem qs5 {K : Frag} {h : Heap} {S : List Str} {C f : Addr} {bmB : List Value} {newId initId B sa ow : String} (X : K.In h) (hx : qht K S C f bmB newId = true) (b : ExcBaseFacts B newId initId bmB) (sf : StoreFacts B bmB sa ow) (af : ExcAttrBase B bmB)
  (no : ∀ x ∈ S, x ≠ Str.ofString "__setattr__" -> x ≠ Str.ofString "__getattribute__" -> x ≠ Str.ofString "__getattr__" -> typeLookup (.type B) x = pure none) : qrb S h C f := by
 unfold qht at hx
 split at hx
 ·rename_i dct cd sl heq
  split at hx
  ·rename_i C' bm k0 k1 k2 k3 n k5 hm hs
   simp only [Bool.and_eq_true, Bool.not_eq_true', beq_iff_eq, List.all_eq_true] at hx
   obtain ⟨⟨⟨⟨⟨⟨⟨⟨h1, h2⟩, h3⟩, h3'⟩, h4⟩, h5⟩, h6⟩, h7⟩, h8⟩ := hx
   subst h1
   subst h2
   have ho := X _ _ heq
   have hsl : sl = #[k0, k1, k2, k3, some (.builtin n), k5] := by
    rw [<- Array.toList_inj]; exact hs
   obtain ⟨nm, bs, mro, ns, qn, hdct, sn, sub, ab, col, hdel⟩ := cd
   simp only at hm h3 h3' h4 h5 h6 h7
   subst hm
   subst h3
   subst h3'
   subst hsl
   have G : h.Ns ns (h.nsMap ns) := Heap.Ns.of_isNs (isNs_of_in X h5)
   refine ⟨nm, qn, ns, bs, bm, bmB, sn, sub, ab, col, dct, k0, k1, k2, k3, k5, h.nsMap ns, B, n, initId, sa, ow, ⟨ho, G, qlt X G h6, fun x hx => nsMap_none_of_in X h5 (h7 x hx), qj2 X h4, b, sf, af⟩, no, ?_⟩
   split at h8
   ·rename_i o hf
    exact ⟨o, X _ _ hf, beq_iff_eq.mp h8⟩
   ·cases h8
  ·cases hx
 ·cases hx
noncomputable def qox : List Str := [Str.ofString "lot", Str.ofString "__setattr__", Str.ofString "__getattribute__", Str.ofString "__getattr__"]
theorem qu7 : ∀ x ∈ qox, x ≠ Str.ofString "__setattr__" -> x ≠ Str.ofString "__getattribute__" -> x ≠ Str.ofString "__getattr__" -> typeLookup (.type "ValueError") x = pure none := by
 intro x hx a b c
 have z : x = Str.ofString "lot" := by
  unfold qox at hx
  simp only [List.mem_cons, List.not_mem_nil, or_false] at hx
  rcases hx with z | z | z | z
  ·exact z
  ·exact absurd z a
  ·exact absurd z b
  ·exact absurd z c
 rw [z, typeLookup_type, builtinLookup_eq_fast]; kernel_rfl
noncomputable abbrev veM : List Value := [.type "ValueError", .type "Exception", .type "BaseException", .type "object"]
theorem qp3 {K : Frag} {h : Heap} {C f : Addr} (X : K.In h) (hx : qht K qox C f veM "ValueError.__new__" = true) : qrb qox h C f :=
 qs5 X hx F.excBase_ValueError F.store_ValueError F.attrBase_ValueError qu7
theorem qs0 {K : Frag} {h : Heap} {C : Addr} (X : K.In h) (hx : excIn K C veM "ValueError.__new__" = true) : qry h C := qso X hx F.excBase_ValueError
noncomputable def qjg (K : Frag) (C R : Addr) : Bool := match K.lookup C with
 | some ⟨.type "type", _, .cls cd, sl⟩ => (match cd.mro, sl.toList with
  | .ref C' :: bm, [_, _, _, _, some (.builtin _), _] => C' == C && !cd.hasDel && (Value.ref C :: bm).contains (.ref R)
  | _, _ => false)
 | _ => false
theorem qqi {K : Frag} {h : Heap} {C R : Addr} (X : K.In h) (hx : qjg K C R = true) : Under h C R := by
 unfold qjg at hx
 split at hx
 ·rename_i dct cd sl heq
  split at hx
  ·rename_i C' bm k0 k1 k2 k3 n k5 hm hs
   simp only [Bool.and_eq_true, Bool.not_eq_true', beq_iff_eq] at hx
   obtain ⟨⟨h1, h2⟩, h3⟩ := hx
   subst h1
   have ho := X _ _ heq
   have hsl : sl = #[k0, k1, k2, k3, some (.builtin n), k5] := by
    rw [<- Array.toList_inj]; exact hs
   obtain ⟨nm, bs, mro, ns, qn, hdct, sn, sub, ab, col, hdel⟩ := cd
   simp only at hm h2 h3
   subst hm
   subst h2
   subst hsl
   exact ⟨nm, qn, ns, bs, bm, hdct, sn, sub, ab, col, dct, k0, k1, k2, k3, k5, n, ho, h3⟩
  ·cases hx
 ·cases hx
noncomputable def qw9 (h : Heap) (C : Addr) : Prop := ∃ (nm q : Str) (N : Addr) (bs bm : List Value) (hdct : Bool) (sn : List Str) (sub : List Value) (ab : Bool) (col : Option Bool) (dd : Option Addr) (k0 k1 k2 k3 k5 : Option Value) (newId : String),
 h.get? C = some (excClassObj nm q C N bs bm hdct sn sub ab col dd k0 k1 k2 k3 k5 newId) /\ bm.contains (Value.type "BaseException") = true
theorem qry.cat {h : Heap} {C : Addr} (x : qry h C) : qw9 h C := by
 obtain ⟨nm, q, N, bs, bm, bmB, hdct, sn, sub, ab, col, dd, k0, k1, k2, k3, k5, mN, B, Bn, newId, nid, initId, inN, bmN, a1, a2, a3, a4, a5, a6, a7, a8⟩ := x
 exact ⟨nm, q, N, bs, bm, hdct, sn, sub, ab, col, dd, k0, k1, k2, k3, k5, newId, a1, a5⟩
section
variable {X : Cx} {st b0 : Stmt} {suite : List Stmt} {tx : TSX} {th : TS} {x n : Str} {R : Addr} {j : Nat} {np hpos pos : Pos}
end
section
variable {X : Cx} {e : Expr} {es : List Expr} {pos : Pos}
end
noncomputable def qwj (tx : TSX) (th : TS) (U : Addr -> Prop) : TS := fun D σ H => tx (fun σ1 cls dx H' => ∃ C, cls = .ref C /\ U C /\ th D σ1 H') D σ H
section
variable {X : Cx} {st b0 : Stmt} {suite : List Stmt} {tx : TSX} {th : TS} {x : Str} {R : Addr} {np hpos pos : Pos}
theorem qrf (hst : PSX X st tx) (hx : X.mg x = some (.ref R)) (hR : qw9 X.base R) (hth : ∀ ea, PSs (X.held ea) (b0 :: suite) th) (hstk : X.stack = X.env :: X.outer) (hfr : X.env.frame = some X.env.locals) (hex : X.ex = [])
  (hg : Gl X x := by rfl) (hdb : (x == ("__debug__" : Str)) = false := by decide) :
  PS X (.Try [st] [.ExceptHandler (some (.Name x np)) none (b0 :: suite) hpos] [] [] pos) (qwj tx th fun C => Under X.base C R) := by
 intro pins s σ H D I h
 refine wpAny_Try_except (wpAny_execs_cons (wpAny_mono (hst pins s σ H D _ I h) (fun f s1 q => ?_) (fun e s1 q => ?_)))
 ·cases f with
  | next => exact wpAny_execs_nil (wpAny_execs_nil q)
  | ret v => exact q
  | brk => exact q
  | cont => exact q
 ·obtain ⟨σ1, H1, s2, I1, ea, T, cls, a0, dx, H', rfl, os, bare, un, hok, n1, n2, m1, m2, trc, C, rfl, hu, hth'⟩ := q
  have I' : Inv X pins σ1 H' s1 := I1.call' (ch := []) os un hok bare (by simp)
  have ffs := I'.stack
  rw [hstk] at ffs
  have afr : X.A.frames = some (X.env :: X.outer) := by rw [<- hstk]; exact I'.ok.frames
  have there : ∀ b o, s2.heap.get? b = some o -> ∃ o', s1.heap.get? b = some o' := fun b o q => un.there b o q (by simp)
  have newAt : ∀ b, s2.heap.get? b = none -> X.s₀.heap.get? b = none /\ b ≠ X.env.locals /\ (∀ x c, X.env.cells.lookup x = some c -> c ≠ b) /\ ∀ p ∈ X.pn ++ pins, p.1 ≠ b := fun b q => by
   refine ⟨?_, fun z => ?_, fun y c e z => ?_, fun p hp z => ?_⟩
   ·cases hc : X.s₀.heap.get? b with
    | none => rfl
    | some o =>
     obtain ⟨o', q'⟩ := I1.base.there b o hc (by rw [hex]; simp)
     rw [q] at q'; cases q'
   ·obtain ⟨m, ⟨o, _, _, ho, _⟩, _⟩ := I1.loc
    rw [<- z, q] at ho; cases ho
   ·obtain ⟨v, o, ho, _⟩ := I1.cell y c e
    rw [z, q] at ho; cases ho
   ·have := (I1.pin p hp).1
    rw [z, q] at this; cases this
  have noH : ∀ b, s1.heap.get? b = none -> H' b = none := fun b q => by
   cases hc : H' b with
   | none => rfl
   | some o =>
    obtain ⟨ob, q'⟩ := qa1.got (hok b o hc)
    rw [q] at q'; cases q'
  have mk : ∀ b, s2.heap.get? b = none -> H' b = none -> X.s₀.heap.get? b = none /\ H' b = none /\ b ≠ X.env.locals /\ (∀ x c, X.env.cells.lookup x = some c -> c ≠ b) /\ ∀ p ∈ X.pn ++ pins, p.1 ≠ b := fun b q1 q2 => ⟨(newAt b q1).1, q2, (newAt b q1).2⟩
  refine qe5 (Q := fun _ s3 => wpAny (model X.prog X.w) X.A (handleBy (Value.ref ea) X.env [ExceptHandler.ExceptHandler (some (Expr.Name x np)) none (b0 :: suite) hpos]) (SP X pins D) X.xe s3) (base := X.base) afr hfr ffs trc fun h3 T3 mv3 nw3 tr3 => ?_
  have nT3 : s2.heap.get? T3 = none /\ H' T3 = none := by
   refine ⟨?_, noH T3 nw3⟩
   cases hc : s2.heap.get? T3 with
   | none => rfl
   | some o =>
    obtain ⟨o', q'⟩ := there T3 o hc
    rw [nw3] at q'; cases q'
  have I3 : Inv X pins σ1 H' { s1 with heap := h3 } := I'.moved (G := [ea, T]) (fun b hb => by
   simp at hb
   rcases hb with z | z
   ·rw [z]; exact mk ea n1 m1
   ·rw [z]; exact mk T n2 m2) (fun b o q hb hg => mv3.keep b o q (by rw [<- hstk]; exact hb) hg) (fun b o q hb => mv3.slot b o q (by rw [<- hstk]; exact hb))
  refine wpAny_handleBy_cons (codeAny_handlers_test ?_) (by intro z; cases z)
  refine qdt (X := X.held ea) (I3.held ea) hg hx ?_ hdb
  obtain ⟨nm, q, N, bs, bm, hdct, sn, sub, ab, col, dd, k0, k1, k2, k3, k5, newId, a1, a5⟩ := hR
  obtain ⟨nm', q', N', bs', bm', hdct', sn', sub', ab', col', dd', l0, l1, l2, l3, l5, newId', c1, c2⟩ := hu
  obtain ⟨oe, vs, oT, ts, g1, g2, g3, g4, g5, g6, g7, g8, g9, g10⟩ := id tr3
  refine qf6 (I3.bk _ _ c1) (I3.bk _ _ a1) g1 g2 a5 ?_
  rw [c2]
  show codeAny _ _ (Code.handlers (.ref ea) [ExceptHandler.ExceptHandler none none (b0 :: suite) hpos] X.env) _ _
  refine codeAny_handlers_suite (ground tr3 fun h4 same4 tr4 => ?_)
  have I4 : Inv X pins σ1 H' { s1 with heap := h4 } := Inv.moved (s := { s1 with heap := h3 }) (h' := h4) (G := [T3]) I3 (fun b hb => by
   have z : b = T3 := by simpa using hb
   rw [z]; exact mk T3 nT3.1 nT3.2) (fun b o q hb hg => (same4 b fun z => hg (by simp [z])).trans q) (fun b o q hb => ⟨o.slots, (same4 b fun z => by
    obtain ⟨o2, q2, nf⟩ := qic I3.stack b hb
    rw [z, g7] at q2; cases q2; exact nf _ g8).trans q⟩)
  refine wpAny_mono (hth ea pins _ σ1 H' D (I4.held ea) hth') (fun f s6 q6 => ?_) (fun _ _ z => False.elim z)
  cases f with
  | next =>
   obtain ⟨σ2, H2, J, q⟩ := q6
   exact ⟨σ2, H2, J.unheld I.ok, q⟩
  | brk =>
   obtain ⟨σ2, H2, J, q⟩ := q6
   exact ⟨σ2, H2, J.unheld I.ok, q⟩
  | cont =>
   obtain ⟨σ2, H2, J, q⟩ := q6
   exact ⟨σ2, H2, J.unheld I.ok, q⟩
  | ret u =>
   obtain ⟨v, σ2, H2, J, rv, q⟩ := q6
   exact ⟨v, σ2, H2, J.unheld I.ok, rv, q⟩
end
open Builtin Builtin.ObjectAttr
section
variable {prog : Program} {w : World} {A : Around} {E : Value -> Shared -> Prop} {K : Frag} {x D : Addr} {ox : Obj} {odo : Option Obj} {hh : Heap} {g : Array GenState} {d : Drawn} {t : Nat} {os : OsState}
theorem qmi {M : Model} {nv : Value} {Q : Unit -> Shared -> Prop} (L0 : Looks M hh (typeOf (.ref x)) (.ref D)) (L1 : Looks M hh (isSubtype (.ref D) (.type "BaseException")) true) (hq : Q () ⟨hh, g, d, t, os⟩) :
  wpAny M A (checkBuiltinCall "BaseException.__getattribute__" ⟨[.ref x, nv], []⟩) Q E ⟨hh, g, d, t, os⟩ := by
 have b1 : builtinKind "BaseException.__getattribute__" = some .slot := by decide +kernel
 have b2 : splitId "BaseException.__getattribute__" = some ("BaseException", "__getattribute__") := by decide +kernel
 have ha := F.args_bexc_ga (.ref x) nv
 simp only [checkBuiltinCall, b1, b2]
 refine wpAny_bind ?_
 unfold isInstance
 repeat (first | with_reducible refine L0.at ?_ | with_reducible refine L1.at ?_ | wp_step)
 exact hq
theorem qnl {Q : Option Value -> Shared -> Prop} {s : Shared} (X : K.In s.heap) (I : InstAt s.heap x ox D odo) (SL : Slot "ValueError" "__getattribute__" "BaseException.__getattribute__") (hc : (clsIn K D).isSome = true) (hga : findIn K (.ref D) "__getattribute__" = some (some (.builtin "BaseException.__getattribute__"))) (hgb : findIn K (.ref D) "__getattr__" = some none)
  (ha : findIn K (.ref D) "__class__" = some (some (.builtin "object.__class__"))) (hn : specialIn K (.builtin "object.__class__") "__get__" = some (some (.builtin "getset_descriptor.__get__"))) (htk : takesIn K (.builtin "object.__class__") = some true)
  (hb : subIn K (.ref D) (.type "BaseException") = some true) (hm : mroIn K D (.type "object") = some true) (h : Q (some (.ref D)) { s with toks := s.toks + 1 }) :
  wpAny (model prog w) A (getAttr? (.ref x) "__class__") Q E s := by
 obtain ⟨hh, g, d, t, os⟩ := s
 have L0 := I.type (M := model prog w)
 have L1 := looks_findIn (M := model prog w) X hga
 have L2 := looks_findIn (M := model prog w) X hgb
 have L4 : Looks (model prog w) hh (isSubtype (.ref D) (.type "BaseException")) true := looks_subIn X hb
 obtain ⟨cd, hc⟩ := Option.isSome_iff_exists.mp hc
 have hf : findObj K D odo "__class__" = some (.bind (.builtin "getset_descriptor.__get__") (.builtin "object.__class__")) := by
  simp only [findObj, hc, ha, hn, htk, Option.bind_some]
 have L3 := looks_find (M := model prog w) X I hf
 have b3 := SL.bind (.ref x)
 have z2 : (Value.builtin "BaseException.__getattribute__" == Value.builtin "object.__getattribute__") = false := by decide +kernel
 unfold getAttr? getAttrBy? getAttrBy
 refine wpAny_bind (wpAny_mkText (wpAny_bind (wpAny_attempt (wpAny_holding (wpAny_bind (L0.at (wpAny_bind (L1.at ?_))))))))
 dsimp only
 rw [z2, Bool.and_false, if_neg Bool.false_ne_true]
 unfold getAttrByItsOwn hookBefore
 repeat (any_goals (first | assumption | with_reducible refine L2.at ?_ | wp_step))
 refine codeAny_call_builtin SL.plain F.entry_bexc_ga (qmi L0 L4 ?_)
 unfold Builtin.«object.__getattribute__»
 repeat (any_goals (first | assumption | with_reducible refine L0.at ?_ | with_reducible refine L3.at ?_ | wp_step))
 refine class_get (s := ⟨hh, g, d, t + 1, os⟩) X I hm (wpAny_pure ?_)
 exact handed_on rfl (wpAny_pure h)
structure qtp (K : Frag) (D : Addr) : Prop where
 cls : (clsIn K D).isSome = true
 ga : findIn K (.ref D) "__getattribute__" = some (some (.builtin "BaseException.__getattribute__"))
 gb : findIn K (.ref D) "__getattr__" = some none
 kl : findIn K (.ref D) "__class__" = some (some (.builtin "object.__class__"))
 gt : specialIn K (.builtin "object.__class__") "__get__" = some (some (.builtin "getset_descriptor.__get__"))
 tk : takesIn K (.builtin "object.__class__") = some true
 sb : subIn K (.ref D) (.type "BaseException") = some true
 mr : mroIn K D (.type "object") = some true
noncomputable def ql2 (K : Frag) (D : Addr) : Bool := (clsIn K D).isSome && findIn K (.ref D) "__getattribute__" == some (some (.builtin "BaseException.__getattribute__")) && findIn K (.ref D) "__getattr__" == some none && findIn K (.ref D) "__class__" == some (some (.builtin "object.__class__")) &&
 specialIn K (.builtin "object.__class__") "__get__" == some (some (.builtin "getset_descriptor.__get__")) && takesIn K (.builtin "object.__class__") == some true && subIn K (.ref D) (.type "BaseException") == some true && mroIn K D (.type "object") == some true
theorem qsw {K : Frag} {D : Addr} (h : ql2 K D = true) : qtp K D := by
 unfold ql2 at h
 simp only [Bool.and_eq_true, beq_iff_eq] at h
 obtain ⟨⟨⟨⟨⟨⟨⟨h1, h2⟩, h3⟩, h4⟩, h5⟩, h6⟩, h7⟩, h8⟩ := h
 exact ⟨h1, h2, h3, h4, h5, h6, h7, h8⟩
theorem qkf {K : Frag} {x D : Addr} (k : qtp K D) : KitX K (.ref x) (.ref D) (fun h => ∃ ox odo, InstAt h x ox D odo) where
 ty := fun _ _ _ ⟨_, _, I⟩ => I.type
 it := fun _ _ X _ => by
  obtain ⟨cd, hc⟩ := Option.isSome_iff_exists.mp k.cls
  unfold clsIn at hc
  split at hc
  ·rename_i ho
   intro A' Q' E' s' kk q
   unfold isType loadHead
   exact wpAny_bind (wpAny_loadPart (kk _ _ (X _ _ ho)) (wpAny_pure q))
  ·cases hc
 ne := fun h tp dd its n sl X htp => by
  obtain ⟨cd, hc⟩ := Option.isSome_iff_exists.mp k.cls
  refine Bool.eq_false_iff.mpr fun q => ?_
  have e : D = tp := Value.ref.inj (beq_iff_eq.mp q)
  subst e
  unfold clsIn at hc
  split at hc
  ·rename_i ho
   have z := (X _ _ ho).symm.trans htp
   cases z
  ·cases hc
 ca := fun X ⟨_, _, I⟩ h => qnl X I F.attrBase_ValueError.ga k.cls k.ga k.gb k.kl k.gt k.tk k.sb k.mr h
end
section
variable {X : Cx}
theorem qjl {pins : List (Addr × Obj)} {σ : St} {H : Hp} {s : Shared} {a C : Addr} {dx : Option Addr} (I : Inv X pins σ H s) (ea : H a = some (qh1 a C dx)) (hd : ∀ d, dx = some d -> ∃ fs, H d = some (.xd fs)) : ∃ ox odo, InstAt s.heap a ox C odo := by
 obtain ⟨⟨oe, vs, o1, o2, o3, o4⟩, _⟩ := (show qa1 X.prog X.w H s.heap a (qh1 a C dx) from I.hok a _ ea)
 cases dx with
 | none => exact ⟨oe, none, o1, o2, by unfold notCls; rw [o4], by rw [o3]; exact True.intro⟩
 | some d =>
  obtain ⟨fs, hf⟩ := hd d rfl
  obtain ⟨mA, nA, rA⟩ := (show qa1 X.prog X.w H s.heap d (.xd fs) from I.hok d _ hf)
  obtain ⟨o, es, ep, h1, h2⟩ := nA.ns
  exact ⟨oe, some o, o1, o2, by unfold notCls; rw [o4], by rw [o3]; exact h1⟩
theorem qha {C : Addr} {c : V} {cv : Value} {b : Bool} (k : qtp X.K C) (rc : ∀ u, RelV c u -> u = cv) (e : kitOne X.K (.ref C) cv = some b) : qb7 X (.builtin "isinstance") (fun xs H Q => ∃ a dx, xs = [.ref a, c] /\ H a = some (qh1 a C dx) /\ (∀ d, dx = some d -> ∃ fs, H d = some (.xd fs)) /\ Q (.bl b) H) := by
 intro pins s σ H xs us Q I r h
 obtain ⟨a, dx, rfl, ea, hd, q⟩ := h
 obtain ⟨u, w', rfl, rx, ry⟩ := vals2 r
 cases (show u = Value.ref a from rx)
 rw [rc _ ry]
 exact kia_one (qkf k) I.kIn (qjl I ea hd) e (fun z => nomatch z) fun tk => ⟨.bl b, H, I.tok tk, rfl, q⟩
theorem qd8 {C : Addr} {Ds : List Addr} {b : Bool} (k : qtp X.K C) (e : kitAny X.K (.ref C) (Ds.map Value.ref) = some b) : qb7 X (.builtin "isinstance") (fun xs H Q => ∃ a dx tp, xs = [.ref a, .ref tp] /\ H a = some (qh1 a C dx) /\ (∀ d, dx = some d -> ∃ fs, H d = some (.xd fs)) /\ H tp = some (.tup (Ds.map V.ref)) /\ Q (.bl b) H) := by
 intro pins s σ H xs us Q I r h
 obtain ⟨a, dx, tp, rfl, ea, hd, ht, q⟩ := h
 obtain ⟨u, w', rfl, rx, ry⟩ := vals2 r
 cases (show u = Value.ref a from rx)
 cases (show w' = Value.ref tp from ry)
 obtain ⟨its, rv, p, hz⟩ := I.tuple (SqT.of ht)
 have ei : its = Ds.map Value.ref := by
  have hl : ∀ {vs : List Addr} {us : List Value}, qba (vs.map V.ref) us -> us = vs.map Value.ref := fun {vs} => by
   induction vs with
   | nil => intro us h; cases h; rfl
   | cons v r ih =>
    intro us h
    cases h with
    | cons h1 h2 =>
     rw [ih h2]
     exact congrArg (· :: _) h1
  exact hl rv
 subst ei
 obtain ⟨o, ho, hc, n, hdt⟩ := id p
 obtain ⟨c1, c2, c3, c4⟩ := o
 simp only at hc hdt
 subst hc
 subst hdt
 exact kia_tup (qkf k) I.kIn (qjl I ea hd) ho e (fun z => nomatch z) fun tk => ⟨.bl b, H, I.tok tk, rfl, q⟩
end
end L2
namespace L2
open PySem PySem.Spec PyProof.Rows
structure qff (k : Nat) (A : Around) : Prop where
 dp : A.depth + 3 * k + 5 < recursionLimit
 un : A.units + 16 * k + 200 < cLine
 gd : A.guards = some []
theorem qff.deeper {k : Nat} {A : Around} (r : qff (k + 1) A) (env : Env) : qff k (A.deeper env) :=
 ⟨by have := r.dp; show A.depth + 1 + 3 * k + 5 < _; omega, by have := r.un; show A.units + 3 + 16 * k + 200 < _; omega, r.gd⟩
theorem qff.depth {k : Nat} {A : Around} (r : qff k A) : A.depth < recursionLimit := by have := r.dp; omega
noncomputable def qk1 (CX : CXT) (P : Program) (w : World) (K : PySem.W.Frag) (mg : Str -> Option Value) (base : Heap) (N : List Str) (qual : Str) (scope : Scope) (f : Addr) (cd : Value) (A : Around) (outer : List Env) (s : Shared) (H : Hp) (E : XK) : Cx := { qlb CX P w K mg base N qual scope f cd A outer s H E with calm := false }
structure qiv (P : Program) (w : World) (K : PySem.W.Frag) (mg : Str -> Option Value) (base : Heap) (CX : CXT) (k : Nat) (f : Addr) (fd : FuncData) (ps : List Str) (sp : Sp) : Prop where
 len : ∀ vs H Q E, sp vs H Q E -> vs.length = ps.length
 run : ∀ (A : Around) (outer : List Env) (s : Shared) (H : Hp) (args : Args) (us : List Value) (vs : List V) (Q : VK) (E : XK), qff k A -> qpx P w K mg base A outer s H -> BindsTo s fd args (ps.zip us) -> qba vs us -> sp vs H Q E ->
  codeAny (model P w) A (.call (.ref f) args) (CR CX outer P w H s Q E) s
theorem qls {CX : CXT} {P : Program} {w : World} {K : PySem.W.Frag} {mg : Str -> Option Value} {base : Heap} {N ps : List Str} {qual : Str} {scope : Scope} {f : Addr} {cd : Value} {A : Around} {outer : List Env} {s s1 : Shared} {H : Hp} {E : XK} {us : List Value} {vs : List V}
  (S : qao N ps scope) (e0 : qpx P w K mg base A outer s H) (hl : vs.length = ps.length) (r : qba vs us)
  (x : InCallC s s.heap.objs.size (bindL (envOfC qual scope s.heap.objs.size f cd).kindOf (ps.zip us) fun _ => none) (cellsFrom (s.heap.objs.size + 1) scope.names []) (bindC (envOfC qual scope s.heap.objs.size f cd).kindOf (ps.zip us) fun _ => none) s1) :
  Inv (qk1 CX P w K mg base N qual scope f cd A outer s H E) [] (start N vs) H s1 := by
 have hpl : ps.length <= N.length := by have := congrArg List.length S.pre; rw [List.length_take] at this; omega
 obtain ⟨h1, tk, rfl, hk⟩ := x.done
 have noA : ∀ b : Addr, b ∉ (qk1 CX P w K mg base N qual scope f cd A outer s H E).ex := fun b z => absurd (show b ∈ ([] : List Addr) from z) (by simp)
 refine ⟨⟨e0.mod, S.kind, rfl, rfl, Nat.le_refl _, fun y z c h1 h2 => ?_, fun y hy => ?_, fun y c _ h => ?_, fun z => (nomatch (show false = true from z)), Around.frames_deeper e0.frames, .inr ⟨rfl, rfl⟩, fun b z => absurd z (noA b), e0.bs, e0.bsz, fun b _ _ => noA b, fun b z => absurd z (noA b), e0.funs, e0.frf⟩,
  rfl, e0.bare, Un.kept hk, ⟨_, x.toInCall.ns, fun i y v h1 h2 h3 => ?_⟩, fun y c h => ⟨_, x.cell y c h⟩, e0.hok.fresh (Nat.le_refl _), fun y c h => ?_, fun p hp => absurd (show p ∈ ([] : List (Addr × Obj)) from hp) (by simp), e0.hok.kept hk, ?_⟩
 ·exact name_of_addr x.apart (PySem.mem_of_lookup h1) (PySem.mem_of_lookup h2)
 ·have hy : scope.names.lookup y = some .cell \/ scope.names.lookup y = some .free := hy
  rcases hy with hy | hy
  ·exact qew hy
  ·exact absurd rfl (S.nofree _ (PySem.mem_of_lookup hy))
 ·exact Nat.le_of_lt (x.above y c (PySem.mem_of_lookup h))
 ·have hi : i < vs.length := by
   unfold start at h2
   by_cases hi : i < vs.length
   ·exact hi
   ·rw [List.getElem?_append_right (by simpa using hi)] at h2
    rw [List.getElem?_replicate] at h2
    split at h2 <;> cases h2
  have ha : vs[i]? = some v := by
   unfold start at h2
   rw [List.getElem?_append_left (by simpa using hi), List.getElem?_map] at h2
   cases e : vs[i]? with
   | none => rw [e] at h2; cases h2
   | some a => rw [e] at h2; cases h2; rfl
  obtain ⟨u, hu, rv⟩ := r.get ha
  have hp : ps[i]? = some y := by
   rw [<- S.pre, List.getElem?_take_of_lt (by omega)]; exact h1
  have ndP : ps.Nodup := by rw [<- S.pre]; exact S.nd.sublist (List.take_sublist _ _)
  refine ⟨u, rv, ?_⟩
  rcases S.par y (List.mem_of_getElem? hp) with k | k
  ·exact .inl ⟨k, qe7 ndP hp hu k⟩
  ·obtain ⟨c, e⟩ := qew (n := s.heap.objs.size + 1) k
   refine .inr ⟨.inl k, c, e, ?_⟩
   have q := x.cell y c e
   rw [qfi ndP hp hu (by show scope.names.lookup y ≠ _; rw [k]; decide)] at q
   exact q
 ·exact e0.hok.fresh (Nat.le_of_lt (x.above y c (PySem.mem_of_lookup h)))
 ·unfold start
  show _ = N.length
  rw [List.length_append, List.length_map, List.length_replicate]
  omega
theorem qu2 {CX : CXT} {P : Program} {w : World} {K : PySem.W.Frag} {mg : Str -> Option Value} {base : Heap} {k : Nat} {f : Addr} {name qual : Str} {params : Arguments} {body : List Stmt} {scope : Scope} {dV kV doc pm cdv ct oc : Value} {an od : Option Addr}
  {osl : Array (Option Value)} {N ps : List Str} {sp : Sp} (lk : K.lookup f = some ⟨oc, od, .func (PySem.W.fnOf name qual params body scope dV kV doc pm an cdv ct), osl⟩) (hcd : PySem.W.codeIn K cdv qual = true) (S : qao N ps scope)
  (len : ∀ vs H Q E, sp vs H Q E -> vs.length = ps.length)
  (hbody : ∀ (A : Around) (outer : List Env) (s : Shared) (H : Hp) (vs : List V) (Q : VK) (E : XK), qff k (A.deeper (envOfC qual scope s.heap.objs.size f cdv)) -> sp vs H Q E ->
   ∃ t, PSs (qk1 CX P w K mg base N qual scope f cdv A outer s H E) body t /\ t { nx := fun _ H' => Q .non H', rt := Q } (start N vs) H) :
  qiv P w K mg base CX (k + 1) f (PySem.W.fnOf name qual params body scope dV kV doc pm an cdv ct) ps sp := by
 refine ⟨len, fun A outer s H args us vs Q E hr e0 hb r hsp => ?_⟩
 have hl := len _ _ _ _ hsp
 have KX : K.In s.heap := e0.mod.kin.keeps fun b o e => (e0.bs b o e).1
 have lim : s.heap.NoLimit := e0.mod.nolimit.keeps fun b o e => (e0.bs b o e).1
 have hkind : ∀ y ∈ ps.zip us, scope.names.lookup y.1 = some .local \/ (scope.names.lookup y.1 = some .cell /\ ((cellsFrom (s.heap.objs.size + 1) scope.names []).lookup y.1).isSome = true) := fun ⟨n, v⟩ hy => by
  rcases S.par n (List.of_mem_zip hy).1 with q | q
  ·exact .inl q
  ·exact .inr ⟨q, PySem.W.cellsFrom_some _ _ _ (.inl q)⟩
 refine codeAny_call_function hr.depth (KX _ _ lk) rfl S.co S.gen rfl (PySem.W.codeRec_of KX hcd) (hb _ _ _ _ ?_)
 refine wpAny_newFunctionEnv_cells S.kind hkind fun env he s1 x => ?_
 subst he
 refine ⟨lim.keeps x.toInCall.keep, codeAny_func ?_⟩
 obtain ⟨t, ht, hq⟩ := hbody A outer s H vs Q E (hr.deeper _) hsp
 have I : Inv (qk1 CX P w K mg base N qual scope f cdv A outer s H E) [] (start N vs) H s1 := qls S e0 hl r x
 refine wpAny_mono (ht [] s1 (start N vs) H _ I hq) (fun fl s' hs => ?_) fun e s' hs => hs
 have fin : ∀ {σ' : St} {H' : Hp} {v : V} {u : Value}, Inv (qk1 CX P w K mg base N qual scope f cdv A outer s H E) [] σ' H' s' -> RelV v u -> Q v H' -> CE outer P w H s Q u s' :=
  fun {σ' H' v u} J rv q => ⟨v, H', J.os, J.bare, J.base, J.hok, rv, q⟩
 cases fl with
 | ret u =>
  obtain ⟨v, σ', H', J, rv, q⟩ := hs
  exact fin J rv q
 | next =>
  obtain ⟨σ', H', J, q⟩ := hs
  exact fin (v := V.non) (u := Value.none) J rfl q
 | brk =>
  obtain ⟨_, _, _, q⟩ := hs
  exact False.elim q
 | cont =>
  obtain ⟨_, _, _, q⟩ := hs
  exact False.elim q
section
variable {X : Cx} {CX : CXT} {k : Nat} {f C : Addr} {fd : FuncData} {ps : List Str} {sp : Sp} {dvs : List V} {ds : List Value} {E : XK} {x m : Str} {p pos apos : Pos} {e o : Expr} {es : List Expr} {ta : TE} {t : TA}
theorem qsl {pins : List (Addr × Obj)} {σ : St} {H : Hp} {s : Shared} {Q : VK} {us : List Value} {vs : List V} (F : qiv X.prog X.w X.K X.mg X.base CX k f fd ps sp) (hr : qff k X.A) (hb : Binds X.K fd ps ds) (hd : qba dvs ds) (hx : qfb CX X E)
  (I : Inv X pins σ H s) (r : qba vs us) (h : sp (vs ++ dvs) H Q E) : wpAny (model X.prog X.w) X.A (call (.ref f) us) (EP X pins σ Q) X.xe s := by
 have r2 : qba (vs ++ dvs) (us ++ ds) := r.append hd
 have hl : (us ++ ds).length = ps.length := by rw [<- r2.length]; exact F.len _ _ _ _ h
 refine wpAny_call (codeAny_mono (F.run X.A X.stack s H ⟨us, []⟩ (us ++ ds) (vs ++ dvs) Q E hr I.env0 (hb s us I.kIn hl) r2 h) fun r s' hq => ?_)
 cases r with
 | error e => exact hx pins σ H s e s' I hq
 | ok fl =>
  cases fl with
  | ret u => exact I.after hq
  | next => exact False.elim hq
  | brk => exact False.elim hq
  | cont => exact False.elim hq
theorem qpi (F : qiv X.prog X.w X.K X.mg X.base CX k f fd ps sp) (hr : qff k X.A) (hg : Gl X x) (hm : X.mg x = some (.ref f)) (hk : PySem.W.keepIn X.K (.ref f) = true) (hb : Binds X.K fd ps ds) (hd : qba dvs ds) (hx : qfb CX X E)
  (ha : PA X (e :: es) t) (hdb : (x == ("__debug__" : Str)) = false := by decide) (he : starEach (e :: es) X.env = (false, eval e X.env) :: starEach es X.env := by rfl) (hpl : (backTo pos (starEach es X.env)).any (·.1) = false := by rfl) :
  PE X (.Call (.Name x p) (e :: es) [] pos) (qoh sp dvs E t) := by
 intro pins s σ H Q I h
 refine wpAny_Call_Name_kw (qdt I hg hm ?_ hdb)
 refine PySem.W.callWith_K (h₀ := X.base) I.ok.mod.kin hk (thn (ha pos pins s σ H _ I h) fun us s1 ⟨vs, H1, I1, r, q⟩ => ⟨I1.kIn, ?_⟩) he hpl
 exact qsl F hr hb hd hx I1 r q
end
section
variable {P : Program} {w : World} {K : PySem.W.Frag} {mg : Str -> Option Value} {base : Heap}
theorem Fun.okH {x qual : Str} {st : Stmt} {f : Addr} {fd : FuncData} {N ps : List Str} {k : Nat} {sp : Sp} (F : Fun K x qual st f fd) (S : qao N ps (qai st)) (len : ∀ vs H Q E, sp vs H Q E -> vs.length = ps.length)
  (hbody : ∀ (cdv : Value) (A : Around) (outer : List Env) (s : Shared) (H : Hp) (vs : List V) (Q : VK) (E : XK), qff k (A.deeper (envOfC qual (qai st) s.heap.objs.size f cdv)) -> sp vs H Q E ->
   ∃ t, PSs (qk1 CX0 P w K mg base N qual (qai st) f cdv A outer s H E).nox (qbt st) t /\ t { nx := fun _ H' => Q .non H', rt := Q } (start N vs) H) : qiv P w K mg base CX0 (k + 1) f fd ps sp := by
 obtain ⟨oc, od, kV, doc, pm, an, cdv, ct, osl, rfl, lk, hcd⟩ := F.ex
 refine qu2 lk hcd S len fun A outer s H vs Q E hr hsp => ?_
 obtain ⟨t, h, q⟩ := hbody cdv A outer s H vs Q E hr hsp
 exact ⟨t, h.nox, q⟩
noncomputable def FnH (P : Program) (w : World) (K : PySem.W.Frag) (mg : Str -> Option Value) (base : Heap) (k : Nat) (x : Str) (ps : List Str) (sp : Sp) : Prop :=
 ∃ f fd, mg x = some (.ref f) /\ PySem.W.keepIn K (.ref f) = true /\ Binds K fd ps [] /\ qiv P w K mg base CX0 k f fd ps sp
end
theorem qua {X : Cx} {k : Nat} {x : Str} {ps : List Str} {sp : Sp} {e : Expr} {es : List Expr} {t : TA} {p pos : Pos} (F : FnH X.prog X.w X.K X.mg X.base k x ps sp) (hr : qff k X.A) (ha : PA X (e :: es) t) (hg : Gl X x := by rfl)
  (hdb : (x == ("__debug__" : Str)) = false := by decide) (he : starEach (e :: es) X.env = (false, eval e X.env) :: starEach es X.env := by rfl) (hpl : (backTo pos (starEach es X.env)).any (·.1) = false := by rfl) :
  PE X (.Call (.Name x p) (e :: es) [] pos) (qoh sp [] E0 t) := by
 obtain ⟨f, fd, h1, h2, h3, h4⟩ := F
 exact qpi h4 hr hg h1 h2 h3 .nil qus ha hdb he hpl
end L2
namespace K32
open PySem L2
noncomputable def top (i : Nat) : Stmt := PySem.Challenge.pw_rootshares_k32_whole_shares_or_a_lot.main.body.getD i (.Pass ⟨0, 0, 0, 0⟩)
theorem qas : bootBuiltins "isinstance" = some (.builtin "isinstance") := by decide +kernel
theorem qlq : bootBuiltins "all" = some (.builtin "all") := by decide +kernel
theorem qdl : bootBuiltins "sorted" = some (.builtin "sorted") := by decide +kernel
theorem quz : bootBuiltins "max" = some (.builtin "max") := by decide +kernel
theorem qnd : bootBuiltins "min" = some (.builtin "min") := by decide +kernel
theorem qt0 : bootBuiltins "str" = some (.type "str") := by decide +kernel
theorem qdh : bootBuiltins "tuple" = some (.type "tuple") := by decide +kernel
theorem qhv : bootBuiltins "list" = some (.type "list") := by decide +kernel
theorem qvc : bootBuiltins "int" = some (.type "int") := by decide +kernel
theorem qts : bootBuiltins "bool" = some (.type "bool") := by decide +kernel
theorem qqd : bootBuiltins "divmod" = some (.builtin "divmod") := by decide +kernel
theorem qt3 : bootBuiltins "set" = some (.type "set") := by decide +kernel
structure Bl (mg : Str -> Option Value) : Prop where
 len : mg "len" = none
 isinstance : mg "isinstance" = none
 all : mg "all" = none
 range : mg "range" = none
 sorted : mg "sorted" = none
 repr : mg "repr" = none
 max : mg "max" = none
 min : mg "min" = none
 str : mg "str" = none
 tuple : mg "tuple" = none
 list : mg "list" = none
 int : mg "int" = none
 bool : mg "bool" = none
 zip : mg "zip" = none
 divmod : mg "divmod" = none
 abs : mg "abs" = none
 set : mg "set" = none
 enumerate : mg "enumerate" = none
 most : ∃ t, mg "MOST_TREES" = some (.int 6 t)
 lng : ∃ t, mg "LONGEST_NAME" = some (.int 8 t)
noncomputable def Fn (P : Program) (w : World) (K : PySem.W.Frag) (mg : Str -> Option Value) (base : Heap) (k : Nat) (x : Str) (ps : List Str) (sp : Sp) : Prop :=
 ∃ f fd, mg x = some (.ref f) /\ PySem.W.keepIn K (.ref f) = true /\ Binds K fd ps [] /\ qca P w K mg base CX0 k f fd ps sp
theorem qaw {X : Cx} {k : Nat} {x : Str} {ps : List Str} {sp : Sp} {e : Expr} {es : List Expr} {t : TA} {p pos : Pos} (F : Fn X.prog X.w X.K X.mg X.base k x ps sp) (hr : qcl k X.A) (ha : PA X (e :: es) t) (hg : Gl X x := by rfl)
  (hdb : (x == ("__debug__" : Str)) = false := by decide) (he : starEach (e :: es) X.env = (false, eval e X.env) :: starEach es X.env := by rfl) (hpl : (backTo pos (starEach es X.env)).any (·.1) = false := by rfl) :
  PE X (.Call (.Name x p) (e :: es) [] pos) (qoh sp [] E0 t) := by
 obtain ⟨f, fd, h1, h2, h3, h4⟩ := F
 exact qmr h4 hr hg h1 h2 h3 .nil qus ha hdb he hpl
theorem qbu {X : Cx} {scope : Scope} {N : List Str} {C : Addr} {s0 : Shared} {H0 : Hp} {fp : List Addr} {x : Str} {pos : Pos} (i : Nat) (hN : N.Nodup) (hi : N[i]? = some x) (hx : scope.names.lookup x = some .local) :
  PG (qcd X scope N C s0 H0 fp) (.Name x pos) (qdv i) :=
 qa0 (X := qcd X scope N C s0 H0 fp) hN hi (.inl (lookup_relabel_local hx)) (.inr (lookup_relabel_local hx))
theorem qvp {c A B : Prop} [Decidable c] (hc : c) (h : A) : if decide c = true then A else B := by
 rw [decide_eq_true hc]; exact qf9 h
theorem qvz {c A B : Prop} [Decidable c] (hc : ¬ c) (h : B) : if decide c = true then A else B := by
 rw [decide_eq_false hc]; exact qem h
theorem qws {c A B : Prop} [Decidable c] (hc : ¬ c) (h : A) : if (!decide c) = true then A else B := by
 rw [decide_eq_false hc]; exact qf9 h
theorem lt1 (a b : Nat) : ([a] < [b]) ↔ a < b := by rw [List.cons_lt_cons_iff]; simp
structure qa9 (x : Str) : Prop where
 lo : 1 <= x.length
 hi : x.length <= 8
 az : ∀ c ∈ x.cps.toList, 97 <= c /\ c <= 122
theorem qa9.fits {x : Str} (h : qa9 x) : x.length < sizeLine := by have := h.hi; rw [sizeLine_eq]; omega
theorem qa9.ascii {x : Str} (h : qa9 x) : x.cps.all (· < 128) = true := by
 rw [Array.all_eq_true']
 intro c hc
 have := h.az c (by simpa using hc)
 simp; omega
section
variable {P : Program} {w : World} {K : PySem.W.Frag} {mg : Str -> Option Value} {base : Heap}
noncomputable def qm0 : Sp := fun vs H Q _ => ∃ x, vs = [.str x] /\ qa9 x /\ ∀ H', qar H H' -> Q (.bl true) H'
theorem qx2 : qao ["thing"] ["thing"] (qai (top 15)) := ⟨rfl, rfl, rfl, by decide +kernel, rfl, by decide +kernel, by decide +kernel⟩
theorem qad {H H' : Hp} {p : Addr} {o : HO} (h : qar H H') (hp : H' p = none) : qar H (upd H' p o) := fun b ob e => by
 rw [qag (qaf (h b ob e) hp)]; exact h b ob e
theorem qlg {f : Addr} {fd : FuncData} (F : Fun K "is_name" "is_name" (top 15) f fd) (B : Bl mg) : qca P w K mg base CX0 1 f fd ["thing"] qm0 := by
 refine F.ok qx2 (fun vs H Q E h => ?_) (fun cdv A outer s H vs Q E hr h => ?_)
 ·obtain ⟨x, rfl, _⟩ := h
  rfl
 ·obtain ⟨x, rfl, hx, k⟩ := h
  obtain ⟨tl, hl⟩ := B.lng
  refine ⟨_, qae (qb8 (PW.pt (qgs (qb4 (qbq (qaj (qbe (T := "str")) rfl B.isinstance qas (qaa (pv 0) (qaa (qcm (v := .ty "str") rfl B.str qt0 rfl) qac)))))
    (qen (qb4 (qko qpt qpt qah (qaj qeo rfl B.len PySem.boot_len (qaa (pv 0) qac)) (qbz (v := .int 8) rfl hl ⟨_, rfl⟩)))))) (qak (qav qkz)) qa2)
   (qak (qav (qaj (qc0 rfl) rfl B.all qlq (qaa (qcx (N := ["letter"]) (ix := [none]) ⟨rfl, rfl, rfl, by decide⟩ rfl (qti (pv 0)) (fun _ _ _ _ => qbu 0 (by decide) rfl rfl) (fun _ _ _ _ => qbk)
    (fun _ _ _ _ => qo4 qhx qhx qfv (pv 0) qfv)) qac)))), ?_⟩
  refine ⟨_, rfl, _, _, true, rfl, .str x, ?kit, true, rfl, qem ?_⟩
  case kit => rfl
  refine ⟨_, rfl, x, rfl, Nat.le_of_lt hx.fits, _, _, rfl, rfl, _, rfl, qvp (by have := hx.lo; omega) ⟨_, _, rfl, rfl, _, rfl, ?_⟩⟩
  refine qmo (by have := hx.hi; omega) ?_
  refine ⟨_, rfl, x, rfl, hx.ascii, qoz hx.fits (fun i ys σ H1 => ys = List.replicate i (.bl true) /\ qar H H1 /\ ∃ v, σ = [v]) ⟨rfl, qar.refl _, _, rfl⟩ (fun i ys σ H1 _ q => by rw [q.1]; simp) ?_ ?_⟩
  ·rintro i c ys σ H1 hc ⟨rfl, hs, v, rfl⟩
   have hcm := hx.az c (Array.mem_toList_iff.mpr (Array.mem_of_getElem? hc))
   refine ⟨_, rfl, _, _, rfl, rfl, _, rfl, qws ?_ ⟨_, _, rfl, rfl, ?_, hs, _, rfl⟩⟩
   ·show ¬ ([c] < [97])
    rw [lt1]; omega
   ·have e : (!decide ([122] < [c])) = true := by rw [decide_eq_false (by rw [lt1]; omega)]; rfl
    show _ ++ [V.bl (!decide ([122] < [c]))] = _
    rw [e, List.replicate_succ']
  ·rintro ys σ H1 ⟨rfl, hs, v, rfl⟩ p hp
   refine ⟨p, List.replicate x.length true, rfl, SqL.of (by rw [qab, List.map_replicate]), ?_⟩
   have e : (List.replicate x.length true).all id = true := by simp
   rw [e]
   exact k _ (qad hs hp)
end
theorem qbm (K : PySem.W.Frag) {X : Cx} (h : X.K = K := by rfl) : IxR X (rIx K) := by subst h; exact qa7
theorem qjh (K : PySem.W.Frag) {X : Cx} (h : X.K = K := by rfl) : OpR X (compareOp .In) (rIn K false) := by subst h; exact qd5
theorem qc1 (K : PySem.W.Frag) {X : Cx} (h : X.K = K := by rfl) : OpR X (compareOp .NotIn) (rIn K true) := by subst h; exact qdd
theorem qhz {α : Type} {xs : List α} {z : Int} {j : Nat} {v : α} (hz : z = (j : Int)) (h : xs[j]? = some v) : atI xs z = some v := by subst hz; exact qrx h
noncomputable def Sq (K : PySem.W.Frag) (H : Hp) (p : Addr) (xs : List V) : Prop := SqL K H p xs \/ SqT K H p xs
theorem qdx {K : PySem.W.Frag} {H H' : Hp} {a : Addr} {xs : List V} (e : qar H H') (h : SqT K H a xs) : SqT K H' a xs := by
 rcases h with (h | ⟨o, h⟩) | h
 ·exact .inl (.inl (e _ _ h))
 ·exact .inl (.inr ⟨o, e _ _ h⟩)
 ·exact .inr h
theorem Sq.same {K : PySem.W.Frag} {H H' : Hp} {a : Addr} {xs : List V} (h : Sq K H a xs) (e : qar H H') : Sq K H' a xs := h.imp (fun z => e.seq z) fun z => qdx e z
theorem qat {K : PySem.W.Frag} {H : Hp} {p : Addr} {xs : List V} {z : Int} {j : Nat} {v : V} {Q : VK} (h : Sq K H p xs) (hz : z = (j : Int)) (hx : xs[j]? = some v) (q : Q v H) : rIx K (.ref p) (.int z) H Q :=
 h.elim (fun h => .inl ⟨p, xs, z, v, rfl, rfl, h, qhz hz hx, q⟩) fun h => .inr (.inl ⟨p, xs, z, v, rfl, rfl, h, qhz hz hx, q⟩)
theorem fits {n : Nat} (h : n <= 1000) : n < sizeLine := qnw h
theorem strAt {ss : List Str} {i : Nat} (h : i < ss.length) : (ss.map V.str)[i]? = some (.str ss[i]) := by rw [List.getElem?_map, List.getElem?_eq_getElem h]; rfl
theorem qb0 (x : Str) (ss : List Str) : inV (.str x) (ss.map V.str) = decide (x ∈ ss) := by
 unfold inV
 rw [List.any_map]
 rw [Bool.eq_iff_iff, List.any_eq_true, decide_eq_true_iff]
 constructor
 ·rintro ⟨y, hy, e⟩
  have e' : y = x := by simpa [eqV] using e
  exact e' ▸ hy
 ·intro h
  exact ⟨x, h, by simp [eqV]⟩
theorem qbf (ss : List Str) : (ss.map V.str).all qge = true := by
 rw [List.all_map, List.all_eq_true]
 intro y _
 rfl
noncomputable abbrev Row := Str × Str × Str
noncomputable def qgm (H : Hp) (p : Addr) (r : Row) : Prop := H p = some (.tup [.str r.1, .str r.2.1, .str r.2.2])
noncomputable abbrev qap (rs : List (Addr × Row)) : List V := rs.map fun r => V.ref r.1
structure qdg (H : Hp) (v pa ra : Addr) (ps : List Str) (rs : List (Addr × Row)) : Prop where
 tp : H v = some (.tup [.ref pa, .ref ra])
 pl : H pa = some (.tup (ps.map V.str))
 rl : H ra = some (.tup (qap rs))
 rows : ∀ r ∈ rs, qgm H r.1 r.2
structure Good (ps : List Str) (rs : List Row) : Prop where
 ne : ps ≠ []
 nm : ∀ x ∈ ps, qa9 x
 so : ps.Pairwise nlt
 rn : ∀ r ∈ rs, qa9 r.1 /\ r.2.1 ∈ ps /\ r.2.2 ∈ ps /\ r.2.1 ≠ r.2.2
 rso : (rs.map (·.1)).Pairwise nlt
 pz : ps.length <= 100
 rz : rs.length <= 60
theorem qdg.same {H H' : Hp} {v pa ra : Addr} {ps : List Str} {rs : List (Addr × Row)} (h : qdg H v pa ra ps rs) (e : qar H H') : qdg H' v pa ra ps rs :=
 ⟨e _ _ h.tp, e _ _ h.pl, e _ _ h.rl, fun r hr => e _ _ (h.rows r hr)⟩
section
variable {P : Program} {w : World} {K : PySem.W.Frag} {mg : Str -> Option Value} {base : Heap}
noncomputable def qg2 (K : PySem.W.Frag) : Sp := fun vs H Q _ => ∃ (p : Addr) (ss : List Str), vs = [.ref p] /\ Sq K H p (ss.map V.str) /\ ss.Pairwise nlt /\ ss.length <= 1000 /\ ∀ H', qar H H' -> Q (.bl true) H'
theorem qx8 : qao ["names"] ["names"] (qai (top 17)) := ⟨rfl, rfl, rfl, by decide +kernel, rfl, by decide +kernel, by decide +kernel⟩
theorem qhd {f : Addr} {fd : FuncData} (F : Fun K "is_rising" "is_rising" (top 17) f fd) (B : Bl mg) : qca P w K mg base CX0 1 f fd ["names"] (qg2 K) := by
 refine F.ok qx8 (fun vs H Q E h => ?_) (fun cdv A outer s H vs Q E hr h => ?_)
 ·obtain ⟨p, ss, rfl, _⟩ := h
  rfl
 ·obtain ⟨p, ss, rfl, hq, hp, hz, k⟩ := h
  refine ⟨_, qak (qav (qaj (qc0 rfl) rfl B.all qlq (qaa (qcx (N := ["at", "names"]) (ix := [none, some 0]) ⟨rfl, rfl, rfl, by decide⟩ rfl
   (qg8 rfl B.range (qaa qah (qaa (qaj qal rfl B.len PySem.boot_len (qaa (pv 0) qac)) qac))) (fun _ _ _ _ => qbu 0 (by decide) rfl rfl) (fun _ _ _ _ => qbk)
   (fun _ _ _ _ => qcc qob (qa8 (qbm K) (pv 1) (qa4 qik (pv 0) qah) (fun _ _ => rfl)) (qa8 (qbm K) (pv 1) (pv 0) (fun _ _ => rfl)) (qbg _))) qac))), ?_⟩
  have hz' : (ss.map V.str).length <= 1000 := by simpa using hz
  refine ⟨_, rfl, p, ss.map V.str, rfl, hq, 1, _, rfl, ⟨by decide, by decide, by omega, by omega⟩, qdk (fits (by omega)) (fun i ys σ H1 => ys = List.replicate i (.bl true) /\ qar H H1 /\ ∃ v, σ = [v, some (.ref p)])
   ⟨rfl, qar.refl _, _, rfl⟩ (fun i ys σ H1 _ q => by rw [q.1]; simp) ?_ ?_⟩
  ·rintro i ys σ H1 hi ⟨rfl, hs, v, rfl⟩
   have hl : i + 1 < ss.length := by rw [List.length_map] at hi; omega
   refine ⟨_, rfl, _, rfl, _, _, rfl, rfl, qat (j := i) (hq.same hs) (by omega) (strAt (by omega)) ⟨_, rfl, _, rfl, qat (j := i + 1) (hq.same hs) (by push_cast; omega) (strAt hl) ⟨_, _, rfl, rfl, ?_, hs, _, rfl⟩⟩⟩
   have e : ss[i].cps.toList < ss[i + 1].cps.toList := List.pairwise_iff_getElem.mp hp i (i + 1) (by omega) hl (by omega)
   show _ ++ [V.bl (decide (ss[i].cps.toList < ss[i + 1].cps.toList))] = _
   rw [decide_eq_true e, List.replicate_succ']
  ·rintro ys σ H1 ⟨rfl, hs, v, rfl⟩ q hqn
   refine ⟨q, List.replicate _ true, rfl, SqL.of (by rw [qab, List.map_replicate]), ?_⟩
   have e : ∀ n : Nat, (List.replicate n true).all id = true := by simp
   rw [e]
   exact k _ (qad hs hqn)
noncomputable def qj1 : Sp := fun vs H Q _ => ∃ (p : Addr) (ss : List Str), vs = [.ref p] /\ H p = some (.tup (ss.map V.str)) /\ (∀ x ∈ ss, qa9 x) /\ ss.Pairwise nlt /\ ss.length <= 1000 /\ ∀ H', qar H H' -> Q (.bl true) H'
theorem qx7 : qao ["thing"] ["thing"] (qai (top 18)) := ⟨rfl, rfl, rfl, by decide +kernel, rfl, by decide +kernel, by decide +kernel⟩
theorem qhh {f : Addr} {fd : FuncData} (F : Fun K "is_sorted_names" "is_sorted_names" (top 18) f fd) (B : Bl mg) (F1 : Fn P w K mg base 1 "is_name" ["thing"] qm0) (F2 : Fn P w K mg base 1 "is_rising" ["names"] (qg2 K)) :
  qca P w K mg base CX0 2 f fd ["thing"] qj1 := by
 refine F.ok qx7 (fun vs H Q E h => ?_) (fun cdv A outer s H vs Q E hr h => ?_)
 ·obtain ⟨p, ss, rfl, _⟩ := h
  rfl
 ·obtain ⟨p, ss, rfl, hp, hn, hs, hz, k⟩ := h
  refine ⟨_, qae (qb8 (qb4 (qbq (qaj (qbe (T := "tuple")) rfl B.isinstance qas (qaa (pv 0) (qaa (qcm (v := .ty "tuple") rfl B.tuple qdh rfl) qac))))) (qak (qav qkz)) qa2)
   (qak (qav (qd1 (qaj (qc0 rfl) rfl B.all qlq (qaa (qcx (N := ["name"]) (ix := [none]) ⟨rfl, rfl, rfl, by decide⟩ rfl (qda (pv 0)) (fun _ _ _ _ => qbu 0 (by decide) rfl rfl) (fun _ _ _ _ => qbk)
    (fun _ _ _ _ => qaw F1 hr (qaa (pv 0) qac))) qac)) (qe0 (qaw F2 hr (qaa (pv 0) qac)))))), ?_⟩
  refine ⟨_, rfl, _, _, true, rfl, .tup hp, rfl, true, rfl, qem ?_⟩
  refine ⟨_, rfl, p, rfl, ⟨_, SqT.of hp⟩, qgw (xs := ss.map V.str) (fits (by simpa using hz)) (fun i ys σ H1 => ys = List.replicate i (.bl true) /\ qar H H1 /\ ∃ v, σ = [v]) ⟨rfl, qar.refl _, _, rfl⟩
   (fun i ys σ H1 _ q => ⟨by rw [q.1]; simp, qdx q.2.1 (SqT.of hp)⟩) ?_ ?_⟩
  ·rintro i x ys σ H1 hx ⟨rfl, hs1, v, rfl⟩
   obtain ⟨y, hy, rfl⟩ : ∃ y ∈ ss, x = V.str y := by
    obtain ⟨y, e1, e2⟩ := List.mem_map.mp (List.mem_of_getElem? hx)
    exact ⟨y, e1, e2.symm⟩
   exact ⟨_, rfl, y, rfl, hn y hy, fun H2 hs2 => ⟨by rw [List.replicate_succ'], hs1.trans hs2, _, rfl⟩⟩
  ·rintro ys σ H1 ⟨rfl, hs1, v, rfl⟩ q hqn
   refine ⟨q, List.replicate _ true, rfl, SqL.of (by rw [qab, List.map_replicate]), _, rfl, ?_⟩
   have e : ∀ n : Nat, (List.replicate n true).all id = true := by simp
   rw [e]
   have hs2 := qad (o := .lst (List.replicate (ss.map V.str).length (.bl true))) hs1 hqn
   exact qf9 ⟨_, rfl, p, ss, rfl, .inr (qdx hs2 (SqT.of hp)), hs, hz, fun H3 hs3 => k _ (hs2.trans hs3)⟩
noncomputable def qji (K : PySem.W.Frag) : Sp := fun vs H Q _ => ∃ (x : Str) (p : Addr) (ss : List Str), vs = [.str x, .ref p] /\ Sq K H p (ss.map V.str) /\ Q (.bl (decide (x ∈ ss))) H
theorem qxv : qao ["thing", "names"] ["thing", "names"] (qai (top 19)) := ⟨rfl, rfl, rfl, by decide +kernel, rfl, by decide +kernel, by decide +kernel⟩
theorem qi0 {f : Addr} {fd : FuncData} (F : Fun K "is_among" "is_among" (top 19) f fd) (B : Bl mg) : qca P w K mg base CX0 1 f fd ["thing", "names"] (qji K) := by
 refine F.ok qxv (fun vs H Q E h => ?_) (fun cdv A outer s H vs Q E hr h => ?_)
 ·obtain ⟨x, p, ss, rfl, _⟩ := h
  rfl
 ·obtain ⟨x, p, ss, rfl, hp, k⟩ := h
  refine ⟨_, qak (qav (qd1 (qaj (qbe (T := "str")) rfl B.isinstance qas (qaa (pv 0) (qaa (qcm (v := .ty "str") rfl B.str qt0 rfl) qac)))
   (qe0 (qcc qd5 (pv 0) (pv 1) (by with_unfolding_all rfl))))), ?_⟩
  refine ⟨_, rfl, _, _, true, rfl, .str x, rfl, true, rfl, qf9 ⟨_, rfl, _, rfl, p, ss.map V.str, rfl, hp, rfl, qbf ss, ?_⟩⟩
  show Q (.bl (inV (.str x) (ss.map V.str))) H
  rw [qb0]
  exact k
noncomputable def qkl : Sp := fun vs H Q _ => ∃ (p q : Addr) (r : Row) (ps : List Str), vs = [.ref p, .ref q] /\ qgm H p r /\ H q = some (.tup (ps.map V.str)) /\ qa9 r.1 /\ r.2.1 ∈ ps /\ r.2.2 ∈ ps /\ r.2.1 ≠ r.2.2 /\ ∀ H', qar H H' -> Q (.bl true) H'
theorem qvr : qao ["thing", "places", "name", "start", "end"] ["thing", "places"] (qai (top 20)) := ⟨rfl, rfl, rfl, by decide +kernel, rfl, by decide +kernel, by decide +kernel⟩
theorem qgt {f : Addr} {fd : FuncData} (F : Fun K "is_tie_row" "is_tie_row" (top 20) f fd) (B : Bl mg) (F1 : Fn P w K mg base 1 "is_name" ["thing"] qm0) (F2 : Fn P w K mg base 1 "is_among" ["thing", "names"] (qji K)) :
  qca P w K mg base CX0 2 f fd ["thing", "places"] qkl := by
 refine F.ok qvr (fun vs H Q E h => ?_) (fun cdv A outer s H vs Q E hr h => ?_)
 ·obtain ⟨p, q, r, ps, rfl, _⟩ := h
  rfl
 ·obtain ⟨p, q, r, ps, rfl, hp, hq, h1, h2, h3, h4, k⟩ := h
  have hp' : H p = some (.tup [.str r.1, .str r.2.1, .str r.2.2]) := hp
  refine ⟨_, qae (qb8 (PW.pt (qgs (qb4 (qbq (qaj (qbe (T := "tuple")) rfl B.isinstance qas (qaa (pv 0) (qaa (qcm (v := .ty "tuple") rfl B.tuple qdh rfl) qac)))))
    (qen (qay qi5 (qaj qal rfl B.len PySem.boot_len (qaa (pv 0) qac)) qah (qbg _))))) (qak (qav qkz)) qa2)
   (qae (qfc (pv 0) (qej rfl (n := 3) (qa3 (qa0 (i := 2) qvr.nd rfl (Or.inl rfl)) (qa3 (qa0 (i := 3) qvr.nd rfl (Or.inl rfl)) (qa3 (qa0 (i := 4) qvr.nd rfl (Or.inl rfl)) qc6)))))
   (qak (qav (qd1 (qaw F1 hr (qaa (pv 2) qac)) (qd1 (qaw F2 hr (qaa (pv 3) (qaa (pv 1) qac))) (qd1 (qaw F2 hr (qaa (pv 4) (qaa (pv 1) qac))) (qe0 (qcc qi5 (pv 3) (pv 4) (qbg _))))))))), ?_⟩
  refine ⟨_, rfl, _, _, true, rfl, .tup hp', rfl, true, rfl, qem ⟨_, rfl, p, _, rfl, .inr (SqT.of hp'), rfl, _, rfl, qmo rfl ?_⟩⟩
  refine ⟨_, rfl, p, _, rfl, SqT.of hp', rfl, _, _, rfl, _, _, rfl, _, _, rfl, rfl, ?_⟩
  refine ⟨_, rfl, r.1, rfl, h1, fun H1 s1 => ⟨true, rfl, qf9 ⟨_, rfl, _, rfl, r.2.1, q, ps, rfl, .inr (qdx s1 (SqT.of hq)), _, rfl, qvp h2 ⟨_, rfl, _, rfl, r.2.2, q, ps, rfl, .inr (qdx s1 (SqT.of hq)), _, rfl, qvp h3 ⟨_, rfl, _, rfl, rfl, ?_⟩⟩⟩⟩⟩
  have e : (!decide (V.str r.2.1 = V.str r.2.2)) = true := by
   rw [decide_eq_false (fun z => h4 (V.str.inj z))]; rfl
  rw [e]
  exact k H1 s1
end
theorem qd7 {α β : Type} (f : α -> β) (l : List α) (i : Nat) (x : α) (h : l[i]? = some x) : (l.take (i + 1)).map f = (l.take i).map f ++ [f x] := by
 rw [List.take_add_one, h]; simp
theorem qbp {rs : List (Addr × Row)} {i : Nat} {x : V} (h : (qap rs)[i]? = some x) : ∃ r, rs[i]? = some r /\ x = .ref r.1 := by
 unfold qap at h
 rw [List.getElem?_map] at h
 cases e : rs[i]? with
 | none => rw [e] at h; cases h
 | some r => rw [e] at h; exact ⟨r, rfl, (Option.some.inj h).symm⟩
section
variable {P : Program} {w : World} {K : PySem.W.Frag} {mg : Str -> Option Value} {base : Heap}
noncomputable def qo5 (r : V) : Sp := fun vs H Q _ => ∃ (v pa ra : Addr) (ps : List Str) (rs : List (Addr × Row)), vs = [.ref v] /\ qdg H v pa ra ps rs /\ Good ps (rs.map (·.2)) /\ ∀ H', qar H H' -> Q r H'
theorem qwn : qao ["thing", "places", "rows"] ["thing"] (qai (top 21)) := ⟨rfl, rfl, rfl, by decide +kernel, rfl, by decide +kernel, by decide +kernel⟩
theorem qmh {f : Addr} {fd : FuncData} (F : Fun K "is_web" "is_web" (top 21) f fd) (B : Bl mg) (F1 : Fn P w K mg base 2 "is_sorted_names" ["thing"] qj1) (F2 : Fn P w K mg base 2 "is_tie_row" ["thing", "places"] qkl)
  (F3 : Fn P w K mg base 1 "is_rising" ["names"] (qg2 K)) : qca P w K mg base CX0 3 f fd ["thing"] (qo5 (.bl true)) := by
 refine F.ok qwn (fun vs H Q E h => ?_) (fun cdv A outer s H vs Q E hr h => ?_)
 ·obtain ⟨v, pa, ra, ps, rs, rfl, _⟩ := h
  rfl
 ·obtain ⟨v, pa, ra, ps, rs, rfl, W, G, k⟩ := h
  have hr1 : qcl 1 _ := hr.mono (by decide)
  refine ⟨_, qae (qb8 (PW.pt (qgs (qb4 (qbq (qaj (qbe (T := "tuple")) rfl B.isinstance qas (qaa (pv 0) (qaa (qcm (v := .ty "tuple") rfl B.tuple qdh rfl) qac)))))
    (qen (qay qi5 (qaj qal rfl B.len PySem.boot_len (qaa (pv 0) qac)) qah (qbg _))))) (qak (qav qkz)) qa2)
   (qae (qfc (pv 0) (qej rfl (n := 2) (qa3 (qa0 (i := 1) qwn.nd rfl (Or.inr rfl)) (qa3 (qa0 (i := 2) qwn.nd rfl (Or.inl rfl)) qc6))))
   (qae (qb8 (PW.pt (qgs (qb4 (qbq (qaw F1 hr (qaa (pv 1) qac)))) (qgs (qay qqm (qaj qal rfl B.len PySem.boot_len (qaa (pv 1) qac)) qah (qbg _))
    (qen (qb4 (qbq (qaj (qbe (T := "tuple")) rfl B.isinstance qas (qaa (pv 2) (qaa (qcm (v := .ty "tuple") rfl B.tuple qdh rfl) qac))))))))) (qak (qav qkz)) qa2)
   (qak (qav (qd1 (qaj (qc0 rfl) rfl B.all qlq (qaa (qcx (N := ["row", "places"]) (ix := [none, some 1]) ⟨rfl, rfl, rfl, by decide⟩ rfl (qda (pv 2)) (fun _ _ _ _ => qbu 0 (by decide) rfl rfl) (fun _ _ _ _ => qbk)
    (fun _ _ _ _ => qaw F2 hr (qaa (pv 0) (qaa (pv 1) qac)))) qac))
    (qe0 (qaw F3 hr1 (qaa (qcx (N := ["row"]) (ix := [none]) ⟨rfl, rfl, rfl, by decide⟩ rfl (qda (pv 2)) (fun _ _ _ _ => qbu 0 (by decide) rfl rfl) (fun _ _ _ _ => qbk)
     (fun _ _ _ _ => qa8 (qbm K) (pv 0) qah (fun _ _ => rfl))) qac)))))))), ?_⟩
  have hlen : (qap rs).length <= 1000 := by have := G.rz; simp at this ⊢; omega
  refine ⟨_, rfl, _, _, true, rfl, .tup W.tp, rfl, true, rfl, qem ⟨_, rfl, v, _, rfl, .inr (SqT.of W.tp), rfl, _, rfl, qmo rfl ?_⟩⟩
  refine ⟨_, rfl, v, _, rfl, SqT.of W.tp, rfl, _, _, rfl, _, _, rfl, rfl, ?_⟩
  refine ⟨_, rfl, pa, ps, rfl, W.pl, G.nm, G.so, by have := G.pz; omega, fun H1 s1 => ⟨true, rfl, qem ?_⟩⟩
  refine ⟨_, rfl, pa, _, rfl, .inr (SqT.of (s1 _ _ W.pl)), rfl, _, rfl, qvz ?_ ?_⟩
  ·intro z
   have z' : ((ps.map V.str).length : Int) = 0 := V.int.inj z
   have : ps.length ≠ 0 := fun q => G.ne (List.length_eq_zero_iff.mp q)
   rw [List.length_map] at z'
   omega
  refine ⟨_, rfl, _, _, true, rfl, .tup (s1 _ _ W.rl), rfl, true, rfl, qem ?_⟩
  refine ⟨_, rfl, ra, rfl, ⟨_, SqT.of (s1 _ _ W.rl)⟩, qgw (xs := qap rs) (fits hlen) (fun i ys σ H2 => ys = List.replicate i (.bl true) /\ qar H H2 /\ ∃ x, σ = [x, some (.ref pa)]) ⟨rfl, s1, _, rfl⟩
   (fun i ys σ H2 _ q => ⟨by rw [q.1]; simp, SqT.of (q.2.1 _ _ W.rl)⟩) ?_ ?_⟩
  ·rintro i x ys σ H2 hx ⟨rfl, s2, y, rfl⟩
   obtain ⟨r, hr', rfl⟩ := qbp hx
   have hm := List.mem_of_getElem? hr'
   obtain ⟨g1, g2, g3, g4⟩ := G.rn r.2 (List.mem_map_of_mem hm)
   exact ⟨_, rfl, _, rfl, r.1, pa, r.2, ps, rfl, s2 _ _ (W.rows r hm), s2 _ _ W.pl, g1, g2, g3, g4, fun H3 s3 => ⟨by rw [List.replicate_succ'], s2.trans s3, _, rfl⟩⟩
  ·rintro ys σ H2 ⟨rfl, s2, y, rfl⟩ q hqn
   have s3 := qad (o := .lst (List.replicate (qap rs).length (.bl true))) s2 hqn
   refine ⟨q, List.replicate _ true, rfl, SqL.of (by rw [qab, List.map_replicate]), _, rfl, ?_⟩
   have e : ∀ n : Nat, (List.replicate n true).all id = true := by simp
   rw [e]
   refine qf9 ⟨_, rfl, ra, rfl, ⟨_, SqT.of (s3 _ _ W.rl)⟩, qgw (xs := qap rs) (fits hlen) (fun i ys σ H4 => ys = ((rs.take i).map fun r => V.str r.2.1) /\ qar H H4 /\ ∃ x, σ = [x]) ⟨rfl, s3, _, rfl⟩
    (fun i ys σ H4 _ q => ⟨by rw [q.1]; simp; omega, SqT.of (q.2.1 _ _ W.rl)⟩) ?_ ?_⟩
   ·rintro i x ys σ H4 hx ⟨rfl, s4, z, rfl⟩
    obtain ⟨r, hr', rfl⟩ := qbp hx
    have hm := List.mem_of_getElem? hr'
    exact ⟨_, rfl, qat (j := 0) (.inr (SqT.of (s4 _ _ (W.rows r hm)))) rfl rfl ⟨(qd7 _ _ _ _ hr').symm, s4, _, rfl⟩⟩
   ·rintro ys σ H4 ⟨rfl, s4, z, rfl⟩ q2 hq2
    refine ⟨q2, rs.map (·.2.1), rfl, .inl (SqL.of (by rw [qab]; simp)), ?_, by simpa using hlen, fun H5 s5 => k _ ((qad s4 hq2).trans s5)⟩
    have := G.rso
    rw [List.map_map] at this
    exact this
end
theorem qaq {α : Type} (p : α -> Bool) (l : List α) (i : Nat) (x : α) (h : l[i]? = some x) : (l.take (i + 1)).filter p = (l.take i).filter p ++ (if p x then [x] else []) := by
 rw [List.take_add_one, h, List.filter_append]
 simp only [Option.toList_some, List.filter_cons, List.filter_nil]
theorem take_all {α : Type} (l : List α) {n : Nat} (h : n = l.length) : l.take n = l := by subst h; exact List.take_length
noncomputable abbrev nms (rs : List (Addr × Row)) : List Str := rs.map (·.2.1)
theorem qhe {α β : Type} (f : α -> β) : ∀ (l' : List β) (l : List α), l'.Perm (l.map f) -> ∃ l'' : List α, l''.Perm l /\ l''.map f = l'
 | [], l, h => by
  have : l = [] := by simpa using h.length_eq.symm
  subst this
  exact ⟨[], .refl _, rfl⟩
 | b :: t, l, h => by
  obtain ⟨a, ha, rfl⟩ := List.mem_map.mp (h.mem_iff.mp List.mem_cons_self)
  obtain ⟨u, v, rfl⟩ := List.append_of_mem ha
  have h2 : (f a :: t).Perm (f a :: (u ++ v).map f) := by
   refine h.trans ?_
   rw [List.map_append, List.map_cons, List.map_append]
   exact List.perm_middle
  obtain ⟨w, hw, e⟩ := qhe f t (u ++ v) h2.cons_inv
  exact ⟨a :: w, (hw.cons a).trans List.perm_middle.symm, by rw [List.map_cons, e]⟩
structure qyp (ps ls : List Str) : Prop where
 ne : ls ≠ []
 nm : ∀ x ∈ ls, qa9 x
 so : ls.Pairwise nlt
 sub : ∀ x ∈ ls, x ∈ ps
 z : ls.length <= 100
theorem qcp {ss : List Str} (h : ss.Pairwise nlt) : ss.Nodup := h.imp fun {a b} hab e => by
 subst e; exact absurd hab (List.lt_irrefl _)
theorem qj0 (rs : List (Addr × Row)) : refs (rs.map fun r => (r.1, r.2.1)) = qap rs := by
 unfold refs qap
 rw [List.map_map]
 rfl
theorem qmm (K : PySem.W.Frag) {X : Cx} {es : List Expr} {k : Nat} {t : TGs} {n : Nat} {pos : Pos} (hc : X.calm = true) (h : PGs X es t) (hK : X.K = K := by rfl) (hn : (assignEach es X.env).length = n := by rfl) (hst : (assignEach es X.env).findIdx? (·.1) = none := by rfl) :
  PG X (.Tuple es k pos) (qxa K n t) := by subst hK; exact qej hc h hn hst
section
variable {P : Program} {w : World} {K : PySem.W.Frag} {mg : Str -> Option Value} {base : Heap}
theorem qxr : qao ["thing"] ["thing"] (qai (top 22)) := ⟨rfl, rfl, rfl, by decide +kernel, rfl, by decide +kernel, by decide +kernel⟩
theorem qis {f : Addr} {fd : FuncData} (F : Fun K "need_web" "need_web" (top 22) f fd) (F1 : Fn P w K mg base 3 "is_web" ["thing"] (qo5 (.bl true))) : qca P w K mg base CX0 4 f fd ["thing"] (qo5 .non) := by
 refine F.ok qxr (fun vs H Q E h => ?_) (fun cdv A outer s H vs Q E hr h => ?_)
 ·obtain ⟨v, pa, ra, ps, rs, rfl, _⟩ := h
  rfl
 ·obtain ⟨v, pa, ra, ps, rs, rfl, W, G, k⟩ := h
  refine ⟨_, qak (qb8 (qb4 (qbq (qaw F1 hr (qaa (pv 0) qac)))) qbr qa2), ?_⟩
  exact ⟨_, rfl, v, pa, ra, ps, rs, rfl, W, G, fun H1 s1 => ⟨true, rfl, qem (k H1 s1)⟩⟩
noncomputable def lead (ls : List Str) (r : Addr × Row) : Bool := decide (r.2.2.2 ∈ ls) && !decide (r.2.2.1 ∈ ls)
noncomputable def qmg : Sp := fun vs H Q _ => ∃ (l : Addr) (r : Addr × Row) (ls : List Str), vs = [.ref r.1, .ref l] /\ qgm H r.1 r.2 /\ H l = some (.tup (ls.map V.str)) /\ Q (.bl (lead ls r)) H
theorem qyd : qao ["row", "lot"] ["row", "lot"] (qai (top 25)) := ⟨rfl, rfl, rfl, by decide +kernel, rfl, by decide +kernel, by decide +kernel⟩
theorem qgr {f : Addr} {fd : FuncData} (F : Fun K "leads_into" "leads_into" (top 25) f fd) : qca P w K mg base CX0 1 f fd ["row", "lot"] qmg := by
 refine F.ok qyd (fun vs H Q E h => ?_) (fun cdv A outer s H vs Q E hr h => ?_)
 ·obtain ⟨l, r, ls, rfl, _⟩ := h
  rfl
 ·obtain ⟨l, r, ls, rfl, hrow, hl, k⟩ := h
  refine ⟨_, qak (qav (qd1 (qcc qd5 (qa8 qa7 (pv 0) qah (fun _ _ => rfl)) (pv 1) (by with_unfolding_all rfl)) (qe0 (qcc qdd (qa8 qa7 (pv 0) qah (fun _ _ => rfl)) (pv 1) (by with_unfolding_all rfl))))), ?_⟩
  have hS : Sq K H l (ls.map V.str) := .inr (SqT.of hl)
  refine ⟨_, rfl, qat (j := 2) (.inr (SqT.of hrow)) rfl rfl ⟨_, rfl, l, ls.map V.str, rfl, hS, rfl, qbf ls, ?_⟩⟩
  have e1 : (inV (.str r.2.2.2) (ls.map V.str)) = decide (r.2.2.2 ∈ ls) := qb0 _ _
  have e2 : (inV (.str r.2.2.1) (ls.map V.str)) = decide (r.2.2.1 ∈ ls) := qb0 _ _
  refine ⟨inV (.str r.2.2.2) (ls.map V.str), rfl, ?_⟩
  rw [e1]
  refine qev (fun c => ⟨_, rfl, qat (j := 1) (.inr (SqT.of hrow)) rfl rfl ⟨_, rfl, l, ls.map V.str, rfl, hS, rfl, qbf ls, ?_⟩⟩) (fun c => ?_)
  ·show Q (.bl (!inV (.str r.2.2.1) (ls.map V.str))) H
   rw [e2]
   have : lead ls r = !decide (r.2.2.1 ∈ ls) := by unfold lead; rw [c]; rfl
   rw [<- this]; exact k
  ·simp only [Bool.not_eq_true] at c
   have : lead ls r = false := by unfold lead; rw [c]; rfl
   rw [this] at k
   first | exact k | (rw [c]; exact k) | skip
noncomputable def qe9 : Sp := fun vs H Q _ => ∃ (v pa ra : Addr) (ps : List Str) (rs : List (Addr × Row)) (x : Str), vs = [.ref v, .str x] /\ qdg H v pa ra ps rs /\ x ∈ ps /\ Q .non H
theorem qyh : qao ["web", "thing"] ["web", "thing"] (qai (top 24)) := ⟨rfl, rfl, rfl, by decide +kernel, rfl, by decide +kernel, by decide +kernel⟩
theorem qg3 {f : Addr} {fd : FuncData} (F : Fun K "need_place" "need_place" (top 24) f fd) (F1 : Fn P w K mg base 1 "is_among" ["thing", "names"] (qji K)) : qca P w K mg base CX0 2 f fd ["web", "thing"] qe9 := by
 refine F.ok qyh (fun vs H Q E h => ?_) (fun cdv A outer s H vs Q E hr h => ?_)
 ·obtain ⟨v, pa, ra, ps, rs, x, rfl, _⟩ := h
  rfl
 ·obtain ⟨v, pa, ra, ps, rs, x, rfl, W, hx, k⟩ := h
  refine ⟨_, qak (qb8 (qb4 (qbq (qaw F1 hr (qaa (pv 1) (qaa (qa8 qa7 (pv 0) qah (fun _ _ => rfl)) qac))))) qbr qa2), ?_⟩
  exact ⟨_, rfl, _, rfl, qat (j := 0) (.inr (SqT.of W.tp)) rfl rfl ⟨x, pa, ps, rfl, .inr (SqT.of W.pl), _, rfl, qmo hx k⟩⟩
end
theorem qar.upd0 {H H' : Hp} {q : Addr} {o : HO} (h : qar H H') (hq : H q = none) : qar H (upd H' q o) := fun b ob e => by
 rw [qag (qaf e hq)]; exact h b ob e
theorem lt0 {k : Nat} {A : Around} (r : qcl k A) : A.units < cLine := by have := r.un; omega
theorem quh {k : Nat} {A : Around} (r : qcl k A) : A.units + 1 < cLine := by have := r.un; omega
noncomputable def Pot (H : Hp) (p : Addr) : Prop := ∃ a b, H p = some (.lst [.int a, .int b]) /\ 0 <= b /\ b < 2147483629
noncomputable def Kp (P : List Addr) (H H' : Hp) : Prop := ∀ b o, H b = some o -> b ∉ P -> H' b = some o
theorem Kp.refl (P : List Addr) (H : Hp) : Kp P H H := fun _ _ h _ => h
theorem Kp.trans {P : List Addr} {H H1 H2 : Hp} (a : Kp P H H1) (b : Kp P H1 H2) : Kp P H H2 := fun c o h n => b c o (a c o h n) n
theorem Kp.of_same {P : List Addr} {H H1 H2 : Hp} (a : Kp P H H1) (b : qar H1 H2) : Kp P H H2 := fun c o h n => b c o (a c o h n)
theorem Kp.inn {P : List Addr} {H H1 : Hp} {p : Addr} {o : HO} (a : Kp P H H1) (hp : p ∈ P) : Kp P H (upd H1 p o) := fun c ob h n => by rw [qag (show c ≠ p from fun z => n (by rw [z]; exact hp))]; exact a c ob h n
theorem Kp.new {P : List Addr} {H H1 : Hp} {p : Addr} {o : HO} (a : Kp P H H1) (hp : H1 p = none) : Kp P H (upd H1 p o) := fun c ob h n => by rw [qag (qaf (a c ob h n) hp)]; exact a c ob h n
noncomputable def qdc : Str := Str.ofString "abcdefghijklmnopqrstuvwxyz"
theorem qio : ∀ r : _root_.Fin 26, qdc.cps.toList[r.val]? = some (97 + r.val) := by decide +kernel
theorem qee {r : Nat} (h : r < 26) : qdc.cps.toList[r]? = some (97 + r) := qio ⟨r, h⟩
theorem qde : qdc.length <= sizeLine := by decide
theorem join_one (cs : List Nat) : (Txt.join (Str.ofString "") (cs.map fun c => (⟨#[c]⟩ : Str))).cps.toList = cs := by
 have e0 : (Str.ofString "").cps = #[] := by decide
 show (Builtin.Str.glued (Str.ofString "") _).cps.toList = cs
 rw [StrLaws.glued_eq_join]
 induction cs with
 | nil => rfl
 | cons c t ih =>
  cases t with
  | nil => rfl
  | cons d r =>
   show (((⟨#[c]⟩ : Str) ++ Str.ofString "" ++ Str.join (Str.ofString "") ((d :: r).map fun c => (⟨#[c]⟩ : Str))).cps).toList = _
   rw [Str.cps_append, Str.cps_append, e0, Array.toList_append, Array.toList_append, ih]
   rfl
theorem qa9.of_codes {x : Str} {l : List Nat} (e : x.cps.toList = l) (h1 : 1 <= l.length) (h8 : l.length <= 8) (h : ∀ c ∈ l, 97 <= c /\ c <= 122) : qa9 x := by
 have hl : x.length = l.length := by rw [<- e]; simp [Str.length]
 exact ⟨by omega, by omega, by rw [e]; exact h⟩
theorem qhf {H : Hp} {p t : Addr} {ss : List Str} (h1 : Pot H p) (h2 : H t = some (.lst (ss.map V.str))) : t ≠ p := by
 rintro rfl
 obtain ⟨a, b, e, _⟩ := h1
 rw [e] at h2
 have h3 := HO.lst.inj (Option.some.inj h2)
 cases ss with
 | nil => cases h3
 | cons x r => rw [List.map_cons] at h3; cases List.cons.inj h3 |>.1
theorem qig : ∀ (r : List Str) (x : Str), PyProof.Rows.risingS x r = true -> (x :: r).Nodup -> (x :: r).Pairwise nlt
 | [], x, _, _ => by simp
 | y :: r, x, h, hn => by
  have h' : (!PySem.Spec.ltCps y.cps.toList x.cps.toList && PyProof.Rows.risingS y r) = true := h
  rw [Bool.and_eq_true, PyProof.Rows.ltCps_eq] at h'
  have hn' := List.nodup_cons.mp hn
  have ih := qig r y h'.2 hn'.2
  have hxy : nlt x y := by
   rcases qno (fun e => hn'.1 (e ▸ List.mem_cons_self) : x ≠ y) with z | z
   ·exact z
   ·rw [decide_eq_true z] at h'
    exact absurd h'.1 (by simp)
  refine List.pairwise_cons.mpr ⟨fun z hz => ?_, ih⟩
  rcases List.mem_cons.mp hz with rfl | hz
  ·exact hxy
  ·exact List.lt_trans hxy ((List.pairwise_cons.mp ih).1 z hz)
theorem qci {ss : List Str} (h : PyProof.Rows.sortedS ss = true) (hn : ss.Nodup) : ss.Pairwise nlt := by
 cases ss with
 | nil => exact .nil
 | cons x r => exact qig r x h hn
theorem Kp.free {P : List Addr} {H H' : Hp} (k : Kp P H H') (hP : ∀ b ∈ P, ∃ o, H' b = some o) {q : Addr} (hq : H' q = none) : H q = none := by
 cases e : H q with
 | none => rfl
 | some o =>
  by_cases hm : q ∈ P
  ·obtain ⟨o', e'⟩ := hP q hm
   rw [hq] at e'; cases e'
  ·rw [k q o e hm] at hq; cases hq
theorem Pot.some {H : Hp} {p : Addr} (h : Pot H p) : ∃ o, H p = some o := let ⟨a, b, e, _⟩ := h; ⟨_, e⟩
theorem Pot.keep {H H' : Hp} {p : Addr} (h : Pot H p) (e : ∀ o, H p = Option.some o -> H' p = Option.some o) : Pot H' p := let ⟨a, b, q, r⟩ := h; ⟨a, b, e _ q, r⟩
theorem tup_ne {H : Hp} {a b : Addr} {xs ys : List V} (h1 : H a = some (.tup xs)) (h2 : H b = some (.lst ys)) : a ≠ b := qs7 h1 h2 (by intro z; cases z)
theorem qu5 {H H' : Hp} {P : List Addr} {b : Addr} {xs : List V} (k : Kp P H H') (hP : ∀ c ∈ P, ∃ ys, H c = some (.lst ys)) (e : H b = some (.tup xs)) : H' b = some (.tup xs) :=
 k b _ e fun hb => by
  obtain ⟨ys, e'⟩ := hP b hb
  exact tup_ne e e' rfl
theorem Pot.lst {H : Hp} {p : Addr} (h : Pot H p) : ∃ ys, H p = Option.some (HO.lst ys) := let ⟨a, b, e, _⟩ := h; ⟨_, e⟩
theorem qpb {x : Str} (h : qa9 x) : PyData.strOk x = true := by
 unfold PyData.strOk
 rw [Array.all_eq_true']
 intro c hc
 have := h.az c (by simpa using hc)
 simp; omega
theorem qj8 {ss : List Str} (h : ∀ x ∈ ss, qa9 x) : PyData.canLayAll0 (ss.map PyData.str) = true /\ PyData.depthAll (ss.map PyData.str) = 0 := by
 induction ss with
 | nil => exact ⟨rfl, rfl⟩
 | cons x t ih =>
  have := ih fun y hy => h y (List.mem_cons_of_mem _ hy)
  rw [List.map_cons]
  simp only [PyData.canLayAll0, PyData.canLay0, PyData.depthAll, PyData.depth, qpb (h x List.mem_cons_self), this.1, this.2]
  exact ⟨rfl, rfl⟩
theorem qbc {ss : List Str} (h : ∀ x ∈ ss, qa9 x) : SeqAt.shaped (.list (ss.map PyData.str)) = true /\ SeqAt.shaped (.tuple (ss.map PyData.str)) = true := by
 have q := qj8 h
 unfold SeqAt.shaped
 simp only [PyData.canLay0, PyData.depth, q.1, q.2]
 exact ⟨by decide, by decide⟩
theorem qb1 : ∀ (a b : List Str), PyData.eqvAll (a.map PyData.str) (b.map PyData.str) = decide (a = b)
 | [], [] => by simp [PyData.eqvAll]
 | [], y :: t => by simp [PyData.eqvAll]
 | x :: s, [] => by simp [PyData.eqvAll]
 | x :: s, y :: t => by
  simp only [List.map_cons, PyData.eqvAll, PyData.eqv, qb1 s t]
  rw [Bool.eq_iff_iff]
  simp
theorem Pot.ne_new {H : Hp} {p q : Addr} (h : Pot H p) (hq : H q = none) : q ≠ p := fun z => by obtain ⟨o, e⟩ := h.some; rw [<- z, hq] at e; cases e
theorem Pot.upd {H : Hp} {p q : Addr} {o : HO} (h : Pot H p) (hq : q ≠ p) : Pot (upd H q o) p := h.keep fun ob e => by rw [qag hq.symm]; exact e
theorem Pot.new {H : Hp} {p q : Addr} {o : HO} (h : Pot H p) (hq : H q = none) : Pot (L2.upd H q o) p := h.upd (h.ne_new hq)
theorem Kp.free1 {p q : Addr} {H H1 : Hp} (k : Kp [p] H H1) (hp : Pot H1 p) (hq : H1 q = none) : H q = none := k.free (fun b hb => by
 have e : b = p := by simpa using hb
 subst e; exact hp.some) hq
theorem Kp.tup {p b : Addr} {H H1 : Hp} {xs : List V} (k : Kp [p] H H1) (hp : Pot H p) (e : H b = some (.tup xs)) : H1 b = some (.tup xs) := qu5 k (fun c hc => by
 have e : c = p := by simpa using hc
 subst e; exact hp.lst) e
theorem Kp.at {p b : Addr} {H H1 : Hp} {o : HO} (k : Kp [p] H H1) (hb : b ≠ p) (e : H b = some o) : H1 b = some o := k _ _ e (by simpa using hb)
section
variable {P : Program} {w : World} {K : PySem.W.Frag} {mg : Str -> Option Value} {base : Heap}
noncomputable def qtq (K : PySem.W.Frag) : Sp := fun vs H Q _ => ∃ (a : Addr) (ns : List Int) (k : Int), vs = [.ref a, .int k] /\ SqL K H a (ns.map V.int) /\ 0 <= k /\ k <= 100 /\ ∀ q H', qar H H' -> H q = none -> Pot H' q -> Q (.ref q) H'
theorem qxc : qao ["_law_script", "_law_k", "_law_cell"] ["_law_script", "_law_k"] (qai (top 38)) := ⟨rfl, rfl, rfl, by decide +kernel, rfl, by decide +kernel, by decide +kernel⟩
theorem qt7 {f : Addr} {fd : FuncData} (F : Fun K "_law_pot" "_law_pot" (top 38) f fd) (B : Bl mg) : qca P w K mg base CX0 1 f fd ["_law_script", "_law_k"] (qtq K) := by
 refine F.ok qxc (fun vs H Q E h => ?_) (fun cdv A outer s H vs Q E hr h => ?_)
 ·obtain ⟨a, ns, k, rfl, _⟩ := h
  rfl
 ·obtain ⟨a, ns, k, rfl, ha, hk, hk2, q⟩ := h
  refine ⟨_, qae (qax (i := 2) qxc.nd rfl (Or.inl rfl) (qjr (qay qme (pv 1) (qaj qal rfl B.len PySem.boot_len (qaa (pv 0) qac)) (qbg _)) (qa8 qa7 (pv 0) (pv 1) (fun _ _ => rfl)) qah))
   (qak (qav (qbv (qaa (qaj (qh6 rfl) rfl B.max quz (qaa qah (qaa (qa4 qik (pv 2) (qa4 qto qah qah)) qac)))
    (qaa (qa4 qel (qa4 qcu (qa4 qcu (qa4 qhj (pv 2) qah) (qa4 qhj qah (pv 1))) qah) qah) qac))))), ?_⟩
  refine ⟨_, rfl, _, rfl, a, _, rfl, .inl ha, _, _, rfl, rfl, _, rfl, ?_⟩
  have tail : ∀ c : Int, ∀ (σ : St), σ = [some (.ref a), some (.int k), some (.int c)] -> True := fun _ _ _ => trivial
  refine qev (fun c => ?_) (fun c => ?_)
  ·have c' : k < ((ns.map V.int).length : Int) := of_decide_eq_true c
   rw [List.length_map] at c'
   have hl : k.toNat < ns.length := by omega
   refine ⟨_, rfl, _, rfl, qat (j := k.toNat) (v := .int ns[k.toNat]) (.inl ha) (by omega) (by rw [List.getElem?_map, List.getElem?_eq_getElem hl]; rfl) ?_⟩
   refine ⟨_, rfl, _, _, rfl, rfl, ⟨by decide, by decide, by decide⟩, _, _, rfl, rfl, _, _, rfl, ?_⟩
   refine ⟨_, rfl, _, _, rfl, rfl, .inr ⟨by decide, by decide⟩, _, rfl, _, _, rfl, rfl, .inl ⟨by decide, by decide⟩, _, _, rfl, rfl, _, _, rfl, rfl, _, _, rfl, rfl, by show (0 : Int) < 2147483629; decide, by show 2 <= sizeLine; decide, fun l hl => ?_⟩
   exact q l _ (qad (qar.refl _) hl) hl ⟨_, _, qab, Int.emod_nonneg _ (by decide), Int.emod_lt_of_pos _ (by decide)⟩
  ·refine ⟨_, rfl, _, _, rfl, rfl, ⟨by decide, by decide, by decide⟩, _, _, rfl, rfl, _, _, rfl, ?_⟩
   refine ⟨_, rfl, _, _, rfl, rfl, .inr ⟨by decide, by decide⟩, _, rfl, _, _, rfl, rfl, .inl ⟨by decide, by decide⟩, _, _, rfl, rfl, _, _, rfl, rfl, _, _, rfl, rfl, by show (0 : Int) < 2147483629; decide, by show 2 <= sizeLine; decide, fun l hl => ?_⟩
   exact q l _ (qad (qar.refl _) hl) hl ⟨_, _, qab, Int.emod_nonneg _ (by decide), Int.emod_lt_of_pos _ (by decide)⟩
noncomputable def qfl : Sp := fun vs H Q _ => ∃ (p : Addr) (n : Int), vs = [.ref p, .int n] /\ Pot H p /\ 0 < n /\ n < 1000 /\ ∀ r H', 0 <= r -> r < n -> Pot H' p -> Kp [p] H H' -> Q (.int r) H'
theorem qw8 : qao ["_law_pot_here", "_law_many", "_law_digit"] ["_law_pot_here", "_law_many"] (qai (top 39)) := ⟨rfl, rfl, rfl, by decide +kernel, rfl, by decide +kernel, by decide +kernel⟩
theorem qrw {f : Addr} {fd : FuncData} (F : Fun K "_law_take" "_law_take" (top 39) f fd) (B : Bl mg) : qca P w K mg base CX0 1 f fd ["_law_pot_here", "_law_many"] qfl := by
 refine F.ok qw8 (fun vs H Q E h => ?_) (fun cdv A outer s H vs Q E hr h => ?_)
 ·obtain ⟨p, n, rfl, _⟩ := h
  rfl
 ·obtain ⟨p, n, rfl, ⟨a, b, hp, hb0, hb1⟩, hn, hn2, k⟩ := h
  refine ⟨_, qae (qb8 (qay qn5 (qa8 qa7 (pv 0) qah (fun _ _ => rfl)) qah (qbg _))
    (qae (qfc (qaj qjc rfl B.divmod qqd (qaa (qa8 qa7 (pv 0) qah (fun _ _ => rfl)) (qaa (pv 1) qac))) (qej rfl (n := 2) (qa3 (qqo (pv 0) qah set_list) (qa3 (qa0 (i := 2) qw8.nd rfl (Or.inl rfl)) qc6))))
     (qak (qav (pv 2)))) qa2)
   (qae (qfc (qa4 qel (qa4 qcu (qa4 qhj (qa8 qa7 (pv 0) qah (fun _ _ => rfl)) qah) qah) qah) (qqo (pv 0) qah set_list))
   (qak (qav (qa4 qel (qa4 qix (qa4 qel (qa4 qhj (qa8 qa7 (pv 0) qah (fun _ _ => rfl)) (qa8 qa7 (pv 0) qah (fun _ _ => rfl))) qah) qah) (pv 1))))), ?_⟩
  have hS : Sq K H p [.int a, .int b] := .inl (SqL.of hp)
  refine ⟨_, rfl, qat (j := 0) hS rfl rfl ⟨_, _, rfl, rfl, _, rfl, ?_⟩⟩
  refine qev (fun c => ?_) (fun c => ?_)
  ·refine ⟨_, rfl, qat (j := 0) hS rfl rfl ⟨_, rfl, _, _, rfl, ⟨hn, by omega⟩, fun t ht => ?_⟩⟩
   have ntp : p ≠ t := qaf hp ht
   refine ⟨t, _, rfl, SqT.of qab, rfl, _, _, rfl, _, rfl, p, [.int a, .int b], _, 0, rfl, rfl, by rw [qag ntp]; exact hp, rfl, ?_⟩
   refine ⟨_, _, rfl, rfl, _, rfl, k _ _ (Int.emod_nonneg _ (by omega)) (Int.emod_lt_of_pos _ hn) ⟨_, _, qab, hb0, hb1⟩ (((Kp.refl _ _).new ht).inn (by simp))⟩
  ·refine ⟨_, rfl, qat (j := 1) hS rfl rfl ⟨_, _, rfl, rfl, .inl ⟨by omega, by omega⟩, _, _, rfl, rfl, _, _, rfl, rfl, by show (0 : Int) < 2147483587; decide, _, rfl, p, [.int a, .int b], _, 1, rfl, rfl, hp, rfl, ?_⟩⟩
   have m0 : 0 <= (b * 39373 + 6007) % 2147483587 := Int.emod_nonneg _ (by decide)
   have m1 : (b * 39373 + 6007) % 2147483587 < 2147483587 := Int.emod_lt_of_pos _ (by decide)
   have hS2 : Sq K (upd H p (.lst ([V.int a, V.int b].set 1 (.int ((b * 39373 + 6007) % 2147483587))))) p [.int a, .int ((b * 39373 + 6007) % 2147483587)] := .inl (SqL.of qab)
   refine ⟨_, rfl, qat (j := 1) hS2 rfl rfl ⟨_, rfl, qat (j := 1) hS2 rfl rfl ⟨_, _, rfl, rfl, .inl ⟨by omega, by omega⟩, _, _, rfl, rfl, by show (0 : Int) < 2147483563; decide, _, _, rfl, rfl, ⟨by decide, by decide⟩, _, rfl, _, _, rfl, rfl, hn, ?_⟩⟩⟩
   exact k _ _ (Int.emod_nonneg _ (by omega)) (Int.emod_lt_of_pos _ hn) ⟨_, _, qab, m0, by omega⟩ ((Kp.refl _ _).inn (by simp))
end
theorem qnr (x : Str) (j : Int) : ∀ c ∈ (Txt.slice x none (some j)).cps.toList, c ∈ x.cps.toList := by
 intro c hc
 unfold Txt.slice at hc
 split at hc
 ·exact hc
 ·simp only [List.mem_filterMap] at hc
  obtain ⟨i, _, e⟩ := hc
  simpa using Array.mem_of_getElem? e
noncomputable def tlc (f w : Nat) (big : Bool) (j : Nat) : List Nat := if big = true then [97 + (f + w * j) % 26, 97 + (f + j / 26) % 26] else [97 + (f + w * j) % 26]
theorem qjj (f w : Nat) (big : Bool) (j : Nat) : (tlc f w big j).length = if big = true then 2 else 1 := by unfold tlc; split <;> rfl
theorem qs8 (f w : Nat) (big : Bool) (j : Nat) : ∀ c ∈ tlc f w big j, 97 <= c /\ c <= 122 := by
 intro c hc
 unfold tlc at hc
 split at hc
 ·simp at hc; omega
 ·simp at hc; omega
theorem qjn {f w i j : Nat} (hw : w ∈ [1, 3, 5, 7, 9, 11]) (h : (f + w * i) % 26 = (f + w * j) % 26) : i % 26 = j % 26 := by
 simp only [List.mem_cons, List.not_mem_nil, or_false] at hw
 rcases hw with rfl | rfl | rfl | rfl | rfl | rfl <;> omega
theorem qrv {f w : Nat} {big : Bool} {i j : Nat} (hw : w ∈ [1, 3, 5, 7, 9, 11]) (hi : i < 60) (hj : j < 60) (hb : big = false -> i < 26 /\ j < 26) (h : tlc f w big i = tlc f w big j) : i = j := by
 unfold tlc at h
 cases big with
 | true =>
  simp at h
  have := qjn hw h.1
  omega
 | false =>
  simp at h
  have := qjn hw h
  obtain ⟨a, b⟩ := hb rfl
  omega
structure Drawn (f w : Nat) (big : Bool) (ns : List Str) : Prop where
 at' : ∀ (j : Nat) (x : Str), ns[j]? = some x -> ∃ u : List Nat, x.cps.toList = u ++ tlc f w big j /\ u.length <= 6 /\ ∀ c ∈ u, 97 <= c /\ c <= 122
theorem Drawn.name {f w : Nat} {big : Bool} {ns : List Str} (D : Drawn f w big ns) : ∀ x ∈ ns, qa9 x := fun x hx => by
 obtain ⟨j, hj⟩ := List.getElem?_of_mem hx
 obtain ⟨u, e, hu, hc⟩ := D.at' j x hj
 have hl := qjj f w big j
 refine qa9.of_codes e ?_ ?_ fun c hm => ?_
 ·rw [List.length_append, hl]; split <;> omega
 ·rw [List.length_append, hl]; split <;> omega
 ·rcases List.mem_append.mp hm with z | z
  ·exact hc c z
  ·exact qs8 f w big j c z
theorem Drawn.nodup {f w : Nat} {big : Bool} {ns : List Str} (D : Drawn f w big ns) (hw : w ∈ [1, 3, 5, 7, 9, 11]) (hz : ns.length < 60) (hb : big = false -> ns.length <= 26) : ns.Nodup := by
 refine List.pairwise_iff_getElem.mpr fun i j hi hj hij e => ?_
 obtain ⟨u, e1, _, _⟩ := D.at' i ns[i] (List.getElem?_eq_getElem hi)
 obtain ⟨u', e2, _, _⟩ := D.at' j ns[j] (List.getElem?_eq_getElem hj)
 rw [e, e2] at e1
 have hl : (tlc f w big j).length = (tlc f w big i).length := by rw [qjj, qjj]
 have q := (List.append_inj' e1 hl).2
 have := qrv hw (by omega) (by omega) (fun c => by have := hb c; omega) q
 omega
theorem Drawn.add {f w : Nat} {big : Bool} {ns : List Str} {x : Str} {u : List Nat} (D : Drawn f w big ns) (e : x.cps.toList = u ++ tlc f w big ns.length) (hu : u.length <= 6) (hc : ∀ c ∈ u, 97 <= c /\ c <= 122) : Drawn f w big (ns ++ [x]) := by
 refine ⟨fun j y hj => ?_⟩
 by_cases h : j < ns.length
 ·rw [List.getElem?_append_left h] at hj
  exact D.at' j y hj
 ·rw [List.getElem?_append_right (by omega)] at hj
  have hj0 : j - ns.length = 0 := by
   have := (List.getElem?_eq_some_iff.mp hj).1
   simp at this
   omega
  rw [hj0] at hj
  have ey : x = y := by simpa using hj
  subst ey
  have ej : j = ns.length := by omega
  subst ej
  exact ⟨u, e, hu, hc⟩
theorem qeb (x : Str) (c : Nat) : (x ++ (⟨#[c]⟩ : Str)).cps.toList = x.cps.toList ++ [c] := by
 rw [Str.cps_append, Array.toList_append]
section
variable {P : Program} {w : World} {K : PySem.W.Frag} {mg : Str -> Option Value} {base : Heap}
noncomputable def qm1 : Sp := fun vs H Q _ => ∃ (p : Addr) (m : Nat), vs = [.ref p, .int m] /\ Pot H p /\ m <= 40 /\
 ∀ (q : Addr) (ns : List Str) (H' : Hp), Pot H' p -> H' q = some (.lst (ns.map V.str)) -> H q = none -> (∀ x ∈ ns, qa9 x) -> ns.Nodup -> ns.length = m -> Kp [p] H H' -> Q (.ref q) H'
noncomputable abbrev N40 : List Str := ["_law_pot_here", "_law_many", "_law_letters", "_law_ahead", "_law_first", "_law_wide", "_law_found", "_law_k", "_law_name"]
theorem qq8 : qao N40 ["_law_pot_here", "_law_many"] (qai (top 40)) := ⟨rfl, rfl, rfl, by decide +kernel, rfl, by decide +kernel, by decide +kernel⟩
theorem qo0 {f : Addr} {fd : FuncData} (F : Fun K "_law_names" "_law_names" (top 40) f fd) (B : Bl mg) (Ft : Fn P w K mg base 1 "_law_take" ["_law_pot_here", "_law_many"] qfl) : qca P w K mg base CX0 2 f fd ["_law_pot_here", "_law_many"] qm1 := by
 refine F.ok qq8 (fun vs H Q E h => ?_) (fun cdv A outer s H vs Q E hr h => ?_)
 ·obtain ⟨p, m, rfl, _⟩ := h
  rfl
 ·obtain ⟨p, m, rfl, hp, hm, k⟩ := h
  refine ⟨_, qae (qax (i := 2) qq8.nd rfl (Or.inr rfl) qfv)
   (qae (qax (i := 3) qq8.nd rfl (Or.inl rfl) (qhr PySem.F.plainAttrs_str PySem.F.slot_str_join PySem.F.type_str_join qsn qfv (qaa (qcx (N := ["_law_k", "_law_letters", "_law_pot_here"]) (ix := [none, some 2, some 0]) ⟨rfl, rfl, rfl, by decide⟩ rfl
    (qcg rfl B.range (qaa (qa8 qa7 (qbv (qaa qah (qaa qah (qaa qah (qaa qah qac))))) (qaw Ft hr (qaa (pv 0) (qaa qah qac))) (fun _ _ => rfl)) qac)) (fun _ _ _ _ => qbu 0 (by decide) rfl rfl) (fun _ _ _ _ => qbk)
    (fun _ _ _ _ => qa8 (qbm K) (pv 1) (qaw Ft hr (qaa (pv 2) (qaa qah qac))) (fun _ _ => rfl))) qac)))
   (qae (qtk (i := 4) (j := 5) rfl qq8.nd rfl rfl (by decide) rfl rfl (qaa (qaw Ft hr (qaa (pv 0) (qaa qah qac))) (qaa (qa8 qa7 (qbv (qaa qah (qaa qah (qaa qah (qaa qah (qaa qah (qaa qah qac))))))) (qaw Ft hr (qaa (pv 0) (qaa qah qac))) (fun _ _ => rfl)) qac)) rfl)
   (qae (qax (i := 6) qq8.nd rfl (Or.inl rfl) (qbv qac))
   (qae (qcn PassesOwn.never rfl (qcg rfl B.range (qaa (pv 1) qac)) (qa0 (i := 7) qq8.nd rfl (Or.inl rfl))
    (qae (qax (i := 8) qq8.nd rfl (Or.inl rfl) (qa4 qf5 (qdi qug (pv 3) qef (qed (qaw Ft hr (qaa (pv 0) (qaa (qa4 qcu (qaj qeo rfl B.len PySem.boot_len (qaa (pv 3) qac)) qah) qac)))))
     (qa8 qa7 (pv 2) (qa4 qel (qa4 qcu (pv 4) (qa4 qhj (pv 5) (pv 7))) qah) (fun _ _ => rfl))))
    (qae (qb8 (qay qn5 (pv 1) qah (qbg _)) (qak (qax (i := 8) qq8.nd rfl (Or.inl rfl) (qa4 qf5 (pv 8) (qa8 qa7 (pv 2) (qa4 qel (qa4 qcu (pv 4) (qa4 qix (pv 7) qah)) qah) (fun _ _ => rfl))))) qa2)
    (qak (qch (qhr PySem.F.plainAttrs_list PySem.F.slot_list_append PySem.F.type_list_append qcz (pv 6) (qaa (pv 8) qac)))))))
   (qak (qav (pv 6))))))), ?_⟩
  refine ⟨rfl, by show 4 <= sizeLine; decide, fun l4 hl4 => ?_⟩
  have P0 := hp.new (o := .lst [.int 0, .int 0, .int 1, .int 6]) hl4
  have K0 := (Kp.refl [p] H).new (o := .lst [.int 0, .int 0, .int 1, .int 6]) hl4
  have L0 : upd H l4 (.lst [.int 0, .int 0, .int 1, .int 6]) l4 = some (.lst [.int 0, .int 0, .int 1, .int 6]) := qab
  have nl4 := hp.ne_new hl4
  generalize upd H l4 (.lst [.int 0, .int 0, .int 1, .int 6]) = H0 at P0 K0 L0 ⊢
  refine ⟨_, rfl, p, 4, rfl, P0, by decide, by decide, fun r1 H1 a0 a1 P1 K1 => ?_⟩
  have L1 := K1.at nl4 L0
  have hm1 : ∃ c : Int, ([V.int 0, V.int 0, V.int 1, V.int 6] : List V)[r1.toNat]? = some (.int c) /\ 0 <= c /\ c <= 6 := by
   have : r1 = 0 \/ r1 = 1 \/ r1 = 2 \/ r1 = 3 := by omega
   rcases this with rfl | rfl | rfl | rfl
   ·exact ⟨0, rfl, by decide, by decide⟩
   ·exact ⟨0, rfl, by decide, by decide⟩
   ·exact ⟨1, rfl, by decide, by decide⟩
   ·exact ⟨6, rfl, by decide, by decide⟩
  obtain ⟨c, hc, c0, c6⟩ := hm1
  refine qat (j := r1.toNat) (.inl (SqL.of L1)) (by omega) hc ⟨_, rfl, by omega, by omega, ?_⟩
  have K01 := K0.trans K1
  refine qdk (fits (by omega)) (fun i ys σ H3 => (∃ cs : List Nat, cs.length = i /\ (∀ c ∈ cs, 97 <= c /\ c <= 122) /\ ys = cs.map fun c => V.str ⟨#[c]⟩) /\ Pot H3 p /\ Kp [p] H H3 /\ ∃ x, σ = [x, some (.str qdc), some (.ref p)])
   ⟨⟨[], rfl, by simp, rfl⟩, P1, K01, _, rfl⟩ (fun i ys σ H3 _ q => by obtain ⟨⟨cs, rfl, _, rfl⟩, _⟩ := q; simp) ?_ ?_
  ·rintro i ys σ H3 hi ⟨⟨cs, rfl, hcs, rfl⟩, P3, K3, v, rfl⟩
   refine ⟨_, rfl, _, rfl, p, 26, rfl, P3, by decide, by decide, fun r H4 r0 r1 P4 K4 => .inr (.inr ⟨qdc, r, 97 + r.toNat, rfl, rfl, qde, qhz (j := r.toNat) (by omega) (qee (by omega)), ⟨cs ++ [97 + r.toNat], by simp, fun c hc => ?_, by simp⟩, P4, K3.trans K4, _, rfl⟩)⟩
   rcases List.mem_append.mp hc with z | z
   ·exact hcs c z
   ·simp at z
    omega
  rintro ys σ H3 ⟨⟨cs, hlen, hcs, rfl⟩, P3, K3, v, rfl⟩ q hq
  have hx : (Txt.join (Str.ofString "") (cs.map fun c => (⟨#[c]⟩ : Str))).cps.toList = cs := join_one cs
  have hmap : (cs.map fun c => V.str ⟨#[c]⟩) = (cs.map fun c => (⟨#[c]⟩ : Str)).map V.str := by rw [List.map_map]; rfl
  refine ⟨Str.ofString "", q, cs.map fun c => (⟨#[c]⟩ : Str), rfl, rfl, SqL.of (by rw [qab, hmap]), ?_, ?_⟩
  ·have hs : ∀ l : List Nat, ((l.map fun c => (⟨#[c]⟩ : Str)).map (·.length)).sum = l.length := fun l => by
    induction l with
    | nil => rfl
    | cons c r ih => simp only [List.map_cons, List.sum_cons, ih, List.length_cons]; show 1 + r.length = _; omega
   have e0 : (Str.ofString "").length = 0 := by decide
   rw [hs, e0]
   omega
  have hah : (Txt.join (Str.ofString "") (cs.map fun c => (⟨#[c]⟩ : Str))).length <= 6 := by
   have : (Txt.join (Str.ofString "") (cs.map fun c => (⟨#[c]⟩ : Str))).length = cs.length := by rw [<- congrArg List.length hx]; simp [Str.length]
   omega
  have hac : ∀ d ∈ (Txt.join (Str.ofString "") (cs.map fun c => (⟨#[c]⟩ : Str))).cps.toList, 97 <= d /\ d <= 122 := by rw [hx]; exact hcs
  generalize Txt.join (Str.ofString "") (cs.map fun c => (⟨#[c]⟩ : Str)) = ah at hah hac ⊢
  have P4 := P3.new (o := .lst (cs.map fun c => V.str ⟨#[c]⟩)) hq
  have K4 := K3.new (o := .lst (cs.map fun c => V.str ⟨#[c]⟩)) hq
  generalize upd H3 q (.lst (cs.map fun c => V.str ⟨#[c]⟩)) = H4 at P4 K4 ⊢
  refine ⟨_, rfl, p, 26, rfl, P4, by decide, by decide, fun ft H5 f0 f1 P5 K5 => ?_⟩
  refine ⟨by show 6 <= sizeLine; decide, fun l6 hl6 => ?_⟩
  have P6 := P5.new (o := .lst [.int 1, .int 3, .int 5, .int 7, .int 9, .int 11]) hl6
  have K6 := (K4.trans K5).new (o := .lst [.int 1, .int 3, .int 5, .int 7, .int 9, .int 11]) hl6
  have L6 : upd H5 l6 (.lst [.int 1, .int 3, .int 5, .int 7, .int 9, .int 11]) l6 = some (.lst [.int 1, .int 3, .int 5, .int 7, .int 9, .int 11]) := qab
  have nl6 := P5.ne_new hl6
  generalize upd H5 l6 (.lst [.int 1, .int 3, .int 5, .int 7, .int 9, .int 11]) = H6 at P6 K6 L6 ⊢
  refine ⟨_, rfl, p, 6, rfl, P6, by decide, by decide, fun r6 H7 g0 g1 P7 K7 => ?_⟩
  have L7 := K7.at nl6 L6
  have hw : ∃ c : Nat, ([V.int 1, V.int 3, V.int 5, V.int 7, V.int 9, V.int 11] : List V)[r6.toNat]? = some (.int c) /\ c ∈ [1, 3, 5, 7, 9, 11] := by
   have : r6 = 0 \/ r6 = 1 \/ r6 = 2 \/ r6 = 3 \/ r6 = 4 \/ r6 = 5 := by omega
   rcases this with rfl | rfl | rfl | rfl | rfl | rfl
   ·exact ⟨1, rfl, by decide⟩
   ·exact ⟨3, rfl, by decide⟩
   ·exact ⟨5, rfl, by decide⟩
   ·exact ⟨7, rfl, by decide⟩
   ·exact ⟨9, rfl, by decide⟩
   ·exact ⟨11, rfl, by decide⟩
  obtain ⟨wd, hwd, hwm⟩ := hw
  have hw11 : wd <= 11 := by
   simp only [List.mem_cons, List.not_mem_nil, or_false] at hwm
   omega
  refine qat (j := r6.toNat) (.inl (SqL.of L7)) (by omega) hwd ⟨_, _, rfl, ?_⟩
  have P8 := P7
  have K8 := K6.trans K7
  clear P7 K7 L7 P6 K6 L6
  revert H7
  intro H8 P8 K8
  obtain ⟨fn, rfl⟩ := Int.eq_ofNat_of_zero_le f0
  have hfn : fn < 26 := by omega
  refine ⟨Nat.zero_le _, fun fo hfo => ?_⟩
  have fo0 : H fo = none := K8.free1 P8 hfo
  have nfp := P8.ne_new hfo
  have P9 := P8.new (o := .lst []) hfo
  have K9 := K8.new (o := .lst []) hfo
  have F9 : upd H8 fo (.lst []) fo = some (.lst ((([] : List Str)).map V.str)) := qab
  generalize upd H8 fo (.lst []) = H9 at P9 K9 F9 ⊢
  refine ⟨_, rfl, _, rfl, by omega, by omega, qdf (fun i σ H1 => ∃ (ns : List Str) (g1 g2 : Option V), σ = [some (.ref p), some (.int m), some (.str qdc), some (.str ah), some (.int fn), some (.int wd), some (.ref fo), g1, g2] /\ Pot H1 p /\ H1 fo = some (.lst (ns.map V.str)) /\ ns.length = i /\ Drawn fn wd (decide (26 < m)) ns /\ Kp [p] H H1)
   ⟨[], none, none, rfl, P9, F9, rfl, ⟨fun j x hj => by simp at hj⟩, K9⟩ ?_ ?_⟩
  ·rintro i σ H1 hi ⟨ns, g1, g2, rfl, P1, F1, hl, D, K1⟩
   have him : i < m := by omega
   refine ⟨_, rfl, _, rfl, _, rfl, ah, rfl, by rw [sizeLine_eq]; omega, _, _, rfl, rfl, p, _, rfl, P1, by omega, by omega, fun r H2 r0 r1 P2 K2 => ?_⟩
   have F2 := K2.at nfp F1
   have K12 := K1.trans K2
   have hsl : (Txt.slice ah none (some r)).length <= 6 := Nat.le_trans (Txt.slice_le ah _ _) hah
   have hsc : ∀ d ∈ (Txt.slice ah none (some r)).cps.toList, 97 <= d /\ d <= 122 := fun d hd => hac d (qnr ah r d hd)
   have hsn : (Txt.slice ah none (some r)).cps.toList.length <= 6 := by simpa [Str.length] using hsl
   refine ⟨_, rfl, ah, rfl, by rw [sizeLine_eq]; omega, ?_⟩
   generalize Txt.slice ah none (some r) = sl at hsl hsc hsn ⊢
   have hidx : (((fn : Nat) : Int) + ((wd : Nat) : Int) * (0 + (i : Int))) % 26 = (((fn + wd * i) % 26 : Nat) : Int) := by push_cast; rw [Int.zero_add]
   have hidx2 : (((fn : Nat) : Int) + (0 + (i : Int)) / 26) % 26 = (((fn + i / 26) % 26 : Nat) : Int) := by push_cast; rw [Int.zero_add]
   refine ⟨_, rfl, _, rfl, _, rfl, _, rfl, _, _, rfl, rfl, .inl ⟨by omega, by omega⟩, _, _, rfl, rfl, _, _, rfl, rfl, by show (0 : Int) < 26; decide, ?_⟩
   refine .inr (.inr ⟨qdc, _, 97 + (fn + wd * i) % 26, rfl, rfl, qde, qhz (j := (fn + wd * i) % 26) hidx (qee (Nat.mod_lt _ (by decide))), _, _, rfl, rfl, by rw [sizeLine_eq]; show sl.length + 1 <= _; omega, ?_⟩)
   have hlen1 : (sl ++ (⟨#[97 + (fn + wd * i) % 26]⟩ : Str)).length = sl.length + 1 := by rw [Str.length_append]; rfl
   refine ⟨_, rfl, _, _, rfl, rfl, _, rfl, ?_⟩
   refine qev (fun c => ?_) (fun c => ?_)
   ·have c' : 26 < m := by have := of_decide_eq_true c; omega
    refine ⟨_, rfl, _, rfl, _, rfl, _, rfl, _, _, rfl, rfl, ⟨by decide, by decide⟩, _, _, rfl, rfl, _, _, rfl, rfl, by show (0 : Int) < 26; decide, ?_⟩
    refine .inr (.inr ⟨qdc, _, 97 + (fn + i / 26) % 26, rfl, rfl, qde, qhz (j := (fn + i / 26) % 26) hidx2 (qee (Nat.mod_lt _ (by decide))), _, _, rfl, rfl, by rw [hlen1, sizeLine_eq]; show sl.length + 1 + 1 <= _; omega, ?_⟩)
    refine ⟨_, rfl, .inl ⟨rfl, _, SqL.of F2⟩, _, rfl, fo, ns.map V.str, _, rfl, rfl, F2, by rw [List.length_map]; exact fits (by omega), ?_⟩
    refine ⟨ns ++ [sl ++ (⟨#[97 + (fn + wd * i) % 26]⟩ : Str) ++ (⟨#[97 + (fn + i / 26) % 26]⟩ : Str)], _, _, rfl, P2.upd nfp, by rw [qab, List.map_append]; rfl, by simp [hl], ?_, fun b o e nb => by rw [qag (qaf e fo0)]; exact K12 b o e nb⟩
    refine D.add (u := sl.cps.toList) ?_ hsn hsc
    rw [qeb, qeb, hl]
    unfold tlc
    rw [if_pos (decide_eq_true c')]
    simp
   ·have c' : ¬ 26 < m := by simp only [decide_eq_true_eq] at c; omega
    refine ⟨_, rfl, .inl ⟨rfl, _, SqL.of F2⟩, _, rfl, fo, ns.map V.str, _, rfl, rfl, F2, by rw [List.length_map]; exact fits (by omega), ?_⟩
    refine ⟨ns ++ [sl ++ (⟨#[97 + (fn + wd * i) % 26]⟩ : Str)], _, _, rfl, P2.upd nfp, by rw [qab, List.map_append]; rfl, by simp [hl], ?_, fun b o e nb => by rw [qag (qaf e fo0)]; exact K12 b o e nb⟩
    refine D.add (u := sl.cps.toList) ?_ hsn hsc
    rw [qeb, hl]
    unfold tlc
    rw [if_neg (by simpa using c')]
  ·rintro σ H1 ⟨ns, g1, g2, rfl, P1, F1, hl, D, K1⟩
   have hl' : ns.length = m := by omega
   exact ⟨_, rfl, k fo ns H1 P1 F1 fo0 D.name (D.nodup hwm (by omega) (fun c => by have := of_decide_eq_false c; omega)) hl' K1⟩
end
noncomputable abbrev Pr := Addr × Int × Int
noncomputable abbrev qb9 (prs : List Pr) : List V := prs.map fun x => V.ref x.1
noncomputable def qer (H : Hp) (prs : List Pr) : Prop := ∀ x ∈ prs, H x.1 = some (.tup [.int x.2.1, .int x.2.2])
noncomputable def qip (m : Nat) (prs : List Pr) : Prop := ∀ x ∈ prs, 0 <= x.2.1 /\ x.2.1 < m /\ 0 <= x.2.2 /\ x.2.2 < m /\ x.2.1 ≠ x.2.2
theorem qer.kp {H H1 : Hp} {p : Addr} {prs : List Pr} (h : qer H prs) (k : Kp [p] H H1) (hp : Pot H p) : qer H1 prs := fun x hx => k.tup hp (h x hx)
theorem qer.new {H : Hp} {q : Addr} {o : HO} {prs : List Pr} (h : qer H prs) (hq : H q = none) : qer (upd H q o) prs := fun x hx => by
 rw [qag (qaf (h x hx) hq)]; exact h x hx
theorem qer.over {H : Hp} {q : Addr} {o : HO} {ys : List V} {prs : List Pr} (h : qer H prs) (hq : H q = some (.lst ys)) : qer (upd H q o) prs := fun x hx => by
 rw [qag (tup_ne (h x hx) hq)]; exact h x hx
theorem qer.app {H : Hp} {a b : List Pr} (h : qer H a) (g : qer H b) : qer H (a ++ b) := fun x hx => (List.mem_append.mp hx).elim (h x) (g x)
theorem qip.app {m : Nat} {a b : List Pr} (h : qip m a) (g : qip m b) : qip m (a ++ b) := fun x hx => (List.mem_append.mp hx).elim (h x) (g x)
theorem qer.one {H : Hp} {t : Addr} {a b : Int} (h : H t = some (.tup [.int a, .int b])) : qer H [(t, a, b)] := fun x hx => by
 have e : x = (t, a, b) := by simpa using hx
 subst e; exact h
theorem qip.one {m : Nat} {t : Addr} {a b : Int} (h : 0 <= a /\ a < m /\ 0 <= b /\ b < m /\ a ≠ b) : qip m [(t, a, b)] := fun x hx => by
 have e : x = (t, a, b) := by simpa using hx
 subst e; exact h
theorem qe2 {m i : Nat} (h2 : 2 <= m) (h8 : m <= 8) {T : Int} (hT : T <= 30 / ((m : Int) - 1)) (hi : (i : Int) <= T) : i * (m - 1) <= 30 := by
 have : m = 2 \/ m = 3 \/ m = 4 \/ m = 5 \/ m = 6 \/ m = 7 \/ m = 8 := by omega
 rcases this with rfl | rfl | rfl | rfl | rfl | rfl | rfl <;> omega
theorem qt9 {a r n : Int} (h1 : 0 <= a) (h2 : a < n) (h3 : 0 <= r) (h4 : r < n - 1) : (a + 1 + r) % n ≠ a /\ 0 <= (a + 1 + r) % n /\ (a + 1 + r) % n < n := by
 refine ⟨fun e => ?_, Int.emod_nonneg _ (by omega), Int.emod_lt_of_pos _ (by omega)⟩
 have q := Int.mul_ediv_add_emod (a + 1 + r) n
 rw [e] at q
 generalize (a + 1 + r) / n = k at q
 have hk : k <= 0 \/ 1 <= k := by omega
 rcases hk with hk | hk
 ·have := Int.mul_nonpos_of_nonneg_of_nonpos (show 0 <= n by omega) hk
  omega
 ·have := Int.mul_le_mul_of_nonneg_left hk (show 0 <= n by omega)
  omega
section
variable {P : Program} {w : World} {K : PySem.W.Frag} {mg : Str -> Option Value} {base : Heap}
noncomputable def qmc : Sp := fun vs H Q _ => ∃ (p : Addr) (m : Nat), vs = [.ref p, .int m] /\ Pot H p /\ 1 <= m /\ m <= 8 /\
 ∀ (q : Addr) (prs : List Pr) (H' : Hp), Pot H' p -> H' q = some (.lst (qb9 prs)) -> H q = none -> qer H' prs -> qip m prs -> prs.length <= 40 -> Kp [p] H H' -> Q (.ref q) H'
noncomputable abbrev N41 : List Str := ["_law_pot_here", "_law_many", "_law_found", "_law_tree", "_law_k", "_law_a"]
theorem qur : qao N41 ["_law_pot_here", "_law_many"] (qai (top 41)) := ⟨rfl, rfl, rfl, by decide +kernel, rfl, by decide +kernel, by decide +kernel⟩
theorem qpk {f : Addr} {fd : FuncData} (F : Fun K "_law_pairs" "_law_pairs" (top 41) f fd) (B : Bl mg) (Ft : Fn P w K mg base 1 "_law_take" ["_law_pot_here", "_law_many"] qfl) : qca P w K mg base CX0 2 f fd ["_law_pot_here", "_law_many"] qmc := by
 refine F.ok qur (fun vs H Q E h => ?_) (fun cdv A outer s H vs Q E hr h => ?_)
 ·obtain ⟨p, m, rfl, _⟩ := h
  rfl
 ·obtain ⟨p, m, rfl, hp, m1, m8, k⟩ := h
  refine ⟨_, qae (qax (i := 2) qur.nd rfl (Or.inl rfl) (qbv qac))
   (qae (qb8 (qay qqm (pv 1) qah (qbg _)) (qak (qav (pv 2))) qa2)
   (qae (qcn PassesOwn.never rfl (qcg rfl B.range (qaa (qaj (qdw rfl) rfl B.min qnd (qaa (qa8 qa7 (qbv (qaa qah (qaa qah (qaa qah (qaa qah (qaa qah (qaa qah (qaa qah qac)))))))) (qaw Ft hr (qaa (pv 0) (qaa qah qac))) (fun _ _ => rfl))
     (qaa (qa4 qix qah (qa4 qik (pv 1) qah)) qac))) qac)) (qa0 (i := 3) qur.nd rfl (Or.inl rfl))
    (qak (qch (qhr PySem.F.plainAttrs_list PySem.F.slot_list_extend PySem.F.type_list_extend qmu (pv 2) (qaa (qcx (N := ["_law_k", "_law_pot_here"]) (ix := [none, some 0]) ⟨rfl, rfl, rfl, by decide⟩ rfl
     (qg8 rfl B.range (qaa qah (qaa (pv 1) qac))) (fun _ _ _ _ => qbu 0 (by decide) rfl rfl) (fun _ _ _ _ => qbk) (fun _ _ _ _ => qcr (qaa (qaw Ft hr (qaa (pv 1) (qaa (pv 0) qac))) (qaa (pv 0) qac)))) qac)))))
   (qae (qcn PassesOwn.never rfl (qcg rfl B.range (qaa (qa8 qa7 (qbv (qaa (qaw Ft hr (qaa (pv 0) (qaa qah qac))) (qaa (qaw Ft hr (qaa (pv 0) (qaa qah qac))) qac))) (qaw Ft hr (qaa (pv 0) (qaa qah qac))) (fun _ _ => rfl)) qac)) (qa0 (i := 4) qur.nd rfl (Or.inl rfl))
    (qae (qax (i := 5) qur.nd rfl (Or.inl rfl) (qaw Ft hr (qaa (pv 0) (qaa (pv 1) qac))))
    (qak (qch (qhr PySem.F.plainAttrs_list PySem.F.slot_list_append PySem.F.type_list_append qcz (pv 2) (qaa (qcr (qaa (pv 5) (qaa (qa4 qel (qa4 qcu (qa4 qcu (pv 5) qah) (qaw Ft hr (qaa (pv 0) (qaa (qa4 qik (pv 1) qah) qac)))) (pv 1)) qac))) qac))))))
   (qak (qav (pv 2)))))), ?_⟩
  refine ⟨Nat.zero_le _, fun fo hfo => ?_⟩
  have nfp := hp.ne_new hfo
  have P1 := hp.new (o := .lst []) hfo
  have K1 := (Kp.refl [p] H).new (o := .lst []) hfo
  have F1 : upd H fo (.lst []) fo = some (.lst (qb9 [])) := qab
  generalize upd H fo (.lst []) = H1 at P1 K1 F1 ⊢
  refine ⟨_, rfl, rfl, _, rfl, ?_⟩
  refine qev (fun c => ⟨_, rfl, k fo [] H1 P1 F1 hfo (by simp [qer]) (by simp [qip]) (by simp) K1⟩) (fun c => ?_)
  have m2 : 2 <= m := by
   simp only [decide_eq_true_eq] at c
   have : ¬ ((m : Int) = 1) := fun z => c (by rw [z])
   omega
  refine ⟨by show 7 <= sizeLine; decide, fun l7 hl7 => ?_⟩
  have nl7 := P1.ne_new hl7
  have P2 := P1.new (o := .lst [.int 0, .int 1, .int 1, .int 2, .int 2, .int 3, .int 6]) hl7
  have K2 := K1.new (o := .lst [.int 0, .int 1, .int 1, .int 2, .int 2, .int 3, .int 6]) hl7
  have L2' : upd H1 l7 (.lst [.int 0, .int 1, .int 1, .int 2, .int 2, .int 3, .int 6]) l7 = some (.lst [.int 0, .int 1, .int 1, .int 2, .int 2, .int 3, .int 6]) := qab
  have F2 : upd H1 l7 (.lst [.int 0, .int 1, .int 1, .int 2, .int 2, .int 3, .int 6]) fo = some (.lst (qb9 [])) := by rw [qag (qaf F1 hl7)]; exact F1
  generalize upd H1 l7 (.lst [.int 0, .int 1, .int 1, .int 2, .int 2, .int 3, .int 6]) = H2 at P2 K2 L2' F2 ⊢
  refine ⟨_, rfl, p, 7, rfl, P2, by decide, by decide, fun r1 H3 a0 a1 P3 K3' => ?_⟩
  have L3 := K3'.at nl7 L2'
  have F3 := K3'.at nfp F2
  have K3 := K2.trans K3'
  have hc : ∃ c : Int, ([V.int 0, V.int 1, V.int 1, V.int 2, V.int 2, V.int 3, V.int 6] : List V)[r1.toNat]? = some (.int c) /\ 0 <= c /\ c <= 6 := by
   have : r1 = 0 \/ r1 = 1 \/ r1 = 2 \/ r1 = 3 \/ r1 = 4 \/ r1 = 5 \/ r1 = 6 := by omega
   rcases this with rfl | rfl | rfl | rfl | rfl | rfl | rfl
   ·exact ⟨0, rfl, by decide, by decide⟩
   ·exact ⟨1, rfl, by decide, by decide⟩
   ·exact ⟨1, rfl, by decide, by decide⟩
   ·exact ⟨2, rfl, by decide, by decide⟩
   ·exact ⟨2, rfl, by decide, by decide⟩
   ·exact ⟨3, rfl, by decide, by decide⟩
   ·exact ⟨6, rfl, by decide, by decide⟩
  obtain ⟨c1, hc1, c10, c16⟩ := hc
  have hdiv : (0 : Int) <= 30 / ((m : Int) - 1) := Int.ediv_nonneg (by decide) (by omega)
  refine qat (j := r1.toNat) (.inl (SqL.of L3)) (by omega) hc1 ⟨_, rfl, _, _, rfl, rfl, _, _, rfl, rfl, ⟨by omega, by omega⟩, _, _, rfl, ?_⟩
  have hT : ∃ T : Int, (if 30 / ((m : Int) - 1) < c1 then 30 / ((m : Int) - 1) else c1) = T /\ 0 <= T /\ T <= 6 /\ T <= 30 / ((m : Int) - 1) := by
   split
   ·exact ⟨_, rfl, hdiv, by omega, Int.le_refl _⟩
   ·exact ⟨_, rfl, c10, c16, by omega⟩
  obtain ⟨T, eT, T0, T6, Td⟩ := hT
  rw [eT]
  refine ⟨_, rfl, by omega, by omega, qdf (fun i σ H4 => ∃ (prs : List Pr) (g1 g2 g3 : Option V), σ = [some (.ref p), some (.int m), some (.ref fo), g1, g2, g3] /\ Pot H4 p /\ H4 fo = some (.lst (qb9 prs)) /\ qer H4 prs /\ qip m prs /\ prs.length = i * (m - 1) /\ Kp [p] H H4)
   ⟨[], none, none, none, rfl, P3, F3, by simp [qer], by simp [qip], by simp, K3⟩ ?_ ?_⟩
  ·rintro i σ H4 hi ⟨prs, g1, g2, g3, rfl, P4, F4, A4, O4, hl, K4⟩
   have hb := qe2 (i := i + 1) m2 m8 Td (by omega)
   rw [Nat.succ_mul] at hb
   refine ⟨_, rfl, .inl ⟨rfl, _, SqL.of F4⟩, _, rfl, 1, (m : Int), rfl, ⟨by decide, by decide, by omega, by omega⟩, ?_⟩
   have em : ((m : Int) - 1).toNat = m - 1 := by omega
   rw [em]
   refine qdk (fits (by omega)) (fun j ys σ H5 => (∃ qs : List Pr, ys = qb9 qs /\ qer H5 qs /\ qip m qs /\ qs.length = j) /\ Pot H5 p /\ Kp [p] H4 H5 /\ ∃ x, σ = [x, some (.ref p)])
    ⟨⟨[], rfl, by simp [qer], by simp [qip], rfl⟩, P4, Kp.refl _ _, _, rfl⟩ (fun j ys σ H5 _ q => by obtain ⟨⟨qs, rfl, _, _, rfl⟩, _⟩ := q; simp) ?_ ?_
   ·rintro j ys σ H5 hj ⟨⟨qs, rfl, A5, O5, rfl⟩, P5, K5, v, rfl⟩
    refine ⟨_, rfl, _, rfl, p, _, rfl, P5, by omega, by omega, fun r H6 r0 r1 P6 K6 => ⟨_, rfl, by show 2 <= sizeLine; decide, fun t ht => ?_⟩⟩
    refine ⟨⟨qs ++ [(t, r, 1 + (qs.length : Int))], by simp [qb9], ?_, ?_, by simp⟩, P6.new ht, (K5.trans K6).new ht, _, rfl⟩
    ·exact ((A5.kp K6 P5).new ht).app (qer.one qab)
    ·exact O5.app (qip.one ⟨r0, by omega, by omega, by omega, by omega⟩)
   ·rintro ys σ H5 ⟨⟨qs, rfl, A5, O5, hql⟩, P5, K5, v, rfl⟩ t ht
    have F5 := K5.at nfp F4
    have F6 : upd H5 t (.lst (qb9 qs)) fo = some (.lst (qb9 prs)) := by rw [qag (qaf F5 ht)]; exact F5
    have A6 : qer (upd H5 t (.lst (qb9 qs))) (prs ++ qs) := ((A4.kp K5 P4).app A5).new ht
    have P6 := P5.new (o := .lst (qb9 qs)) ht
    have K6 := (K4.trans K5).new (o := .lst (qb9 qs)) ht
    refine ⟨fo, t, qb9 prs, qb9 qs, rfl, rfl, F6, qab, by rw [sizeLine_eq]; simp; omega, ?_⟩
    refine ⟨prs ++ qs, _, _, _, rfl, P6.upd nfp, by rw [qab]; simp [qb9], A6.over F6, O4.app O5, by rw [List.length_append, hl, hql, Nat.succ_mul], fun b o e nb => by rw [qag (qaf e hfo)]; exact K6 b o e nb⟩
  ·rintro σ H4 ⟨prs, g1, g2, g3, rfl, P4, F4, A4, O4, hl, K4⟩
   have hl30 : prs.length <= 30 := by
    rw [hl]
    exact qe2 m2 m8 Td (by omega)
   clear hl
   refine ⟨_, rfl, p, 4, rfl, P4, by decide, by decide, fun r1 H5 a0 a1 P5 K5' => ⟨_, rfl, p, 11, rfl, P5, by decide, by decide, fun r2 H6 b0 b1 P6 K6' => ?_⟩⟩
   have F6 := K6'.at nfp (K5'.at nfp F4)
   have A6 := (A4.kp K5' P4).kp K6' P5
   have K6 := (K4.trans K5').trans K6'
   refine ⟨by show 2 <= sizeLine; decide, fun l2 hl2 => ?_⟩
   have nl2 := P6.ne_new hl2
   have P7 := P6.new (o := .lst [.int r1, .int r2]) hl2
   have K7 := K6.new (o := .lst [.int r1, .int r2]) hl2
   have A7 := A6.new (o := .lst [.int r1, .int r2]) hl2
   have F7 : upd H6 l2 (.lst [.int r1, .int r2]) fo = some (.lst (qb9 prs)) := by rw [qag (qaf F6 hl2)]; exact F6
   have L7 : upd H6 l2 (.lst [.int r1, .int r2]) l2 = some (.lst [.int r1, .int r2]) := qab
   generalize upd H6 l2 (.lst [.int r1, .int r2]) = H7 at P7 K7 A7 F7 L7 ⊢
   refine ⟨_, rfl, p, 2, rfl, P7, by decide, by decide, fun r3 H8 c0 c1' P8 K8' => ?_⟩
   have L8 := K8'.at nl2 L7
   have F8 := K8'.at nfp F7
   have A8 := A7.kp K8' P7
   have K8 := K7.trans K8'
   have hn : ∃ e : Int, ([V.int r1, V.int r2] : List V)[r3.toNat]? = some (.int e) /\ 0 <= e /\ e <= 10 := by
    have : r3 = 0 \/ r3 = 1 := by omega
    rcases this with rfl | rfl
    ·exact ⟨r1, rfl, by omega, by omega⟩
    ·exact ⟨r2, rfl, by omega, by omega⟩
   obtain ⟨e, he, e0, e1⟩ := hn
   refine qat (j := r3.toNat) (.inl (SqL.of L8)) (by omega) he ⟨_, rfl, by omega, by omega, qdf (fun i σ H4 => ∃ (prs : List Pr) (g1 g2 g3 : Option V), σ = [some (.ref p), some (.int m), some (.ref fo), g1, g2, g3] /\ Pot H4 p /\ H4 fo = some (.lst (qb9 prs)) /\ qer H4 prs /\ qip m prs /\ prs.length <= 30 + i /\ Kp [p] H H4)
    ⟨prs, _, _, _, rfl, P8, F8, A8, O4, by omega, K8⟩ ?_ ?_⟩
   ·rintro i σ H9 hi ⟨prs, g1, g2, g3, rfl, P9, F9, A9, O9, hl9, K9⟩
    refine ⟨_, rfl, _, rfl, p, _, rfl, P9, by omega, by omega, fun a H10 ha0 ha1 P10 K10' => ?_⟩
    have F10 := K10'.at nfp F9
    have A10 := A9.kp K10' P9
    refine ⟨_, rfl, .inl ⟨rfl, _, SqL.of F10⟩, _, rfl, _, rfl, _, _, rfl, rfl, _, rfl, _, rfl, _, _, rfl, rfl, p, _, rfl, P10, by omega, by omega, fun r H11 hr0 hr1 P11 K11' => ?_⟩
    have F11 := K11'.at nfp F10
    have A11 := A10.kp K11' P10
    have K11 := (K9.trans K10').trans K11'
    refine ⟨_, _, rfl, rfl, _, rfl, _, _, rfl, rfl, by omega, by show 2 <= sizeLine; decide, fun t ht => ?_⟩
    obtain ⟨b1, b2, b3⟩ := qt9 ha0 ha1 hr0 hr1
    have F12 : upd H11 t (.tup [.int a, .int ((a + 1 + r) % (m : Int))]) fo = some (.lst (qb9 prs)) := by rw [qag (qaf F11 ht)]; exact F11
    refine ⟨fo, qb9 prs, _, rfl, rfl, F12, fits (by simp; omega), prs ++ [(t, a, (a + 1 + r) % (m : Int))], _, _, _, rfl, (P11.new ht).upd nfp, by rw [qab]; simp [qb9], ?_, O9.app (qip.one ⟨ha0, ha1, b2, b3, b1.symm⟩), by simp; omega, ?_⟩
    ·exact ((A11.new ht).app (qer.one qab)).over F12
    ·exact fun b o e nb => by rw [qag (qaf e hfo)]; exact (K11.new ht) b o e nb
   ·rintro σ H9 ⟨prs, g1, g2, g3, rfl, P9, F9, A9, O9, hl9, K9⟩
    exact ⟨_, rfl, k fo prs H9 P9 F9 hfo A9 O9 (by omega) K9⟩
end
noncomputable def pick (S : List Str) (t p : Str) : Str := if decide (p ∈ S) = true then t else p
noncomputable def qbi (S ts ps : List Str) : List Str := List.zipWith (pick S) ts ps ++ ts.drop (min ts.length ps.length)
theorem qeh (S : List Str) : ∀ (ts ps : List Str) (x : Str), x ∈ qbi S ts ps -> x ∈ ts \/ (x ∈ ps /\ x ∉ S)
 | [], ps, x, h => by simp [qbi] at h
 | t :: ts, [], x, h => by simp [qbi] at h; exact .inl (List.mem_cons.mpr h)
 | t :: ts, p :: ps, x, h => by
  have e : qbi S (t :: ts) (p :: ps) = pick S t p :: qbi S ts ps := by
   unfold qbi
   simp [Nat.succ_min_succ]
  rw [e] at h
  rcases List.mem_cons.mp h with z | z
  ·unfold pick at z
   split at z
   ·exact .inl (by rw [z]; exact List.mem_cons_self)
   ·next c => exact .inr ⟨by rw [z]; exact List.mem_cons_self, by rw [z]; simpa using c⟩
  ·rcases qeh S ts ps x z with q | ⟨q, r⟩
   ·exact .inl (List.mem_cons_of_mem _ q)
   ·exact .inr ⟨List.mem_cons_of_mem _ q, r⟩
theorem qek (S : List Str) : ∀ (ts ps : List Str), ts.Nodup -> ps.Nodup -> (∀ t ∈ ts, t ∈ S) -> (qbi S ts ps).Nodup
 | [], ps, _, _, _ => by simp [qbi]
 | t :: ts, [], h, _, _ => by simpa [qbi] using h
 | t :: ts, p :: ps, h1, h2, hS => by
  have e : qbi S (t :: ts) (p :: ps) = pick S t p :: qbi S ts ps := by
   unfold qbi
   simp [Nat.succ_min_succ]
  rw [e]
  have n1 := List.nodup_cons.mp h1
  have n2 := List.nodup_cons.mp h2
  refine List.nodup_cons.mpr ⟨fun hm => ?_, qek S ts ps n1.2 n2.2 fun x hx => hS x (List.mem_cons_of_mem _ hx)⟩
  rcases qeh S ts ps _ hm with q | ⟨q, r⟩
  ·unfold pick at q
   split at q
   ·exact n1.1 q
   ·next c => exact absurd (hS p (List.mem_cons_of_mem _ q)) (by simpa using c)
  ·unfold pick at q r
   split at q
   ·next c => rw [if_pos c] at r; exact r (hS t List.mem_cons_self)
   ·exact n2.1 q
theorem qk0 (S : List Str) (ts ps : List Str) : (qbi S ts ps).length = ts.length := by
 unfold qbi
 rw [List.length_append, List.length_zipWith, List.length_drop]
 omega
theorem qhq {S ts ps : List Str} (h1 : ∀ x ∈ ts, qa9 x) (h2 : ∀ x ∈ ps, qa9 x) : ∀ x ∈ qbi S ts ps, qa9 x := fun x hx => by
 rcases qeh S ts ps x hx with q | ⟨q, _⟩
 ·exact h1 x q
 ·exact h2 x q
theorem qjv (xs : List V) {n : Nat} (h : n <= xs.length) : qhg xs (some (n : Int)) none = xs.drop n := by
 unfold qhg
 have h0 : ¬ ((n : Int) < 0) := by omega
 have h1 : min n xs.length = n := by omega
 simp [HT.sIx, h0]
 rw [List.take_of_length_le (by simp)]
 rw [h1]
theorem qj6 {K : PySem.W.Frag} {g : TG} {te : TE} {σ' : St} {fin : List V -> Hp -> Prop} {H1 : Hp} {a b : Addr} {xs ys : List V} (hn : min xs.length ys.length < sizeLine) (Pv : Nat -> List V -> St -> Hp -> Prop) (h0 : Pv 0 [] σ' H1)
  (hl : ∀ i zs σ H, i <= min xs.length ys.length -> Pv i zs σ H -> zs.length <= i /\ SqL K H a xs /\ SqL K H b ys)
  (hs : ∀ i x y zs σ H T, xs[i]? = some x -> ys[i]? = some y -> Pv i zs σ H -> H T = none -> g (.ref T) σ (upd H T (.tup [x, y])) fun σ2 H2 => te σ2 H2 (fun v H4 => Pv (i + 1) (zs ++ [v]) σ2 H4))
  (hd : ∀ zs σ H, Pv (min xs.length ys.length) zs σ H -> fin zs H) : LcW (Itz K a b) g qk9 te σ' fin H1 :=
 qsa hn Pv h0 hl (fun i x y zs σ H T hx hy p hT => by
  have e : (fun σ2 H2 => qk9 σ2 H2 fun b H3 => if b = true then te σ2 H3 (fun v H4 => Pv (i + 1) (zs ++ [v]) σ2 H4) else Pv (i + 1) zs σ2 H3) = fun σ2 H2 => te σ2 H2 (fun v H4 => Pv (i + 1) (zs ++ [v]) σ2 H4) := by
   funext σ2 H2
   show (if true = true then te σ2 H2 (fun v H4 => Pv (i + 1) (zs ++ [v]) σ2 H4) else Pv (i + 1) zs σ2 H2) = _
   rw [if_pos rfl]
  rw [e]
  exact hs i x y zs σ H T hx hy p hT) hd
section
variable {P : Program} {w : World} {K : PySem.W.Frag} {mg : Str -> Option Value} {base : Heap}
noncomputable def qki : Sp := fun vs H Q _ => ∃ (p ta pa : Addr) (ts ps : List Str), vs = [.ref p, .ref ta, .ref pa] /\ Pot H p /\ H ta = some (.lst (ts.map V.str)) /\ H pa = some (.lst (ps.map V.str)) /\ ts.length <= 40 /\ ps.length <= 8 /\ ts.Nodup /\ ps.Nodup /\ (∀ x ∈ ts, qa9 x) /\ (∀ x ∈ ps, qa9 x) /\
 ∀ (q : Addr) (ns : List Str) (H' : Hp), Pot H' p -> H' q = some (.lst (ns.map V.str)) -> (∀ x ∈ ns, qa9 x) -> ns.Nodup -> ns.length = ts.length -> Kp [p] H H' -> Q (.ref q) H'
noncomputable abbrev N43 : List Str := ["_law_pot_here", "_law_ties", "_law_places", "_law_found"]
theorem qw2 : qao N43 ["_law_pot_here", "_law_ties", "_law_places"] (qai (top 43)) := ⟨rfl, rfl, rfl, by decide +kernel, rfl, by decide +kernel, by decide +kernel⟩
theorem ql8 {f : Addr} {fd : FuncData} (F : Fun K "_law_called" "_law_called" (top 43) f fd) (B : Bl mg) (Ft : Fn P w K mg base 1 "_law_take" ["_law_pot_here", "_law_many"] qfl) : qca P w K mg base CX0 2 f fd ["_law_pot_here", "_law_ties", "_law_places"] qki := by
 refine F.ok qw2 (fun vs H Q E h => ?_) (fun cdv A outer s H vs Q E hr h => ?_)
 ·obtain ⟨p, ta, pa, ts, ps, rfl, _⟩ := h
  rfl
 ·obtain ⟨p, ta, pa, ts, ps, rfl, hp, ht, hpl, t40, p8, tn, pn, tnm, pnm, k⟩ := h
  refine ⟨_, qae (qb8 (qay qn5 (qaw Ft hr (qaa (pv 0) (qaa qah qac))) qah (qbg _)) (qak (qav (pv 1))) qa2)
   (qae (qdj (i := 3) (N := ["_law_tie", "_law_place", "_law_ties"]) (ix := [none, none, some 1]) qw2.nd rfl (Or.inl rfl) ⟨rfl, rfl, rfl, by decide⟩ rfl (qq2 rfl B.zip (qaa (pv 1) (qaa (pv 2) qac)))
    (fun _ _ _ _ => qmm K rfl (n := 2) (qa3 (qbu 0 (by decide) rfl rfl) (qa3 (qbu 1 (by decide) rfl rfl) qc6))) (fun _ _ _ _ => qbk)
    (fun _ _ _ _ => qjr (qay (qc1 K) (pv 1) (pv 2) (by with_unfolding_all rfl)) (pv 1) (pv 0)))
   (qak (qav (qa4 qfg (pv 3) (qdi qgi (pv 1) (qed (qaj qal rfl B.len PySem.boot_len (qaa (pv 3) qac))) qef))))), ?_⟩
  refine ⟨_, rfl, p, 4, rfl, hp, by decide, by decide, fun r H1 r0 r1 P1 K1 => ⟨_, _, rfl, rfl, _, rfl, ?_⟩⟩
  have ntp := qhf hp ht
  have npp := qhf hp hpl
  have t1 := K1.at ntp ht
  have p1 := K1.at npp hpl
  refine qev (fun c => ⟨_, rfl, k ta ts H1 P1 t1 tnm tn rfl K1⟩) (fun c => ?_)
  refine ⟨_, rfl, _, rfl, ta, pa, _, _, rfl, SqL.of t1, SqL.of p1, ?_⟩
  refine qj6 (xs := ts.map V.str) (ys := ps.map V.str) (fits (by simp; omega)) (fun i zs σ H2 => zs = ((List.zipWith (pick ts) ts ps).take i).map V.str /\ qar H1 H2 /\ ∃ g1 g2, σ = [g1, g2, some (.ref ta)]) ⟨rfl, qar.refl _, _, _, rfl⟩
   (fun i zs σ H2 _ q => ⟨by rw [q.1]; simp; omega, SqL.of (q.2.1 _ _ t1), SqL.of (q.2.1 _ _ p1)⟩) ?_ ?_
  ·rintro i x y zs σ H2 T hx hy ⟨rfl, s2, g1, g2, rfl⟩ hT
   rw [List.getElem?_map] at hx hy
   cases hc : ts[i]? with
   | none => rw [hc] at hx; cases hx
   | some t =>
    cases hd : ps[i]? with
    | none => rw [hd] at hy; cases hy
    | some q =>
     rw [hc] at hx
     rw [hd] at hy
     cases hx
     cases hy
     have s3 := qad (o := .tup [.str t, .str q]) s2 hT
     have hz : (List.zipWith (pick ts) ts ps)[i]? = some (pick ts t q) := by
      rw [List.getElem?_zipWith, hc, hd]
     have hst : ((List.zipWith (pick ts) ts ps).take (i + 1)).map V.str = ((List.zipWith (pick ts) ts ps).take i).map V.str ++ [V.str (pick ts t q)] := qd7 _ _ _ _ hz
     refine ⟨T, _, rfl, SqT.of qab, rfl, _, _, rfl, _, _, rfl, rfl, ?_⟩
     refine ⟨_, rfl, _, rfl, ta, ts.map V.str, rfl, .inl (SqL.of (s3 _ _ t1)), rfl, qbf ts, _, rfl, ?_⟩
     show if (!inV (.str q) (ts.map V.str)) = true then _ else _
     rw [qb0]
     refine qev (fun c => ⟨_, rfl, ?_, s3, _, _, rfl⟩) (fun c => ⟨_, rfl, ?_, s3, _, _, rfl⟩)
     ·rw [hst]
      have c' : decide (q ∈ ts) = false := by simpa using c
      unfold pick
      rw [c']
      rfl
     ·rw [hst]
      have c' : decide (q ∈ ts) = true := by simpa using c
      unfold pick
      rw [if_pos c']
  ·rintro zs σ H2 ⟨rfl, s2, g1, g2, rfl⟩ fo hfo
   have hzl : (List.zipWith (pick ts) ts ps).length = min ts.length ps.length := List.length_zipWith
   rw [take_all (List.zipWith (pick ts) ts ps) (by simp)]
   have s3 := qad (o := .lst ((List.zipWith (pick ts) ts ps).map V.str)) s2 hfo
   have f3 : upd H2 fo (.lst ((List.zipWith (pick ts) ts ps).map V.str)) fo = some (.lst ((List.zipWith (pick ts) ts ps).map V.str)) := qab
   generalize upd H2 fo (.lst ((List.zipWith (pick ts) ts ps).map V.str)) = H3 at s3 f3 ⊢
   refine ⟨_, rfl, _, rfl, _, rfl, fo, _, rfl, .inl (SqL.of f3), _, rfl, ta, _, rfl, SqL.of (s3 _ _ t1), fun c2 hc2 => ?_⟩
   rw [qjv _ (by simp [hzl]; omega)]
   have f4 : upd H3 c2 (.lst ((ts.map V.str).drop ((List.zipWith (pick ts) ts ps).map V.str).length)) fo = some (.lst ((List.zipWith (pick ts) ts ps).map V.str)) := by rw [qag (qaf f3 hc2)]; exact f3
   have s4 := qad (o := .lst ((ts.map V.str).drop ((List.zipWith (pick ts) ts ps).map V.str).length)) s3 hc2
   refine ⟨fo, c2, _, _, rfl, rfl, f4, qab, by rw [sizeLine_eq]; simp [hzl]; omega, fun q hq => ?_⟩
   have eL : (List.zipWith (pick ts) ts ps).map V.str ++ (ts.map V.str).drop ((List.zipWith (pick ts) ts ps).map V.str).length = (qbi ts ts ps).map V.str := by
    unfold qbi
    rw [List.map_append, List.map_drop, List.length_map, hzl]
   rw [eL]
   have s5 := qad (o := .lst ((qbi ts ts ps).map V.str)) s4 hq
   refine k q (qbi ts ts ps) _ (P1.keep fun o e => s5 _ _ e) qab (qhq tnm pnm) (qek ts ts ps tn pn fun t ht => ht) (qk0 ts ts ps) (K1.of_same s5)
end
end K32
namespace K32
open PySem L2 PySem.Spec PyProof.Rows
theorem snoc_ind {P : List Str -> Prop} (h0 : P []) (hs : ∀ l x, P l -> P (l ++ [x])) : ∀ l, P l := by
 have q : ∀ (l pre : List Str), P pre -> P (pre ++ l) := by
  intro l
  induction l with
  | nil => intro pre hp; simpa using hp
  | cons x r ih =>
   intro pre hp
   have := ih (pre ++ [x]) (hs pre x hp)
   simpa using this
 intro l
 simpa using q l [] h0
noncomputable def subs (ps : List Str) : List (List Str) := ps.foldl (fun f p => f ++ f.map fun l => l ++ [p]) [[]]
theorem qck (ps : List Str) (p : Str) : subs (ps ++ [p]) = subs ps ++ (subs ps).map fun l => l ++ [p] := by
 unfold subs
 rw [List.foldl_append]
 rfl
theorem qma : ∀ ps : List Str, ∃ r, subs ps = [] :: r := snoc_ind ⟨[], rfl⟩ fun l x h => by
 obtain ⟨r, e⟩ := h
 rw [qck, e]
 exact ⟨_, rfl⟩
theorem qgb : ∀ ps : List Str, (subs ps).length = 2 ^ ps.length := snoc_ind rfl fun l x h => by
 rw [qck, List.length_append, List.length_map, h, List.length_append, List.length_singleton, Nat.pow_succ]
 omega
theorem qet : ∀ ps : List Str, ∀ l ∈ subs ps, l.Sublist ps := snoc_ind (fun l h => by
  have e : l = [] := by simpa [subs] using h
  subst e; exact List.Sublist.refl _) fun ps x h l hl => by
 rw [qck] at hl
 rcases List.mem_append.mp hl with z | z
 ·exact (h l z).trans (List.sublist_append_left _ _)
 ·obtain ⟨m, hm, rfl⟩ := List.mem_map.mp z
  exact (h m hm).append (List.Sublist.refl _)
theorem qfu : ∀ ps : List Str, ps.Nodup -> (subs ps).Nodup := snoc_ind (fun _ => by simp [subs]) fun ps x h hn => by
 have hn' := List.nodup_append.mp hn
 have hx : x ∉ ps := fun z => hn'.2.2 x z x (by simp) rfl
 have ih := h hn'.1
 rw [qck]
 refine List.nodup_append.mpr ⟨ih, ?_, fun a ha b hb => ?_⟩
 ·exact List.pairwise_map.mpr (ih.imp fun {a b} hab z => hab (List.append_cancel_right z))
 ·obtain ⟨m, hm, rfl⟩ := List.mem_map.mp hb
  intro z
  exact hx ((qet ps a ha).subset (by rw [z]; simp))
noncomputable def qam (ps : List Str) : List (List Str) := (subs ps).tail
theorem qei (ps : List Str) : subs ps = [] :: qam ps := by
 obtain ⟨r, e⟩ := qma ps
 unfold qam
 rw [e]; rfl
theorem qec {ps : List Str} (h : ps.Nodup) : (qam ps).Nodup := by
 have q := qfu ps h
 rw [qei] at q
 exact (List.nodup_cons.mp q).2
theorem qey (ps : List Str) : (qam ps).length + 1 = 2 ^ ps.length := by
 have q := qgb ps
 rw [qei] at q
 simpa using q
theorem qkc {ps l : List Str} (h : l ∈ qam ps) : l.Sublist ps := qet ps l (by rw [qei]; exact List.mem_cons_of_mem _ h)
theorem qf7 {n : Nat} (h : n <= 8) : 2 ^ n <= 256 := by
 have := Nat.pow_le_pow_right (show 0 < 2 by decide) h
 simpa using this
theorem qoj (bt : Nat -> Nat -> Bool) : ∀ k, argBest bt k <= k
 | 0 => Nat.le_refl _
 | k + 1 => by
  unfold argBest
  split
  ·exact Nat.le_refl _
  ·exact Nat.le_succ_of_le (qoj bt k)
theorem qkn (bt : Nat -> Nat -> Bool) (c : Nat -> Int) (h1 : ∀ i j, bt i j = true -> c i <= c j) (h2 : ∀ i j, bt i j = false -> c j <= c i) : ∀ k j, j <= k -> c (argBest bt k) <= c j
 | 0, j, hj => by
  have e : j = 0 := by omega
  subst e; exact Int.le_refl _
 | k + 1, j, hj => by
  have ih := qkn bt c h1 h2 k
  unfold argBest
  cases e : bt (k + 1) (argBest bt k) with
  | true =>
   rw [if_pos rfl]
   have q := h1 _ _ e
   by_cases hk : j = k + 1
   ·subst hk; exact Int.le_refl _
   ·exact Int.le_trans q (ih j (by omega))
  | false =>
   rw [if_neg Bool.false_ne_true]
   have q := h2 _ _ e
   by_cases hk : j = k + 1
   ·subst hk; exact q
   ·exact ih j (by omega)
noncomputable def qpw (ns : List Int) : Int := ns.getD (argBest (fun i j => decide (ns.getD i 0 < ns.getD j 0)) (ns.length - 1)) 0
theorem qpy {ns : List Int} (h : ns ≠ []) : qpw ns ∈ ns := by
 have hp : 0 < ns.length := by cases ns with | nil => exact absurd rfl h | cons _ _ => simp
 have hb := qoj (fun i j => decide (ns.getD i 0 < ns.getD j 0)) (ns.length - 1)
 unfold qpw
 rw [List.getD_eq_getElem?_getD, List.getElem?_eq_getElem (by omega)]
 exact List.getElem_mem _
theorem qsx {ns : List Int} {x : Int} (h : x ∈ ns) : qpw ns <= x := by
 obtain ⟨j, hj, rfl⟩ := List.mem_iff_getElem.mp h
 have q := qkn (fun i j => decide (ns.getD i 0 < ns.getD j 0)) (fun i => ns.getD i 0) (fun i j h => by have := of_decide_eq_true h; omega) (fun i j h => by have := of_decide_eq_false h; omega) (ns.length - 1) j (by omega)
 unfold qpw
 have e : ns.getD j 0 = ns[j] := by rw [List.getD_eq_getElem?_getD, List.getElem?_eq_getElem hj]; rfl
 rw [e] at q
 exact q
theorem qmv {X : Cx} (hc : X.calm = true) : qb7 X (.builtin "min") (fun xs H Q => ∃ (p : Addr) (ns : List Int), xs = [.ref p] /\ SqL X.K H p (ns.map V.int) /\ ns ≠ [] /\ Q (.int (qpw ns)) H) := by
 intro pins s σ H xs us Q I r h
 obtain ⟨p, ns, rfl, hq, hne, q⟩ := h
 obtain ⟨u, rfl, rx⟩ := vals1 r
 cases rx
 obtain ⟨its, r', pl, hz⟩ := I.list hq
 have hlen := r'.length
 rw [List.length_map] at hlen
 have hpos : 0 < ns.length := by cases ns with | nil => exact absurd rfl hne | cons _ _ => simp
 have hitem : ∀ (i : Nat) (v : Value), its.toArray[i]? = some v -> ∃ t, v = Value.int (ns.getD i 0) t := fun i v hv => by
  have hv' : its[i]? = some v := by simpa using hv
  have hi : i < ns.length := by rw [hlen]; exact (List.getElem?_eq_some_iff.mp hv').1
  have e1 : (ns.map V.int)[i]? = some (V.int ns[i]) := by rw [List.getElem?_map, List.getElem?_eq_getElem hi]; rfl
  obtain ⟨w', e2, rw'⟩ := r'.get e1
  rw [hv'] at e2
  cases e2
  obtain ⟨t, e⟩ := rw'
  exact ⟨t, by rw [e, List.getD_eq_getElem?_getD, List.getElem?_eq_getElem hi]; rfl⟩
 refine qiz (fun i j => decide (ns.getD i 0 < ns.getD j 0)) (I.ok.hd hc) pl.isList (by rw [List.size_toArray]; omega) (fun i j x y G tk Q' E' hk hx hy hQ => ?_) fun v G tk hv hk => ?_
 ·obtain ⟨t, rfl⟩ := hitem i x hx
  obtain ⟨t', rfl⟩ := hitem j y hy
  exact HT.qvh _ _ _ _ _ _ _ _ _ _ hQ
 ·obtain ⟨t, rfl⟩ := hitem _ v hv
  rw [List.size_toArray, <- hlen]
  exact ⟨.int (qpw ns), H, I.kept hk, ⟨t, rfl⟩, q⟩
noncomputable abbrev qan (tss : List (Addr × List Str)) : List V := tss.map fun x => V.ref x.1
theorem qbx {lr : List (Addr × List Str)} {i : Nat} {x : V} (h : (qan lr)[i]? = some x) : ∃ r, lr[i]? = some r /\ x = .ref r.1 := by
 unfold qan at h
 rw [List.getElem?_map] at h
 cases e : lr[i]? with
 | none => rw [e] at h; cases h
 | some r => rw [e] at h; exact ⟨r, rfl, (Option.some.inj h).symm⟩
noncomputable def qcq (H : Hp) (lts : List (Addr × List Str)) : Prop := ∀ x ∈ lts, H x.1 = some (.tup (x.2.map V.str))
theorem qcq.same {H H' : Hp} {lts : List (Addr × List Str)} (h : qcq H lts) (s : qar H H') : qcq H' lts := fun x hx => s _ _ (h x hx)
theorem qcq.app {H : Hp} {a b : List (Addr × List Str)} (h : qcq H a) (g : qcq H b) : qcq H (a ++ b) := fun x hx => (List.mem_append.mp hx).elim (h x) (g x)
theorem qcq.one {H : Hp} {t : Addr} {ls : List Str} (h : H t = some (.tup (ls.map V.str))) : qcq H [(t, ls)] := fun x hx => by
 have e : x = (t, ls) := by simpa using hx
 subst e; exact h
theorem qgk {H : Hp} {a b : Addr} {ss ts : List Str} (ha : H a = some (.tup (ss.map V.str))) (hb : H b = some (.tup (ts.map V.str))) (e : a = b) : ss = ts := by
 rw [e, hb] at ha
 have := HO.tup.inj (Option.some.inj ha)
 exact ((List.map_inj_right (fun x y h => V.str.inj h)).mp this).symm
noncomputable def qom (K : PySem.W.Frag) : R2 := fun x y H Q => ∃ (a p : Addr) (ss : List Str) (lts : List (Addr × List Str)), x = .ref a /\ y = .ref p /\ H a = some (.tup (ss.map V.str)) /\ (∀ z ∈ ss, qa9 z) /\ SqL K H p (qan lts) /\ qcq H lts /\ (∀ l ∈ lts, ∀ z ∈ l.2, qa9 z) /\ Q (.bl (!decide (ss ∈ lts.map (·.2)))) H
theorem qnq {X : Cx} {k : Nat} (hr : qcl k X.A) : OpR X (compareOp .NotIn) (qom X.K) := by
 intro pins s σ H x y v u Q I rx ry h
 obtain ⟨a, p, ss, lts, rfl, rfl, ha, hs, hq, hL, hn, q⟩ := h
 cases rx
 cases ry
 obtain ⟨its, r', pl, hz⟩ := I.list hq
 have hun := hr.un
 obtain ⟨as, r1⟩ := (DV.tup ha (DVs.strs _)).reads I.hok (show RelV (.ref a) (Value.ref a) from rfl)
 have item : ∀ (i : Nat) (v : Value), its[i]? = some v -> ∃ l, lts[i]? = some l /\ v = Value.ref l.1 := fun i v hv => by
  have hlen := r'.length
  rw [List.length_map] at hlen
  have hi : i < lts.length := by rw [hlen]; exact (List.getElem?_eq_some_iff.mp hv).1
  have e1 : (qan lts)[i]? = some (V.ref lts[i].1) := by rw [List.getElem?_map, List.getElem?_eq_getElem hi]; rfl
  obtain ⟨w', e2, rw'⟩ := r'.get e1
  rw [hv] at e2
  cases e2
  exact ⟨lts[i], List.getElem?_eq_getElem hi, rw'⟩
 have data : ∀ y ∈ its, ∃ l ∈ lts, y = Value.ref l.1 := fun y hy => by
  obtain ⟨i, hi⟩ := List.getElem?_of_mem hy
  obtain ⟨l, h1, h2⟩ := item i y hi
  exact ⟨l, List.mem_of_getElem? h1, h2⟩
 let e : Value -> Bool := fun y => match y with | .ref c => lts.any fun l => decide (l.1 = c) && decide (l.2 = ss) | _ => false
 have ee : ∀ c, e (.ref c) = true ↔ ∃ l ∈ lts, l.1 = c /\ l.2 = ss := fun c => by
  show (lts.any fun l => decide (l.1 = c) && decide (l.2 = ss)) = true ↔ _
  rw [List.any_eq_true]
  simp only [Bool.and_eq_true, decide_eq_true_eq]
 refine SeqAt.notIn_listAt e pl.isList (fun y hy => ?_) ?_
 ·obtain ⟨l, hl, rfl⟩ := data y (by simpa using hy)
  have el : e (.ref l.1) = decide (l.2 = ss) := by
   rw [Bool.eq_iff_iff, ee, decide_eq_true_iff]
   constructor
   ·rintro ⟨m, hm, em, es⟩
    rw [qgk (hL l hl) (hL m hm) em.symm]; exact es
   ·exact fun q => ⟨l, hl, rfl, q⟩
  rw [el]
  by_cases hab : l.1 = a
  ·rw [decide_eq_true (qgk (hL l hl) ha hab), hab]
   exact SeqAt.EqAt.same _
  ·refine SeqAt.EqAt.of_refs hab fun prog w E Q hq => ?_
   obtain ⟨bs, r2⟩ := (DV.tup (hL l hl) (DVs.strs _)).reads I.hok (show RelV (.ref l.1) (Value.ref l.1) from rfl)
   have ev : PyData.eqv (.tuple (l.2.map PyData.str)) (.tuple (ss.map PyData.str)) = decide (l.2 = ss) := qb1 _ _
   refine (eq_dataH (A := X.A.in1) r2 r1 (qbc (hn l hl)).2 (qbc hs).2 (by show X.A.units + 1 + 64 < cLine; omega) ?_ : wpAny (model prog w) X.A.in1 (compareOp .Eq (.ref l.1) (.ref a)) Q E _)
   rw [ev]; exact hq
 ·have ea : its.toArray.any e = decide (ss ∈ lts.map (·.2)) := by
   rw [Bool.eq_iff_iff, List.any_toArray, List.any_eq_true, decide_eq_true_iff]
   constructor
   ·rintro ⟨y, hy, ey⟩
    obtain ⟨m, hm, rfl⟩ := data y hy
    obtain ⟨l, hl, _, es⟩ := (ee _).mp ey
    exact es ▸ List.mem_map_of_mem hl
   ·intro hm
    obtain ⟨l, hl, es⟩ := List.mem_map.mp hm
    obtain ⟨i, hi⟩ := List.getElem?_of_mem hl
    obtain ⟨w', e2, rw'⟩ := r'.get (show (qan lts)[i]? = some (V.ref l.1) by rw [List.getElem?_map, hi]; rfl)
    cases rw'
    exact ⟨_, List.mem_of_getElem? e2, (ee _).mpr ⟨l, hl, rfl, es⟩⟩
  rw [ea]
  exact ⟨V.bl (!decide (ss ∈ lts.map (fun z : Addr × List Str => z.2))), H, I, rfl, q⟩
theorem qka (K : PySem.W.Frag) {X : Cx} (h : X.K = K := by rfl) : OpR X (binaryOp .Add) (qty K) := by subst h; exact qta
theorem qf2 (x : V) (r : List V) : qhg (x :: r) (some 1) none = r := by
 unfold qhg
 simp [HT.sIx]
section
variable {P : Program} {w : World} {K : PySem.W.Frag} {mg : Str -> Option Value} {base : Heap}
noncomputable def qga : Sp := fun vs H Q _ => ∃ (pa : Addr) (ps : List Str), vs = [.ref pa] /\ (H pa = some (.lst (ps.map V.str)) \/ H pa = some (.tup (ps.map V.str))) /\ ps.length <= 8 /\
 ∀ (q : Addr) (lts : List (Addr × List Str)) (H' : Hp), qar H H' -> H' q = some (.lst (qan lts)) -> qcq H' lts -> lts.map (·.2) = qam ps -> Q (.ref q) H'
theorem qvi : qao ["places", "lots", "place"] ["places"] (qai (top 28)) := ⟨rfl, rfl, rfl, by decide +kernel, rfl, by decide +kernel, by decide +kernel⟩
theorem qgj {f : Addr} {fd : FuncData} (F : Fun K "lots_among" "lots_among" (top 28) f fd) (B : Bl mg) : qca P w K mg base CX0 1 f fd ["places"] qga := by
 refine F.ok qvi (fun vs H Q E h => ?_) (fun cdv A outer s H vs Q E hr h => ?_)
 ·obtain ⟨pa, ps, rfl, _⟩ := h
  rfl
 ·obtain ⟨pa, ps, rfl, hp, p8, k⟩ := h
  refine ⟨_, qae (qax (i := 1) qvi.nd rfl (Or.inl rfl) (qbv (qaa (qcr qac) qac)))
   (qae (qcn PassesOwn.never rfl (qp4 (qbd (pv 0)) (qda (pv 0))) (qa0 (i := 2) qvi.nd rfl (Or.inr rfl))
    (qak (qax (i := 1) qvi.nd rfl (Or.inl rfl) (qa4 qfg (pv 1) (qcx (N := ["lot", "place"]) (ix := [none, some 2]) ⟨rfl, rfl, rfl, by decide⟩ rfl (qbd (pv 1)) (fun _ _ _ _ => qbu 0 (by decide) rfl rfl) (fun _ _ _ _ => qbk)
     (fun _ _ _ _ => qa4 (qka K) (pv 0) (qcr (qaa (pv 1) qac))))))))
   (qak (qav (qdi qgi (pv 1) (qed qah) qef)))), ?_⟩
  refine ⟨Nat.zero_le _, fun e0 he0 => ⟨by show 1 <= sizeLine; decide, fun f0 hf0 => ?_⟩⟩
  have s0 := qad (o := .lst [.ref e0]) (qad (o := .tup []) (qar.refl H) he0) hf0
  have E0 : upd (upd H e0 (.tup [])) f0 (.lst [.ref e0]) e0 = some (.tup ((([] : List Str)).map V.str)) := by
   rw [qag (fun z => by rw [<- z, qab] at hf0; cases hf0), qab]; rfl
  have F0 : upd (upd H e0 (.tup [])) f0 (.lst [.ref e0]) f0 = some (.lst (qan [(e0, [])])) := qab
  generalize upd (upd H e0 (.tup [])) f0 (.lst [.ref e0]) = H0 at s0 E0 F0 ⊢
  refine qgd (K := K) (Hb := H) (a := pa) (xs := ps.map V.str) (fun Q q => ⟨_, rfl, q⟩) hp s0 (fun i σ H1 => qar H H1 /\ ∃ (fo : Addr) (lts : List (Addr × List Str)) (g : Option V), σ = [some (.ref pa), some (.ref fo), g] /\ H1 fo = some (.lst (qan lts)) /\ qcq H1 lts /\ lts.map (·.2) = subs (ps.take i))
   ⟨s0, f0, [(e0, [])], none, rfl, F0, qcq.one E0, rfl⟩ (fun i σ H1 _ q => q.1) ?_ ?_
  ·rintro i x σ H1 hx ⟨s1, fo, lts, g, rfl, F1, A1, e1⟩
   rw [List.getElem?_map] at hx
   cases hc : ps[i]? with
   | none => rw [hc] at hx; cases hx
   | some pl =>
    rw [hc] at hx
    cases hx
    have hi : i < ps.length := (List.getElem?_eq_some_iff.mp hc).1
    have hlen : lts.length <= 256 := by
     have q := congrArg List.length e1
     rw [List.length_map, qgb] at q
     rw [q]
     exact qf7 (by rw [List.length_take]; omega)
    have hz8 : ∀ x ∈ lts, x.2.length <= 8 := fun x hx => by
     have q := (qet (ps.take i) x.2 (by rw [<- e1]; exact List.mem_map_of_mem hx)).length_le
     rw [List.length_take] at q
     omega
    refine ⟨_, rfl, _, rfl, fo, rfl, ⟨_, SqL.of F1⟩, qcj (xs := qan lts) (fits (by rw [List.length_map]; omega)) (fun j ys σ H2 => (∃ qs : List (Addr × List Str), ys = qan qs /\ qcq H2 qs /\ qs.map (·.2) = ((lts.take j).map (·.2)).map fun l => l ++ [pl]) /\ qar H1 H2 /\ ∃ v, σ = [v, some (.str pl)])
     ⟨⟨[], rfl, by simp [qcq], rfl⟩, qar.refl _, _, rfl⟩ (fun j ys σ H2 _ q => ?_) ?_ ?_⟩
    ·obtain ⟨⟨qs, rfl, _, e⟩, s2, _⟩ := q
     have q := congrArg List.length e
     simp only [List.length_map, List.length_take] at q
     exact ⟨by rw [List.length_map]; omega, SqL.of (s2 _ _ F1)⟩
    ·rintro j y ys σ H2 hy ⟨⟨qs, rfl, A2, e2⟩, s2, v, rfl⟩
     obtain ⟨lt, hlt, rfl⟩ := qbx hy
     have hm := List.mem_of_getElem? hlt
     refine ⟨_, rfl, _, rfl, by show 1 <= sizeLine; decide, fun t ht => ?_⟩
     have s3 := qad (o := .tup [.str pl]) s2 ht
     have s3' := qad (o := .tup [.str pl]) (qar.refl H2) ht
     have t3 : upd H2 t (.tup [.str pl]) t = some (.tup ([pl].map V.str)) := qab
     generalize upd H2 t (.tup [.str pl]) = H3 at s3 s3' t3 ⊢
     have hz := hz8 lt hm
     have est : ∀ z, qs.map (·.2) ++ [z] = ((lts.take j).map (·.2)).map (fun l => l ++ [pl]) ++ [z] := fun z => by rw [e2]
     have etk : ((lts.take (j + 1)).map (·.2)).map (fun l => l ++ [pl]) = ((lts.take j).map (·.2)).map (fun l => l ++ [pl]) ++ [lt.2 ++ [pl]] := by
      rw [List.take_add_one, hlt, List.map_append, List.map_append]; rfl
     refine ⟨lt.1, t, lt.2.map V.str, [.str pl], rfl, rfl, SqT.of (s3 _ _ (A1 lt hm)), SqT.of t3, by rw [sizeLine_eq]; simp; omega, fun e => ?_, fun e => (by cases e), fun p hp => ?_⟩
     ·have e' : lt.2 = [] := by simpa using e
      exact ⟨⟨qs ++ [(t, lt.2 ++ [pl])], by simp [qan], (A2.same s3').app (qcq.one (by rw [e']; exact t3)), by rw [List.map_append, etk]; exact est _⟩, s3, _, rfl⟩
     ·have s4' := qad (o := .tup (lt.2.map V.str ++ [.str pl])) s3' hp
      exact ⟨⟨qs ++ [(p, lt.2 ++ [pl])], by simp [qan], (A2.same s4').app (qcq.one (by rw [qab, List.map_append]; rfl)), by rw [List.map_append, etk]; exact est _⟩, qad s3 hp, _, rfl⟩
    ·rintro ys σ H2 ⟨⟨qs, rfl, A2, e2⟩, s2, v, rfl⟩ q hq
     rw [take_all lts (by simp)] at e2
     have hql : qs.length = lts.length := by
      have q := congrArg List.length e2
      simpa using q
     have s3' := qad (o := .lst (qan qs)) (qar.refl H2) hq
     refine ⟨fo, q, _, _, rfl, rfl, s3' _ _ (s2 _ _ F1), qab, by rw [sizeLine_eq, List.length_map, List.length_map]; omega, fun q2 hq2' => ?_⟩
     have s4' := qad (o := .lst (qan lts ++ qan qs)) s3' hq2'
     refine ⟨s1.trans (s2.trans s4'), q2, lts ++ qs, _, rfl, by rw [qab]; simp [qan], (A1.same (s2.trans s4')).app (A2.same s4'), ?_⟩
     have ets : ps.take (i + 1) = ps.take i ++ [pl] := by rw [List.take_add_one, hc]; rfl
     rw [List.map_append, e2, e1, ets, qck]
  ·rintro σ H1 ⟨s1, fo, lts, g, rfl, F1, A1, e1⟩
   rw [take_all ps (by simp), qei] at e1
   cases lts with
   | nil => cases e1
   | cons h0 rest =>
    obtain ⟨eh, er⟩ := List.cons.inj (show h0.2 :: rest.map (·.2) = [] :: qam ps from e1)
    refine ⟨_, rfl, _, rfl, fo, _, rfl, SqL.of F1, fun q hq => ?_⟩
    rw [show qan (h0 :: rest) = V.ref h0.1 :: qan rest from rfl, qf2]
    have s2 := qad (o := .lst (qan rest)) (qar.refl H1) hq
    exact k q rest _ (s1.trans s2) qab (fun x hx => s2 _ _ (A1 x (List.mem_cons_of_mem _ hx))) er
noncomputable def qjd : Sp := fun vs H Q _ => ∃ (v l pa ra : Addr) (ps ls : List Str) (rs : List (Addr × Row)), vs = [.ref v, .ref l] /\ qdg H v pa ra ps rs /\ rs.length <= 60 /\ H l = some (.tup (ls.map V.str)) /\ ∀ H', qar H H' -> Q (.int ((rs.filter (lead ls)).length)) H'
end
end K32
namespace K32
open PySem L2
noncomputable def others (ps : List Str) (root : Str) : List Str := ps.filter fun y => !decide (y = root)
noncomputable def cnt (rs : List (Addr × Row)) (l : List Str) : Nat := (rs.filter (lead l)).length
theorem qpz {rs : List (Addr × Row)} {i : Nat} {r : Addr × Row} (h : rs[i]? = some r) (l : List Str) : cnt (rs.take (i + 1)) l = cnt (rs.take i) l + if lead l r = true then 1 else 0 := by
 unfold cnt
 rw [qaq _ _ _ _ h, List.length_append]
 congr 1
 split <;> rfl
noncomputable def qc8 (l : List Str) : List Key := l.map Sum.inr
theorem qcv (l : List Str) : (qc8 l).map kV = l.map V.str := by unfold qc8; rw [List.map_map]; rfl
theorem qea {a b : List Str} (h : qc8 a = qc8 b) : a = b := (List.map_inj_right (fun x y h => Sum.inr.inj h)).mp h
theorem qpe {κ : Type} [DecidableEq κ] {kvs : List (κ × V)} {k : κ} {v w : V} (h : qdq kvs k = some w) : (putK kvs k v).length = kvs.length := by
 unfold putK
 rw [qc5, h]
 rw [if_pos (show (some w).isSome = true from rfl), List.length_map]
theorem qb3 {H H' : Hp} {p : Addr} {o : HO} (h : qar H H') (hp : H p = none) : qar H (upd H' p o) := fun b ob e => by
 rw [qag (qaf e hp)]; exact h b ob e
theorem qh5 {K : PySem.W.Frag} {a D : Addr} {xs : List V} {tk tv : TE} {j : Nat} {σ' : St} {fin : Hp -> Prop} {H1 : Hp} (Pv : Nat -> St -> Hp -> Prop) (h0 : Pv 0 σ' H1) (hl : ∀ i σ H, i <= xs.length -> Pv i σ H -> SqL K H a xs)
  (hs : ∀ i x σ H, xs[i]? = some x -> Pv i σ H -> tk (σ.set j (some x)) H (fun y H4 => tv (σ.set j (some x)) H4 fun v H5 => ∃ H6, qrt H5 D y v H6 /\ Pv (i + 1) (σ.set j (some x)) H6)) (hd : ∀ σ H, Pv xs.length σ H -> fin H) : DcW D (Itl K a) (qdv j) qk9 tk tv σ' fin H1 := by
 refine ⟨fun i m σ H => m = xs.length - i /\ i <= xs.length /\ Pv i σ H, ⟨xs.length, by simp, Nat.zero_le _, h0⟩, ?_⟩
 rintro i m σ H ⟨rfl, hi, p⟩
 have q := hl i σ H hi p
 by_cases hlt : i < xs.length
 ·refine .inr ⟨⟨xs, xs[i], q, by simp [hlt]⟩, Pv (i + 1), fun σ' H' p' => ⟨xs.length - (i + 1), by omega, rfl, hlt, p'⟩, fun x H' y => ?_⟩
  obtain ⟨e, y⟩ := y
  subst e
  unfold qdv qk9
  exact qf9 (hs i x σ _ (y xs q) p)
 ·have e : i = xs.length := by omega
  subst e
  exact .inl ⟨⟨xs, q, Nat.le_refl _⟩, hd σ H p⟩
section
variable {P : Program} {w : World} {K : PySem.W.Frag} {mg : Str -> Option Value} {base : Heap}
noncomputable def qkh : Sp := fun vs H Q _ => ∃ (ra lo : Addr) (rs : List (Addr × Row)) (lts : List (Addr × List Str)), vs = [.ref ra, .ref lo] /\ (H ra = some (.lst (qap rs)) \/ H ra = some (.tup (qap rs))) /\ (∀ r ∈ rs, qgm H r.1 r.2) /\ rs.length <= 60 /\ H lo = some (.lst (qan lts)) /\ qcq H lts /\ (lts.map (·.2)).Nodup /\ lts.length <= 255 /\
 ∀ (q : Addr) (kvs : List (List Key × V)) (H' : Hp), qar H H' -> H' q = some (.dT kvs) -> (∀ x ∈ lts, qdq kvs (qc8 x.2) = some (.int (cnt rs x.2))) -> Q (.ref q) H'
noncomputable abbrev N29 : List Str := ["rows", "lots", "counts", "row", "lot"]
theorem qvn : qao N29 ["rows", "lots"] (qai (top 29)) := ⟨rfl, rfl, rfl, by decide +kernel, rfl, by decide +kernel, by decide +kernel⟩
theorem qn1 {f : Addr} {fd : FuncData} (F : Fun K "counts_into" "counts_into" (top 29) f fd) (F1 : Fn P w K mg base 1 "leads_into" ["row", "lot"] qmg) : qca P w K mg base CX0 2 f fd ["rows", "lots"] qkh := by
 refine F.ok qvn (fun vs H Q E h => ?_) (fun cdv A outer s H vs Q E hr h => ?_)
 ·obtain ⟨ra, lo, rs, lts, rfl, _⟩ := h
  rfl
 ·obtain ⟨ra, lo, rs, lts, rfl, hra, hrow, hz, hlo, hL, hnd, hl255, k⟩ := h
  have hun := hr.un
  refine ⟨_, qae (qqe (i := 2) (N := ["lot"]) (ix := [none]) (lt0 hr) qvn.nd rfl (Or.inl rfl) ⟨rfl, rfl, rfl, by decide⟩ rfl (qbd (pv 1)) (fun _ _ _ _ => qbu 0 (by decide) rfl rfl) (fun _ _ _ _ => qbk) (fun _ _ _ _ => pv 0) (fun _ _ _ _ => qah))
   (qae (qcn PassesOwn.never rfl (qp4 (qbd (pv 0)) (qda (pv 0))) (qa0 (i := 3) qvn.nd rfl (Or.inl rfl)) (qak (qcn PassesOwn.never rfl (qbd (pv 1)) (qa0 (i := 4) qvn.nd rfl (Or.inl rfl))
    (qak (qb8 (qbq (qaw F1 hr (qaa (pv 3) (qaa (pv 4) qac)))) (qak (qn6 (quh hr) (pv 2) (pv 4) qah qu3 (fun _ _ _ => rfl))) qa2)))))
   (qak (qav (pv 2)))), ?_⟩
  have htl : (qan lts).length = lts.length := by simp
  refine ⟨_, rfl, lo, rfl, ⟨_, SqL.of hlo⟩, fun D hD => ?_⟩
  have s0 := qad (o := .dT []) (qar.refl H) hD
  refine qh5 (K := K) (a := lo) (xs := qan lts) (fun i σ H2 => qar H H2 /\ (∃ x, σ = [x]) /\ ∃ kvs, H2 D = some (.dT kvs) /\ kvs.length <= i /\ ∀ m x, m < i -> lts[m]? = some x -> qdq kvs (qc8 x.2) = some (.int 0)) ⟨s0, ⟨_, rfl⟩, [], qab, Nat.le_refl _, fun m x hm => absurd hm (Nat.not_lt_zero _)⟩
   (fun i σ H2 _ q => SqL.of (q.1 _ _ hlo)) ?_ ?_
  ·rintro i x σ H2 hx ⟨s2, ⟨g, rfl⟩, kvs, d2, z2, v2⟩
   obtain ⟨lt, hlt, rfl⟩ := qbx hx
   have hm := List.mem_of_getElem? hlt
   have hi : i < lts.length := (List.getElem?_eq_some_iff.mp hlt).1
   refine ⟨_, rfl, upd H2 D (.dT (putK kvs (qc8 lt.2) (.int 0))), ⟨kvs, qc8 lt.2, lt.1, d2, rfl, by rw [qcv]; exact s2 _ _ (hL lt hm), by rw [sizeLine_eq]; omega, rfl⟩, qb3 s2 hD, ⟨_, rfl⟩, _, qab, by have := qc2 kvs (qc8 lt.2) (.int 0); omega, fun m y hmi hy => ?_⟩
   rw [qj9]
   by_cases e : qc8 y.2 = qc8 lt.2
   ·rw [if_pos e]
   ·rw [if_neg e]
    refine v2 m y ?_ hy
    have : m ≠ i := fun q => by rw [q, hlt] at hy; cases hy; exact e rfl
    omega
  rintro σ0 H2 ⟨s2, _, kvs0, d2, z2, v2⟩
  rw [htl] at z2 v2
  refine qgd (K := K) (Hb := H) (a := ra) (xs := qap rs) (fun Q q => ⟨_, rfl, q⟩) hra s2 (fun i σ H3 => qar H H3 /\ (∃ g1 g2, σ = [some (.ref ra), some (.ref lo), some (.ref D), g1, g2]) /\ ∃ kvs, H3 D = some (.dT kvs) /\ kvs.length <= 255 /\ ∀ x ∈ lts, qdq kvs (qc8 x.2) = some (.int (cnt (rs.take i) x.2)))
   ⟨s2, ⟨_, _, rfl⟩, kvs0, d2, by omega, fun x hx => ?_⟩ (fun i σ H3 _ q => q.1) ?_ ?_
  ·obtain ⟨m, hm⟩ := List.getElem?_of_mem hx
   exact v2 m x (List.getElem?_eq_some_iff.mp hm).1 hm
  ·rintro i x σ H3 hx ⟨s3, ⟨g1, g2, rfl⟩, kvs, d3, z3, v3⟩
   obtain ⟨r, hr', rfl⟩ := qbp hx
   have hrm := List.mem_of_getElem? hr'
   refine ⟨_, rfl, lo, rfl, ⟨_, SqL.of (s3 _ _ hlo)⟩, qdn (K := K) (a := lo) (xs := qan lts) (fun j σ H4 => qar H H4 /\ (∃ g2, σ = [some (.ref ra), some (.ref lo), some (.ref D), some (.ref r.1), g2]) /\ ∃ kvs, H4 D = some (.dT kvs) /\ kvs.length <= 255 /\ ∀ m x, lts[m]? = some x -> qdq kvs (qc8 x.2) = some (.int (if m < j then cnt (rs.take (i + 1)) x.2 else cnt (rs.take i) x.2 : Nat)))
    ⟨s3, ⟨_, rfl⟩, kvs, d3, z3, fun m x hm => ?_⟩ (fun j σ H4 _ q => SqL.of (q.1 _ _ hlo)) ?_ ?_⟩
   ·rw [if_neg (Nat.not_lt_zero _)]
    exact v3 x (List.mem_of_getElem? hm)
   ·rintro j y σ H4 hy ⟨s4, ⟨g2, rfl⟩, kvs, d4, z4, v4⟩
    obtain ⟨lt, hlt, rfl⟩ := qbx hy
    have hm := List.mem_of_getElem? hlt
    have cs := qpz hr' lt.2
    refine ⟨_, rfl, _, rfl, lt.1, r, lt.2, rfl, s4 _ _ (hrow r hrm), s4 _ _ (hL lt hm), _, rfl, ?_⟩
    have vj := v4 j lt hlt
    rw [if_neg (Nat.lt_irrefl _)] at vj
    have stay : ∀ m x, m ≠ j -> lts[m]? = some x -> (if m < j then cnt (rs.take (i + 1)) x.2 else cnt (rs.take i) x.2) = (if m < j + 1 then cnt (rs.take (i + 1)) x.2 else cnt (rs.take i) x.2) := fun m x hmj _ => by
     by_cases h1 : m < j
     ·rw [if_pos h1, if_pos (by omega)]
     ·rw [if_neg h1, if_neg (by omega)]
    refine qev (fun c => ?_) (fun c => ⟨s4, ⟨_, rfl⟩, kvs, d4, z4, fun m x hx => ?_⟩)
    ·rw [if_pos c] at cs
     refine ⟨_, rfl, _, rfl, D, .int (cnt (rs.take i) lt.2), rfl, ?_, _, _, rfl, rfl, upd H4 D (.dT (putK kvs (qc8 lt.2) (.int ((cnt (rs.take i) lt.2 : Int) + 1)))), qtd.t d4 (by rw [qcv]; exact s4 _ _ (hL lt hm)) (by rw [sizeLine_eq]; omega), qb3 s4 hD, ⟨_, rfl⟩, _, qab, by rw [qpe vj]; exact z4, fun m x hx => ?_⟩
     ·have g := qjm.t (k := qc8 lt.2) (b := lt.1) d4 (by rw [qcv]; exact s4 _ _ (hL lt hm))
      rw [vj] at g
      exact g
     ·rw [qj9]
      by_cases hmj : m = j
      ·subst hmj
       rw [hlt] at hx
       cases hx
       rw [if_pos rfl, if_pos (Nat.lt_succ_self _), cs]
       rfl
      ·have hne : qc8 x.2 ≠ qc8 lt.2 := fun e => by
        have e' := qea e
        obtain ⟨hmi, em⟩ := List.getElem?_eq_some_iff.mp hx
        obtain ⟨hji, ej⟩ := List.getElem?_eq_some_iff.mp hlt
        have hp := List.pairwise_iff_getElem.mp hnd
        have h1 : (lts.map (·.2))[m]'(by simpa using hmi) = x.2 := by rw [List.getElem_map, em]
        have h2 : (lts.map (·.2))[j]'(by simpa using hji) = lt.2 := by rw [List.getElem_map, ej]
        rcases Nat.lt_or_gt_of_ne hmj with q | q
        ·exact hp m j _ _ q (by rw [h1, h2]; exact e')
        ·exact hp j m _ _ q (by rw [h1, h2]; exact e'.symm)
       rw [if_neg hne, v4 m x hx, stay m x hmj hx]
    ·rw [if_neg c] at cs
     rw [v4 m x hx]
     by_cases hmj : m = j
     ·subst hmj
      rw [hlt] at hx
      cases hx
      rw [if_neg (Nat.lt_irrefl _), if_pos (Nat.lt_succ_self _), cs]
      rfl
     ·rw [stay m x hmj hx]
   ·rintro σ H4 ⟨s4, ⟨g2, rfl⟩, kvs, d4, z4, v4⟩
    refine ⟨s4, ⟨_, _, rfl⟩, kvs, d4, z4, fun x hx => ?_⟩
    obtain ⟨m, hm⟩ := List.getElem?_of_mem hx
    have q := v4 m x hm
    rw [if_pos (by rw [htl]; exact (List.getElem?_eq_some_iff.mp hm).1)] at q
    exact q
  ·rintro σ H3 ⟨s3, ⟨g1, g2, rfl⟩, kvs, d3, z3, v3⟩
   rw [take_all rs (by simp)] at v3
   exact ⟨_, rfl, k D kvs H3 s3 d3 v3⟩
end
noncomputable def need (rts ls : List Str) : Nat := (rts.filter fun r => !decide (r ∈ ls)).length
section
variable {P : Program} {w : World} {K : PySem.W.Frag} {mg : Str -> Option Value} {base : Heap}
noncomputable def qjw : Sp := fun vs H Q _ => ∃ (a l : Addr) (rts ls : List Str), vs = [.ref a, .ref l] /\ H a = some (.tup (rts.map V.str)) /\ H l = some (.tup (ls.map V.str)) /\ rts.length <= 100 /\ ∀ H', qar H H' -> Q (.int (need rts ls)) H'
theorem qxj : qao ["roots", "lot"] ["roots", "lot"] (qai (top 30)) := ⟨rfl, rfl, rfl, by decide +kernel, rfl, by decide +kernel, by decide +kernel⟩
theorem qkw {f : Addr} {fd : FuncData} (F : Fun K "need_of" "need_of" (top 30) f fd) (B : Bl mg) : qca P w K mg base CX0 1 f fd ["roots", "lot"] qjw := by
 refine F.ok qxj (fun vs H Q E h => ?_) (fun cdv A outer s H vs Q E hr h => ?_)
 ·obtain ⟨a, l, rts, ls, rfl, _⟩ := h
  rfl
 ·obtain ⟨a, l, rts, ls, rfl, ha, hl, hz, k⟩ := h
  refine ⟨_, qak (qav (qaj qal rfl B.len PySem.boot_len (qaa (qcx (N := ["root", "lot"]) (ix := [none, some 1]) ⟨rfl, rfl, rfl, by decide⟩ rfl (qda (pv 0)) (fun _ _ _ _ => qbu 0 (by decide) rfl rfl)
   (fun _ _ _ _ => qcw (qay (qc1 K) (pv 0) (pv 1) (by with_unfolding_all rfl))) (fun _ _ _ _ => pv 0)) qac))), ?_⟩
  refine ⟨_, rfl, a, rfl, ⟨_, SqT.of ha⟩, qdy (xs := rts.map V.str) (fits (by simp; omega)) (fun i ys σ H1 => ys = ((rts.take i).filter fun r => !decide (r ∈ ls)).map V.str /\ H1 = H /\ ∃ x, σ = [x, some (.ref l)]) ⟨rfl, rfl, _, rfl⟩
   (fun i ys σ H1 _ q => ⟨by rw [q.1, List.length_map]; exact Nat.le_trans (List.length_filter_le _ _) (by simp; omega), by rw [q.2.1]; exact SqT.of ha⟩) ?_ ?_⟩
  ·rintro i x ys σ H1 hx ⟨rfl, rfl, v, rfl⟩
   rw [List.getElem?_map] at hx
   cases hc : rts[i]? with
   | none => rw [hc] at hx; cases hx
   | some z =>
    rw [hc] at hx
    cases hx
    have tf := qaq (fun r : Str => !decide (r ∈ ls)) rts i z hc
    refine ⟨_, rfl, _, rfl, l, ls.map V.str, rfl, .inr (SqT.of hl), rfl, qbf ls, _, rfl, ?_⟩
    show if (!inV (.str z) (ls.map V.str)) = true then _ else _
    rw [qb0]
    refine qev (fun c => ⟨_, rfl, ?_, rfl, _, rfl⟩) (fun c => ⟨?_, rfl, _, rfl⟩)
    ·rw [tf, c]; simp
    ·rw [tf]; simp only [Bool.not_eq_true] at c; rw [c]; simp
  ·rintro ys σ H1 ⟨rfl, rfl, v, rfl⟩ q hq
   rw [take_all rts (by simp)]
   refine ⟨q, _, rfl, .inl (SqL.of qab), ?_⟩
   have e : (((rts.filter fun r => !decide (r ∈ ls)).map V.str).length : Int) = (need rts ls : Int) := by rw [List.length_map]; rfl
   rw [e]
   exact k _ (qad (qar.refl _) hq)
end
end K32
namespace L2
open PySem
noncomputable def mth (s : Stmt) (j : Nat) : Stmt := match s with
 | .ClassDef _ _ _ body _ _ _ _ _ _ _ => body.getD j (.Pass ⟨0, 0, 0, 0⟩)
 | _ => .Pass ⟨0, 0, 0, 0⟩
noncomputable def qqz (C : Addr) : Sp := fun vs H Q _ => ∃ (e : Addr) (v : V), vs = [.ref e, v] /\ H e = some (qoq e C none) /\ ∀ dx, H dx = none -> dx ≠ e -> Q .non (upd (upd H e (qoq e C (some dx))) dx (.xd [(Str.ofString "lot", v)]))
end L2
namespace K32
open PySem L2
noncomputable def spr (rs : List (Addr × Row)) (rts l : List Str) : Int := (cnt rs l : Int) - (need rts l : Int)
noncomputable abbrev qly (rs : List (Addr × Row)) (rts : List Str) (ls : List (List Str)) : List (List Key × V) := ls.map fun l => (qc8 l, V.int (spr rs rts l))
theorem qif {rs : List (Addr × Row)} {rts : List Str} : ∀ {ls : List (List Str)} {l : List Str}, l ∉ ls -> qdq (qly rs rts ls) (qc8 l) = none
 | [], l, _ => rfl
 | m :: r, l, h => by
  have h' : l ≠ m /\ l ∉ r := by simpa using h
  show qdq ((qc8 m, V.int (spr rs rts m)) :: qly rs rts r) (qc8 l) = none
  rw [qbl (fun e => h'.1 (qea e).symm)]
  exact qif h'.2
theorem qhn {rs : List (Addr × Row)} {rts : List Str} : ∀ {ls : List (List Str)} {l : List Str}, l ∈ ls -> qdq (qly rs rts ls) (qc8 l) = some (.int (spr rs rts l))
 | m :: r, l, h => by
  show qdq ((qc8 m, V.int (spr rs rts m)) :: qly rs rts r) (qc8 l) = _
  by_cases e : m = l
  ·subst e; exact qbn rfl
  ·rw [qbl (fun z => e (qea z))]
   exact qhn ((List.mem_cons.mp h).resolve_left fun z => e z.symm)
section
variable {P : Program} {w : World} {K : PySem.W.Frag} {mg : Str -> Option Value} {base : Heap}
noncomputable def qoc : Sp := fun vs H Q _ => ∃ z : Int, vs = [.int z] /\ Q (.bl true) H
theorem qxp : qao ["thing"] ["thing"] (qai (top 16)) := ⟨rfl, rfl, rfl, by decide +kernel, rfl, by decide +kernel, by decide +kernel⟩
theorem qiu {f : Addr} {fd : FuncData} (F : Fun K "is_whole" "is_whole" (top 16) f fd) (B : Bl mg) : qca P w K mg base CX0 1 f fd ["thing"] qoc := by
 refine F.ok qxp (fun vs H Q E h => ?_) (fun cdv A outer s H vs Q E hr h => ?_)
 ·obtain ⟨z, rfl, _⟩ := h
  rfl
 ·obtain ⟨z, rfl, k⟩ := h
  refine ⟨_, qak (qav (qd1 (qaj (qbe (T := "int")) rfl B.isinstance qas (qaa (pv 0) (qaa (qcm (v := .ty "int") rfl B.int qvc rfl) qac)))
   (qe0 (quq (qaj (qbe (T := "bool")) rfl B.isinstance qas (qaa (pv 0) (qaa (qcm (v := .ty "bool") rfl B.bool qts rfl) qac))))))), ?_⟩
  exact ⟨_, rfl, _, _, true, rfl, .int z, rfl, true, rfl, qf9 ⟨_, rfl, _, _, false, rfl, .int z, rfl, false, rfl, k⟩⟩
noncomputable def qke : Sp := fun vs H Q _ => ∃ z lo hi : Int, vs = [.int z, .int lo, .int hi] /\ lo <= z /\ z <= hi /\ Q .non H
theorem qye : qao ["thing", "low", "high"] ["thing", "low", "high"] (qai (top 23)) := ⟨rfl, rfl, rfl, by decide +kernel, rfl, by decide +kernel, by decide +kernel⟩
theorem qft {f : Addr} {fd : FuncData} (F : Fun K "need_number" "need_number" (top 23) f fd) (F1 : Fn P w K mg base 1 "is_whole" ["thing"] qoc) : qca P w K mg base CX0 2 f fd ["thing", "low", "high"] qke := by
 refine F.ok qye (fun vs H Q E h => ?_) (fun cdv A outer s H vs Q E hr h => ?_)
 ·obtain ⟨z, lo, hi, rfl, _⟩ := h
  rfl
 ·obtain ⟨z, lo, hi, rfl, h1, h2, k⟩ := h
  refine ⟨_, qak (qb8 (PW.pt (qgs (qb4 (qbq (qaw F1 hr (qaa (pv 0) qac)))) (qen (qb4 (qko qpt qpt (pv 1) (pv 0) (pv 2)))))) qbr qa2), ?_⟩
  exact ⟨_, rfl, z, rfl, true, rfl, qem ⟨_, rfl, _, rfl, _, _, rfl, rfl, _, rfl, qvp h1 ⟨_, rfl, _, _, rfl, rfl, _, rfl, qmo h2 k⟩⟩⟩
theorem scI : qao ["self", "lot"] ["self", "lot"] (qai (mth (top 12) 0)) := ⟨rfl, rfl, rfl, by decide +kernel, rfl, by decide +kernel, by decide +kernel⟩
theorem qsd {f C : Addr} {fd : FuncData} (F : Fun K "__init__" "TooFew.__init__" (mth (top 12) 0) f fd) (hC : qrb qox base C f) : qca P w K mg base CX0 1 f fd ["self", "lot"] (qqz C) := by
 refine F.ok scI (fun vs H Q E h => ?_) (fun cdv A outer s H vs Q E hr h => ?_)
 ·obtain ⟨e, v, rfl, _⟩ := h
  rfl
 ·obtain ⟨e, v, rfl, he, k⟩ := h
  refine ⟨_, qak (qro (n := Str.ofString "lot") hC (by decide) (by decide) (by decide) (pv 0) (pv 1)), ?_⟩
  exact ⟨_, rfl, _, rfl, e, rfl, he, fun dx h1 h2 => k dx h1 h2⟩
noncomputable def qin : Sp := fun vs H Q _ => ∃ (ra lo a : Addr) (rs : List (Addr × Row)) (lts : List (Addr × List Str)) (rts : List Str), vs = [.ref ra, .ref lo, .ref a] /\ (H ra = some (.lst (qap rs)) \/ H ra = some (.tup (qap rs))) /\ (∀ r ∈ rs, qgm H r.1 r.2) /\ rs.length <= 60 /\ H lo = some (.lst (qan lts)) /\ qcq H lts /\ (lts.map (·.2)).Nodup /\ lts.length <= 255 /\
 H a = some (.tup (rts.map V.str)) /\ rts.length <= 100 /\ ∀ (q : Addr) (H' : Hp), qar H H' -> H q = none -> H' q = some (.dT (qly rs rts (lts.map (·.2)))) -> Q (.ref q) H'
noncomputable abbrev N31 : List Str := ["rows", "lots", "roots", "counts"]
theorem qw0 : qao N31 ["rows", "lots", "roots"] (qai (top 31)) := ⟨rfl, rfl, rfl, by decide +kernel, rfl, by decide +kernel, by decide +kernel⟩
theorem qqf {f : Addr} {fd : FuncData} (F : Fun K "spare_into" "spare_into" (top 31) f fd) (F1 : Fn P w K mg base 2 "counts_into" ["rows", "lots"] qkh) (F2 : Fn P w K mg base 1 "need_of" ["roots", "lot"] qjw) : qca P w K mg base CX0 3 f fd ["rows", "lots", "roots"] qin := by
 refine F.ok qw0 (fun vs H Q E h => ?_) (fun cdv A outer s H vs Q E hr h => ?_)
 ·obtain ⟨ra, lo, a, rs, lts, rts, rfl, _⟩ := h
  rfl
 ·obtain ⟨ra, lo, a, rs, lts, rts, rfl, hra, hrow, hz, hlo, hL, hnd, hl255, ha, hr100, k⟩ := h
  have hr1 : qcl 1 _ := hr.mono (by decide)
  refine ⟨_, qae (qax (i := 3) qw0.nd rfl (Or.inr rfl) (qaw F1 hr (qaa (pv 0) (qaa (pv 1) qac))))
   (qak (qav (qv8 (N := ["lot", "counts", "roots"]) (ix := [none, some 3, some 2]) (lt0 hr) ⟨rfl, rfl, rfl, by decide⟩ rfl (qbd (pv 1)) (fun _ _ _ _ => qbu 0 (by decide) rfl rfl) (fun _ _ _ _ => qbk) (fun _ _ _ _ => pv 0)
    (fun _ _ _ _ => qa4 qik (qi2 (quh hr) (pv 1) (pv 0) (fun _ _ => rfl)) (qaw F2 hr1 (qaa (pv 2) (qaa (pv 0) qac))))))), ?_⟩
  refine ⟨_, rfl, _, rfl, ra, lo, rs, lts, rfl, hra, hrow, hz, hlo, hL, hnd, hl255, fun c kvs H1 s1 c1 v1 => ?_⟩
  refine ⟨_, rfl, lo, rfl, ⟨_, SqL.of (s1 _ _ hlo)⟩, fun D hD => ?_⟩
  have s2 := qad (o := .dT []) (qar.refl H1) hD
  have htl : (qan lts).length = lts.length := by simp
  have hD0 : H1 D = none := hD
  refine qh5 (K := K) (a := lo) (xs := qan lts) (fun i σ H2 => qar H1 H2 /\ (∃ x, σ = [x, some (.ref c), some (.ref a)]) /\ H2 D = some (.dT (qly rs rts ((lts.take i).map (·.2))))) ⟨s2, ⟨_, rfl⟩, qab⟩
   (fun i σ H2 _ q => SqL.of (q.1 _ _ (s1 _ _ hlo))) ?_ ?_
  ·rintro i x σ H2 hx ⟨s2, ⟨g, rfl⟩, d2⟩
   obtain ⟨lt, hlt, rfl⟩ := qbx hx
   have hm := List.mem_of_getElem? hlt
   have hi : i < lts.length := (List.getElem?_eq_some_iff.mp hlt).1
   have hlt2 := s2 _ _ (s1 _ _ (hL lt hm))
   have gc : qjm H2 c (.ref lt.1) (some (.int (cnt rs lt.2))) := by
    rw [<- v1 lt hm]; exact qjm.t (s2 _ _ c1) (by rw [qcv]; exact hlt2)
   refine ⟨_, rfl, _, rfl, _, rfl, c, _, rfl, gc, ?_⟩
   refine ⟨_, rfl, _, rfl, a, lt.1, rts, lt.2, rfl, s2 _ _ (s1 _ _ ha), hlt2, hr100, fun H3 s3 => ?_⟩
   have d3 := s3 _ _ d2
   have hfresh : lt.2 ∉ (lts.take i).map (·.2) := fun hmm => by
    have nd := hnd.sublist ((List.take_sublist (i + 1) lts).map (fun x : Addr × List Str => x.2))
    rw [List.take_add_one, hlt, List.map_append] at nd
    exact (List.nodup_append.mp nd).2.2 _ hmm lt.2 (by simp) rfl
   refine ⟨_, _, rfl, rfl, _, ⟨_, qc8 lt.2, lt.1, d3, rfl, by rw [qcv]; exact s3 _ _ hlt2, by rw [List.length_map, List.length_map, List.length_take, sizeLine_eq]; omega, rfl⟩, qb3 (s2.trans s3) hD0, ⟨_, rfl⟩, ?_⟩
   rw [qab, qql _ (qif hfresh), List.take_add_one, hlt]
   simp [qly, spr]
  ·rintro σ H2 ⟨s2, ⟨g, rfl⟩, d2⟩
   rw [htl, take_all lts rfl] at d2
   exact k D H2 (s1.trans s2) (s1.free hD0) d2
end
section
variable {P : Program} {w : World} {K : PySem.W.Frag} {mg : Str -> Option Value} {base : Heap}
noncomputable def qj7 (C : Addr) : Sp := fun vs H Q E => ∃ (v pa ra a : Addr) (ps rts : List Str) (rs : List (Addr × Row)), vs = [.ref v, .ref a] /\ qdg H v pa ra ps rs /\ ps.Nodup /\ ps.length <= 8 /\ rs.length <= 60 /\ H a = some (.tup (rts.map V.str)) /\ rts.length <= 100 /\
 ∀ H', qar H H' -> ((∀ l ∈ qam ps, 0 <= spr rs rts l) -> Q .non H') /\ (∀ l ∈ qam ps, spr rs rts l < 0 -> ∀ dx u, H' dx = some (.xd [(Str.ofString "lot", .ref u)]) -> H' u = some (.tup (l.map V.str)) -> E (.ref C) (some dx) H')
noncomputable abbrev N34 : List Str := ["web", "roots", "spare", "lot"]
theorem qv4 : qao N34 ["web", "roots"] (qai (top 34)) := ⟨rfl, rfl, rfl, by decide +kernel, rfl, by decide +kernel, by decide +kernel⟩
theorem qn9 {f C fI : Addr} {fd fdI : FuncData} (F : Fun K "need_enough" "need_enough" (top 34) f fd) (hx : mg "TooFew" = some (.ref C)) (hC : qrb qox base C fI) (FI : qca P w K mg base CX0 1 fI fdI ["self", "lot"] (qqz C)) (bI : Binds K fdI ["self", "lot"] [])
  (F1 : Fn P w K mg base 3 "spare_into" ["rows", "lots", "roots"] qin) (F2 : Fn P w K mg base 1 "lots_among" ["places"] qga) : qca P w K mg base (CXE P w) 4 f fd ["web", "roots"] (qj7 C) := by
 refine F.okX qv4 (fun vs H Q E h => ?_) (fun cdv A outer s H vs Q E hr h => ?_)
 ·obtain ⟨v, pa, ra, a, ps, rts, rs, rfl, _⟩ := h
  rfl
 ·obtain ⟨v, pa, ra, a, ps, rts, rs, rfl, W, hnd, h7, hrz, ha, hr100, k⟩ := h
  have hr1 : qcl 1 _ := hr.mono (by decide)
  have hr2 : qcl 2 _ := hr.mono (by decide)
  refine ⟨_, qae (qax (i := 2) qv4.nd rfl (Or.inl rfl) (qaw F1 hr (qaa (qa8 qa7 (pv 0) qah (fun _ _ => rfl)) (qaa (qaw F2 hr1 (qaa (qa8 qa7 (pv 0) qah (fun _ _ => rfl)) qac)) (qaa (pv 1) qac)))))
   (qak (qcn PassesOwn.leaving rfl (qn2 (pv 2)) (qa0 (i := 3) qv4.nd rfl (Or.inl rfl))
    (qak (qb8 (qay qme (qi2 (quh hr) (pv 2) (pv 3) (fun _ _ => rfl)) qah (qbg _)) (qak (qoe (W := E) hx hC FI hr2 bI hr.hd (qaa (pv 3) qac) (fun pins σ H s ea oe vs a0 I h1 h2 h3 h4 h5 h6 hW => quu I h1 h2 h3 h4 h5 h6 hW) rfl)) qa2)))), ?_⟩
  refine ⟨_, rfl, qat (j := 1) (.inr (SqT.of W.tp)) rfl rfl ⟨_, rfl, qat (j := 0) (.inr (SqT.of W.tp)) rfl rfl ⟨pa, ps, rfl, .inr W.pl, by omega, fun q lts H1 s1 q1 A1 e1 => ?_⟩⟩⟩
  have W1 := W.same s1
  have hll : lts.length <= 255 := by
   have e2 := congrArg List.length e1
   rw [List.length_map] at e2
   have e3 := qey ps
   have e4 := qf7 (show ps.length <= 8 by omega)
   omega
  refine ⟨_, rfl, ra, q, a, rs, lts, rts, rfl, .inr W1.rl, W1.rows, hrz, q1, A1, by rw [e1]; exact qec hnd, hll, s1 _ _ ha, hr100, fun sd H2 s2 hsd0 d2 => ?_⟩
  rw [e1] at d2
  have s02 := s1.trans s2
  have hsd : H sd = none := s1.free hsd0
  refine ⟨_, rfl, sd, _, rfl, d2, fun o => ?_⟩
  have s3 : qar H (upd H2 sd (.frz o (.dT (qly rs rts (qam ps))))) := qar.upd0 s02 hsd
  have d3 : upd H2 sd (.frz o (.dT (qly rs rts (qam ps)))) sd = some (.frz o (.dT (qly rs rts (qam ps)))) := qab
  generalize upd H2 sd (.frz o (.dT (qly rs rts (qam ps)))) = H3 at s3 d3 ⊢
  refine qov (a := sd) (o := o) (kvs := qly rs rts (qam ps)) (fun i σ H4 => (∃ g, σ = [some (.ref v), some (.ref a), some (.ref sd), g]) /\ qar H3 H4 /\ ∀ l ∈ (qam ps).take i, 0 <= spr rs rts l)
   ⟨⟨_, rfl⟩, qar.refl _, by simp⟩ (fun i σ H4 _ p => p.2.1 _ _ d3) ?_ ?_
  ·rintro i p b σ H4 hp hb ⟨⟨g, rfl⟩, s4, hge⟩
   rw [List.getElem?_map] at hp
   cases hc : (qam ps)[i]? with
   | none => rw [hc] at hp; cases hp
   | some l =>
    rw [hc] at hp
    cases hp
    have hl : l ∈ qam ps := List.mem_of_getElem? hc
    have hb' : H4 b = some (.tup (l.map V.str)) := by rw [<- qcv]; exact hb
    have gd : qjm H4 sd (.ref b) (some (.int (spr rs rts l))) := .inr ⟨_, qc8 l, b, .inr ⟨o, s4 _ _ d3⟩, rfl, hb, (qhn hl).symm⟩
    refine ⟨_, rfl, _, rfl, sd, _, rfl, gd, _, _, rfl, rfl, _, rfl, qev (fun c => ?_) (fun c => ?_)⟩
    ·have hneg : spr rs rts l < 0 := of_decide_eq_true c
     refine ⟨_, rfl, by show 1 <= sizeLine; decide, fun e he => ⟨e, .ref b, rfl, qab, fun dx h1 h2 => ⟨rfl, some dx, ?_, ?_⟩⟩⟩
     ·rw [qag h2.symm, qab]
     ·have hdx3 : H4 dx = none := by rw [qag h2] at h1; exact h1
      have nu : b ≠ e := qaf hb' he
      have ndu : b ≠ dx := qaf hb' hdx3
      refine (k _ (fun c' o' ec => ?_)).2 l hl hneg dx b ?_ ?_
      ·have b3 := s4 _ _ (s3 c' o' ec)
       have n1 : c' ≠ e := qaf b3 he
       have n2 : c' ≠ dx := qaf b3 hdx3
       rw [qdp n1, qag n2, qag n1, qag n1]
       exact b3
      ·rw [qdp h2, qab]
      ·rw [qdp nu, qag ndu, qag nu, qag nu]
       exact hb'
    ·have hge' : 0 <= spr rs rts l := by
      have : ¬ (spr rs rts l < 0) := fun z => c (decide_eq_true z)
      omega
     refine ⟨⟨_, rfl⟩, s4, fun m hm => ?_⟩
     rw [List.take_add_one, hc] at hm
     rcases List.mem_append.mp hm with z | z
     ·exact hge m z
     ·have e : m = l := by simpa using z
      subst e; exact hge'
  ·rintro σ H4 ⟨⟨g, rfl⟩, s4, hge⟩
   rw [take_all (qam ps) (by simp)] at hge
   exact (k H4 (s3.trans s4)).1 hge
end
theorem sub_one {l : List Str} {x : Str} (h : l.Sublist [x]) : l = [] \/ l = [x] := by
 cases h with
 | cons _ h => cases h; exact .inl rfl
 | cons_cons _ h => cases h; exact .inr rfl
theorem qpm : ∀ ps l : List Str, l.Sublist ps -> l ∈ subs ps := snoc_ind (fun l h => by
  cases h
  simp [subs]) fun ps x ih l hl => by
 rw [qck]
 obtain ⟨a, b, rfl, ha, hb⟩ := List.sublist_append_iff.mp hl
 rcases sub_one hb with rfl | rfl
 ·rw [List.append_nil]
  exact List.mem_append_left _ (ih a ha)
 ·exact List.mem_append_right _ (List.mem_map_of_mem (f := fun l => l ++ [x]) (ih a ha))
theorem qct {ps l : List Str} (hn : ps.Nodup) : l ∈ qam ps ↔ l.Sublist ps /\ l ≠ [] := by
 have e := qei ps
 have nd := qfu ps hn
 rw [e] at nd
 constructor
 ·intro h
  exact ⟨qkc h, fun z => (List.nodup_cons.mp nd).1 (z ▸ h)⟩
 ·rintro ⟨h1, h2⟩
  have := qpm ps l h1
  rw [e] at this
  exact (List.mem_cons.mp this).resolve_left h2
theorem qlk {ps l : List Str} {p : Str -> Bool} : l.Sublist (ps.filter p) ↔ l.Sublist ps /\ ∀ x ∈ l, p x = true := by
 constructor
 ·intro h
  exact ⟨h.trans List.filter_sublist, fun x hx => (List.mem_filter.mp (h.subset hx)).2⟩
 ·rintro ⟨h1, h2⟩
  have := h1.filter p
  rwa [List.filter_eq_self.mpr h2] at this
theorem qoa {ps : List Str} (root : Str) (h : ps.Nodup) : (others ps root).Nodup := h.filter _
theorem qfm {ps l : List Str} {root : Str} (hn : ps.Nodup) : l ∈ qam (others ps root) ↔ l ∈ qam ps /\ root ∉ l := by
 rw [qct (qoa root hn), qct hn]
 unfold others
 rw [qlk]
 constructor
 ·rintro ⟨⟨h1, h2⟩, h3⟩
  exact ⟨⟨h1, h3⟩, fun z => by have := h2 root z; simp at this⟩
 ·rintro ⟨⟨h1, h3⟩, h2⟩
  exact ⟨⟨h1, fun x hx => by
   have : x ≠ root := fun z => h2 (z ▸ hx)
   simp [this]⟩, h3⟩
theorem qpa (m : Nat) (root : Str) (l : List Str) : need (List.replicate m root) l = if root ∈ l then 0 else m := by
 unfold need
 rw [List.filter_replicate]
 by_cases h : root ∈ l
 ·simp [h]
 ·simp [h]
theorem qjb (rs : List (Addr × Row)) (m : Nat) (root : Str) (l : List Str) : spr rs (List.replicate m root) l = (cnt rs l : Int) - (if root ∈ l then 0 else (m : Int)) := by
 unfold spr
 rw [qpa]
 by_cases h : root ∈ l <;> simp [h]
theorem qjp {α : Type} (x : α) : ∀ m : Nat, (List.replicate m [x]).flatten = List.replicate m x
 | 0 => rfl
 | m + 1 => by rw [List.replicate_succ, List.flatten_cons, qjp x m, List.replicate_succ]; rfl
section
variable {P : Program} {w : World} {K : PySem.W.Frag} {mg : Str -> Option Value} {base : Heap}
end
theorem qne {x : Str} : ¬ nlt x x := List.lt_irrefl _
noncomputable def ind (b : Bool) : Nat := if b = true then 1 else 0
theorem cnt_cons (r : Addr × Row) (rs : List (Addr × Row)) (l : List Str) : cnt (r :: rs) l = ind (lead l r) + cnt rs l := by
 unfold cnt ind
 rw [List.filter_cons]
 split <;> simp <;> omega
theorem qqs {a b i u : List Str} (hi : ∀ x, x ∈ i ↔ x ∈ a /\ x ∈ b) (hu : ∀ x, x ∈ u ↔ x ∈ a \/ x ∈ b) : ∀ rs : List (Addr × Row), cnt rs i + cnt rs u <= cnt rs a + cnt rs b
 | [] => Nat.le_refl _
 | r :: rs => by
  have ih := qqs hi hu rs
  rw [cnt_cons, cnt_cons, cnt_cons, cnt_cons]
  have h : ind (lead i r) + ind (lead u r) <= ind (lead a r) + ind (lead b r) := by
   have e1 := hi r.2.2.2
   have e2 := hi r.2.2.1
   have e3 := hu r.2.2.2
   have e4 := hu r.2.2.1
   unfold lead ind
   by_cases c1 : r.2.2.2 ∈ a <;> by_cases c2 : r.2.2.2 ∈ b <;> by_cases c3 : r.2.2.1 ∈ a <;> by_cases c4 : r.2.2.1 ∈ b <;> simp_all
  omega
section
variable {P : Program} {w : World} {K : PySem.W.Frag} {mg : Str -> Option Value} {base : Heap}
end
noncomputable abbrev T := Addr × Row
theorem qkp {a b : List T} (h : a.Perm b) (l : List Str) : cnt a l = cnt b l := by
 unfold cnt
 exact (h.filter _).length_eq
theorem qb5 (r : Str) (rts l : List Str) : need (r :: rts) l = ind (!decide (r ∈ l)) + need rts l := by
 unfold need ind
 rw [List.filter_cons]
 split <;> simp <;> omega
theorem qjq {a b i u : List Str} (hi : ∀ x, x ∈ i ↔ x ∈ a /\ x ∈ b) (hu : ∀ x, x ∈ u ↔ x ∈ a \/ x ∈ b) : ∀ rts : List Str, need rts i + need rts u = need rts a + need rts b
 | [] => rfl
 | r :: rts => by
  have ih := qjq hi hu rts
  rw [qb5, qb5, qb5, qb5]
  have h : ind (!decide (r ∈ i)) + ind (!decide (r ∈ u)) = ind (!decide (r ∈ a)) + ind (!decide (r ∈ b)) := by
   have e1 := hi r
   have e2 := hu r
   unfold ind
   by_cases c1 : r ∈ a <;> by_cases c2 : r ∈ b <;> simp_all
  omega
theorem qie {x y : List Str} (h : ∀ z, z ∈ y -> z ∈ x) : ∀ rts : List Str, need rts x <= need rts y
 | [] => Nat.le_refl _
 | r :: rts => by
  have ih := qie h rts
  rw [qb5, qb5]
  have : ind (!decide (r ∈ x)) <= ind (!decide (r ∈ y)) := by
   have e := h r
   unfold ind
   by_cases c1 : r ∈ x <;> by_cases c2 : r ∈ y <;> simp_all
  omega
theorem qjz {x y : List Str} : ∀ {rs : List T}, cnt rs x < cnt rs y -> ∃ r ∈ rs, lead y r = true /\ lead x r = false
 | [], h => absurd h (Nat.lt_irrefl _)
 | r :: rs, h => by
  by_cases c : lead y r = true /\ lead x r = false
  ·exact ⟨r, List.mem_cons_self, c⟩
  ·have : cnt rs x < cnt rs y := by
    rw [cnt_cons, cnt_cons] at h
    have : ind (lead y r) <= ind (lead x r) := by
     unfold ind
     cases e1 : lead y r <;> cases e2 : lead x r <;> simp_all
    omega
   obtain ⟨q, hq, h1⟩ := qjz this
   exact ⟨q, List.mem_cons_of_mem _ hq, h1⟩
theorem qkm {y : List Str} : ∀ {rs : List T}, 0 < cnt rs y -> ∃ r ∈ rs, lead y r = true
 | [], h => absurd h (Nat.lt_irrefl _)
 | r :: rs, h => by
  by_cases c : lead y r = true
  ·exact ⟨r, List.mem_cons_self, c⟩
  ·have : 0 < cnt rs y := by
    rw [cnt_cons] at h
    unfold ind at h
    rw [if_neg c] at h
    omega
   obtain ⟨q, hq, h1⟩ := qkm this
   exact ⟨q, List.mem_cons_of_mem _ hq, h1⟩
theorem qdm {l : List Str} {r : T} : lead l r = true ↔ r.2.2.2 ∈ l /\ r.2.2.1 ∉ l := by
 unfold lead
 simp
theorem shortest {P : List Str -> Prop} : ∀ (n : Nat), (∃ x, P x /\ x.length <= n) -> ∃ x, P x /\ ∀ y, P y -> x.length <= y.length
 | 0, ⟨x, h, z⟩ => ⟨x, h, fun y _ => by omega⟩
 | n + 1, ⟨x, h, z⟩ => by
  by_cases c : ∃ x, P x /\ x.length <= n
  ·exact shortest n c
  ·exact ⟨x, h, fun y hy => by
    have : ¬ y.length <= n := fun q => c ⟨y, hy, q⟩
    omega⟩
structure qop (ps rts fs : List Str) (rem : List T) : Prop where
 nd : ps.Nodup
 st : ∀ r ∈ rem, r.2.2.1 ∈ ps /\ r.2.2.2 ∈ ps
 ge : ∀ l ∈ qam ps, 0 <= spr rem rts l
 gt : ∀ l ∈ qam ps, (∀ x ∈ l, x ∉ fs) -> 1 <= spr rem rts l
noncomputable def ql3 (ps rts fs : List Str) (rem : List T) (r : T) : Prop := r.2.2.1 ∈ fs /\ r.2.2.2 ∉ fs /\ ∀ l ∈ qam ps, lead l r = true -> 0 < spr rem rts l
theorem qop.ex {ps rts fs : List Str} {rem : List T} (G : qop ps rts fs rem) (hx : ∃ x ∈ ps, x ∉ fs) : ∃ r ∈ rem, ql3 ps rts fs rem r := by
 by_cases tight : ∃ X, (X ∈ qam ps /\ spr rem rts X = 0 /\ ∃ x ∈ X, x ∉ fs)
 ·obtain ⟨X0, h0⟩ := tight
  obtain ⟨X, ⟨hX, hX0, x, hxX, hxf⟩, hmin⟩ := shortest (P := fun X => X ∈ qam ps /\ spr rem rts X = 0 /\ ∃ x ∈ X, x ∉ fs) X0.length ⟨X0, h0, Nat.le_refl _⟩
  obtain ⟨sX, _⟩ := (qct G.nd).mp hX
  have memY : ∀ z, z ∈ (X.filter fun p => !decide (p ∈ fs)) ↔ z ∈ X /\ z ∉ fs := fun z => by simp
  have hY : (X.filter fun p => !decide (p ∈ fs)) ∈ qam ps := (qct G.nd).mpr ⟨List.filter_sublist.trans sX, fun e => by
   have := (memY x).mpr ⟨hxX, hxf⟩
   rw [e] at this; cases this⟩
  have gY := G.gt _ hY fun z hz => ((memY z).mp hz).2
  have nY := qie (x := X) (y := X.filter fun p => !decide (p ∈ fs)) (fun z hz => ((memY z).mp hz).1) rts
  have hlt : cnt rem X < cnt rem (X.filter fun p => !decide (p ∈ fs)) := by
   unfold spr at gY hX0
   omega
  obtain ⟨r, hr, h1, h2⟩ := qjz hlt
  obtain ⟨e1, e2⟩ := qdm.mp h1
  obtain ⟨e3, e4⟩ := (memY _).mp e1
  have e5 : r.2.2.1 ∈ X := by
   by_cases c : r.2.2.1 ∈ X
   ·exact c
   ·have := qdm.mpr ⟨e3, c⟩
    rw [h2] at this; cases this
  have e6 : r.2.2.1 ∈ fs := by
   by_cases c : r.2.2.1 ∈ fs
   ·exact c
   ·exact absurd ((memY _).mpr ⟨e5, c⟩) e2
  refine ⟨r, hr, e6, e4, fun Z hZ hl => ?_⟩
  obtain ⟨z1, z2⟩ := qdm.mp hl
  have hZ0 := G.ge Z hZ
  by_cases c : spr rem rts Z = 0
  ·exfalso
   obtain ⟨sZ, _⟩ := (qct G.nd).mp hZ
   have memI : ∀ p, p ∈ (X.filter fun p => decide (p ∈ Z)) ↔ p ∈ X /\ p ∈ Z := fun p => by simp
   have memU : ∀ p, p ∈ (ps.filter fun p => decide (p ∈ X \/ p ∈ Z)) ↔ p ∈ X \/ p ∈ Z := fun p => by
    simp only [List.mem_filter, decide_eq_true_eq]
    exact ⟨fun h => h.2, fun h => ⟨h.elim (fun q => sX.subset q) (fun q => sZ.subset q), h⟩⟩
   have hI : (X.filter fun p => decide (p ∈ Z)) ∈ qam ps := (qct G.nd).mpr ⟨List.filter_sublist.trans sX, fun e => by
    have := (memI _).mpr ⟨e3, z1⟩
    rw [e] at this; cases this⟩
   have hU : (ps.filter fun p => decide (p ∈ X \/ p ∈ Z)) ∈ qam ps := (qct G.nd).mpr ⟨List.filter_sublist, fun e => by
    have := (memU _).mpr (.inl e3)
    rw [e] at this; cases this⟩
   have sm := qqs memI memU rem
   have nm := qjq memI memU rts
   have gI := G.ge _ hI
   have gU := G.ge _ hU
   have hI0 : spr rem rts (X.filter fun p => decide (p ∈ Z)) = 0 := by
    unfold spr at *
    omega
   have hm := hmin _ ⟨hI, hI0, r.2.2.2, (memI _).mpr ⟨e3, z1⟩, e4⟩
   have hls : (X.filter fun p => decide (p ∈ Z)).length < X.length := List.length_filter_lt_length_iff_exists.mpr ⟨r.2.2.1, e5, by simpa using z2⟩
   omega
  ·omega
 ·obtain ⟨x, hxp, hxf⟩ := hx
  have memW : ∀ z, z ∈ (ps.filter fun p => !decide (p ∈ fs)) ↔ z ∈ ps /\ z ∉ fs := fun z => by simp
  have hW : (ps.filter fun p => !decide (p ∈ fs)) ∈ qam ps := (qct G.nd).mpr ⟨List.filter_sublist, fun e => by
   have := (memW x).mpr ⟨hxp, hxf⟩
   rw [e] at this; cases this⟩
  have gW := G.gt _ hW fun z hz => ((memW z).mp hz).2
  have hpos : 0 < cnt rem (ps.filter fun p => !decide (p ∈ fs)) := by
   unfold spr at gW
   omega
  obtain ⟨r, hr, h1⟩ := qkm hpos
  obtain ⟨e1, e2⟩ := qdm.mp h1
  obtain ⟨e3, e4⟩ := (memW _).mp e1
  have e6 : r.2.2.1 ∈ fs := by
   by_cases c : r.2.2.1 ∈ fs
   ·exact c
   ·exact absurd ((memW _).mpr ⟨(G.st r hr).1, c⟩) e2
  refine ⟨r, hr, e6, e4, fun Z hZ hl => ?_⟩
  obtain ⟨z1, z2⟩ := qdm.mp hl
  have hZ0 := G.ge Z hZ
  by_cases c : spr rem rts Z = 0
  ·exact absurd ⟨Z, hZ, c, r.2.2.2, z1, e4⟩ tight
  ·omega
theorem qgx {rem : List T} {r : T} {rem' : List T} (h : rem.Perm (r :: rem')) (rts l : List Str) : spr rem' rts l = spr rem rts l - (ind (lead l r) : Nat) := by
 unfold spr
 rw [qkp h, cnt_cons]
 omega
theorem qop.step {ps rts fs : List Str} {rem rem' : List T} {r : T} (G : qop ps rts fs rem) (g : ql3 ps rts fs rem r) (h : rem.Perm (r :: rem')) : qop ps rts (fs ++ [r.2.2.2]) rem' where
 nd := G.nd
 st := fun q hq => G.st q (h.mem_iff.mpr (List.mem_cons_of_mem _ hq))
 ge := fun l hl => by
  rw [qgx h]
  have := G.ge l hl
  unfold ind
  cases c : lead l r with
  | true => have := g.2.2 l hl c; simp; omega
  | false => simp; omega
 gt := fun l hl hd => by
  rw [qgx h]
  have h1 := G.gt l hl fun x hx hf => hd x hx (List.mem_append_left _ hf)
  have c : lead l r = false := by
   cases c : lead l r with
   | false => rfl
   | true => exact absurd (List.mem_append_right _ (by simp)) (hd _ (qdm.mp c).1)
  rw [c]
  unfold ind
  simp
  omega
theorem qop.start {ps rts : List Str} {root : Str} {rs : List T} (nd : ps.Nodup) (st : ∀ r ∈ rs, r.2.2.1 ∈ ps /\ r.2.2.2 ∈ ps) (h : ∀ l ∈ qam ps, 0 <= spr rs (root :: rts) l) : qop ps rts [root] rs where
 nd := nd
 st := st
 ge := fun l hl => by
  have := h l hl
  unfold spr at this ⊢
  rw [qb5] at this
  omega
 gt := fun l hl hd => by
  have := h l hl
  unfold spr at this ⊢
  have c : root ∉ l := fun z => hd root z (by simp)
  rw [qb5, decide_eq_false c] at this
  unfold ind at this
  simp at this
  omega
noncomputable abbrev kvF (f : List Str -> Int) (ls : List (List Str)) : List (List Key × V) := ls.map fun l => (qc8 l, V.int (f l))
theorem qez {f : List Str -> Int} : ∀ {ls : List (List Str)} {l : List Str}, l ∈ ls -> qdq (kvF f ls) (qc8 l) = some (.int (f l))
 | m :: r, l, h => by
  show qdq ((qc8 m, V.int (f m)) :: kvF f r) (qc8 l) = _
  by_cases e : m = l
  ·subst e; exact qbn rfl
  ·rw [qbl (fun z => e (qea z))]
   exact qez ((List.mem_cons.mp h).resolve_left fun z => e z.symm)
noncomputable def qkr (f : List Str -> Int) (ls : List (List Str)) (fs : List Str) (r : T) : Bool := decide (r.2.2.1 ∈ fs) && !decide (r.2.2.2 ∈ fs) && ls.all fun l => !lead l r || decide (0 < f l)
noncomputable def qdb (f : List Str -> Int) (ls : List (List Str)) (fs : List Str) (r : T) : Prop := r.2.2.1 ∈ fs /\ r.2.2.2 ∉ fs /\ ∀ l ∈ ls, lead l r = true -> 0 < f l
theorem qid {f : List Str -> Int} {ls : List (List Str)} {fs : List Str} {r : T} : qkr f ls fs r = true ↔ qdb f ls fs r := by
 unfold qkr qdb
 rw [Bool.and_eq_true, Bool.and_eq_true, List.all_eq_true, decide_eq_true_iff]
 constructor
 ·rintro ⟨⟨h1, h2⟩, h3⟩
  refine ⟨h1, by simpa using h2, fun l hl hle => ?_⟩
  have := h3 l hl
  rw [hle] at this
  simpa using this
 ·rintro ⟨h1, h2, h3⟩
  refine ⟨⟨h1, by simpa using h2⟩, fun l hl => ?_⟩
  cases c : lead l r with
  | false => rfl
  | true => simpa using h3 l hl c
theorem qrs {f : List Str -> Int} {ls : List (List Str)} {fs : List Str} {rs : List T} {i : Nat} {r : T} (hi : rs[i]? = some r) (hno : ∀ q ∈ rs.take i, ¬ qdb f ls fs q) (hg : qdb f ls fs r) : rs.find? (qkr f ls fs) = some r := by
 obtain ⟨hlt, e⟩ := List.getElem?_eq_some_iff.mp hi
 have es : rs = rs.take i ++ r :: rs.drop (i + 1) := by
  conv => lhs; rw [<- List.take_append_drop i rs, List.drop_eq_getElem_cons hlt, e]
 rw [es, List.find?_append, List.find?_eq_none.mpr fun q hq c => hno q hq (qid.mp c), List.find?_cons_of_pos (qid.mpr hg)]
 rfl
section
variable {P : Program} {w : World} {K : PySem.W.Frag} {mg : Str -> Option Value} {base : Heap}
noncomputable def qqu : Sp := fun vs H Q _ => ∃ (ra fo sd : Addr) (rs : List T) (fs : List Str) (f : List Str -> Int) (ls : List (List Str)), vs = [.ref ra, .ref fo, .ref sd] /\ (H ra = some (.lst (qap rs)) \/ H ra = some (.tup (qap rs))) /\ (∀ r ∈ rs, qgm H r.1 r.2) /\
 H fo = some (.lst (fs.map V.str)) /\ H sd = some (.dT (kvF f ls)) /\ ls.length <= 255 /\ (∃ r ∈ rs, qdb f ls fs r) /\
 ∀ (r : T) (t en : Addr) (lts : List (Addr × List Str)) (H' : Hp), qar H H' -> r ∈ rs -> qdb f ls fs r -> rs.find? (qkr f ls fs) = some r -> H' t = some (.tup [.ref r.1, .ref en]) -> H' en = some (.lst (qan lts)) -> qcq H' lts -> lts.map (·.2) = ls.filter (fun l => lead l r) -> H en = none -> Q (.ref t) H'
noncomputable abbrev N32 : List Str := ["rows", "found", "spare", "row", "entered"]
theorem qv1 : qao N32 ["rows", "found", "spare"] (qai (top 32)) := ⟨rfl, rfl, rfl, by decide +kernel, rfl, by decide +kernel, by decide +kernel⟩
theorem qrm {f : Addr} {fd : FuncData} (F : Fun K "next_row" "next_row" (top 32) f fd) (B : Bl mg) (F1 : Fn P w K mg base 1 "leads_into" ["row", "lot"] qmg) : qca P w K mg base CX0 2 f fd ["rows", "found", "spare"] qqu := by
 refine F.ok qv1 (fun vs H Q E h => ?_) (fun cdv A outer s H vs Q E hr h => ?_)
 ·obtain ⟨ra, fo, sd, rs, fs, f, ls, rfl, _⟩ := h
  rfl
 ·obtain ⟨ra, fo, sd, rs, fs, f, ls, rfl, hra, hrow, hfo, hsd, hl255, hex, k⟩ := h
  have hr1 : qcl 1 _ := hr.mono (by decide)
  refine ⟨_, qae (qcn PassesOwn.never rfl (qp4 (qbd (pv 0)) (qda (pv 0))) (qa0 (i := 3) qv1.nd rfl (Or.inr rfl))
    (qak (qb8 (PW.pt (qg9 (qay qd5 (qa8 qa7 (pv 3) qah (fun _ _ => rfl)) (pv 1) (by with_unfolding_all rfl)) (qgv (qay qdd (qa8 qa7 (pv 3) qah (fun _ _ => rfl)) (pv 1) (by with_unfolding_all rfl)))))
     (qae (qsf (qdj (i := 4) (N := ["lot", "row"]) (ix := [none, some 3]) qv1.nd rfl (Or.inl rfl) ⟨rfl, rfl, rfl, by decide⟩ rfl (qn2 (pv 2)) (fun _ _ _ _ => qbu 0 (by decide) rfl rfl) (fun _ _ _ _ => qcw (qbq (qaw F1 hr1 (qaa (pv 1) (qaa (pv 0) qac))))) (fun _ _ _ _ => pv 0)))
     (qak (qb8 (qbq (qaj (qc0 rfl) rfl B.all qlq (qaa (qcx (N := ["lot", "spare"]) (ix := [none, some 2]) ⟨rfl, rfl, rfl, by decide⟩ rfl (qbd (pv 4)) (fun _ _ _ _ => qbu 0 (by decide) rfl rfl) (fun _ _ _ _ => qbk)
      (fun _ _ _ _ => qcc qn5 (qi2 (quh hr) (pv 1) (pv 0) (fun _ _ => rfl)) qah (qbg _))) qac)))
      (qak (qav (qcr (qaa (pv 3) (qaa (pv 4) qac))))) qa2))) qa2)))
   (qak (qav qkj)), ?_⟩
  refine qgd (K := K) (Hb := H) (a := ra) (xs := qap rs) (fun Q q => ⟨_, rfl, q⟩) hra (qar.refl H) (fun i σ H1 => qar H H1 /\ (∃ g1 g2, σ = [some (.ref ra), some (.ref fo), some (.ref sd), g1, g2]) /\ ∀ r ∈ rs.take i, ¬ qdb f ls fs r)
   ⟨qar.refl _, ⟨_, _, rfl⟩, by simp⟩ (fun i σ H1 _ q => q.1) ?_ ?_
  ·rintro i x σ H1 hx ⟨s1, ⟨g1, g2, rfl⟩, hno⟩
   obtain ⟨r, hri, rfl⟩ := qbp hx
   have hrm := List.mem_of_getElem? hri
   have hrr := s1 _ _ (hrow r hrm)
   have f1 := s1 _ _ hfo
   have step : ¬ qdb f ls fs r -> ∀ q ∈ rs.take (i + 1), ¬ qdb f ls fs q := fun hn q hq => by
    rw [List.take_add_one, hri] at hq
    rcases List.mem_append.mp hq with z | z
    ·exact hno q z
    ·have e : q = r := by simpa using z
     rw [e]; exact hn
   refine ⟨_, rfl, qat (j := 1) (.inr (SqT.of hrr)) rfl rfl ⟨_, rfl, fo, _, rfl, .inl (SqL.of f1), rfl, qbf _, _, rfl, ?_⟩⟩
   rw [qb0]
   show if decide (r.2.2.1 ∈ fs) = true then _ else _
   by_cases c1 : r.2.2.1 ∈ fs
   ·rw [decide_eq_true c1]
    refine qf9 ⟨_, rfl, qat (j := 2) (.inr (SqT.of hrr)) rfl rfl ⟨_, rfl, fo, _, rfl, .inl (SqL.of f1), rfl, qbf _, _, rfl, ?_⟩⟩
    rw [qb0]
    show if (!decide (r.2.2.2 ∈ fs)) = true then _ else _
    by_cases c2 : r.2.2.2 ∈ fs
    ·rw [decide_eq_true c2]
     exact qem ⟨s1, ⟨_, _, rfl⟩, step fun g => g.2.1 c2⟩
    ·rw [decide_eq_false c2]
     refine qf9 ⟨_, rfl, sd, _, rfl, s1 _ _ hsd, fun o => ?_⟩
     have hd1 := s1 _ _ hsd
     have e1 : upd H1 sd (.frz o (.dT (kvF f ls))) sd = some (.frz o (.dT (kvF f ls))) := qab
     have row1 : upd H1 sd (.frz o (.dT (kvF f ls))) r.1 = some (.tup [.str r.2.1, .str r.2.2.1, .str r.2.2.2]) := by
      rw [qag (fun z => by rw [z, hd1] at hrr; cases hrr)]; exact hrr
     refine qo2 (a := sd) (o := o) (kvs := kvF f ls) (fits (by rw [List.length_map]; omega)) (fun j ys σ H2 => H2 = upd H1 sd (.frz o (.dT (kvF f ls))) /\ (∃ x, σ = [x, some (.ref r.1)]) /\ ∃ lts : List (Addr × List Str), ys = qan lts /\ lts.length <= j /\ qcq H1 lts /\ lts.map (·.2) = (ls.take j).filter (fun l => lead l r))
      ⟨rfl, ⟨_, rfl⟩, [], rfl, Nat.le_refl _, (fun x hx => nomatch hx), rfl⟩ (fun j ys σ H2 _ p => by obtain ⟨rfl, _, lts, rfl, hz, _⟩ := p; exact ⟨by simpa using hz, e1⟩) ?_ ?_
     ·rintro j p b ys σ H2 hp hb ⟨rfl, ⟨x, rfl⟩, lts, rfl, hz, hA, hm⟩
      rw [List.getElem?_map] at hp
      cases hc : ls[j]? with
      | none => rw [hc] at hp; cases hp
      | some l =>
       rw [hc] at hp
       cases hp
       have hb' : upd H1 sd (.frz o (.dT (kvF f ls))) b = some (.tup (l.map V.str)) := by rw [<- qcv]; exact hb
       have hb1 : H1 b = some (.tup (l.map V.str)) := by
        rw [qag (fun z => by rw [z, qab] at hb'; cases hb')] at hb'; exact hb'
       have tf := qaq (fun l : List Str => lead l r) ls j l hc
       refine ⟨_, rfl, _, rfl, b, r, l, rfl, row1, hb', _, rfl, qev (fun c => ⟨_, rfl, rfl, ⟨_, rfl⟩, lts ++ [(b, l)], ?_, ?_, ?_, ?_⟩) (fun c => ⟨rfl, ⟨_, rfl⟩, lts, rfl, by omega, hA, ?_⟩)⟩
       ·simp
       ·rw [List.length_append]; simp; omega
       ·intro x hx
        rcases List.mem_append.mp hx with z | z
        ·exact hA x z
        ·have e : x = (b, l) := by simpa using z
         subst e; exact hb1
       ·rw [List.map_append, hm, tf, c]; simp
       ·rw [hm, tf]; simp only [Bool.not_eq_true] at c; rw [c]; simp
     rintro ys σ H2 ⟨rfl, ⟨x, rfl⟩, lts, rfl, hz, hA, hm⟩ en hen
     rw [take_all ls (by simp)] at hm
     have nen : en ≠ sd := fun z => by rw [z, qab] at hen; cases hen
     have hen1 : H1 en = none := by rw [qag nen] at hen; exact hen
     refine ⟨sd, o, _, by rw [qag nen.symm]; exact qab, fun o' u' (z : H sd = _) => (by rw [hsd] at z; cases z), ?_⟩
     have s2 : qar H1 (upd (upd (upd H1 sd (.frz o (.dT (kvF f ls)))) en (.lst (qan lts))) sd (.dT (kvF f ls))) := fun b ob e => by
      by_cases z : b = sd
      ·subst z; rw [qab, <- e, hd1]
      ·rw [qag z, qag (qaf e hen1), qag z]; exact e
     have en2 : (upd (upd (upd H1 sd (.frz o (.dT (kvF f ls)))) en (.lst (qan lts))) sd (.dT (kvF f ls))) en = some (.lst (qan lts)) := by rw [qag nen, qab]
     generalize upd (upd (upd H1 sd (.frz o (.dT (kvF f ls)))) en (.lst (qan lts))) sd (.dT (kvF f ls)) = H3 at s2 en2 ⊢
     have hd3 := s2 _ _ hd1
     have hz' : lts.length <= 255 := by
      have e2 := congrArg List.length hm
      rw [List.length_map] at e2
      have := List.length_filter_le (fun l : List Str => lead l r) ls
      omega
     have hmem : ∀ x ∈ lts, x.2 ∈ ls /\ lead x.2 r = true := fun x hx => by
      have : x.2 ∈ lts.map (·.2) := List.mem_map_of_mem hx
      rw [hm] at this
      exact List.mem_filter.mp this
     refine ⟨_, rfl, en, rfl, ⟨_, SqL.of en2⟩, qcj (xs := qan lts) (fits (by rw [List.length_map]; omega)) (fun j ys σ H4 => ys = ((lts.take j).map fun x => decide (0 < f x.2)).map V.bl /\ H4 = H3 /\ ∃ x, σ = [x, some (.ref sd)]) ⟨rfl, rfl, _, rfl⟩
      (fun j ys σ H4 _ p => ⟨by rw [p.1]; simp; omega, by rw [p.2.1]; exact SqL.of en2⟩) ?_ ?_⟩
     ·rintro j y ys σ H4 hy ⟨rfl, rfl, x, rfl⟩
      obtain ⟨lt, hlt, rfl⟩ := qbx hy
      have hm' := List.mem_of_getElem? hlt
      have gd : qjm H4 sd (.ref lt.1) (some (.int (f lt.2))) := by
       rw [<- qez (f := f) (hmem lt hm').1]; exact qjm.t hd3 (by rw [qcv]; exact s2 _ _ (hA lt hm'))
      refine ⟨_, rfl, _, rfl, sd, _, rfl, gd, _, _, rfl, rfl, ?_, rfl, _, rfl⟩
      rw [List.take_add_one, hlt]; simp
     ·rintro ys σ H4 ⟨rfl, rfl, x, rfl⟩ al hal
      rw [take_all lts (by simp)]
      refine ⟨al, _, rfl, SqL.of qab, _, rfl, ?_⟩
      have s4 := qad (o := .lst ((lts.map fun x => decide (0 < f x.2)).map V.bl)) (qar.refl H4) hal
      generalize upd H4 al (.lst ((lts.map fun x => decide (0 < f x.2)).map V.bl)) = H5 at s4 ⊢
      have s05 := s1.trans (s2.trans s4)
      refine qev (fun c => ?_) (fun c => ⟨s05, ⟨_, _, rfl⟩, step fun g => c ?_⟩)
      ·refine ⟨_, rfl, _, rfl, by show 2 <= sizeLine; decide, fun t ht => ?_⟩
       have s6 := qad (o := .tup [.ref r.1, .ref en]) (qar.refl H5) ht
       have hgood : qdb f ls fs r := ⟨c1, c2, fun l hl hle => by
        have hin : l ∈ lts.map (·.2) := by rw [hm]; exact List.mem_filter.mpr ⟨hl, hle⟩
        obtain ⟨x, hx, rfl⟩ := List.mem_map.mp hin
        have := List.all_eq_true.mp c (decide (0 < f x.2)) (List.mem_map_of_mem (f := fun x : Addr × List Str => decide (0 < f x.2)) hx)
        exact of_decide_eq_true this⟩
       exact k r t en lts _ (s05.trans s6) hrm hgood (qrs hri hno hgood) qab (s6 _ _ (s4 _ _ en2)) (fun x hx => s6 _ _ (s4 _ _ (s2 _ _ (hA x hx)))) hm (s1.free hen1)
      ·refine List.all_eq_true.mpr fun b hb => ?_
       obtain ⟨x, hx, rfl⟩ := List.mem_map.mp hb
       obtain ⟨h1, h2⟩ := hmem x hx
       exact decide_eq_true (g.2.2 _ h1 h2)
   ·rw [decide_eq_false c1]
    exact qem (qem ⟨s1, ⟨_, _, rfl⟩, step fun g => c1 g.1⟩)
  ·rintro σ H1 ⟨s1, ⟨g1, g2, rfl⟩, hno⟩
   rw [take_all rs (by simp)] at hno
   obtain ⟨r, hr', hg⟩ := hex
   exact absurd hg (hno r hr')
end
theorem qpn {f : List Str -> Int} {ls : List (List Str)} {l : List Str} {z : Int} (h : l ∈ ls) : putK (kvF f ls) (qc8 l) (.int z) = kvF (fun m => if m = l then z else f m) ls := by
 unfold putK
 have ha : ((kvF f ls).any fun kv => decide (kv.1 = qc8 l)) = true := by rw [qc5, qez h]; rfl
 rw [if_pos ha]
 unfold kvF
 rw [List.map_map]
 refine List.map_congr_left fun m _ => ?_
 show (if qc8 m = qc8 l then (qc8 m, V.int z) else (qc8 m, V.int (f m))) = _
 by_cases e : m = l
 ·subst e; simp
 ·rw [if_neg (fun q => e (qea q))]
  show _ = (qc8 m, V.int (if m = l then z else f m))
  rw [if_neg e]
theorem qe8 {f g : List Str -> Int} {ls : List (List Str)} (h : ∀ l ∈ ls, f l = g l) : kvF f ls = kvF g ls := List.map_congr_left fun l hl => by rw [h l hl]
noncomputable abbrev ends (tr : List T) : List Str := tr.map fun r => r.2.2.2
structure SpT (root : Str) (ps : List Str) (tr : List T) : Prop where
 nd : (root :: ends tr).Nodup
 sub : ∀ x ∈ root :: ends tr, x ∈ ps
 ord : ∀ i r, tr[i]? = some r -> r.2.2.1 ∈ root :: ends (tr.take i)
theorem SpT.start {root : Str} {ps : List Str} (h : root ∈ ps) : SpT root ps [] := ⟨by simp, by simpa using h, fun i r e => by simp at e⟩
theorem SpT.add {root : Str} {ps : List Str} {tr : List T} {r : T} (S : SpT root ps tr) (h1 : r.2.2.1 ∈ root :: ends tr) (h2 : r.2.2.2 ∉ root :: ends tr) (h3 : r.2.2.2 ∈ ps) : SpT root ps (tr ++ [r]) where
 nd := by
  have e : root :: ends (tr ++ [r]) = (root :: ends tr) ++ [r.2.2.2] := by simp [ends]
  rw [e]
  exact List.nodup_append.mpr ⟨S.nd, by simp, fun a ha b hb => by
   have : b = r.2.2.2 := by simpa using hb
   rw [this]
   exact fun z => h2 (z ▸ ha)⟩
 sub := fun x hx => by
  have e : root :: ends (tr ++ [r]) = (root :: ends tr) ++ [r.2.2.2] := by simp [ends]
  rw [e] at hx
  rcases List.mem_append.mp hx with z | z
  ·exact S.sub x z
  ·have : x = r.2.2.2 := by simpa using z
   rw [this]; exact h3
 ord := fun i q hq => by
  by_cases hi : i < tr.length
  ·rw [List.getElem?_append_left hi] at hq
   rw [List.take_append_of_le_length (by omega)]
   exact S.ord i q hq
  ·rw [List.getElem?_append_right (by omega)] at hq
   have hz : i - tr.length = 0 := by
    cases hc : i - tr.length with
    | zero => rfl
    | succ n => rw [hc] at hq; simp at hq
   rw [hz] at hq
   have e : q = r := by simpa using hq.symm
   subst e
   have : i = tr.length := by omega
   subst this
   rw [List.take_left']
   ·exact h1
   ·rfl
theorem qfy : ∀ {a b : List Str}, a.Nodup -> (∀ x ∈ a, x ∈ b) -> a.length <= b.length
 | [], _, _, _ => Nat.zero_le _
 | x :: a, b, hn, hs => by
  obtain ⟨h1, h2⟩ := List.nodup_cons.mp hn
  have hx := hs x List.mem_cons_self
  have ih := qfy (a := a) (b := b.erase x) h2 (fun y hy => (List.mem_erase_of_ne (a := y) (b := x) (fun z : y = x => h1 (z ▸ hy))).mpr (hs y (List.mem_cons_of_mem _ hy)))
  rw [List.length_erase_of_mem hx] at ih
  have := List.length_pos_of_mem hx
  simp
  omega
theorem qtv {a b : List Str} (hb : b.Nodup) (hl : a.length < b.length) : ∃ x ∈ b, x ∉ a := by
 by_cases c : ∃ x ∈ b, x ∉ a
 ·exact c
 ·have : ∀ x ∈ b, x ∈ a := fun x hx => by
   by_cases d : x ∈ a
   ·exact d
   ·exact absurd ⟨x, hx, d⟩ c
  have := qfy hb this
  omega
noncomputable def qd3 (ps later : List Str) (rs : List T) (root : Str) : Nat -> List T × List T
 | 0 => ([], rs)
 | n + 1 => match rs.find? (qkr (spr (qd3 ps later rs root n).2 later) (qam ps) (root :: ends (qd3 ps later rs root n).1)) with
  | some r => ((qd3 ps later rs root n).1 ++ [r], (qd3 ps later rs root n).2.erase r)
  | none => qd3 ps later rs root n
theorem qk7 {ps later : List Str} {rs tr rem : List T} {root : Str} {n : Nat} {r : T} (h : qd3 ps later rs root n = (tr, rem)) (hf : rs.find? (qkr (spr rem later) (qam ps) (root :: ends tr)) = some r) : qd3 ps later rs root (n + 1) = (tr ++ [r], rem.erase r) := by
 unfold qd3
 rw [h]
 dsimp only
 rw [hf]
section
variable {P : Program} {w : World} {K : PySem.W.Frag} {mg : Str -> Option Value} {base : Heap}
noncomputable def qmn : Sp := fun vs H Q _ => ∃ (pa ra la : Addr) (root : Str) (ps later : List Str) (rs : List T), vs = [.ref pa, .ref ra, .str root, .ref la] /\ H pa = some (.tup (ps.map V.str)) /\ (H ra = some (.lst (qap rs)) \/ H ra = some (.tup (qap rs))) /\ (∀ r ∈ rs, qgm H r.1 r.2) /\ rs.length <= 60 /\
 ps.Nodup /\ ps.length <= 8 /\ root ∈ ps /\ (∀ r ∈ rs, r.2.2.1 ∈ ps /\ r.2.2.2 ∈ ps) /\ H la = some (.tup (later.map V.str)) /\ later.length <= 100 /\ (∀ l ∈ qam ps, 0 <= spr rs (root :: later) l) /\
 ∀ (q : Addr) (tr rem : List T) (H' : Hp), qar H H' -> H q = none -> H' q = some (.lst (qap tr)) -> rs.Perm (tr ++ rem) -> (∀ l ∈ qam ps, 0 <= spr rem later l) -> SpT root ps tr -> tr.length + 1 = ps.length -> qd3 ps later rs root (ps.length - 1) = (tr, rem) -> Q (.ref q) H'
noncomputable abbrev N33 : List Str := ["places", "rows", "root", "later", "spare", "found", "tree", "row", "entered", "lot"]
theorem qrd : qao N33 ["places", "rows", "root", "later"] (qai (top 33)) := ⟨rfl, rfl, rfl, by decide +kernel, rfl, by decide +kernel, by decide +kernel⟩
theorem qpo {f : Addr} {fd : FuncData} (F : Fun K "grown" "grown" (top 33) f fd) (B : Bl mg) (F1 : Fn P w K mg base 3 "spare_into" ["rows", "lots", "roots"] qin) (F2 : Fn P w K mg base 1 "lots_among" ["places"] qga) (F3 : Fn P w K mg base 2 "next_row" ["rows", "found", "spare"] qqu) : qca P w K mg base CX0 4 f fd ["places", "rows", "root", "later"] qmn := by
 refine F.ok qrd (fun vs H Q E h => ?_) (fun cdv A outer s H vs Q E hr h => ?_)
 ·obtain ⟨pa, ra, la, root, ps, later, rs, rfl, _⟩ := h
  rfl
 ·obtain ⟨pa, ra, la, root, ps, later, rs, rfl, hpa, hra, hrow, hrz, hnd, h8, hroot, hst, hla, hl100, hge, k⟩ := h
  have hr1 : qcl 1 _ := hr.mono (by decide)
  have hr2 : qcl 2 _ := hr.mono (by decide)
  refine ⟨_, qae (qax (i := 4) qrd.nd rfl (Or.inl rfl) (qaw F1 hr (qaa (pv 1) (qaa (qaw F2 hr1 (qaa (pv 0) qac)) (qaa (pv 3) qac)))))
   (qae (qax (i := 5) qrd.nd rfl (Or.inl rfl) (qbv (qaa (pv 2) qac)))
   (qae (qax (i := 6) qrd.nd rfl (Or.inl rfl) (qbv qac))
   (qae (qpr PassesOwn.never (qay qme (qaj qal rfl B.len PySem.boot_len (qaa (pv 5) qac)) (qaj qal rfl B.len PySem.boot_len (qaa (pv 0) qac)) (qbg _))
    (qae (qfc (qaw F3 hr2 (qaa (pv 1) (qaa (pv 5) (qaa (pv 4) qac)))) (qej rfl (n := 2) (qa3 (qa0 (i := 7) qrd.nd rfl (Or.inl rfl)) (qa3 (qa0 (i := 8) qrd.nd rfl (Or.inl rfl)) qc6))))
    (qae (qch (qhr PySem.F.plainAttrs_list PySem.F.slot_list_append PySem.F.type_list_append qcz (pv 5) (qaa (qa8 qa7 (pv 7) qah (fun _ _ => rfl)) qac)))
    (qae (qch (qhr PySem.F.plainAttrs_list PySem.F.slot_list_append PySem.F.type_list_append qcz (pv 6) (qaa (pv 7) qac)))
    (qak (qcn PassesOwn.never rfl (qbd (pv 8)) (qa0 (i := 9) qrd.nd rfl (Or.inl rfl)) (qak (qn6 (quh hr) (pv 4) (pv 9) qah qux (fun _ _ _ => rfl)))))))))
   (qak (qav (pv 6)))))), ?_⟩
  refine ⟨_, rfl, _, rfl, pa, ps, rfl, .inr hpa, h8, fun q lts H1 s1 q1 A1 e1 => ?_⟩
  have hll : lts.length <= 255 := by
   have e2 := congrArg List.length e1
   rw [List.length_map] at e2
   have e3 := qey ps
   have e4 := qf7 h8
   omega
  refine ⟨_, rfl, ra, q, la, rs, lts, later, rfl, hra.imp (s1 _ _) (s1 _ _), fun r hr => s1 _ _ (hrow r hr), hrz, q1, A1, by rw [e1]; exact qec hnd, hll, s1 _ _ hla, hl100, fun sd H2 s2 hsd0 d2 => ?_⟩
  rw [e1] at d2
  have hl256 : (qam ps).length <= 255 := by rw [<- e1, List.length_map]; exact hll
  have s02 := s1.trans s2
  have hsd : H sd = none := s1.free hsd0
  refine ⟨_, rfl, by show 1 <= sizeLine; decide, fun fo hfo => ?_⟩
  have s3 := qad (o := .lst [.str root]) s02 hfo
  have f3 : upd H2 fo (.lst [.str root]) fo = some (.lst ((root :: ends []).map V.str)) := qab
  have nsf : sd ≠ fo := qaf d2 hfo
  have d3 : upd H2 fo (.lst [.str root]) sd = some (.dT (kvF (spr rs later) (qam ps))) := by rw [qag nsf]; exact d2
  generalize upd H2 fo (.lst [.str root]) = H3 at s3 f3 d3 ⊢
  refine ⟨Nat.zero_le _, fun tk htk => ?_⟩
  have hfo0 : H fo = none := s02.free hfo
  have htk0 : H tk = none := s3.free htk
  have nst : sd ≠ tk := qaf d3 htk
  have nft : fo ≠ tk := qaf f3 htk
  have s4 := qad (o := .lst []) s3 htk
  have d4 : upd H3 tk (.lst []) sd = some (.dT (kvF (spr rs later) (qam ps))) := by rw [qag nst]; exact d3
  have f4 : upd H3 tk (.lst []) fo = some (.lst ((root :: ends []).map V.str)) := by rw [qag nft]; exact f3
  have t4 : upd H3 tk (.lst []) tk = some (.lst (qap [])) := qab
  generalize upd H3 tk (.lst []) = H4 at s4 d4 f4 t4 ⊢
  refine ⟨fun m σ H5 => ∃ (tr rem : List T) (g1 g2 g3 : Option V), σ = [some (.ref pa), some (.ref ra), some (.str root), some (.ref la), some (.ref sd), some (.ref fo), some (.ref tk), g1, g2, g3] /\ m = 100 - tr.length /\ rs.Perm (tr ++ rem) /\ qop ps later (root :: ends tr) rem /\ SpT root ps tr /\ qd3 ps later rs root tr.length = (tr, rem) /\ qar H H5 /\ H5 sd = some (.dT (kvF (spr rem later) (qam ps))) /\ H5 fo = some (.lst ((root :: ends tr).map V.str)) /\ H5 tk = some (.lst (qap tr)),
   ⟨_, [], rs, none, none, none, rfl, rfl, List.Perm.refl _, qop.start hnd hst hge, SpT.start hroot, rfl, s4, d4, f4, t4⟩, ?_⟩
  rintro m σ H5 ⟨tr, rem, g1, g2, g3, rfl, rfl, hp, G, S, gF, s5, d5, f5, t5⟩
  have htl : tr.length + 1 <= ps.length := by
   have := qfy S.nd S.sub
   simpa using this
  refine ⟨_, rfl, fo, _, rfl, .inl (SqL.of f5), _, rfl, pa, _, rfl, .inr (SqT.of (s5 _ _ hpa)), _, _, rfl, rfl, _, rfl, qev (fun c => ?_) (fun c => ?_)⟩
  ·have hlt : tr.length + 1 < ps.length := by
    have := of_decide_eq_true c
    simp at this
    omega
   refine ⟨fun σ' H' => ∃ m', m' < 100 - tr.length /\ ∃ (tr rem : List T) (g1 g2 g3 : Option V), σ' = [some (.ref pa), some (.ref ra), some (.str root), some (.ref la), some (.ref sd), some (.ref fo), some (.ref tk), g1, g2, g3] /\ m' = 100 - tr.length /\ rs.Perm (tr ++ rem) /\ qop ps later (root :: ends tr) rem /\ SpT root ps tr /\ qd3 ps later rs root tr.length = (tr, rem) /\ qar H H' /\ H' sd = some (.dT (kvF (spr rem later) (qam ps))) /\ H' fo = some (.lst ((root :: ends tr).map V.str)) /\ H' tk = some (.lst (qap tr)), fun σ' H' q => q, ?_⟩
   have hex : ∃ r ∈ rs, qdb (spr rem later) (qam ps) (root :: ends tr) r := by
    obtain ⟨r, hr, hg⟩ := G.ex (qtv hnd (by simpa using hlt))
    exact ⟨r, hp.mem_iff.mpr (List.mem_append_right _ hr), hg⟩
   refine ⟨_, rfl, _, rfl, _, rfl, ra, fo, sd, rs, root :: ends tr, spr rem later, qam ps, rfl, hra.imp (s5 _ _) (s5 _ _), fun r hr => s5 _ _ (hrow r hr), f5, d5, hl256, hex, fun r t en lts H6 s6 hr hg hfind t6 en6 A6 m6 hen => ?_⟩
   have s06 := s5.trans s6
   have hrow6 := s06 _ _ (hrow r hr)
   have hrem : r ∈ rem := by
    rcases List.mem_append.mp (hp.mem_iff.mp hr) with z | z
    ·exact absurd (List.mem_cons_of_mem _ (List.mem_map_of_mem (f := fun r : T => r.2.2.2) z)) hg.2.1
    ·exact z
   have hpr := List.perm_cons_erase hrem
   have G' := G.step hg hpr
   have S' := S.add hg.1 hg.2.1 (hst r hr).2
   have hp' : rs.Perm ((tr ++ [r]) ++ rem.erase r) := by
    rw [List.append_assoc]
    exact hp.trans (hpr.append_left tr)
   have ee : (root :: ends tr) ++ [r.2.2.2] = root :: ends (tr ++ [r]) := by simp [ends]
   rw [ee] at G'
   have d6 := s6 _ _ d5
   have f6 := s6 _ _ f5
   have t6' := s6 _ _ t5
   have nen1 : en ≠ sd := fun z => by rw [z, d5] at hen; cases hen
   have nen2 : en ≠ fo := fun z => by rw [z, f5] at hen; cases hen
   have nen3 : en ≠ tk := fun z => by rw [z, t5] at hen; cases hen
   refine ⟨t, _, rfl, SqT.of t6, rfl, _, _, rfl, _, _, rfl, rfl, ?_⟩
   have hel : (root :: ends tr).length <= 8 := by simp; omega
   refine ⟨_, rfl, .inl ⟨rfl, _, SqL.of f6⟩, _, rfl, qat (j := 2) (.inr (SqT.of hrow6)) rfl rfl ⟨fo, _, _, rfl, rfl, f6, fits (by rw [List.length_map]; omega), ?_⟩⟩
   have s7 := qb3 (o := .lst ((root :: ends tr).map V.str ++ [V.str r.2.2.2])) s06 hfo0
   have f7 : upd H6 fo (.lst ((root :: ends tr).map V.str ++ [V.str r.2.2.2])) fo = some (.lst ((root :: ends (tr ++ [r])).map V.str)) := by rw [qab]; simp [ends]
   have d7 : upd H6 fo (.lst ((root :: ends tr).map V.str ++ [V.str r.2.2.2])) sd = some (.dT (kvF (spr rem later) (qam ps))) := by rw [qag nsf]; exact d6
   have t7 : upd H6 fo (.lst ((root :: ends tr).map V.str ++ [V.str r.2.2.2])) tk = some (.lst (qap tr)) := by rw [qag nft.symm]; exact t6'
   have en7 : upd H6 fo (.lst ((root :: ends tr).map V.str ++ [V.str r.2.2.2])) en = some (.lst (qan lts)) := by rw [qag nen2]; exact en6
   have A7 : qcq (upd H6 fo (.lst ((root :: ends tr).map V.str ++ [V.str r.2.2.2]))) lts := fun x hx => by
    have := A6 x hx
    rw [qag (fun z => by rw [z, f6] at this; cases this)]; exact this
   generalize upd H6 fo (.lst ((root :: ends tr).map V.str ++ [V.str r.2.2.2])) = H7 at s7 f7 d7 t7 en7 A7 ⊢
   refine ⟨_, rfl, .inl ⟨rfl, _, SqL.of t7⟩, _, rfl, tk, _, _, rfl, rfl, t7, fits (by rw [List.length_map]; omega), ?_⟩
   have s8 := qb3 (o := .lst (qap tr ++ [V.ref r.1])) s7 htk0
   have t8 : upd H7 tk (.lst (qap tr ++ [V.ref r.1])) tk = some (.lst (qap (tr ++ [r]))) := by rw [qab]; simp [qap]
   have d8 : upd H7 tk (.lst (qap tr ++ [V.ref r.1])) sd = some (.dT (kvF (spr rem later) (qam ps))) := by rw [qag nst]; exact d7
   have f8 : upd H7 tk (.lst (qap tr ++ [V.ref r.1])) fo = some (.lst ((root :: ends (tr ++ [r])).map V.str)) := by rw [qag nft]; exact f7
   have en8 : upd H7 tk (.lst (qap tr ++ [V.ref r.1])) en = some (.lst (qan lts)) := by rw [qag nen3]; exact en7
   have A8 : qcq (upd H7 tk (.lst (qap tr ++ [V.ref r.1]))) lts := fun x hx => by
    have := A7 x hx
    rw [qag (fun z => by rw [z, t7] at this; cases this)]; exact this
   generalize upd H7 tk (.lst (qap tr ++ [V.ref r.1])) = H8 at s8 t8 d8 f8 en8 A8 ⊢
   have lnd : (lts.map (·.2)).Nodup := by rw [m6]; exact (qec hnd).filter _
   have hmem : ∀ x ∈ lts, x.2 ∈ qam ps /\ lead x.2 r = true := fun x hx => by
    have : x.2 ∈ lts.map (·.2) := List.mem_map_of_mem hx
    rw [m6] at this
    exact List.mem_filter.mp this
   refine ⟨_, rfl, en, rfl, ⟨_, SqL.of en8⟩, qdn (K := K) (a := en) (xs := qan lts) (fun j σ H9 => (∃ g3, σ = [some (.ref pa), some (.ref ra), some (.str root), some (.ref la), some (.ref sd), some (.ref fo), some (.ref tk), some (.ref r.1), some (.ref en), g3]) /\ qar H H9 /\ H9 sd = some (.dT (kvF (fun l => spr rem later l - (if l ∈ (lts.take j).map (·.2) then 1 else 0)) (qam ps))) /\ H9 fo = some (.lst ((root :: ends (tr ++ [r])).map V.str)) /\ H9 tk = some (.lst (qap (tr ++ [r]))) /\ H9 en = some (.lst (qan lts)) /\ qcq H9 lts)
    ⟨⟨_, rfl⟩, s8, ?_, f8, t8, en8, A8⟩ (fun j σ H9 _ p => SqL.of p.2.2.2.2.2.1) ?_ ?_⟩
   ·rw [d8]
    refine congrArg (fun x => some (HO.dT x)) (qe8 fun l _ => ?_)
    simp
   ·rintro j x σ H9 hx ⟨⟨g3, rfl⟩, s9, d9, f9, t9, en9, A9⟩
    obtain ⟨lt, hlt, rfl⟩ := qbx hx
    have hm := List.mem_of_getElem? hlt
    have hnew : lt.2 ∉ (lts.take j).map (·.2) := fun hmm => by
     have nd := lnd.sublist ((List.take_sublist (j + 1) lts).map (fun x : Addr × List Str => x.2))
     rw [List.take_add_one, hlt, List.map_append] at nd
     exact (List.nodup_append.mp nd).2.2 _ hmm lt.2 (by simp) rfl
    have hA9 := A9 lt hm
    have gd : qjm H9 sd (.ref lt.1) (some (.int (spr rem later lt.2))) := by
     have g := qjm.t (k := qc8 lt.2) (b := lt.1) d9 (by rw [qcv]; exact hA9)
     rw [qez (hmem lt hm).1] at g
     simp only [hnew, if_false, Int.sub_zero] at g
     exact g
    refine ⟨_, rfl, _, rfl, sd, _, rfl, gd, _, _, rfl, rfl, _, qtd.t d9 (by rw [qcv]; exact hA9) (fits (by rw [List.length_map]; omega)), ⟨_, rfl⟩, qb3 s9 hsd, ?_, ?_, ?_, ?_, ?_⟩
    ·rw [qab, qpn (hmem lt hm).1]
     refine congrArg (fun x => some (HO.dT x)) (qe8 fun l _ => ?_)
     rw [List.take_add_one, hlt]
     by_cases e : l = lt.2
     ·subst e
      simp
     ·simp [e]
    ·rw [qag nsf.symm]; exact f9
    ·rw [qag nst.symm]; exact t9
    ·rw [qag nen1]; exact en9
    ·intro x hx
     have := A9 x hx
     rw [qag (fun z => by rw [z, d9] at this; cases this)]; exact this
   ·rintro σ H9 ⟨⟨g3, rfl⟩, s9, d9, f9, t9, en9, A9⟩
    refine ⟨_, ?_, tr ++ [r], rem.erase r, _, _, _, rfl, rfl, hp', G', S', by rw [List.length_append]; exact qk7 gF hfind, s9, ?_, f9, t9⟩
    ·rw [List.length_append]; simp; omega
    ·rw [d9]
     refine congrArg (fun x => some (HO.dT x)) (qe8 fun l hl => ?_)
     rw [take_all lts (by simp), m6, qgx hpr]
     unfold ind
     cases hc : lead l r with
     | true =>
      have : l ∈ (qam ps).filter fun l => lead l r := List.mem_filter.mpr ⟨hl, hc⟩
      simp [this]
     | false =>
      have : l ∉ (qam ps).filter fun l => lead l r := fun z => by
       have := (List.mem_filter.mp z).2
       rw [hc] at this; cases this
      simp [this]
  ·have hle : ps.length <= tr.length + 1 := by
    have : ¬ (((root :: ends tr).map V.str).length : Int) < ((ps.map V.str).length : Int) := fun z => c (decide_eq_true z)
    simp at this
    omega
   exact ⟨_, rfl, k tk tr rem H5 s5 htk0 t5 hp G.ge S (by omega) (by rw [show ps.length - 1 = tr.length by omega]; exact gF)⟩
end
theorem qtf (xs : List V) {n : Nat} (h : n <= xs.length) : qhg xs none (some (n : Int)) = xs.take n := by
 unfold qhg
 have h0 : ¬ ((n : Int) < 0) := by omega
 have h1 : min n xs.length = n := by omega
 simp [HT.sIx, h0]
 first | done | (rw [h1]) | skip
theorem qxy {c : Const} {k : Nat} {p : Pos} {es : List Expr} {env : Env} : starEach (.Constant c k p :: es) env = (false, eval (.Constant c k p) env) :: starEach es env := rfl
theorem qc9 {X : Cx} {x : Str} {j : Nat} {p : Pos} {es : List Expr} {t : TA} (h : PA X es t) : PA X (.Constant (.str x) j p :: es) (qud (tC (.str x)) t) := qaa qfv h qxy
noncomputable def qb6 : List Str := ["root", "source", "sink", "new", "extra", "start", "end", "tie", "place", "point", "from", "super"].map Str.ofString
theorem qks : ∀ x ∈ qb6, qa9 x := by
 intro x hx
 simp only [qb6, List.map_cons, List.map_nil, List.mem_cons, List.not_mem_nil, or_false] at hx
 rcases hx with rfl | rfl | rfl | rfl | rfl | rfl | rfl | rfl | rfl | rfl | rfl | rfl
 all_goals exact qa9.of_codes rfl (by decide) (by decide) (by decide)
theorem qiy : qb6.Nodup := by decide
noncomputable def rot (b n : Nat) : List Str := (List.range n).filterMap fun k => qb6[(b + k) % 12]?
theorem qe4 : qb6.length = 12 := rfl
theorem qnu (b k : Nat) : qb6[(b + k) % 12]? = some (qb6[(b + k) % 12]'(by rw [qe4]; exact Nat.mod_lt _ (by decide))) := List.getElem?_eq_getElem _
theorem qgy (b n : Nat) : rot b (n + 1) = rot b n ++ [qb6[(b + n) % 12]'(by rw [qe4]; exact Nat.mod_lt _ (by decide))] := by
 unfold rot
 rw [List.range_succ, List.filterMap_append]
 simp [qnu]
theorem qi9 (b : Nat) : ∀ n, (rot b n).length = n
 | 0 => rfl
 | n + 1 => by rw [qgy, List.length_append, qi9 b n]; rfl
theorem qnn {b : Nat} : ∀ {n : Nat} {x : Str}, x ∈ rot b n -> ∃ k, k < n /\ qb6[(b + k) % 12]? = some x
 | n, x, h => by
  unfold rot at h
  obtain ⟨k, hk, e⟩ := List.mem_filterMap.mp h
  exact ⟨k, List.mem_range.mp hk, e⟩
theorem qhy (b : Nat) : ∀ {n : Nat}, n <= 12 -> (rot b n).Nodup
 | 0, _ => List.nodup_nil
 | n + 1, h => by
  rw [qgy]
  refine List.nodup_append.mpr ⟨qhy b (by omega), by simp, fun x hx y hy => ?_⟩
  have ey : y = qb6[(b + n) % 12]'(by rw [qe4]; exact Nat.mod_lt _ (by decide)) := by simpa using hy
  obtain ⟨k, hk, e⟩ := qnn hx
  obtain ⟨h1, e'⟩ := List.getElem?_eq_some_iff.mp e
  intro z
  rw [ey, <- e'] at z
  have hp := List.pairwise_iff_getElem.mp qiy
  have hne : (b + k) % 12 ≠ (b + n) % 12 := by omega
  rcases Nat.lt_or_gt_of_ne hne with q | q
  ·exact hp _ _ _ _ q z
  ·exact hp _ _ _ _ q z.symm
theorem qos (b n : Nat) : ∀ x ∈ rot b n, qa9 x := fun x hx => by
 obtain ⟨k, _, e⟩ := qnn hx
 exact qks x (List.mem_of_getElem? e)
noncomputable def qow (fo ns : List Str) : List Str := (fo ++ ns.filter fun x => !decide (x ∈ fo)).take ns.length
theorem qpj {fo ns : List Str} (hf : fo.length <= ns.length) (hn : ns.Nodup) : (qow fo ns).length = ns.length := by
 unfold qow
 rw [List.length_take, List.length_append]
 have h1 : ns.length = (ns.filter fun x => decide (x ∈ fo)).length + (ns.filter fun x => !decide (x ∈ fo)).length := by
  have := List.length_eq_countP_add_countP (l := ns) (fun x => decide (x ∈ fo))
  rw [List.countP_eq_length_filter, List.countP_eq_length_filter] at this
  simpa using this
 have h2 : (ns.filter fun x => decide (x ∈ fo)).length <= fo.length := qfy (hn.filter _) fun x hx => by simpa using (List.mem_filter.mp hx).2
 omega
theorem qlh {fo ns : List Str} (hf : fo.Nodup) (hn : ns.Nodup) : (qow fo ns).Nodup := by
 unfold qow
 refine List.Nodup.sublist (List.take_sublist _ _) (List.nodup_append.mpr ⟨hf, hn.filter _, fun x hx y hy z => ?_⟩)
 have := (List.mem_filter.mp hy).2
 rw [<- z] at this
 simp [hx] at this
theorem qmk {fo ns : List Str} (hf : ∀ x ∈ fo, qa9 x) (hn : ∀ x ∈ ns, qa9 x) : ∀ x ∈ qow fo ns, qa9 x := fun x hx => by
 rcases List.mem_append.mp (List.mem_of_mem_take hx) with z | z
 ·exact hf x z
 ·exact hn x (List.mem_filter.mp z).1
section
variable {P : Program} {w : World} {K : PySem.W.Frag} {mg : Str -> Option Value} {base : Heap}
noncomputable def qng : Sp := fun vs H Q _ => ∃ (p na : Addr) (ns : List Str), vs = [.ref p, .ref na] /\ Pot H p /\ H na = some (.lst (ns.map V.str)) /\ ns.length <= 40 /\ ns.Nodup /\ (∀ x ∈ ns, qa9 x) /\
 ∀ (q : Addr) (ms : List Str) (H' : Hp), Pot H' p -> H' q = some (.lst (ms.map V.str)) -> (∀ x ∈ ms, qa9 x) -> ms.Nodup -> ms.length = ns.length -> Kp [p] H H' -> Q (.ref q) H'
noncomputable abbrev N42 : List Str := ["_law_pot_here", "_law_names_here", "_law_words", "_law_begin", "_law_found"]
theorem qvm : qao N42 ["_law_pot_here", "_law_names_here"] (qai (top 42)) := ⟨rfl, rfl, rfl, by decide +kernel, rfl, by decide +kernel, by decide +kernel⟩
theorem qps {f : Addr} {fd : FuncData} (F : Fun K "_law_named" "_law_named" (top 42) f fd) (B : Bl mg) (Ft : Fn P w K mg base 1 "_law_take" ["_law_pot_here", "_law_many"] qfl) : qca P w K mg base CX0 2 f fd ["_law_pot_here", "_law_names_here"] qng := by
 refine F.ok qvm (fun vs H Q E h => ?_) (fun cdv A outer s H vs Q E hr h => ?_)
 ·obtain ⟨p, na, ns, rfl, _⟩ := h
  rfl
 ·obtain ⟨p, na, ns, rfl, hp, hna, hn40, hnd, hnm, k⟩ := h
  refine' ⟨_, qae ?s1 ?r1, ?main⟩
  case s1 =>
   refine' qax (i := 2) ?nd ?x ?y ?z ?hs ?hf
   case nd => exact qvm.nd
   case x => exact rfl
   case y => exact Or.inr rfl
   case hf => first | exact .inl rfl | exact .inr rfl
   case' z => refine' qbv ?l0
   case l0 => exact qc9 (qc9 (qc9 (qc9 (qc9 (qc9 (qc9 (qc9 (qc9 (qc9 (qc9 (qc9 qac)))))))))))
   case hs => kernel_rfl
  case r1 => exact (qae (qb8 (qay qn5 (qaw Ft hr (qaa (pv 0) (qaa qah qac))) qah (qbg _)) (qak (qav (pv 1))) qa2)
   (qae (qax (i := 3) qvm.nd rfl (Or.inr rfl) (qaw Ft hr (qaa (pv 0) (qaa qah qac))))
   (qae (qax (i := 4) qvm.nd rfl (Or.inr rfl) (qcx (N := ["_law_k", "_law_words", "_law_begin"]) (ix := [none, some 2, some 3]) ⟨rfl, rfl, rfl, by decide⟩ rfl
    (qcg rfl B.range (qaa (qaj (qdw rfl) rfl B.min qnd (qaa (qaj qal rfl B.len PySem.boot_len (qaa (pv 1) qac)) (qaa (qa4 qcu qah (qaw Ft hr (qaa (pv 0) (qaa qah qac)))) qac))) qac)) (fun _ _ _ _ => qbu 0 (by decide) rfl rfl) (fun _ _ _ _ => qbk)
    (fun _ _ _ _ => qa8 (qbm K) (pv 1) (qa4 qel (qa4 qcu (pv 2) (pv 0)) qah) (fun _ _ => rfl))))
   (qak (qav (qdi qgi (qa4 qfg (pv 4) (qcx (N := ["_law_name", "_law_found"]) (ix := [none, some 4]) ⟨rfl, rfl, rfl, by decide⟩ rfl (qbd (pv 1)) (fun _ _ _ _ => qbu 0 (by decide) rfl rfl) (fun _ _ _ _ => qcw (qay (qc1 K) (pv 0) (pv 1) (by with_unfolding_all rfl))) (fun _ _ _ _ => pv 0))) qef (qed (qaj qal rfl B.len PySem.boot_len (qaa (pv 1) qac)))))))))
  case main =>
   refine ⟨by show 12 <= sizeLine; decide, fun wd hwd => ?_⟩
   have nwp := hp.ne_new hwd
   have P1 := hp.new (o := .lst (qb6.map V.str)) hwd
   have K1 := (Kp.refl [p] H).new (o := .lst (qb6.map V.str)) hwd
   have w1 : upd H wd (.lst (qb6.map V.str)) wd = some (.lst (qb6.map V.str)) := qab
   have nnp := qhf hp hna
   have n1 : upd H wd (.lst (qb6.map V.str)) na = some (.lst (ns.map V.str)) := by rw [qag (qaf hna hwd)]; exact hna
   change qw4 _ _ _ _ (upd H wd (.lst (qb6.map V.str)))
   generalize upd H wd (.lst (qb6.map V.str)) = H1 at P1 K1 w1 n1 ⊢
   refine ⟨_, rfl, p, 4, rfl, P1, by decide, by decide, fun r H2 r0 r1 P2 K2 => ⟨_, _, rfl, rfl, _, rfl, ?_⟩⟩
   have K12 := K1.trans K2
   have n2 := K2.at nnp n1
   have w2 := K2.at nwp w1
   refine qev (fun c => ⟨_, rfl, k na ns H2 P2 n2 hnm hnd rfl K12⟩) (fun c => ?_)
   refine ⟨_, rfl, p, 12, rfl, P2, by decide, by decide, fun b H3 b0 b1 P3 K3 => ?_⟩
   have K13 := K12.trans K3
   have n3 := K3.at nnp n2
   have w3 := K3.at nwp w2
   refine ⟨_, rfl, na, _, rfl, .inl (SqL.of n3), _, rfl, p, 6, rfl, P3, by decide, by decide, fun r6 H4 q0 q1 P4 K4 => ⟨_, _, rfl, rfl, _, _, rfl, _, rfl, ?_, ?_, ?_⟩⟩
   ·split <;> omega
   ·rw [List.length_map]; split <;> omega
   have K14 := K13.trans K4
   have n4 := K4.at nnp n3
   have w4 := K4.at nwp w3
   obtain ⟨bn, rfl⟩ := Int.eq_ofNat_of_zero_le b0
   have hcn : ∃ c : Nat, (if (1 + r6 : Int) < ((ns.map V.str).length : Int) then 1 + r6 else ((ns.map V.str).length : Int)).toNat = c /\ c <= ns.length /\ c <= 12 := ⟨_, rfl, by rw [List.length_map]; split <;> omega, by rw [List.length_map]; split <;> omega⟩
   obtain ⟨cn, ecn, hc1, hc2⟩ := hcn
   rw [ecn]
   refine qdk (fits (by omega)) (fun i ys σ H5 => ys = (rot bn i).map V.str /\ H5 = H4 /\ ∃ x, σ = [x, some (.ref wd), some (.int bn)]) ⟨rfl, rfl, _, rfl⟩ (fun i ys σ H5 _ z => by rw [z.1, List.length_map, qi9]; exact Nat.le_refl _) ?_ ?_
   ·rintro i ys σ H5 hi ⟨rfl, rfl, x, rfl⟩
    refine ⟨_, rfl, _, rfl, _, rfl, _, _, rfl, rfl, _, _, rfl, rfl, by show (0 : Int) < 12; decide, ?_⟩
    refine qat (j := (bn + i) % 12) (.inl (SqL.of w4)) (by push_cast; rw [Int.zero_add]) (by rw [List.getElem?_map, qnu]; rfl) ⟨?_, rfl, _, rfl⟩
    rw [qgy]; simp
   rintro ys σ H5 ⟨rfl, rfl, x, rfl⟩ fo hfo
   have nfp := P4.ne_new hfo
   have P6 := P4.new (o := .lst ((rot bn cn).map V.str)) hfo
   have K6 := K14.new (o := .lst ((rot bn cn).map V.str)) hfo
   have f6 : upd H5 fo (.lst ((rot bn cn).map V.str)) fo = some (.lst ((rot bn cn).map V.str)) := qab
   have n6 : upd H5 fo (.lst ((rot bn cn).map V.str)) na = some (.lst (ns.map V.str)) := by rw [qag (qaf n4 hfo)]; exact n4
   generalize upd H5 fo (.lst ((rot bn cn).map V.str)) = H6 at P6 K6 f6 n6 ⊢
   refine ⟨_, rfl, _, rfl, na, rfl, ⟨_, SqL.of n6⟩, qe1 (xs := ns.map V.str) (fits (by rw [List.length_map]; omega)) (fun i ys σ H7 => ys = ((ns.take i).filter fun x => !decide (x ∈ rot bn cn)).map V.str /\ H7 = H6 /\ ∃ x, σ = [x, some (.ref fo)]) ⟨rfl, rfl, _, rfl⟩
    (fun i ys σ H7 _ z => ⟨by rw [z.1, List.length_map]; exact Nat.le_trans (List.length_filter_le _ _) (by rw [List.length_take]; omega), by rw [z.2.1]; exact SqL.of n6⟩) ?_ ?_⟩
   ·rintro i y ys σ H7 hy ⟨rfl, rfl, x, rfl⟩
    rw [List.getElem?_map] at hy
    cases hc : ns[i]? with
    | none => rw [hc] at hy; cases hy
    | some z =>
     rw [hc] at hy
     cases hy
     have tf := qaq (fun x : Str => !decide (x ∈ rot bn cn)) ns i z hc
     refine ⟨_, rfl, _, rfl, fo, _, rfl, .inl (SqL.of f6), rfl, qbf _, _, rfl, ?_⟩
     rw [qb0]
     show if (!decide (z ∈ rot bn cn)) = true then _ else _
     refine qev (fun c => ⟨_, rfl, ?_, rfl, _, rfl⟩) (fun c => ⟨?_, rfl, _, rfl⟩)
     ·rw [tf, c]; simp
     ·rw [tf]; simp only [Bool.not_eq_true] at c; rw [c]; simp
   rintro ys σ H7 ⟨rfl, rfl, x, rfl⟩ l8 hl8
   rw [take_all ns (by simp)]
   have P8 := P6.new (o := .lst ((ns.filter fun x => !decide (x ∈ rot bn cn)).map V.str)) hl8
   have K8 := K6.new (o := .lst ((ns.filter fun x => !decide (x ∈ rot bn cn)).map V.str)) hl8
   have l9 : upd H7 l8 (.lst ((ns.filter fun x => !decide (x ∈ rot bn cn)).map V.str)) l8 = some (.lst ((ns.filter fun x => !decide (x ∈ rot bn cn)).map V.str)) := qab
   have f9 : upd H7 l8 (.lst ((ns.filter fun x => !decide (x ∈ rot bn cn)).map V.str)) fo = some (.lst ((rot bn cn).map V.str)) := by rw [qag (qaf f6 hl8)]; exact f6
   have n9 : upd H7 l8 (.lst ((ns.filter fun x => !decide (x ∈ rot bn cn)).map V.str)) na = some (.lst (ns.map V.str)) := by rw [qag (qaf n6 hl8)]; exact n6
   generalize upd H7 l8 (.lst ((ns.filter fun x => !decide (x ∈ rot bn cn)).map V.str)) = H9 at P8 K8 l9 f9 n9 ⊢
   have hfl := List.length_filter_le (fun x => !decide (x ∈ rot bn cn)) ns
   have hrl := qi9 bn cn
   refine ⟨fo, l8, _, _, rfl, rfl, f9, l9, by rw [List.length_map, List.length_map, sizeLine_eq]; omega, fun ct hct => ?_⟩
   have P10 := P8.new (o := .lst ((rot bn cn).map V.str ++ (ns.filter fun x => !decide (x ∈ rot bn cn)).map V.str)) hct
   have K10 := K8.new (o := .lst ((rot bn cn).map V.str ++ (ns.filter fun x => !decide (x ∈ rot bn cn)).map V.str)) hct
   have c10 : upd H9 ct (.lst ((rot bn cn).map V.str ++ (ns.filter fun x => !decide (x ∈ rot bn cn)).map V.str)) ct = some (.lst ((rot bn cn).map V.str ++ (ns.filter fun x => !decide (x ∈ rot bn cn)).map V.str)) := qab
   have n10 : upd H9 ct (.lst ((rot bn cn).map V.str ++ (ns.filter fun x => !decide (x ∈ rot bn cn)).map V.str)) na = some (.lst (ns.map V.str)) := by rw [qag (qaf n9 hct)]; exact n9
   generalize upd H9 ct (.lst ((rot bn cn).map V.str ++ (ns.filter fun x => !decide (x ∈ rot bn cn)).map V.str)) = H10 at P10 K10 c10 n10 ⊢
   refine ⟨_, rfl, na, _, rfl, .inl (SqL.of n10), _, rfl, ct, _, rfl, SqL.of c10, fun q hq => ?_⟩
   have hlen : (qow (rot bn cn) ns).length = ns.length := qpj (by rw [hrl]; exact hc1) hnd
   have hle : (ns.map V.str).length <= ((rot bn cn).map V.str ++ (ns.filter fun x => !decide (x ∈ rot bn cn)).map V.str).length := by
    unfold qow at hlen
    rw [List.length_take] at hlen
    rw [List.length_map, <- List.map_append, List.length_map]
    omega
   have ec : qhg ((rot bn cn).map V.str ++ (ns.filter fun x => !decide (x ∈ rot bn cn)).map V.str) none (some ((ns.map V.str).length : Int)) = (qow (rot bn cn) ns).map V.str := by
    rw [qtf _ hle, <- List.map_append, <- List.map_take, List.length_map]
    rfl
   rw [ec]
   exact k q (qow (rot bn cn) ns) _ (P10.new hq) qab (qmk (qos bn cn) hnm) (qlh (qhy bn hc2) hnd) hlen (K10.new hq)
end
end K32
namespace L2
open PySem
theorem qou {K : PySem.W.Frag} {tl : TE} {g : TG} {tt : TT} {te : TE} {ix : List (Option Nat)} {n : Nat} {D : Ends} {σ : St} {H Hb : Hp} {a : Addr} {xs : List V} (hn : xs.length < sizeLine) (htl : ∀ Q : VK, Q (.ref a) H -> tl σ H Q) (hb : Hb a = some (.lst xs) \/ Hb a = some (.tup xs)) (s0 : qar Hb H) (Pv : Nat -> List V -> St -> Hp -> Prop) (h0 : Pv 0 [] (emb ix σ) H)
  (hl : ∀ i ys σ' H', i <= xs.length -> Pv i ys σ' H' -> ys.length <= i /\ qar Hb H')
  (hs : ∀ i x ys σ H, xs[i]? = some x -> Pv i ys σ H -> g x σ H fun σ2 H2 => tt σ2 H2 fun b H3 => if b = true then te σ2 H3 (fun v H4 => Pv (i + 1) (ys ++ [v]) σ2 H4) else Pv (i + 1) ys σ2 H3)
  (hd : ∀ ys σ' H, Pv xs.length ys σ' H -> ∀ p, H p = none -> D.nx (σ.set n (some (.ref p))) (upd H p (.lst ys))) : qqv n (iOr (qsr K tl) (qwu K tl)) g tt te ix D σ H := by
 rcases hb with hb | hb
 ·exact .inl (htl _ ⟨a, rfl, ⟨xs, SqL.of (s0 _ _ hb)⟩, qgz hn Pv h0 (fun i ys σ H' hi p => ⟨(hl i ys σ H' hi p).1, SqL.of ((hl i ys σ H' hi p).2 _ _ hb)⟩) hs hd⟩)
 ·exact .inr (htl _ ⟨a, rfl, ⟨xs, SqT.of (s0 _ _ hb)⟩, qjf hn Pv h0 (fun i ys σ H' hi p => ⟨(hl i ys σ H' hi p).1, SqT.of ((hl i ys σ H' hi p).2 _ _ hb)⟩) hs hd⟩)
end L2
namespace K32
open PySem L2
theorem qr4 (K : PySem.W.Frag) {X : Cx} {k : Nat} (hr : qcl k X.A) (h : X.K = K := by rfl) : OpR X (compareOp .NotIn) (qom K) := by subst h; exact qnq hr
noncomputable abbrev tri (r : T) : List Str := [r.2.1, r.2.2.1, r.2.2.2]
noncomputable abbrev tna (tr : List T) : List Str := tr.map fun r => r.2.1
theorem ql1 {cur tr rem : List T} (hp : cur.Perm (tr ++ rem)) (hn : (tna cur).Nodup) : (cur.filter fun r => !decide (tri r ∈ tr.map tri)).Perm rem := by
 have h1 := hp.filter (fun r => !decide (tri r ∈ tr.map tri))
 rw [List.filter_append] at h1
 have hn' : (tna (tr ++ rem)).Nodup := (hp.map _).nodup_iff.mp hn
 have e1 : tr.filter (fun r => !decide (tri r ∈ tr.map tri)) = [] := List.filter_eq_nil_iff.mpr fun r hr => by
  have : tri r ∈ tr.map tri := List.mem_map_of_mem hr
  simp [this]
 have e2 : rem.filter (fun r => !decide (tri r ∈ tr.map tri)) = rem := List.filter_eq_self.mpr fun r hr => by
  have : tri r ∉ tr.map tri := fun z => by
   obtain ⟨q, hq, e⟩ := List.mem_map.mp z
   have e' : q.2.1 = r.2.1 := (List.cons.inj e).1
   have hn2 : (tna tr ++ tna rem).Nodup := by rw [<- List.map_append]; exact hn'
   exact (List.nodup_append.mp hn2).2.2 q.2.1 (List.mem_map_of_mem (f := fun r : T => r.2.1) hq) r.2.1 (List.mem_map_of_mem (f := fun r : T => r.2.1) hr) e'
  simp [this]
 rw [e1, e2, List.nil_append] at h1
 exact h1
theorem qp8 {a b : List T} (h : a.Perm b) (rts l : List Str) : spr a rts l = spr b rts l := by unfold spr; rw [qkp h]
noncomputable def qd4 (ps rts : List Str) (rs : List T) : Nat -> List (List T) × List T
 | 0 => ([], rs)
 | n + 1 => match rts[n]? with
  | some root => ((qd4 ps rts rs n).1 ++ [(qd3 ps (rts.drop (n + 1)) (qd4 ps rts rs n).2 root (ps.length - 1)).1], (qd4 ps rts rs n).2.filter fun r => !decide (tri r ∈ ((qd3 ps (rts.drop (n + 1)) (qd4 ps rts rs n).2 root (ps.length - 1)).1).map tri))
  | none => qd4 ps rts rs n
theorem qi6 {ps rts : List Str} {rs cur tr rem : List T} {trs : List (List T)} {n : Nat} {root : Str} (h : qd4 ps rts rs n = (trs, cur)) (hn : rts[n]? = some root) (hg : qd3 ps (rts.drop (n + 1)) cur root (ps.length - 1) = (tr, rem)) : qd4 ps rts rs (n + 1) = (trs ++ [tr], cur.filter fun r => !decide (tri r ∈ tr.map tri)) := by
 show (match rts[n]? with | some root => _ | none => _) = _
 rw [hn]
 dsimp only
 rw [h]
 dsimp only
 rw [hg]
structure Trs (ps rts : List Str) (rs : List T) (n : Nat) (trs : List (List T)) (tls : List (Addr × List Str)) (cur : List T) : Prop where
 l1 : trs.length = n
 l2 : tls.length = n
 pm : rs.Perm (trs.flatten ++ cur)
 fn : qd4 ps rts rs n = (trs, cur)
 tr : ∀ (i : Nat) (root : Str) (tr : List T) (x : Addr × List Str), rts[i]? = some root -> trs[i]? = some tr -> tls[i]? = some x -> SpT root ps tr /\ tr.length + 1 = ps.length /\ x.2.Perm (tna tr) /\ PyProof.Rows.sortedS x.2 = true
theorem Trs.add {ps rts : List Str} {rs : List T} {n : Nat} {trs : List (List T)} {tls : List (Addr × List Str)} {cur : List T} (h : Trs ps rts rs n trs tls cur) {root : Str} {tr cur' : List T} {x : Addr × List Str} (hn : rts[n]? = some root) (hp : cur.Perm (tr ++ cur')) (S : SpT root ps tr) (hl : tr.length + 1 = ps.length) (hx : x.2.Perm (tna tr)) (hso : PyProof.Rows.sortedS x.2 = true) (hfn : qd4 ps rts rs (n + 1) = (trs ++ [tr], cur')) : Trs ps rts rs (n + 1) (trs ++ [tr]) (tls ++ [x]) cur' where
 l1 := by rw [List.length_append, h.l1]; rfl
 l2 := by rw [List.length_append, h.l2]; rfl
 pm := by
  rw [List.flatten_append, List.append_assoc]
  refine h.pm.trans (List.Perm.append_left _ ?_)
  simpa using hp
 fn := hfn
 tr := fun i rt t y hr ht hy => by
  by_cases hi : i < n
  ·rw [List.getElem?_append_left (by rw [h.l1]; exact hi)] at ht
   rw [List.getElem?_append_left (by rw [h.l2]; exact hi)] at hy
   exact h.tr i rt t y hr ht hy
  ·have hlt : i < (trs ++ [tr]).length := (List.getElem?_eq_some_iff.mp ht).1
   rw [List.length_append, h.l1] at hlt
   have e : i = n := by simp at hlt; omega
   subst e
   rw [List.getElem?_append_right (by rw [h.l1]; exact Nat.le_refl _), h.l1, Nat.sub_self] at ht
   rw [List.getElem?_append_right (by rw [h.l2]; exact Nat.le_refl _), h.l2, Nat.sub_self] at hy
   rw [hn] at hr
   cases hr
   have e1 : t = tr := by simpa using ht.symm
   have e2 : y = x := by simpa using hy.symm
   subst e1 e2
   exact ⟨S, hl, hx, hso⟩
section
variable {P : Program} {w : World} {K : PySem.W.Frag} {mg : Str -> Option Value} {base : Heap}
noncomputable def qml (C : Addr) : Sp := fun vs H Q E => ∃ (v pa ra a : Addr) (ps rts : List Str) (rs : List T), vs = [.ref v, .ref a] /\ qdg H v pa ra ps rs /\ Good ps (rs.map (·.2)) /\ ps.length <= 8 /\ H a = some (.tup (rts.map V.str)) /\ rts.length <= 100 /\ (∀ x ∈ rts, x ∈ ps) /\
 ∀ H', qar H H' -> ((∀ l ∈ qam ps, 0 <= spr rs rts l) -> ∀ (q : Addr) (trs : List (List T)) (tls : List (Addr × List Str)) (cur : List T), H q = none -> H' q = some (.lst (qan tls)) -> qcq H' tls -> Trs ps rts rs rts.length trs tls cur -> Q (.ref q) H') /\
  (∀ l ∈ qam ps, spr rs rts l < 0 -> ∀ dx u, H' dx = some (.xd [(Str.ofString "lot", .ref u)]) -> H' u = some (.tup (l.map V.str)) -> E (.ref C) (some dx) H')
noncomputable abbrev N35 : List Str := ["web", "roots", "places", "rows", "trees", "at", "root", "tree"]
theorem qqp : qao N35 ["web", "roots"] (qai (top 35)) := ⟨rfl, rfl, rfl, by decide +kernel, rfl, by decide +kernel, by decide +kernel⟩
theorem qpu {f C : Addr} {fd : FuncData} (F : Fun K "trees_from" "trees_from" (top 35) f fd) (B : Bl mg) (F1 : FnX P w K mg base 4 "need_enough" ["web", "roots"] (qj7 C)) (F2 : Fn P w K mg base 4 "grown" ["places", "rows", "root", "later"] qmn) : qca P w K mg base (CXE P w) 5 f fd ["web", "roots"] (qml C) := by
 refine F.okX qqp (fun vs H Q E h => ?_) (fun cdv A outer s H vs Q E hr h => ?_)
 ·obtain ⟨v, pa, ra, a, ps, rts, rs, rfl, _⟩ := h
  rfl
 ·obtain ⟨v, pa, ra, a, ps, rts, rs, rfl, W, G, h8, ha, hr100, hin, k⟩ := h
  refine ⟨_, qae (qch (qq4 (E := E) F1 hr qt6 (qaa (pv 0) (qaa (pv 1) qac))))
   (qae (qfc (pv 0) (qej rfl (n := 2) (qa3 (qa0 (i := 2) qqp.nd rfl (Or.inl rfl)) (qa3 (qa0 (i := 3) qqp.nd rfl (Or.inl rfl)) qc6))))
   (qae (qax (i := 4) qqp.nd rfl (Or.inl rfl) (qbv qac))
   (qae (qcn PassesOwn.leaving rfl (qt1 rfl B.enumerate (qaa (pv 1) qac)) (qej rfl (n := 2) (qa3 (qa0 (i := 5) qqp.nd rfl (Or.inl rfl)) (qa3 (qa0 (i := 6) qqp.nd rfl (Or.inl rfl)) qc6)))
    (qae (qax (i := 7) qqp.nd rfl (Or.inr rfl) (qaw F2 hr (qaa (pv 2) (qaa (pv 3) (qaa (pv 6) (qaa (qdi qrq (pv 1) (qed (qa4 qcu (pv 5) qah)) qef) qac))))))
    (qae (qdj (i := 3) (N := ["row", "tree"]) (ix := [none, some 7]) qqp.nd rfl (Or.inl rfl) ⟨rfl, rfl, rfl, by decide⟩ rfl (qp4 (qbd (pv 3)) (qda (pv 3))) (fun _ _ _ _ => qbu 0 (by decide) rfl rfl) (fun _ _ _ _ => qcw (qay (qr4 K hr) (pv 0) (pv 1) (by with_unfolding_all rfl))) (fun _ _ _ _ => pv 0))
    (qak (qch (qhr PySem.F.plainAttrs_list PySem.F.slot_list_append PySem.F.type_list_append qcz (pv 4) (qaa (qbs qc3 rfl B.tuple qdh (qaa (qaj qcs rfl B.sorted qdl (qaa (PE.nox (qcx (N := ["row"]) (ix := [none]) ⟨rfl, rfl, rfl, by decide⟩ rfl (qbd (pv 7)) (fun _ _ _ _ => qbu 0 (by decide) rfl rfl) (fun _ _ _ _ => qbk) (fun _ _ _ _ => qa8 (qbm K) (pv 0) qah (fun _ _ => rfl)))) qac)) qac)) qac)))))))
   (qak (qav (pv 4)))))), ?_⟩
  have hnd := qcp G.so
  have hrz : rs.length <= 60 := by have := G.rz; simpa using this
  have hst : ∀ r ∈ rs, qa9 r.2.1 /\ r.2.2.1 ∈ ps /\ r.2.2.2 ∈ ps := fun r hr => by
   obtain ⟨h1, h2, h3, _⟩ := G.rn r.2 (List.mem_map_of_mem hr)
   exact ⟨h1, h2, h3⟩
  have htn : (tna rs).Nodup := by
   have := qcp G.rso
   rw [List.map_map] at this
   exact this
  refine ⟨_, rfl, _, rfl, v, pa, ra, a, ps, rts, rs, rfl, W, hnd, h8, hrz, ha, hr100, fun H1 s1 => ⟨fun hge => ?_, fun l hl hneg dx u hdx hu => (k H1 s1).2 l hl hneg dx u hdx hu⟩⟩
  have W1 := W.same s1
  have a1 := s1 _ _ ha
  refine ⟨_, rfl, v, _, rfl, SqT.of W1.tp, rfl, _, _, rfl, _, _, rfl, rfl, Nat.zero_le _, fun tk htk => ?_⟩
  have s2 := qad (o := .lst []) s1 htk
  have htk0 := s1.free htk
  have t2 : upd H1 tk (.lst []) tk = some (.lst (qan [])) := qab
  generalize upd H1 tk (.lst []) = H2 at s2 t2 ⊢
  refine ⟨_, rfl, a, _, rfl, SqT.of (s2 _ _ ha), qre (K := K) (a := a) (xs := rts.map V.str) (fun i σ H3 => ∃ (rc : Addr) (trs : List (List T)) (tls : List (Addr × List Str)) (cur : List T) (g1 g2 g3 : Option V), σ = [some (.ref v), some (.ref a), some (.ref pa), some (.ref rc), some (.ref tk), g1, g2, g3] /\ qar H H3 /\ H3 tk = some (.lst (qan tls)) /\ qcq H3 tls /\ (H3 rc = some (.lst (qap cur)) \/ H3 rc = some (.tup (qap cur))) /\ rc ≠ tk /\ cur.Sublist rs /\ Trs ps rts rs i trs tls cur /\ ∀ l ∈ qam ps, 0 <= spr cur (rts.drop i) l)
   ⟨ra, [], [], rs, none, none, none, rfl, s2, t2, (fun x hx => nomatch hx), .inr (s2 _ _ W.rl), (fun z => by have := W.rl; rw [z, htk0] at this; cases this), List.Sublist.refl _, ⟨rfl, rfl, by simp, rfl, fun i rt t x _ ht => by simp at ht⟩, hge⟩
   (fun i σ H3 _ p => by obtain ⟨_, _, _, _, _, _, _, _, s3, _⟩ := p; exact SqT.of (s3 _ _ ha)) ?_ ?_⟩
  ·rintro i x σ H3 T0 hx ⟨rc, trs, tls, cur, g1, g2, g3, rfl, s3, t3, A3, c3, nct, hsub, R3, hge3⟩ hT0
   rw [List.getElem?_map] at hx
   cases hc : rts[i]? with
   | none => rw [hc] at hx; cases hx
   | some root =>
    rw [hc] at hx
    cases hx
    have hi : i < rts.length := (List.getElem?_eq_some_iff.mp hc).1
    have s4 := qad (o := .tup [.int i, .str root]) (qar.refl H3) hT0
    have T4 : upd H3 T0 (.tup [.int i, .str root]) T0 = some (.tup [.int i, .str root]) := qab
    generalize upd H3 T0 (.tup [.int i, .str root]) = H4 at s4 T4 ⊢
    have s04 := s3.trans s4
    refine ⟨T0, _, rfl, SqT.of T4, rfl, _, _, rfl, _, _, rfl, rfl, ?_⟩
    have hdrop : rts.drop i = root :: rts.drop (i + 1) := by
     rw [List.drop_eq_getElem_cons hi]
     have := (List.getElem?_eq_some_iff.mp hc).2
     rw [this]
    have hcut : qhg (rts.map V.str) (some ((i : Int) + 1)) none = (rts.drop (i + 1)).map V.str := by
     have := qjv (rts.map V.str) (n := i + 1) (by rw [List.length_map]; omega)
     rw [List.map_drop]
     exact this
    refine ⟨_, rfl, _, rfl, _, rfl, _, rfl, _, rfl, _, _, rfl, rfl, _, rfl, a, _, rfl, SqT.of (s04 _ _ ha), fun e => ?_, fun la hla => ?_⟩
    ·rw [hcut] at e
     have := congrArg List.length e
     simp at this
     omega
    rw [hcut]
    have s5 := qad (o := .tup ((rts.drop (i + 1)).map V.str)) (qar.refl H4) hla
    have l5 : upd H4 la (.tup ((rts.drop (i + 1)).map V.str)) la = some (.tup ((rts.drop (i + 1)).map V.str)) := qab
    generalize upd H4 la (.tup ((rts.drop (i + 1)).map V.str)) = H5 at s5 l5 ⊢
    have s05 := s04.trans s5
    have s35 := s4.trans s5
    have hcl : cur.length <= 60 := Nat.le_trans hsub.length_le hrz
    have hcn : (tna cur).Nodup := htn.sublist (hsub.map _)
    refine ⟨pa, rc, la, root, ps, rts.drop (i + 1), cur, rfl, s05 _ _ W.pl, c3.imp (s35 _ _) (s35 _ _), fun r hr => s05 _ _ (W.rows r (hsub.subset hr)), hcl, hnd, h8, hin root (List.mem_of_getElem? hc), fun r hr => (hst r (hsub.subset hr)).2, l5, by rw [List.length_drop]; omega, by rw [<- hdrop]; exact hge3, fun q tr rem H6 s6 hq q6 hp hge6 S hl hgF => ?_⟩
    have s36 := s35.trans s6
    have s06 := s3.trans s36
    have htr : ∀ r ∈ tr, r ∈ rs := fun r hr => hsub.subset (hp.mem_iff.mpr (List.mem_append_left _ hr))
    have hnm3 : ∀ r ∈ rs, ∀ z ∈ tri r, qa9 z := fun r hr z hz => by
     obtain ⟨h1, h2, h3⟩ := hst r hr
     simp [tri] at hz
     rcases hz with e | e | e
     ·rw [e]; exact h1
     ·rw [e]; exact G.nm _ h2
     ·rw [e]; exact G.nm _ h3
    have htrl : tr.length <= 8 := by omega
    refine qou (K := K) (Hb := H6) (a := rc) (xs := qap cur) (fits (by rw [List.length_map]; omega)) (fun Q q => ⟨_, rfl, q⟩) (c3.imp (s36 _ _) (s36 _ _)) (qar.refl H6) (fun j ys σ H7 => ys = qap ((cur.take j).filter fun r => !decide (tri r ∈ tr.map tri)) /\ H7 = H6 /\ ∃ x, σ = [x, some (.ref q)]) ⟨rfl, rfl, _, rfl⟩
     (fun j ys σ H7 _ p => ⟨by rw [p.1, List.length_map]; exact Nat.le_trans (List.length_filter_le _ _) (by rw [List.length_take]; omega), by rw [p.2.1]; exact qar.refl H6⟩) ?_ ?_
    ·rintro j y ys σ H7 hy ⟨rfl, rfl, x, rfl⟩
     obtain ⟨r, hrj, rfl⟩ := qbp hy
     have hrm := hsub.subset (List.mem_of_getElem? hrj)
     have tf := qaq (fun r : T => !decide (tri r ∈ tr.map tri)) cur j r hrj
     refine ⟨_, rfl, _, rfl, r.1, q, tri r, tr.map (fun r => (r.1, tri r)), rfl, rfl, s06 _ _ (W.rows r hrm), hnm3 r hrm, SqL.of (by rw [q6]; simp [qan, qap]), ?_, ?_, _, rfl, ?_⟩
     ·intro x hx
      obtain ⟨t, ht, rfl⟩ := List.mem_map.mp hx
      exact s06 _ _ (W.rows t (htr t ht))
     ·intro x hx z hz
      obtain ⟨t, ht, rfl⟩ := List.mem_map.mp hx
      exact hnm3 t (htr t ht) z hz
     ·have e : (tr.map fun r => (r.1, tri r)).map (·.2) = tr.map tri := by rw [List.map_map]; rfl
      rw [e]
      refine qev (fun c => ⟨_, rfl, ?_, rfl, _, rfl⟩) (fun c => ⟨?_, rfl, _, rfl⟩)
      ·rw [tf, if_pos c]; simp [qap]
      ·rw [tf, if_neg c]; simp
    rintro ys σ' H7 ⟨rfl, rfl, x, rfl⟩ rn hrn
    rw [take_all cur (by simp)]
    have hlp := ql1 hp hcn
    have hsub' := (List.filter_sublist (l := cur) (p := fun r => !decide (tri r ∈ tr.map tri))).trans hsub
    generalize hcur' : (cur.filter fun r => !decide (tri r ∈ tr.map tri)) = cur' at hlp hsub' ⊢
    have s8 := qad (o := .lst (qap cur')) (qar.refl H7) hrn
    have n8 : upd H7 rn (.lst (qap cur')) rn = some (.lst (qap cur')) := qab
    generalize upd H7 rn (.lst (qap cur')) = H8 at s8 n8 ⊢
    have s38 := s36.trans s8
    have s08 := s3.trans s38
    have t8 := s38 _ _ t3
    have q8 := s8 _ _ q6
    have nrt : rn ≠ tk := fun z => by rw [z, s36 _ _ t3] at hrn; cases hrn
    refine ⟨_, rfl, .inl ⟨rfl, _, SqL.of t8⟩, _, rfl, q, rfl, ⟨_, SqL.of q8⟩, qcj (xs := qap tr) (fits (by rw [List.length_map]; omega)) (fun j ys σ H9 => ys = (tna (tr.take j)).map V.str /\ H9 = H8 /\ ∃ x, σ = [x]) ⟨rfl, rfl, _, rfl⟩
     (fun j ys σ H9 _ p => ⟨by rw [p.1]; simp; omega, by rw [p.2.1]; exact SqL.of q8⟩) ?_ ?_⟩
    ·rintro j y ys σ H9 hy ⟨rfl, rfl, x, rfl⟩
     obtain ⟨r, hrj, rfl⟩ := qbp hy
     refine ⟨_, rfl, qat (j := 0) (.inr (SqT.of (s08 _ _ (W.rows r (htr r (List.mem_of_getElem? hrj)))))) rfl rfl ⟨?_, rfl, _, rfl⟩⟩
     rw [List.take_add_one, hrj]; simp
    rintro ys σ H9 ⟨rfl, rfl, x, rfl⟩ l9 hl9
    rw [take_all tr (by simp)]
    have s10 := qad (o := .lst ((tna tr).map V.str)) (qar.refl H9) hl9
    have l10 : upd H9 l9 (.lst ((tna tr).map V.str)) l9 = some (.lst ((tna tr).map V.str)) := qab
    generalize upd H9 l9 (.lst ((tna tr).map V.str)) = H10 at s10 l10 ⊢
    refine ⟨l9, tna tr, rfl, SqL.of l10, by simp; omega, fun ss q11 hpm hso hq11 => ?_⟩
    have s11 := qad (o := .lst (ss.map V.str)) (qar.refl H10) hq11
    have q11' : upd H10 q11 (.lst (ss.map V.str)) q11 = some (.lst (ss.map V.str)) := qab
    generalize upd H10 q11 (.lst (ss.map V.str)) = H11 at s11 q11' ⊢
    refine ⟨q11, _, rfl, .inl ⟨SqL.of q11', fun tt htt => ?_⟩⟩
    have s12 := qad (o := .tup (ss.map V.str)) (qar.refl H11) htt
    have t12 : upd H11 tt (.tup (ss.map V.str)) tt = some (.tup (ss.map V.str)) := qab
    generalize upd H11 tt (.tup (ss.map V.str)) = H12 at s12 t12 ⊢
    have s812 := s10.trans (s11.trans s12)
    have s312 := s38.trans s812
    have hti : tls.length <= 100 := by rw [R3.l2]; omega
    refine ⟨tk, _, _, rfl, rfl, s312 _ _ t3, fits (by rw [List.length_map]; omega), ?_⟩
    refine ⟨rn, trs ++ [tr], tls ++ [(tt, ss)], cur', _, _, _, rfl, qb3 (s3.trans s312) htk0, ?_, ?_, .inl ?_, nrt, hsub', R3.add hc (hp.trans (hlp.symm.append_left tr)) S hl hpm hso (by rw [<- hcur']; exact qi6 R3.fn hc hgF), fun l hl => ?_⟩
    ·rw [qab]; simp [qan]
    ·intro y hy
     rcases List.mem_append.mp hy with z | z
     ·have := s312 _ _ (A3 y z)
      rw [qag (fun e => by rw [e, s312 _ _ t3] at this; cases this)]; exact this
     ·have e : y = (tt, ss) := by simpa using z
      subst e
      rw [qag (fun e : tt = tk => by rw [e, s312 _ _ t3] at t12; cases t12)]; exact t12
    ·rw [qag nrt]; exact s812 _ _ n8
    ·rw [qp8 hlp]; exact hge6 l hl
  ·rintro σ H3 ⟨rc, trs, tls, cur, g1, g2, g3, rfl, s3, t3, A3, c3, nct, hsub, R3, hge3⟩
   rw [List.length_map] at R3
   exact ⟨_, rfl, (k H3 s3).1 hge tk trs tls cur htk0 t3 A3 R3⟩
end
mutual
theorem qkd : ∀ d : PyData, d.canLay0 = true -> PyData.eqv d d = true
 | .none, _ => by simp [PyData.eqv]
 | .bool b, _ => by simp [PyData.eqv]
 | .int i, _ => by simp [PyData.eqv]
 | .str x, _ => by simp [PyData.eqv]
 | .list xs, h => by rw [PyData.eqv]; exact qds xs (by simpa [PyData.canLay0] using h)
 | .tuple xs, h => by rw [PyData.eqv]; exact qds xs (by simpa [PyData.canLay0] using h)
 | .dict _, h => by simp [PyData.canLay0] at h
theorem qds : ∀ ds : List PyData, PyData.canLayAll0 ds = true -> PyData.eqvAll ds ds = true
 | [], _ => by simp [PyData.eqvAll]
 | d :: ds, h => by
  simp only [PyData.canLayAll0, Bool.and_eq_true] at h
  rw [PyData.eqvAll, qkd d h.1, qds ds h.2]
  rfl
end
noncomputable abbrev qvk (ts : List Str) : PyData := .tuple (ts.map PyData.str)
noncomputable abbrev tlD (tl : List (List Str)) : PyData := .list (tl.map qvk)
theorem qqn {H : Hp} : ∀ {tss : List (Addr × List Str)}, qcq H tss -> DVs H (qan tss) ((tss.map (·.2)).map qvk)
 | [], _ => .nil
 | r :: t, h => .cons (.tup (h r List.mem_cons_self) (DVs.strs _)) (qqn fun x hx => h x (List.mem_cons_of_mem _ hx))
theorem qje : ∀ {tl : List (List Str)}, (∀ ts ∈ tl, ∀ y ∈ ts, qa9 y) -> PyData.canLayAll0 (tl.map qvk) = true /\ PyData.depthAll (tl.map qvk) <= 1
 | [], _ => ⟨rfl, Nat.zero_le _⟩
 | ts :: t, h => by
  have ih := qje (tl := t) fun x hx => h x (List.mem_cons_of_mem _ hx)
  have q := qj8 (h ts List.mem_cons_self)
  rw [List.map_cons]
  have i2 := ih.2
  simp only [PyData.canLayAll0, PyData.canLay0, PyData.depthAll, PyData.depth, q.1, q.2, ih.1]
  exact ⟨rfl, by omega⟩
theorem shT {tl : List (List Str)} (h : ∀ ts ∈ tl, ∀ y ∈ ts, qa9 y) : SeqAt.shaped (tlD tl) = true := by
 have q := qje h
 have i2 := q.2
 have hc : (tlD tl).canLay0 = true := by simp only [tlD, PyData.canLay0, q.1]
 have hd : (tlD tl).depth <= 2 := by simp only [tlD, PyData.depth]; omega
 unfold SeqAt.shaped
 rw [hc, decide_eq_true (by omega)]
 rfl
theorem qqb (tl : List (List Str)) : PyData.eqv (tlD tl) (.list []) = decide (tl = []) := by
 cases tl with
 | nil => simp [PyData.eqv, PyData.eqvAll]
 | cons x r => simp [PyData.eqv, PyData.eqvAll]
section
variable {P : Program} {w : World} {K : PySem.W.Frag} {mg : Str -> Option Value} {base : Heap}
end
section
variable {P : Program} {w : World} {K : PySem.W.Frag} {mg : Str -> Option Value} {base : Heap}
noncomputable def qg5 (C : Addr) : Sp := fun vs H Q E => ∃ (v pa ra : Addr) (ps : List Str) (rs : List T) (root : Str) (m : Nat), vs = [.ref v, .str root, .int m] /\ qdg H v pa ra ps rs /\ Good ps (rs.map (·.2)) /\ ps.length <= 8 /\ root ∈ ps /\ m <= 6 /\
 ∀ H', qar H H' -> ((∀ l ∈ qam (others ps root), m <= cnt rs l) -> ∀ (q : Addr) (trs : List (List T)) (tls : List (Addr × List Str)) (cur : List T), H q = none -> H' q = some (.lst (qan tls)) -> qcq H' tls -> Trs ps (List.replicate m root) rs m trs tls cur -> Q (.ref q) H') /\
  (∀ l ∈ qam (others ps root), cnt rs l < m -> ∀ dx u, H' dx = some (.xd [(Str.ofString "lot", .ref u)]) -> H' u = some (.tup (l.map V.str)) -> E (.ref C) (some dx) H')
theorem qx6 : qao ["web", "root", "many"] ["web", "root", "many"] (qai (top 36)) := ⟨rfl, rfl, rfl, by decide +kernel, rfl, by decide +kernel, by decide +kernel⟩
theorem ql5 {f C : Addr} {fd : FuncData} (F : Fun K "shares" "shares" (top 36) f fd) (B : Bl mg)
  (F1 : Fn P w K mg base 4 "need_web" ["thing"] (qo5 .non)) (F2 : Fn P w K mg base 2 "need_place" ["web", "thing"] qe9) (F3 : Fn P w K mg base 2 "need_number" ["thing", "low", "high"] qke) (F4 : FnX P w K mg base 5 "trees_from" ["web", "roots"] (qml C)) : qca P w K mg base (CXE P w) 6 f fd ["web", "root", "many"] (qg5 C) := by
 refine F.okX qx6 (fun vs H Q E h => ?_) (fun cdv A outer s H vs Q E hr h => ?_)
 ·obtain ⟨v, pa, ra, ps, rs, root, m, rfl, _⟩ := h
  rfl
 ·obtain ⟨v, pa, ra, ps, rs, root, m, rfl, W, G, h8, hroot, hm6, k⟩ := h
  have hr4 : qcl 4 _ := hr.mono (by decide)
  have hr2 : qcl 2 _ := hr.mono (by decide)
  obtain ⟨tm, hmost⟩ := B.most
  refine ⟨_, qae (qch (qaw F1 hr4 (qaa (pv 0) qac))) (qae (qch (qaw F2 hr2 (qaa (pv 0) (qaa (pv 1) qac))))
   (qae (qch (qaw F3 hr2 (qaa (pv 2) (qaa qah (qaa (qbz (v := .int 6) rfl hmost ⟨_, rfl⟩) qac)))))
   (qak (qav (qq4 (E := E) F4 hr qt6 (qaa (pv 0) (qaa (qa4 qs4 (qcr (qaa (pv 1) qac)) (pv 2)) qac))))))), ?_⟩
  have hnd := qcp G.so
  refine ⟨_, rfl, v, pa, ra, ps, rs, rfl, W, G, fun H1 s1 => ?_⟩
  have W1 := W.same s1
  refine ⟨_, rfl, _, rfl, v, pa, ra, ps, rs, root, rfl, W1, hroot, ?_⟩
  refine ⟨_, rfl, (m : Int), 0, 6, rfl, by omega, by omega, ?_⟩
  refine ⟨_, rfl, _, rfl, by show 1 <= sizeLine; decide, fun t0 ht0 => ?_⟩
  have s1' := qad (o := .tup [.str root]) (qar.refl H1) ht0
  have t1 : upd H1 t0 (.tup [.str root]) t0 = some (.tup [.str root]) := qab
  generalize upd H1 t0 (.tup [.str root]) = H1b at s1' t1 ⊢
  refine ⟨_, rfl, t0, (m : Int), [.str root], rfl, rfl, t1, by simp, by show 1 <= 1000; decide, by omega, by omega, fun a H2 s2 a2 => ?_⟩
  have ea : (List.replicate ((m : Int)).toNat [V.str root]).flatten = (List.replicate m root).map V.str := by
   rw [Int.toNat_natCast, List.map_replicate]
   exact qjp _ _
  rw [ea] at a2
  have s02 := s1.trans (s1'.trans s2)
  have W2 := W.same s02
  refine ⟨v, pa, ra, a, ps, List.replicate m root, rs, rfl, W2, G, h8, a2, by rw [List.length_replicate]; omega, fun x hx => by rw [List.eq_of_mem_replicate hx]; exact hroot, fun H3 s3 => ⟨fun hge q trs tls cur hq q3 A3 R3 => ?_, fun l hl hneg dx u hdx hu => ?_⟩⟩
  ·rw [List.length_replicate] at R3
   refine (k H3 (s02.trans s3)).1 (fun l hl => ?_) q trs tls cur (s02.free hq) q3 A3 R3
   obtain ⟨h1, h2⟩ := (qfm hnd).mp hl
   have := hge l h1
   rw [qjb, if_neg h2] at this
   omega
  ·have h2 : root ∉ l := fun z => by
    rw [qjb, if_pos z] at hneg
    omega
   rw [qjb, if_neg h2] at hneg
   exact (k H3 (s02.trans s3)).2 l ((qfm hnd).mpr ⟨hl, h2⟩) (by omega) dx u hdx hu
end
theorem qpg {prs : List Pr} {i : Nat} {x : V} (h : (qb9 prs)[i]? = some x) : ∃ r, prs[i]? = some r /\ x = .ref r.1 := by
 unfold qb9 at h
 rw [List.getElem?_map] at h
 cases e : prs[i]? with
 | none => rw [e] at h; cases h
 | some r => rw [e] at h; exact ⟨r, rfl, (Option.some.inj h).symm⟩
theorem qp0 {H : Hp} {p t : Addr} {prs : List Pr} (h1 : Pot H p) (h2 : H t = some (.lst (qb9 prs))) : t ≠ p := by
 rintro rfl
 obtain ⟨a, b, e, _⟩ := h1
 rw [e] at h2
 have h3 := HO.lst.inj (Option.some.inj h2)
 cases prs with
 | nil => cases h3
 | cons x r => cases (List.cons.inj h3).1
section
variable {P : Program} {w : World} {K : PySem.W.Frag} {mg : Str -> Option Value} {base : Heap}
noncomputable def qra : Sp := fun vs H Q _ => ∃ (p : Addr), vs = [.ref p] /\ Pot H p /\
 ∀ (v u pl pa ra : Addr) (ns ps : List Str) (rs : List (Addr × Row)) (H' : Hp), Pot H' p -> H' v = some (.tup [.ref u, .ref pl]) -> qdg H' u pa ra ps rs -> Good ps (rs.map (·.2)) -> ps.length <= 8 -> rs.length <= 40 -> H' pl = some (.lst (ns.map V.str)) -> (∀ x ∈ ns, x ∈ ps) -> 1 <= ns.length -> ns.length <= 8 -> Kp [p] H H' -> Q (.ref v) H'
noncomputable abbrev N44 : List Str := ["_law_pot_here", "_law_many", "_law_places", "_law_pairs_here", "_law_ties", "_law_rows"]
theorem qte : qao N44 ["_law_pot_here"] (qai (top 44)) := ⟨rfl, rfl, rfl, by decide +kernel, rfl, by decide +kernel, by decide +kernel⟩
theorem quy {f : Addr} {fd : FuncData} (F : Fun K "_law_web" "_law_web" (top 44) f fd) (B : Bl mg) (Ft : Fn P w K mg base 1 "_law_take" ["_law_pot_here", "_law_many"] qfl) (Fn' : Fn P w K mg base 2 "_law_names" ["_law_pot_here", "_law_many"] qm1)
  (Fd : Fn P w K mg base 2 "_law_named" ["_law_pot_here", "_law_names_here"] qng) (Fp : Fn P w K mg base 2 "_law_pairs" ["_law_pot_here", "_law_many"] qmc) (Fc : Fn P w K mg base 2 "_law_called" ["_law_pot_here", "_law_ties", "_law_places"] qki) : qca P w K mg base CX0 3 f fd ["_law_pot_here"] qra := by
 refine F.ok qte (fun vs H Q E h => ?_) (fun cdv A outer s H vs Q E hr h => ?_)
 ·obtain ⟨p, rfl, _⟩ := h
  rfl
 ·obtain ⟨p, rfl, hp, k⟩ := h
  have hr1 : qcl 1 _ := hr.mono (by decide)
  refine ⟨_, qae (qax (i := 1) qte.nd rfl (Or.inl rfl) (qa8 qa7 (qbv (qaa (qa4 qcu qah (qaw Ft hr1 (qaa (pv 0) (qaa qah qac)))) (qaa (qa4 qcu qah (qaw Ft hr1 (qaa (pv 0) (qaa qah qac)))) qac)))
    (qbs qmd rfl B.int qvc (qaa (qcc qqm (qaw Ft hr1 (qaa (pv 0) (qaa qah qac))) qah (qbg _)) qac)) (fun _ _ => rfl)))
   (qae (qax (i := 2) qte.nd rfl (Or.inr rfl) (qaw Fd hr (qaa (pv 0) (qaa (qaw Fn' hr (qaa (pv 0) (qaa (pv 1) qac))) qac))))
   (qae (qax (i := 3) qte.nd rfl (Or.inl rfl) (qaw Fp hr (qaa (pv 0) (qaa (pv 1) qac))))
   (qae (qax (i := 4) qte.nd rfl (Or.inl rfl) (qaw Fc hr (qaa (pv 0) (qaa (qaw Fd hr (qaa (pv 0) (qaa (qaw Fn' hr (qaa (pv 0) (qaa (qaj qal rfl B.len PySem.boot_len (qaa (pv 3) qac)) qac))) qac))) (qaa (pv 2) qac)))))
   (qae (qdj (i := 5) (N := ["_law_tie", "_law_pair", "_law_places"]) (ix := [none, none, some 2]) qte.nd rfl (Or.inl rfl) ⟨rfl, rfl, rfl, by decide⟩ rfl (qq2 rfl B.zip (qaa (pv 4) (qaa (pv 3) qac)))
    (fun _ _ _ _ => qmm K rfl (n := 2) (qa3 (qbu 0 (by decide) rfl rfl) (qa3 (qbu 1 (by decide) rfl rfl) qc6))) (fun _ _ _ _ => qbk)
    (fun _ _ _ _ => qcr (qaa (pv 0) (qaa (qa8 (qbm K) (pv 2) (qa8 (qbm K) (pv 1) qah (fun _ _ => rfl)) (fun _ _ => rfl)) (qaa (qa8 (qbm K) (pv 2) (qa8 (qbm K) (pv 1) qah (fun _ _ => rfl)) (fun _ _ => rfl)) qac)))))
   (qak (qav (qcr (qaa (qcr (qaa (qbs qc3 rfl B.tuple qdh (qaa (qaj qcs rfl B.sorted qdl (qaa (pv 2) qac)) qac)) (qaa (qbs qc3 rfl B.tuple qdh (qaa (qaj qhi rfl B.sorted qdl (qaa (pv 5) qac)) qac)) qac))) (qaa (pv 2) qac))))))))), ?_⟩
  refine ⟨_, rfl, p, 6, rfl, hp, by decide, by decide, fun r1 H1 a0 a1 P1 K1 => ⟨_, _, rfl, rfl, _, rfl, p, 2, rfl, P1, by decide, by decide, fun r2 H2 b0 b1 P2 K2' => ⟨_, _, rfl, rfl, by show 2 <= sizeLine; decide, fun l2 hl2 => ?_⟩⟩⟩
  have nl2 := P2.ne_new hl2
  have P3 := P2.new (o := .lst [.int (1 + r1), .int (7 + r2)]) hl2
  have K3 := (K1.trans K2').new (o := .lst [.int (1 + r1), .int (7 + r2)]) hl2
  have L3 : upd H2 l2 (.lst [.int (1 + r1), .int (7 + r2)]) l2 = some (.lst [.int (1 + r1), .int (7 + r2)]) := qab
  generalize upd H2 l2 (.lst [.int (1 + r1), .int (7 + r2)]) = H3 at P3 K3 L3 ⊢
  refine ⟨_, rfl, p, 8, rfl, P3, by decide, by decide, fun r3 H4 c0 c1 P4 K4' => ⟨rfl, .inr ⟨_, rfl, ?_⟩⟩⟩
  have L4 := K4'.at nl2 L3
  have K4 := K3.trans K4'
  have hn : ∀ b : Bool, ∃ m : Nat, ([V.int (1 + r1), V.int (7 + r2)] : List V)[((if b = true then 1 else 0 : Int)).toNat]? = some (.int m) /\ 1 <= m /\ m <= 8 := fun b => by
   cases b
   ·exact ⟨(1 + r1).toNat, by show some (V.int (1 + r1)) = _; rw [Int.toNat_of_nonneg (by omega)], by omega, by omega⟩
   ·exact ⟨(7 + r2).toNat, by show some (V.int (7 + r2)) = _; rw [Int.toNat_of_nonneg (by omega)], by omega, by omega⟩
  obtain ⟨m, hm, m1, m8⟩ := hn (decide (V.int r3 = V.int 0))
  refine qat (j := ((if decide (V.int r3 = V.int 0) = true then 1 else 0 : Int)).toNat) (.inl (SqL.of L4)) (by split <;> rfl) hm ?_
  refine ⟨_, rfl, _, rfl, _, rfl, p, m, rfl, P4, by omega, fun pl0 ns0 H5a P5a n5a _ nnm0 nnd0 nlen0 K5a => ⟨p, pl0, ns0, rfl, P5a, n5a, by omega, nnd0, nnm0, fun pl ns H5 P5 n5 nnm nnd nlen' K5b => ?_⟩⟩
  have nlen : ns.length = m := by omega
  have K5' := K5a.trans K5b
  have K5 := K4.trans K5'
  have npl := qhf P5 n5
  refine ⟨_, rfl, _, rfl, p, m, rfl, P5, m1, m8, fun pq prs H6 P6 q6 _ A6 O6 z6 K6' => ?_⟩
  have K6 := K5.trans K6'
  have n6 := K6'.at npl n5
  have npq := qp0 P6 q6
  have hpz : (qb9 prs).length = prs.length := by simp
  refine ⟨_, rfl, _, rfl, _, rfl, _, rfl, pq, _, rfl, .inl (SqL.of q6), p, (qb9 prs).length, rfl, P6, by omega, fun ta0 ts0 H7a P7a t7a _ tnm0 tnd0 tlen0 K7a => ⟨p, ta0, ts0, rfl, P7a, t7a, by omega, tnd0, tnm0, fun ta ts H7 P7 t7 tnm tnd tlen' K7b => ?_⟩⟩
  have tlen : ts.length = (qb9 prs).length := by omega
  have K7' := K7a.trans K7b
  have K7 := K6.trans K7'
  have n7 := K7'.at npl n6
  have q7 := K7'.at npq q6
  have A7 := A6.kp K7' P6
  refine ⟨_, rfl, p, ta, pl, ts, ns, rfl, P7, t7, n7, by omega, by omega, tnd, nnd, tnm, nnm, fun tc tn H8 P8 c8 cnm cnd clen K8' => ?_⟩
  have K8 := K7.trans K8'
  have n8 := K8'.at npl n7
  have q8 := K8'.at npq q7
  have A8 := A7.kp K8' P7
  have hcl : tn.length = prs.length := by omega
  refine ⟨_, rfl, _, rfl, tc, pq, _, _, rfl, SqL.of c8, SqL.of q8, ?_⟩
  refine qj6 (xs := tn.map V.str) (ys := qb9 prs) (fits (by simp; omega)) (fun i zs σ H2 => (∃ rr : List (Addr × Row), zs = qap rr /\ (∀ r ∈ rr, qgm H2 r.1 r.2) /\ nms rr = tn.take i /\ (∀ r ∈ rr, r.2.2.1 ∈ ns /\ r.2.2.2 ∈ ns /\ r.2.2.1 ≠ r.2.2.2)) /\ qar H8 H2 /\ ∃ g1 g2, σ = [g1, g2, some (.ref pl)])
   ⟨⟨[], rfl, by simp, rfl, by simp⟩, qar.refl _, _, _, rfl⟩ (fun i zs σ H2 hi q => ?_) ?_ ?_
  ·obtain ⟨⟨rr, rfl, _, e, _⟩, s2, _⟩ := q
   have := congrArg List.length e
   rw [nms, List.length_map, List.length_take] at this
   exact ⟨by simp [this]; omega, SqL.of (s2 _ _ c8), SqL.of (s2 _ _ q8)⟩
  ·rintro i x y zs σ H2 T hx hy ⟨⟨rr, rfl, Ra, e, Ro⟩, s2, g1, g2, rfl⟩ hT
   rw [List.getElem?_map] at hx
   obtain ⟨pr, hpr, rfl⟩ := qpg hy
   cases hc : tn[i]? with
   | none => rw [hc] at hx; cases hx
   | some t =>
    rw [hc] at hx
    cases hx
    have hpm := List.mem_of_getElem? hpr
    obtain ⟨o1, o2, o3, o4, o5⟩ := O6 pr hpm
    have s3 := qad (o := .tup [.str t, .ref pr.1]) s2 hT
    have pr3 := s3 _ _ (A8 pr hpm)
    have n3 := s3 _ _ n8
    have ia : pr.2.1.toNat < ns.length := by omega
    have ib : pr.2.2.toNat < ns.length := by omega
    refine ⟨T, _, rfl, SqT.of qab, rfl, _, _, rfl, _, _, rfl, rfl, ?_⟩
    refine ⟨_, rfl, _, rfl, _, rfl, qat (j := 0) (.inr (SqT.of pr3)) rfl rfl (qat (j := pr.2.1.toNat) (.inl (SqL.of n3)) (by omega) (strAt ia) ?_)⟩
    refine ⟨_, rfl, _, rfl, qat (j := 1) (.inr (SqT.of pr3)) rfl rfl (qat (j := pr.2.2.toNat) (.inl (SqL.of n3)) (by omega) (strAt ib) ?_)⟩
    refine ⟨by show 3 <= sizeLine; decide, fun n hn => ?_⟩
    have hab : ns[pr.2.1.toNat] ≠ ns[pr.2.2.toNat] := by
     have hne : pr.2.1.toNat ≠ pr.2.2.toNat := by omega
     rcases Nat.lt_or_gt_of_ne hne with y | y
     ·exact List.pairwise_iff_getElem.mp nnd _ _ ia ib y
     ·exact fun z => List.pairwise_iff_getElem.mp nnd _ _ ib ia y z.symm
    have s4 := qad (o := .tup [.str t, .str ns[pr.2.1.toNat], .str ns[pr.2.2.toNat]]) s3 hn
    have s24 := qad (o := .tup [.str t, .str ns[pr.2.1.toNat], .str ns[pr.2.2.toNat]]) (qad (o := .tup [.str t, .ref pr.1]) (qar.refl H2) hT) hn
    refine ⟨⟨rr ++ [(n, (t, ns[pr.2.1.toNat], ns[pr.2.2.toNat]))], by simp [qap], fun r hr => ?_, ?_, fun r hr => ?_⟩, s4, _, _, rfl⟩
    ·rcases List.mem_append.mp hr with z | z
     ·exact s24 _ _ (Ra r z)
     ·have e' : r = (n, (t, ns[pr.2.1.toNat], ns[pr.2.2.toNat])) := by simpa using z
      subst e'; exact qab
    ·rw [nms, List.map_append]
     show nms rr ++ [t] = _
     rw [e, List.take_add_one, hc]
     rfl
    ·rcases List.mem_append.mp hr with z | z
     ·exact Ro r z
     ·have e' : r = (n, (t, ns[pr.2.1.toNat], ns[pr.2.2.toNat])) := by simpa using z
      subst e'; exact ⟨List.getElem_mem ia, List.getElem_mem ib, hab⟩
  rintro zs σ H9 ⟨⟨rr, rfl, Ra, e, Ro⟩, s9, g1, g2, rfl⟩ rw hrw
  have en : nms rr = tn := by rw [e, take_all tn (by simp; omega)]
  have hrl : rr.length = tn.length := by rw [<- en]; simp
  have s10 := qad (o := .lst (qap rr)) s9 hrw
  have Ra10 : ∀ r ∈ rr, qgm (upd H9 rw (.lst (qap rr))) r.1 r.2 := fun r hr => qad (qar.refl H9) hrw _ _ (Ra r hr)
  have w10 : upd H9 rw (.lst (qap rr)) rw = some (.lst (qap rr)) := qab
  generalize upd H9 rw (.lst (qap rr)) = H10 at s10 Ra10 w10 ⊢
  have n10 := s10 _ _ n8
  refine ⟨_, rfl, pl, ns, rfl, SqL.of n10, by omega, fun ps q hpm hso hq => ?_⟩
  have pnd : ps.Nodup := hpm.nodup_iff.mpr nnd
  have hpl : ps.length = ns.length := hpm.length_eq
  have t1 := qad (o := .lst (ps.map V.str)) (qar.refl H10) hq
  refine ⟨q, _, rfl, .inl ⟨SqL.of qab, fun pa hpa => ?_⟩⟩
  have t2 := qad (o := .tup (ps.map V.str)) t1 hpa
  have a11 : upd (upd H10 q (.lst (ps.map V.str))) pa (.tup (ps.map V.str)) pa = some (.tup (ps.map V.str)) := qab
  generalize upd (upd H10 q (.lst (ps.map V.str))) pa (.tup (ps.map V.str)) = H11 at t2 a11 ⊢
  refine ⟨_, rfl, rw, rr.map fun r => (r.1, r.2.1), rfl, .inl (SqL.of (by rw [qj0]; exact t2 _ _ w10)), fun y hy => ?_, by rw [List.length_map]; omega, ?_, fun rs1 q2 hpm2 hpw hq2 => ?_⟩
  ·obtain ⟨x, hx, rfl⟩ := List.mem_map.mp hy
   exact ⟨_, t2 _ _ (Ra10 x hx)⟩
  ·rw [List.map_map]
   show (nms rr).Nodup
   rw [en]; exact cnd
  obtain ⟨rs', hp2, e2'⟩ := qhe (fun r : Addr × Row => (r.1, r.2.1)) rs1 _ hpm2
  subst e2'
  rw [qj0]
  have u1 := qad (o := .lst (qap rs')) (qar.refl H11) hq2
  refine ⟨q2, _, rfl, .inl ⟨SqL.of qab, fun ra hra => ?_⟩⟩
  have u2 := qad (o := .tup (qap rs')) u1 hra
  refine ⟨by show 2 <= sizeLine; decide, fun u hu => ?_⟩
  have u3 := qad (o := .tup [.ref pa, .ref ra]) u2 hu
  refine ⟨_, rfl, by show 2 <= sizeLine; decide, fun v hv => ?_⟩
  have u4 := qad (o := .tup [.ref u, .ref pl]) u3 hv
  have hur : ra ≠ u := fun z => by rw [<- z, qab] at hu; cases hu
  have hvu : u ≠ v := fun z => by rw [<- z, qab] at hv; cases hv
  have hvr : ra ≠ v := fun z => by rw [<- z, qag hur, qab] at hv; cases hv
  have s8v := s10.trans (t2.trans u4)
  have hin : ∀ x ∈ ns, x ∈ ps := fun x hx => hpm.mem_iff.mpr hx
  refine k v u pl pa ra ns ps rs' _ (P8.keep fun o e => s8v _ _ e) qab ⟨?_, u4 _ _ a11, ?_, fun x hx => u4 _ _ (t2 _ _ (Ra10 x (hp2.mem_iff.mp hx)))⟩ ⟨?_, fun x hx => nnm x (hpm.mem_iff.mp hx), qci hso pnd, fun r hr => ?_, ?_, by omega, ?_⟩ (by omega) (by rw [hp2.length_eq]; omega) (s8v _ _ n8) hin (by omega) (by omega) (K8.of_same s8v)
  ·rw [qag hvu, qab]
  ·rw [qag hvr, qag hur, qab]
  ·intro z; rw [z] at hpl; simp at hpl; omega
  ·obtain ⟨x, hx, rfl⟩ := List.mem_map.mp hr
   have hxr := hp2.mem_iff.mp hx
   obtain ⟨y1, y2, y3⟩ := Ro x hxr
   exact ⟨cnm _ (by rw [<- en]; exact List.mem_map_of_mem (f := fun z : Addr × Row => z.2.1) hxr), hin _ y1, hin _ y2, y3⟩
  ·rw [List.map_map] at hpw ⊢; exact hpw
  ·rw [List.length_map, hp2.length_eq]; omega
end
end K32
namespace K32
open PySem L2 PySem.Spec PyProof.Rows
section
variable {P : Program} {w : World} {K : PySem.W.Frag} {mg : Str -> Option Value} {base : Heap}
noncomputable def qnz : Sp := fun vs H Q _ => ∃ (pa : Addr) (ps : List Str), vs = [.ref pa] /\ H pa = some (.lst (ps.map V.str)) /\ ps.length <= 8 /\
 ∀ (q : Addr) (lts : List (Addr × List Str)) (H' : Hp), qar H H' -> H' q = some (.lst (qan lts)) -> qcq H' lts -> lts.map (·.2) = qam ps -> Q (.ref q) H'
theorem qvq : qao ["_law_places", "_law_found", "_law_place"] ["_law_places"] (qai (top 45)) := ⟨rfl, rfl, rfl, by decide +kernel, rfl, by decide +kernel, by decide +kernel⟩
theorem qpl {f : Addr} {fd : FuncData} (F : Fun K "_law_lots" "_law_lots" (top 45) f fd) (B : Bl mg) : qca P w K mg base CX0 1 f fd ["_law_places"] qnz := by
 refine F.ok qvq (fun vs H Q E h => ?_) (fun cdv A outer s H vs Q E hr h => ?_)
 ·obtain ⟨pa, ps, rfl, _⟩ := h
  rfl
 ·obtain ⟨pa, ps, rfl, hp, p8, k⟩ := h
  refine ⟨_, qae (qax (i := 1) qvq.nd rfl (Or.inl rfl) (qbv (qaa (qcr qac) qac)))
   (qae (qcn PassesOwn.never rfl (qbd (pv 0)) (qa0 (i := 2) qvq.nd rfl (Or.inr rfl))
    (qak (qax (i := 1) qvq.nd rfl (Or.inl rfl) (qa4 qfg (pv 1) (qcx (N := ["_law_lot", "_law_place"]) (ix := [none, some 2]) ⟨rfl, rfl, rfl, by decide⟩ rfl (qbd (pv 1)) (fun _ _ _ _ => qbu 0 (by decide) rfl rfl) (fun _ _ _ _ => qbk)
     (fun _ _ _ _ => qa4 (qka K) (pv 0) (qcr (qaa (pv 1) qac))))))))
   (qak (qav (qdi qgi (pv 1) (qed qah) qef)))), ?_⟩
  refine ⟨Nat.zero_le _, fun e0 he0 => ⟨by show 1 <= sizeLine; decide, fun f0 hf0 => ?_⟩⟩
  have s0 := qad (o := .lst [.ref e0]) (qad (o := .tup []) (qar.refl H) he0) hf0
  have E0 : upd (upd H e0 (.tup [])) f0 (.lst [.ref e0]) e0 = some (.tup ((([] : List Str)).map V.str)) := by
   rw [qag (fun z => by rw [<- z, qab] at hf0; cases hf0), qab]; rfl
  have F0 : upd (upd H e0 (.tup [])) f0 (.lst [.ref e0]) f0 = some (.lst (qan [(e0, [])])) := qab
  generalize upd (upd H e0 (.tup [])) f0 (.lst [.ref e0]) = H0 at s0 E0 F0 ⊢
  refine ⟨_, rfl, pa, rfl, ⟨_, SqL.of (s0 _ _ hp)⟩, qdn (K := K) (a := pa) (xs := ps.map V.str) (fun i σ H1 => qar H H1 /\ ∃ (fo : Addr) (lts : List (Addr × List Str)) (g : Option V), σ = [some (.ref pa), some (.ref fo), g] /\ H1 fo = some (.lst (qan lts)) /\ qcq H1 lts /\ lts.map (·.2) = subs (ps.take i))
   ⟨s0, f0, [(e0, [])], none, rfl, F0, qcq.one E0, rfl⟩ (fun i σ H1 _ q => SqL.of (q.1 _ _ hp)) ?_ ?_⟩
  ·rintro i x σ H1 hx ⟨s1, fo, lts, g, rfl, F1, A1, e1⟩
   rw [List.getElem?_map] at hx
   cases hc : ps[i]? with
   | none => rw [hc] at hx; cases hx
   | some pl =>
    rw [hc] at hx
    cases hx
    have hi : i < ps.length := (List.getElem?_eq_some_iff.mp hc).1
    have hlen : lts.length <= 256 := by
     have q := congrArg List.length e1
     rw [List.length_map, qgb] at q
     rw [q]
     exact qf7 (by rw [List.length_take]; omega)
    have hz8 : ∀ x ∈ lts, x.2.length <= 8 := fun x hx => by
     have q := (qet (ps.take i) x.2 (by rw [<- e1]; exact List.mem_map_of_mem hx)).length_le
     rw [List.length_take] at q
     omega
    refine ⟨_, rfl, _, rfl, fo, rfl, ⟨_, SqL.of F1⟩, qcj (xs := qan lts) (fits (by rw [List.length_map]; omega)) (fun j ys σ H2 => (∃ qs : List (Addr × List Str), ys = qan qs /\ qcq H2 qs /\ qs.map (·.2) = ((lts.take j).map (·.2)).map fun l => l ++ [pl]) /\ qar H1 H2 /\ ∃ v, σ = [v, some (.str pl)])
     ⟨⟨[], rfl, by simp [qcq], rfl⟩, qar.refl _, _, rfl⟩ (fun j ys σ H2 _ q => ?_) ?_ ?_⟩
    ·obtain ⟨⟨qs, rfl, _, e⟩, s2, _⟩ := q
     have q := congrArg List.length e
     simp only [List.length_map, List.length_take] at q
     exact ⟨by rw [List.length_map]; omega, SqL.of (s2 _ _ F1)⟩
    ·rintro j y ys σ H2 hy ⟨⟨qs, rfl, A2, e2⟩, s2, v, rfl⟩
     obtain ⟨lt, hlt, rfl⟩ := qbx hy
     have hm := List.mem_of_getElem? hlt
     refine ⟨_, rfl, _, rfl, by show 1 <= sizeLine; decide, fun t ht => ?_⟩
     have s3 := qad (o := .tup [.str pl]) s2 ht
     have s3' := qad (o := .tup [.str pl]) (qar.refl H2) ht
     have t3 : upd H2 t (.tup [.str pl]) t = some (.tup ([pl].map V.str)) := qab
     generalize upd H2 t (.tup [.str pl]) = H3 at s3 s3' t3 ⊢
     have hz := hz8 lt hm
     have est : ∀ z, qs.map (·.2) ++ [z] = ((lts.take j).map (·.2)).map (fun l => l ++ [pl]) ++ [z] := fun z => by rw [e2]
     have etk : ((lts.take (j + 1)).map (·.2)).map (fun l => l ++ [pl]) = ((lts.take j).map (·.2)).map (fun l => l ++ [pl]) ++ [lt.2 ++ [pl]] := by
      rw [List.take_add_one, hlt, List.map_append, List.map_append]; rfl
     refine ⟨lt.1, t, lt.2.map V.str, [.str pl], rfl, rfl, SqT.of (s3 _ _ (A1 lt hm)), SqT.of t3, by rw [sizeLine_eq]; simp; omega, fun e => ?_, fun e => (by cases e), fun p hp => ?_⟩
     ·have e' : lt.2 = [] := by simpa using e
      exact ⟨⟨qs ++ [(t, lt.2 ++ [pl])], by simp [qan], (A2.same s3').app (qcq.one (by rw [e']; exact t3)), by rw [List.map_append, etk]; exact est _⟩, s3, _, rfl⟩
     ·have s4' := qad (o := .tup (lt.2.map V.str ++ [.str pl])) s3' hp
      exact ⟨⟨qs ++ [(p, lt.2 ++ [pl])], by simp [qan], (A2.same s4').app (qcq.one (by rw [qab, List.map_append]; rfl)), by rw [List.map_append, etk]; exact est _⟩, qad s3 hp, _, rfl⟩
    ·rintro ys σ H2 ⟨⟨qs, rfl, A2, e2⟩, s2, v, rfl⟩ q hq
     rw [take_all lts (by simp)] at e2
     have hql : qs.length = lts.length := by
      have q := congrArg List.length e2
      simpa using q
     have s3' := qad (o := .lst (qan qs)) (qar.refl H2) hq
     refine ⟨fo, q, _, _, rfl, rfl, s3' _ _ (s2 _ _ F1), qab, by rw [sizeLine_eq, List.length_map, List.length_map]; omega, fun q2 hq2' => ?_⟩
     have s4' := qad (o := .lst (qan lts ++ qan qs)) s3' hq2'
     refine ⟨s1.trans (s2.trans s4'), q2, lts ++ qs, _, rfl, by rw [qab]; simp [qan], (A1.same (s2.trans s4')).app (A2.same s4'), ?_⟩
     have ets : ps.take (i + 1) = ps.take i ++ [pl] := by rw [List.take_add_one, hc]; rfl
     rw [List.map_append, e2, e1, ets, qck]
  ·rintro σ H1 ⟨s1, fo, lts, g, rfl, F1, A1, e1⟩
   rw [take_all ps (by simp), qei] at e1
   cases lts with
   | nil => cases e1
   | cons h0 rest =>
    obtain ⟨eh, er⟩ := List.cons.inj (show h0.2 :: rest.map (·.2) = [] :: qam ps from e1)
    refine ⟨_, rfl, _, rfl, fo, _, rfl, SqL.of F1, fun q hq => ?_⟩
    rw [show qan (h0 :: rest) = V.ref h0.1 :: qan rest from rfl, qf2]
    have s2 := qad (o := .lst (qan rest)) (qar.refl H1) hq
    exact k q rest _ (s1.trans s2) qab (fun x hx => s2 _ _ (A1 x (List.mem_cons_of_mem _ hx))) er
noncomputable abbrev N46 : List Str := ["_law_web_here", "_law_lot"]
theorem qya : qao N46 ["_law_web_here", "_law_lot"] (qai (top 46)) := ⟨rfl, rfl, rfl, by decide +kernel, rfl, by decide +kernel, by decide +kernel⟩
theorem qsj {f : Addr} {fd : FuncData} (F : Fun K "_law_into" "_law_into" (top 46) f fd) (B : Bl mg) : qca P w K mg base CX0 1 f fd ["_law_web_here", "_law_lot"] qjd := by
 refine F.ok qya (fun vs H Q E h => ?_) (fun cdv A outer s H vs Q E hr h => ?_)
 ·obtain ⟨v, l, pa, ra, ps, ls, rs, rfl, _⟩ := h
  rfl
 ·obtain ⟨v, l, pa, ra, ps, ls, rs, rfl, W, hz, hl, k⟩ := h
  refine ⟨_, qak (qav (qaj qal rfl B.len PySem.boot_len (qaa (qcx (N := ["_law_row", "_law_lot"]) (ix := [none, some 1]) ⟨rfl, rfl, rfl, by decide⟩ rfl (qda (qa8 qa7 (pv 0) qah (fun _ _ => rfl))) (fun _ _ _ _ => qbu 0 (by decide) rfl rfl)
    (fun _ _ _ _ => qcw (PW.pt (qg9 (qay (qjh K) (qa8 (qbm K) (pv 0) qah (fun _ _ => rfl)) (pv 1) (by with_unfolding_all rfl)) (qgv (qay (qc1 K) (qa8 (qbm K) (pv 0) qah (fun _ _ => rfl)) (pv 1) (by with_unfolding_all rfl))))))
    (fun _ _ _ _ => pv 0)) qac))), ?_⟩
  refine ⟨_, rfl, qat (j := 1) (.inr (SqT.of W.tp)) rfl rfl ⟨ra, rfl, ⟨_, SqT.of W.rl⟩, qdy (xs := qap rs) (fits (by simp; omega)) (fun i ys σ H3 => ys = qap ((rs.take i).filter (lead ls)) /\ H3 = H /\ ∃ x, σ = [x, some (.ref l)]) ⟨rfl, rfl, _, rfl⟩
    (fun i ys σ H3 _ q => ⟨by rw [q.1]; simp only [qap, List.length_map]; exact Nat.le_trans (List.length_filter_le _ _) (by simp; omega), by rw [q.2.1]; exact SqT.of W.rl⟩) ?_ ?_⟩⟩
  ·rintro i x ys σ H3 hx ⟨rfl, rfl, z, rfl⟩
   obtain ⟨r, hr', rfl⟩ := qbp hx
   have hm := List.mem_of_getElem? hr'
   have hrow := W.rows r hm
   have tf := qaq (lead ls) rs i r hr'
   have hS : Sq K H3 l (ls.map V.str) := .inr (SqT.of hl)
   refine ⟨_, rfl, qat (j := 2) (.inr (SqT.of hrow)) rfl rfl ⟨_, rfl, l, ls.map V.str, rfl, hS, rfl, qbf ls, _, rfl, ?_⟩⟩
   show if inV (.str r.2.2.2) (ls.map V.str) = true then _ else _
   rw [qb0]
   refine qev (fun c => ⟨_, rfl, qat (j := 1) (.inr (SqT.of hrow)) rfl rfl ⟨_, rfl, l, ls.map V.str, rfl, hS, rfl, qbf ls, _, rfl, ?_⟩⟩) (fun c => qem ⟨?_, rfl, _, rfl⟩)
   ·show if (!inV (.str r.2.2.1) (ls.map V.str)) = true then _ else _
    rw [qb0]
    refine qev (fun d => ⟨_, rfl, ?_, rfl, _, rfl⟩) (fun d => ⟨?_, rfl, _, rfl⟩)
    ·rw [tf]; unfold lead; rw [c, d]; simp [qap]
    ·rw [tf]; simp only [Bool.not_eq_true] at d; unfold lead; rw [c, d]; simp [qap]
   ·rw [tf]; simp only [Bool.not_eq_true] at c; unfold lead; rw [c]; simp [qap]
  ·rintro ys σ H3 ⟨rfl, rfl, z, rfl⟩ q hq
   rw [take_all rs (by simp)]
   refine ⟨q, _, rfl, .inl (SqL.of qab), ?_⟩
   have e : ((qap (rs.filter (lead ls))).length : Int) = ((rs.filter (lead ls)).length : Int) := by simp [qap]
   rw [e]
   exact k _ (qad (qar.refl _) hq)
end
end K32
namespace K32
open PySem L2
theorem qsi {x y : Str} (h : nlt x y) (h' : nlt y x) : False := List.lt_irrefl _ (List.lt_trans h h')
theorem qjs : ∀ {a b : List Str}, a.Pairwise nlt -> b.Pairwise nlt -> (∀ x, x ∈ a ↔ x ∈ b) -> a = b := by
 intro a
 induction a with
 | nil =>
  intro b _ _ h
  cases b with
  | nil => rfl
  | cons y s => exact absurd ((h y).mpr List.mem_cons_self) (by simp)
 | cons x r ih =>
  intro b ha hb h
  obtain ⟨ha1, ha2⟩ := List.pairwise_cons.mp ha
  cases b with
  | nil => exact absurd ((h x).mp List.mem_cons_self) (by simp)
  | cons y s =>
   obtain ⟨hb1, hb2⟩ := List.pairwise_cons.mp hb
   have e : x = y := by
    rcases List.mem_cons.mp ((h x).mp List.mem_cons_self) with e | e
    ·exact e
    ·rcases List.mem_cons.mp ((h y).mpr List.mem_cons_self) with e' | e'
     ·exact e'.symm
     ·exact (qsi (hb1 x e) (ha1 y e')).elim
   subst e
   rw [ih ha2 hb2 fun z => ⟨fun hz => ?_, fun hz => ?_⟩]
   ·rcases List.mem_cons.mp ((h z).mp (List.mem_cons_of_mem _ hz)) with e | e
    ·subst e; exact (qne (ha1 _ hz)).elim
    ·exact e
   ·rcases List.mem_cons.mp ((h z).mpr (List.mem_cons_of_mem _ hz)) with e | e
    ·subst e; exact (qne (hb1 _ hz)).elim
    ·exact e
theorem qe3 {α : Type} {l : List α} (h : l.Nodup) : l.reverse.Nodup := (List.reverse_perm l).nodup_iff.mpr h
theorem qim (w : World) {X : Cx} (hc : X.calm = true) (h : X.w = w := by rfl) : qb7 X (.type "set") (fun xs H Q => ∃ (p : Addr) (ss : List Str), xs = [.ref p] /\ SqT X.K H p (ss.map V.str) /\ ss.length < 3000 /\
  ∀ (a : Addr), H a = none -> Q (.ref a) (upd H a (qhw w a (qdu ss.reverse)))) := by subst h; exact qlx hc
theorem qiw (w : World) {X : Cx} (hc : X.calm = true) (h : X.w = w := by rfl) : qb7 X (.type "set") (fun xs H Q => ∃ (p : Addr) (ss : List Str), xs = [.ref p] /\ SqL X.K H p (ss.map V.str) /\ ss.length < 3000 /\
  ∀ (a : Addr), H a = none -> Q (.ref a) (upd H a (qhw w a (qdu ss.reverse)))) := by subst h; exact qkt hc
theorem qle (w : World) {X : Cx} (h : X.w = w := by rfl) : qb7 X (.builtin "len") (fun xs H Q => ∃ (a : Addr) (ss : List Str), xs = [.ref a] /\ H a = some (qhw w a ss) /\ Q (.int ss.length) H) := by subst h; exact qol
theorem qfn (w : World) {X : Cx} (hc : X.calm = true) (h : X.w = w := by rfl) : qb7 X (.builtin "sorted") (fun xs H Q => ∃ (a : Addr) (ss : List Str), xs = [.ref a] /\ H a = some (qhw w a ss) /\ ss.length < 64 /\
  ∀ (ss' : List Str) (q : Addr), ss'.Perm ss -> PyProof.Rows.sortedS ss' = true -> H q = none -> Q (.ref q) (upd H q (.lst (ss'.map V.str)))) := by subst h; exact qfr hc
noncomputable abbrev qbb (rs : List T) (ss : List Str) : List T := rs.filter fun r => decide (r.2.1 ∈ ss)
theorem qpc {rs tr rest : List T} {ss : List Str} (hp : rs.Perm (tr ++ rest)) (hn : (tna rs).Nodup) (hs : ss.Perm (tna tr)) : (qbb rs ss).Perm tr := by
 have h1 := hp.filter (fun r => decide (r.2.1 ∈ ss))
 rw [List.filter_append] at h1
 have hn' : (tna tr ++ tna rest).Nodup := by rw [<- List.map_append]; exact (hp.map _).nodup_iff.mp hn
 have e1 : tr.filter (fun r => decide (r.2.1 ∈ ss)) = tr := List.filter_eq_self.mpr fun r hr => decide_eq_true (hs.mem_iff.mpr (List.mem_map_of_mem (f := fun r : T => r.2.1) hr))
 have e2 : rest.filter (fun r => decide (r.2.1 ∈ ss)) = [] := List.filter_eq_nil_iff.mpr fun r hr => by
  have : r.2.1 ∉ ss := fun z => (List.nodup_append.mp hn').2.2 r.2.1 (hs.mem_iff.mp z) r.2.1 (List.mem_map_of_mem (f := fun r : T => r.2.1) hr) rfl
  simp [this]
 rw [e1, e2, List.append_nil] at h1
 exact h1
theorem qr5 {trs : List (List T)} {i : Nat} {tr : List T} (h : trs[i]? = some tr) : ∃ rest, trs.flatten.Perm (tr ++ rest) := by
 obtain ⟨hi, e⟩ := List.getElem?_eq_some_iff.mp h
 have es : trs = trs.take i ++ tr :: trs.drop (i + 1) := by
  conv => lhs; rw [<- List.take_append_drop i trs, List.drop_eq_getElem_cons hi, e]
 refine ⟨(trs.take i).flatten ++ (trs.drop (i + 1)).flatten, ?_⟩
 conv => lhs; rw [es, List.flatten_append, List.flatten_cons]
 rw [<- List.append_assoc, <- List.append_assoc]
 exact List.Perm.append_right _ List.perm_append_comm
noncomputable def stepT (rows : List T) (th : List Str) : List Str := th ++ (rows.filter fun r => decide (r.2.2.1 ∈ th) && !decide (r.2.2.2 ∈ th)).map fun r => r.2.2.2
noncomputable def qbo (rows : List T) (root : Str) : Nat -> List Str
 | 0 => [root]
 | n + 1 => stepT rows (qbo rows root n)
theorem qj3 {rows tr : List T} {root : Str} {ps : List Str} (S : SpT root ps tr) (hp : rows.Perm tr) : ∀ n, (qbo rows root n).Nodup /\ (∀ x ∈ qbo rows root n, x ∈ root :: ends tr) /\ (∀ x ∈ root :: ends (tr.take n), x ∈ qbo rows root n)
 | 0 => ⟨by simp [qbo], fun x hx => by simp [qbo] at hx; simp [hx], fun x hx => by simpa [qbo] using hx⟩
 | n + 1 => by
  obtain ⟨h1, h2, h3⟩ := qj3 S hp n
  have he : (ends rows).Nodup := (hp.map _).nodup_iff.mpr (List.nodup_cons.mp S.nd).2
  refine ⟨?_, fun x hx => ?_, fun x hx => ?_⟩
  ·show List.Nodup (_ ++ _)
   refine List.nodup_append.mpr ⟨h1, he.sublist (List.filter_sublist.map _), fun a ha b hb z => ?_⟩
   obtain ⟨r, hr, rfl⟩ := List.mem_map.mp hb
   have := (Bool.and_eq_true_iff.mp (List.mem_filter.mp hr).2).2
   rw [<- z] at this
   simp [ha] at this
  ·rcases List.mem_append.mp (show x ∈ _ ++ _ from hx) with z | z
   ·exact h2 x z
   ·obtain ⟨r, hr, rfl⟩ := List.mem_map.mp z
    exact List.mem_cons_of_mem _ (List.mem_map_of_mem (f := fun r : T => r.2.2.2) (hp.mem_iff.mp (List.mem_filter.mp hr).1))
  ·show x ∈ _ ++ _
   by_cases c : x ∈ qbo rows root n
   ·exact List.mem_append_left _ c
   ·refine List.mem_append_right _ ?_
    have hx' : x ∈ root :: ends (tr.take n) ++ ends ((tr[n]?).toList) := by
     rw [List.take_add_one] at hx
     simpa [ends] using hx
    rcases List.mem_append.mp hx' with z | z
    ·exact absurd (h3 x z) c
    ·obtain ⟨r, hr, rfl⟩ := List.mem_map.mp z
     have hr' : tr[n]? = some r := by simpa using hr
     refine List.mem_map.mpr ⟨r, List.mem_filter.mpr ⟨hp.mem_iff.mpr (List.mem_of_getElem? hr'), ?_⟩, rfl⟩
     rw [Bool.and_eq_true]
     exact ⟨decide_eq_true (h3 _ (S.ord n r hr')), by simpa using c⟩
theorem qj5 {tr : List T} {root : Str} {ps : List Str} (S : SpT root ps tr) (hl : tr.length + 1 = ps.length) (x : Str) : x ∈ ps ↔ x ∈ root :: ends tr := by
 refine ⟨fun h => ?_, S.sub x⟩
 refine Classical.byContradiction fun c => ?_
 have := qfy (a := x :: root :: ends tr) (b := ps) (List.nodup_cons.mpr ⟨c, S.nd⟩) fun y hy => by
  rcases List.mem_cons.mp hy with e | e
  ·rw [e]; exact h
  ·exact S.sub y e
 simp [ends] at this
 omega
section
variable {P : Program} {w : World} {K : PySem.W.Frag} {mg : Str -> Option Value} {base : Heap}
noncomputable def qjy : Sp := fun vs H Q _ => ∃ (v pa ra th : Addr) (ps : List Str) (rs tr rest : List T) (root : Str) (ss : List Str), vs = [.ref v, .str root, .ref th] /\ qdg H v pa ra ps rs /\ Good ps (rs.map (·.2)) /\ ps.length <= 8 /\ root ∈ ps /\ H th = some (.tup (ss.map V.str)) /\
 rs.Perm (tr ++ rest) /\ SpT root ps tr /\ tr.length + 1 = ps.length /\ ss.Perm (tna tr) /\ PyProof.Rows.sortedS ss = true /\ ∀ H', qar H H' -> Q (.bl true) H'
noncomputable abbrev N47 : List Str := ["_law_web_here", "_law_root", "_law_thing", "_law_rows", "_law_others", "_law_there", "_law_turn"]
theorem qtc : qao N47 ["_law_web_here", "_law_root", "_law_thing"] (qai (top 47)) := ⟨rfl, rfl, rfl, by decide +kernel, rfl, by decide +kernel, by decide +kernel⟩
theorem qll {f : Addr} {fd : FuncData} (F : Fun K "_law_is_tree" "_law_is_tree" (top 47) f fd) (B : Bl mg) : qca P w K mg base CX0 1 f fd ["_law_web_here", "_law_root", "_law_thing"] qjy := by
 refine F.ok qtc (fun vs H Q E h => ?_) (fun cdv A outer s H vs Q E hr h => ?_)
 ·obtain ⟨v, pa, ra, th, ps, rs, tr, rest, root, ss, rfl, _⟩ := h
  rfl
 ·obtain ⟨v, pa, ra, th, ps, rs, tr, rest, root, ss, rfl, W, G, h8, hroot, hth, hpm, S, hlen, hss, hso, k⟩ := h
  refine ⟨_, qae (qb8 (PW.pt (qgs (qb4 (qbq (qaj (qbe (T := "tuple")) rfl B.isinstance qas (qaa (pv 2) (qaa (qcm (v := .ty "tuple") rfl B.tuple qdh rfl) qac)))))
    (qen (qay (qnv hr) (qbs qco rfl B.list qhv (qaa (pv 2) qac)) (qaj (qfn w rfl) rfl B.sorted qdl (qaa (qbs (qim w rfl) rfl B.set qt3 (qaa (pv 2) qac)) qac)) (qbg _))))) qbr qa2)
   (qae (qdj (i := 3) (N := ["_law_row", "_law_thing"]) (ix := [none, some 2]) qtc.nd rfl (Or.inl rfl) ⟨rfl, rfl, rfl, by decide⟩ rfl (qda (qa8 qa7 (pv 0) qah (fun _ _ => rfl))) (fun _ _ _ _ => qbu 0 (by decide) rfl rfl) (fun _ _ _ _ => qcw (qay (qjh K) (qa8 (qbm K) (pv 0) qah (fun _ _ => rfl)) (pv 1) (by with_unfolding_all rfl))) (fun _ _ _ _ => pv 0))
   (qae (qdj (i := 4) (N := ["_law_place", "_law_root"]) (ix := [none, some 1]) qtc.nd rfl (Or.inl rfl) ⟨rfl, rfl, rfl, by decide⟩ rfl (qda (qa8 qa7 (pv 0) qah (fun _ _ => rfl))) (fun _ _ _ _ => qbu 0 (by decide) rfl rfl) (fun _ _ _ _ => qcw (qay qi5 (pv 0) (pv 1) (qbg _))) (fun _ _ _ _ => pv 0))
   (qae (qb8 (PW.pt (qgs (qay qi5 (qaj qal rfl B.len PySem.boot_len (qaa (pv 3) qac)) (qaj qal rfl B.len PySem.boot_len (qaa (pv 2) qac)) (qbg _))
    (qen (qay (qnv hr) (qaj qcs rfl B.sorted qdl (qaa (qcx (N := ["_law_row"]) (ix := [none]) ⟨rfl, rfl, rfl, by decide⟩ rfl (qbd (pv 3)) (fun _ _ _ _ => qbu 0 (by decide) rfl rfl) (fun _ _ _ _ => qbk) (fun _ _ _ _ => qa8 (qbm K) (pv 0) qah (fun _ _ => rfl))) qac)) (pv 4) (qbg _))))) qbr qa2)
   (qae (qax (i := 5) qtc.nd rfl (Or.inr rfl) (qbv (qaa (pv 1) qac)))
   (qae (qcn PassesOwn.never rfl (qcg rfl B.range (qaa (qaj qal rfl B.len PySem.boot_len (qaa (pv 3) qac)) qac)) (qa0 (i := 6) qtc.nd rfl (Or.inl rfl))
    (qak (qax (i := 5) qtc.nd rfl (Or.inr rfl) (qa4 qfg (pv 5) (qcx (N := ["_law_row", "_law_there"]) (ix := [none, some 5]) ⟨rfl, rfl, rfl, by decide⟩ rfl (qbd (pv 3)) (fun _ _ _ _ => qbu 0 (by decide) rfl rfl)
     (fun _ _ _ _ => qcw (PW.pt (qg9 (qay (qjh K) (qa8 (qbm K) (pv 0) qah (fun _ _ => rfl)) (pv 1) (by with_unfolding_all rfl)) (qgv (qay (qc1 K) (qa8 (qbm K) (pv 0) qah (fun _ _ => rfl)) (pv 1) (by with_unfolding_all rfl))))))
     (fun _ _ _ _ => qa8 (qbm K) (pv 0) qah (fun _ _ => rfl)))))))
   (qak (qav (qcc (qq9 hr) (qaj qcs rfl B.sorted qdl (qaa (pv 5) qac)) (qbs qco rfl B.list qhv (qaa (qa8 qa7 (pv 0) qah (fun _ _ => rfl)) qac)) (qbg _))))))))), ?_⟩
  have hnd := qcp G.so
  have hrz : rs.length <= 60 := by have := G.rz; simpa using this
  have htn : (tna rs).Nodup := by
   have := qcp G.rso
   rw [List.map_map] at this
   exact this
  have htr : ∀ r ∈ tr, r ∈ rs := fun r hr => hpm.mem_iff.mpr (List.mem_append_left _ hr)
  have htl : tr.length <= 7 := by omega
  have hsl : ss.length = tr.length := by rw [hss.length_eq, List.length_map]
  have snd : ss.Nodup := hss.nodup_iff.mpr (by
   have : (tna tr ++ tna rest).Nodup := by rw [<- List.map_append]; exact (hpm.map _).nodup_iff.mp htn
   exact (List.nodup_append.mp this).1)
  have so := qci hso snd
  have nmo : ∀ x ∈ ss, qa9 x := fun x hx => by
   obtain ⟨r, hr', e⟩ := List.mem_map.mp (hss.mem_iff.mp hx)
   rw [<- e]; exact (G.rn r.2 (List.mem_map_of_mem (htr r hr'))).1
  have hfp := qpc hpm htn hss
  have hfl : (qbb rs ss).length = tr.length := hfp.length_eq
  have hpin : ∀ x ∈ root :: ends tr, qa9 x := fun x hx => G.nm x (S.sub x hx)
  refine ⟨_, rfl, _, _, true, rfl, .tup hth, rfl, true, rfl, qem ?_⟩
  refine ⟨_, rfl, th, _, rfl, .inr (SqT.of hth), fun l hl => ?_⟩
  have s5 := qad (o := .lst (ss.map V.str)) (qar.refl H) hl
  have l5 : upd H l (.lst (ss.map V.str)) l = some (.lst (ss.map V.str)) := qab
  generalize upd H l (.lst (ss.map V.str)) = H5 at s5 l5 ⊢
  refine ⟨_, rfl, th, ss, rfl, SqT.of (s5 _ _ hth), by omega, fun st hst => ?_⟩
  have hme : qdu ss.reverse = ss.reverse := qii (qe3 snd)
  rw [hme]
  have s6 := qad (o := qhw w st ss.reverse) s5 hst
  have l6 : upd H5 st (qhw w st ss.reverse) l = some (.lst (ss.map V.str)) := by rw [qag (qaf l5 hst)]; exact l5
  refine ⟨st, ss.reverse, rfl, qab, by rw [List.length_reverse]; omega, fun so' q7 hpm7 hso7 hq7 => ?_⟩
  have eso : so' = ss := qjs (qci hso7 (hpm7.nodup_iff.mpr (qe3 snd))) so fun x => by rw [hpm7.mem_iff, List.mem_reverse]
  subst eso
  have s7 := qad (o := .lst (so'.map V.str)) s6 hq7
  have l7 : upd (upd H5 st (qhw w st so'.reverse)) q7 (.lst (so'.map V.str)) l = some (.lst (so'.map V.str)) := by rw [qag (qaf l6 hq7)]; exact l6
  have q7' : upd (upd H5 st (qhw w st so'.reverse)) q7 (.lst (so'.map V.str)) q7 = some (.lst (so'.map V.str)) := qab
  generalize upd (upd H5 st (qhw w st so'.reverse)) q7 (.lst (so'.map V.str)) = H7 at s7 l7 q7' ⊢
  refine ⟨.list (so'.map PyData.str), .list (so'.map PyData.str), .lst l7 (DVs.strs so'), .lst q7' (DVs.strs so'), (qbc nmo).1, (qbc nmo).1, _, rfl, ?_⟩
  have ev : PyData.eqv (.list (so'.map PyData.str)) (.list (so'.map PyData.str)) = true := (qb1 so' so').trans (by simp)
  rw [ev]
  refine qem ?_
  have W7 := W.same s7
  refine ⟨_, rfl, qat (j := 1) (.inr (SqT.of W7.tp)) rfl rfl ⟨ra, rfl, ⟨_, SqT.of W7.rl⟩, qdy (xs := qap rs) (fits (by rw [List.length_map]; omega)) (fun i ys σ H8 => ys = qap (qbb (rs.take i) so') /\ H8 = H7 /\ ∃ x, σ = [x, some (.ref th)]) ⟨rfl, rfl, _, rfl⟩
   (fun i ys σ H8 _ q => ⟨by rw [q.1, List.length_map]; exact Nat.le_trans (List.length_filter_le _ _) (by rw [List.length_take]; omega), by rw [q.2.1]; exact SqT.of W7.rl⟩) ?_ ?_⟩⟩
  ·rintro i x ys σ H8 hx ⟨rfl, rfl, z, rfl⟩
   obtain ⟨r, hr', rfl⟩ := qbp hx
   have hrow := W7.rows r (List.mem_of_getElem? hr')
   have tf := qaq (fun r : T => decide (r.2.1 ∈ so')) rs i r hr'
   refine ⟨_, rfl, qat (j := 0) (.inr (SqT.of hrow)) rfl rfl ⟨_, rfl, th, _, rfl, .inr (SqT.of (s7 _ _ hth)), rfl, qbf _, _, rfl, ?_⟩⟩
   show if inV (.str r.2.1) (so'.map V.str) = true then _ else _
   rw [qb0]
   refine qev (fun c => ⟨_, rfl, ?_, rfl, _, rfl⟩) (fun c => ⟨?_, rfl, _, rfl⟩)
   ·unfold qbb; rw [tf, c]; simp [qap]
   ·unfold qbb; rw [tf]; simp only [Bool.not_eq_true] at c; rw [c]; simp
  rintro ys σ H8 ⟨rfl, rfl, z, rfl⟩ rw8 hrw8
  rw [take_all rs (by simp)]
  have s9 := qad (o := .lst (qap (qbb rs so'))) s7 hrw8
  have w9 : upd H8 rw8 (.lst (qap (qbb rs so'))) rw8 = some (.lst (qap (qbb rs so'))) := qab
  generalize upd H8 rw8 (.lst (qap (qbb rs so'))) = H9 at s9 w9 ⊢
  have W9 := W.same s9
  refine ⟨_, rfl, qat (j := 0) (.inr (SqT.of W9.tp)) rfl rfl ⟨pa, rfl, ⟨_, SqT.of W9.pl⟩, qdy (xs := ps.map V.str) (fits (by rw [List.length_map]; omega)) (fun i ys σ H10 => ys = (others (ps.take i) root).map V.str /\ H10 = H9 /\ ∃ x, σ = [x, some (.str root)]) ⟨rfl, rfl, _, rfl⟩
   (fun i ys σ H10 _ q => ⟨by rw [q.1, List.length_map]; exact Nat.le_trans (List.length_filter_le _ _) (by rw [List.length_take]; omega), by rw [q.2.1]; exact SqT.of W9.pl⟩) ?_ ?_⟩⟩
  ·rintro i x ys σ H10 hx ⟨rfl, rfl, z, rfl⟩
   rw [List.getElem?_map] at hx
   cases hc : ps[i]? with
   | none => rw [hc] at hx; cases hx
   | some p =>
    rw [hc] at hx
    cases hx
    have tf := qaq (fun y : Str => !decide (y = root)) ps i p hc
    refine ⟨_, rfl, _, rfl, rfl, _, rfl, ?_⟩
    have ed : decide (V.str p = V.str root) = decide (p = root) := by
     by_cases c : p = root
     ·rw [c]; simp
     ·have : V.str p ≠ V.str root := fun z => c (V.str.inj z)
      rw [decide_eq_false this, decide_eq_false c]
    show if (!decide (V.str p = V.str root)) = true then _ else _
    rw [ed]
    refine qev (fun c => ⟨_, rfl, ?_, rfl, _, rfl⟩) (fun c => ⟨?_, rfl, _, rfl⟩)
    ·unfold others; rw [tf, c]; simp
    ·unfold others; rw [tf]; simp only [Bool.not_eq_true] at c; rw [c]; simp
  rintro ys σ H10 ⟨rfl, rfl, z, rfl⟩ ot hot
  rw [take_all ps (by simp)]
  have s11 := qad (o := .lst ((others ps root).map V.str)) s9 hot
  have o11 : upd H10 ot (.lst ((others ps root).map V.str)) ot = some (.lst ((others ps root).map V.str)) := qab
  have w11 : upd H10 ot (.lst ((others ps root).map V.str)) rw8 = some (.lst (qap (qbb rs so'))) := by rw [qag (qaf w9 hot)]; exact w9
  generalize upd H10 ot (.lst ((others ps root).map V.str)) = H11 at s11 o11 w11 ⊢
  have W11 := W.same s11
  refine ⟨_, rfl, rw8, _, rfl, .inl (SqL.of w11), _, rfl, th, _, rfl, .inr (SqT.of (s11 _ _ hth)), rfl, _, rfl, ?_⟩
  have en : (!decide (V.int ((qap (qbb rs so')).length : Int) = V.int ((so'.map V.str).length : Int))) = false := by
   rw [List.length_map, List.length_map, hfl, hsl]; simp
  rw [en]
  refine qem ?_
  refine ⟨_, rfl, rw8, rfl, ⟨_, SqL.of w11⟩, qcj (xs := qap (qbb rs so')) (fits (by rw [List.length_map]; omega)) (fun i ys σ H12 => ys = (ends ((qbb rs so').take i)).map V.str /\ H12 = H11 /\ ∃ x, σ = [x]) ⟨rfl, rfl, _, rfl⟩
   (fun i ys σ H12 _ q => ⟨by rw [q.1, List.length_map, List.length_map, List.length_take]; omega, by rw [q.2.1]; exact SqL.of w11⟩) ?_ ?_⟩
  ·rintro i x ys σ H12 hx ⟨rfl, rfl, z, rfl⟩
   obtain ⟨r, hr', rfl⟩ := qbp hx
   have hrow := W11.rows r (List.mem_filter.mp (List.mem_of_getElem? hr')).1
   refine ⟨_, rfl, qat (j := 2) (.inr (SqT.of hrow)) rfl rfl ⟨?_, rfl, _, rfl⟩⟩
   rw [List.take_add_one, hr']; simp [ends]
  rintro ys σ H12 ⟨rfl, rfl, z, rfl⟩ en12 hen
  rw [take_all (qbb rs so') (by simp)]
  have s13 := qad (o := .lst ((ends (qbb rs so')).map V.str)) s11 hen
  have e13 : upd H12 en12 (.lst ((ends (qbb rs so')).map V.str)) en12 = some (.lst ((ends (qbb rs so')).map V.str)) := qab
  have o13 : upd H12 en12 (.lst ((ends (qbb rs so')).map V.str)) ot = some (.lst ((others ps root).map V.str)) := by rw [qag (qaf o11 hen)]; exact o11
  have w13 : upd H12 en12 (.lst ((ends (qbb rs so')).map V.str)) rw8 = some (.lst (qap (qbb rs so'))) := by rw [qag (qaf w11 hen)]; exact w11
  generalize upd H12 en12 (.lst ((ends (qbb rs so')).map V.str)) = H13 at s13 e13 o13 w13 ⊢
  refine ⟨en12, _, rfl, SqL.of e13, by rw [List.length_map, hfl]; omega, fun se q14 hpm14 hso14 hq14 => ?_⟩
  have hme : ∀ x, x ∈ se ↔ x ∈ ends tr := fun x => by rw [hpm14.mem_iff]; exact (hfp.map _).mem_iff
  have ese : se = others ps root := by
   refine qjs (qci hso14 (hpm14.nodup_iff.mpr ((hfp.map _).nodup_iff.mpr (List.nodup_cons.mp S.nd).2))) (G.so.sublist List.filter_sublist) fun x => ?_
   rw [hme x]
   unfold others
   rw [List.mem_filter, qj5 S hlen x, List.mem_cons]
   constructor
   ·intro h
    refine ⟨.inr h, ?_⟩
    have : x ≠ root := fun z => (List.nodup_cons.mp S.nd).1 (z ▸ h)
    simp [this]
   ·rintro ⟨h | h, c⟩
    ·simp [h] at c
    ·exact h
  rw [ese]
  have s15 := qad (o := .lst ((others ps root).map V.str)) s13 hq14
  have q15 : upd H13 q14 (.lst ((others ps root).map V.str)) q14 = some (.lst ((others ps root).map V.str)) := qab
  have o15 : upd H13 q14 (.lst ((others ps root).map V.str)) ot = some (.lst ((others ps root).map V.str)) := by rw [qag (qaf o13 hq14)]; exact o13
  have w15 : upd H13 q14 (.lst ((others ps root).map V.str)) rw8 = some (.lst (qap (qbb rs so'))) := by rw [qag (qaf w13 hq14)]; exact w13
  generalize upd H13 q14 (.lst ((others ps root).map V.str)) = H15 at s15 q15 o15 w15 ⊢
  have nmot : ∀ x ∈ others ps root, qa9 x := fun x hx => G.nm x (List.mem_filter.mp hx).1
  refine ⟨_, rfl, .list ((others ps root).map PyData.str), .list ((others ps root).map PyData.str), .lst q15 (DVs.strs _), .lst o15 (DVs.strs _), (qbc nmot).1, (qbc nmot).1, _, rfl, ?_⟩
  have ev2 : PyData.eqv (.list ((others ps root).map PyData.str)) (.list ((others ps root).map PyData.str)) = true := (qb1 _ _).trans (by simp)
  rw [ev2]
  refine qem ?_
  refine ⟨_, rfl, by show 1 <= sizeLine; decide, fun t0 ht0 => ?_⟩
  have s16 := qad (o := .lst [.str root]) s15 ht0
  have t16 : upd H15 t0 (.lst [.str root]) t0 = some (.lst ((qbo (qbb rs so') root 0).map V.str)) := qab
  have w16 : upd H15 t0 (.lst [.str root]) rw8 = some (.lst (qap (qbb rs so'))) := by rw [qag (qaf w15 ht0)]; exact w15
  generalize upd H15 t0 (.lst [.str root]) = H16 at s16 t16 w16 ⊢
  have TO := qj3 S hfp
  have thl : ∀ n, (qbo (qbb rs so') root n).length <= 8 := fun n => Nat.le_trans (qfy (TO n).1 fun x hx => S.sub x ((TO n).2.1 x hx)) h8
  have hnn : (((qap (qbb rs so')).length : Int)).toNat = tr.length := by rw [List.length_map, hfl]; simp
  refine ⟨_, rfl, rw8, _, rfl, .inl (SqL.of w16), _, rfl, by omega, by rw [List.length_map, hfl]; omega, ?_⟩
  refine qdf (fun i σ H17 => ∃ (t1 : Addr) (g : Option V), σ = [some (.ref v), some (.str root), some (.ref th), some (.ref rw8), some (.ref ot), some (.ref t1), g] /\ qar H16 H17 /\ H17 t1 = some (.lst ((qbo (qbb rs so') root i).map V.str)))
   ⟨t0, none, rfl, qar.refl _, t16⟩ ?_ ?_
  ·rintro i σ H17 hi ⟨t1, g, rfl, s17, t17⟩
   have w17 := s17 _ _ w16
   have W17 := W.same (s16.trans s17)
   have hS : Sq K H17 t1 ((qbo (qbb rs so') root i).map V.str) := .inl (SqL.of t17)
   refine ⟨_, rfl, _, rfl, rw8, rfl, ⟨_, SqL.of w17⟩, qe1 (xs := qap (qbb rs so')) (fits (by rw [List.length_map]; omega)) (fun j ys σ H18 => ys = (ends (((qbb rs so').take j).filter fun r => decide (r.2.2.1 ∈ qbo (qbb rs so') root i) && !decide (r.2.2.2 ∈ qbo (qbb rs so') root i))).map V.str /\ H18 = H17 /\ ∃ x, σ = [x, some (.ref t1)]) ⟨rfl, rfl, _, rfl⟩
    (fun j ys σ H18 _ q => ⟨by rw [q.1, List.length_map, List.length_map]; exact Nat.le_trans (List.length_filter_le _ _) (by rw [List.length_take]; omega), by rw [q.2.1]; exact SqL.of w17⟩) ?_ ?_⟩
   ·rintro j x ys σ H18 hx ⟨rfl, rfl, z, rfl⟩
    obtain ⟨r, hr', rfl⟩ := qbp hx
    have hrow := W17.rows r (List.mem_filter.mp (List.mem_of_getElem? hr')).1
    have tf := qaq (fun r : T => decide (r.2.2.1 ∈ qbo (qbb rs so') root i) && !decide (r.2.2.2 ∈ qbo (qbb rs so') root i)) (qbb rs so') j r hr'
    refine ⟨_, rfl, qat (j := 1) (.inr (SqT.of hrow)) rfl rfl ⟨_, rfl, t1, _, rfl, hS, rfl, qbf _, _, rfl, ?_⟩⟩
    show if inV (.str r.2.2.1) ((qbo (qbb rs so') root i).map V.str) = true then _ else _
    rw [qb0]
    refine qev (fun c => ⟨_, rfl, qat (j := 2) (.inr (SqT.of hrow)) rfl rfl ⟨_, rfl, t1, _, rfl, hS, rfl, qbf _, _, rfl, ?_⟩⟩) (fun c => qem ⟨?_, rfl, _, rfl⟩)
    ·show if (!inV (.str r.2.2.2) ((qbo (qbb rs so') root i).map V.str)) = true then _ else _
     rw [qb0]
     refine qev (fun d => ⟨_, rfl, qat (j := 2) (.inr (SqT.of hrow)) rfl rfl ⟨?_, rfl, _, rfl⟩⟩) (fun d => ⟨?_, rfl, _, rfl⟩)
     ·rw [tf, c, d]; simp [ends]
     ·rw [tf]; simp only [Bool.not_eq_true] at d; rw [c, d]; simp
    ·rw [tf]; simp only [Bool.not_eq_true] at c; rw [c]; simp
   rintro ys σ H18 ⟨rfl, rfl, z, rfl⟩ q hq
   rw [take_all (qbb rs so') (by simp)]
   have s19 := qad (o := .lst ((ends ((qbb rs so').filter fun r => decide (r.2.2.1 ∈ qbo (qbb rs so') root i) && !decide (r.2.2.2 ∈ qbo (qbb rs so') root i))).map V.str)) (qar.refl H18) hq
   have hfz := List.length_filter_le (fun r : T => decide (r.2.2.1 ∈ qbo (qbb rs so') root i) && !decide (r.2.2.2 ∈ qbo (qbb rs so') root i)) (qbb rs so')
   have htz := thl i
   refine ⟨t1, q, _, _, rfl, rfl, s19 _ _ t17, qab, by rw [sizeLine_eq, List.length_map, List.length_map, List.length_map]; omega, fun q2 hq2 => ?_⟩
   exact ⟨q2, _, rfl, s17.trans (qad s19 hq2), by rw [qab, <- List.map_append]; rfl⟩
  ·rintro σ H17 ⟨t1, g, rfl, s17, t17⟩
   rw [hnn] at t17
   obtain ⟨n1, n2, n3⟩ := TO tr.length
   rw [List.take_length] at n3
   have htz := thl tr.length
   refine ⟨_, rfl, t1, _, rfl, SqL.of t17, by omega, fun sp q18 hpm18 hso18 hq18 => ?_⟩
   have esp : sp = ps := qjs (qci hso18 (hpm18.nodup_iff.mpr n1)) G.so fun x => by
    rw [hpm18.mem_iff, qj5 S hlen x]
    exact ⟨n2 x, n3 x⟩
   rw [esp]
   have s18 := qad (o := .lst (ps.map V.str)) (s16.trans s17) hq18
   have q18' : upd H17 q18 (.lst (ps.map V.str)) q18 = some (.lst (ps.map V.str)) := qab
   generalize upd H17 q18 (.lst (ps.map V.str)) = H18 at s18 q18' ⊢
   have W18 := W.same s18
   refine ⟨_, rfl, qat (j := 0) (.inr (SqT.of W18.tp)) rfl rfl ⟨pa, _, rfl, .inr (SqT.of W18.pl), fun l19 hl19 => ?_⟩⟩
   have s19 := qad (o := .lst (ps.map V.str)) s18 hl19
   refine ⟨.list (ps.map PyData.str), .list (ps.map PyData.str), .lst (qad (qar.refl H18) hl19 _ _ q18') (DVs.strs ps), .lst qab (DVs.strs ps), (qbc G.nm).1, (qbc G.nm).1, ?_⟩
   have ev3 : PyData.eqv (.list (ps.map PyData.str)) (.list (ps.map PyData.str)) = true := (qb1 ps ps).trans (by simp)
   rw [ev3]
   exact k _ s19
end
theorem qxs : bootBuiltins "ValueError" = some (.type "ValueError") := by decide +kernel
structure Oth (K : PySem.W.Frag) (mg : Str -> Option Value) (C d1 d2 d3 d4 d5 d6 d7 d8 d9 d10 : Addr) : Prop where
 m1 : mg "NoCosts" = some (.ref d1)
 m2 : mg "NoLot" = some (.ref d2)
 m3 : mg "NoNumber" = some (.ref d3)
 m4 : mg "NoPlace" = some (.ref d4)
 m5 : mg "NoRoots" = some (.ref d5)
 m6 : mg "NoText" = some (.ref d6)
 m7 : mg "NoTie" = some (.ref d7)
 m8 : mg "NoTree" = some (.ref d8)
 m9 : mg "NoWeb" = some (.ref d9)
 m10 : mg "TooMany" = some (.ref d10)
 k1 : PySem.W.kitAny K (.ref C) ([d1, d2, d3, d4, d5].map Value.ref) = some false
 k2 : PySem.W.kitAny K (.ref C) ([d6, d7, d8, d9, d10].map Value.ref) = some false
 ve : mg "ValueError" = none
 kv : PySem.W.kitOne K (.ref C) (.type "ValueError") = some true
 ke : qtp K C
section
variable {P : Program} {w : World} {K : PySem.W.Frag} {mg : Str -> Option Value} {base : Heap} {C d1 d2 d3 d4 d5 d6 d7 d8 d9 d10 : Addr}
noncomputable def qm4 (C : Addr) : Sp := fun vs H Q _ => ∃ (a dx : Addr) (fs : List (Str × V)), vs = [.ref a] /\ H a = some (qh1 a C (some dx)) /\ H dx = some (.xd fs) /\ ∀ H', qar H H' -> Q (.bl false) H'
theorem qxx : qao ["_law_e"] ["_law_e"] (qai (top 48)) := ⟨rfl, rfl, rfl, by decide +kernel, rfl, by decide +kernel, by decide +kernel⟩
theorem qp2 {f : Addr} {fd : FuncData} (F : Fun K "_law_is_other" "_law_is_other" (top 48) f fd) (B : Bl mg) (O : Oth K mg C d1 d2 d3 d4 d5 d6 d7 d8 d9 d10) : qiv P w K mg base CX0 1 f fd ["_law_e"] (qm4 C) := by
 refine F.okH qxx (fun vs H Q E h => ?_) (fun cdv A outer s H vs Q E hr h => ?_)
 ·obtain ⟨a, dx, fs, rfl, _⟩ := h
  rfl
 ·obtain ⟨a, dx, fs, rfl, ha, hdx, k⟩ := h
  refine ⟨_, qae (qb8 (qbq (qaj (qd8 O.ke O.k1) rfl B.isinstance qas (qaa (pv 0) (qaa (qcr (qaa (qbz (v := .ref d1) rfl O.m1 rfl) (qaa (qbz (v := .ref d2) rfl O.m2 rfl) (qaa (qbz (v := .ref d3) rfl O.m3 rfl) (qaa (qbz (v := .ref d4) rfl O.m4 rfl) (qaa (qbz (v := .ref d5) rfl O.m5 rfl) qac)))))) qac)))) qbr qa2)
   (qak (qav (qaj (qd8 O.ke O.k2) rfl B.isinstance qas (qaa (pv 0) (qaa (qcr (qaa (qbz (v := .ref d6) rfl O.m6 rfl) (qaa (qbz (v := .ref d7) rfl O.m7 rfl) (qaa (qbz (v := .ref d8) rfl O.m8 rfl) (qaa (qbz (v := .ref d9) rfl O.m9 rfl) (qaa (qbz (v := .ref d10) rfl O.m10 rfl) qac)))))) qac))))), ?_⟩
  refine ⟨_, rfl, by show 5 <= sizeLine; decide, fun t1 ht1 => ?_⟩
  have s1 := qad (o := .tup ([d1, d2, d3, d4, d5].map V.ref)) (qar.refl H) ht1
  refine ⟨a, some dx, t1, rfl, s1 _ _ ha, fun d hd => ⟨fs, by cases hd; exact s1 _ _ hdx⟩, qab, _, rfl, qem ?_⟩
  refine ⟨_, rfl, by show 5 <= sizeLine; decide, fun t2 ht2 => ?_⟩
  have s2 := qad (o := .tup ([d6, d7, d8, d9, d10].map V.ref)) s1 ht2
  exact ⟨a, some dx, t2, rfl, s2 _ _ ha, fun d hd => ⟨fs, by cases hd; exact s2 _ _ hdx⟩, qab, k _ s2⟩
noncomputable def qtz : Sp := fun vs H Q _ => ∃ (v pa ra : Addr) (ps : List Str) (rs : List T) (root : Str) (m : Nat) (l0 : List Str), vs = [.ref v, .str root, .int m] /\ qdg H v pa ra ps rs /\ Good ps (rs.map (·.2)) /\ ps.length <= 8 /\ root ∈ ps /\ m <= 6 /\ l0 ∈ qam (others ps root) /\ cnt rs l0 < m /\
 ∀ H', qar H H' -> ∀ l ∈ qam (others ps root), cnt rs l < m -> ∀ u, H' u = some (.tup (l.map V.str)) -> Q (.ref u) H'
noncomputable abbrev N49 : List Str := ["_law_web_here", "_law_root", "_law_many", "_law_found", "_law_e"]
theorem qvg : qao N49 ["_law_web_here", "_law_root", "_law_many"] (qai (top 49)) := ⟨rfl, rfl, rfl, by decide +kernel, rfl, by decide +kernel, by decide +kernel⟩
theorem qtx {f R fI : Addr} {fd : FuncData} (F : Fun K "_law_too_few" "_law_too_few" (top 49) f fd) (B : Bl mg) (hx : mg "TooFew" = some (.ref C)) (hC : qrb qox base C fI) (hxR : mg "RootError" = some (.ref R)) (hR : qry base R) (hU : Under base C R) (hi : PySem.W.isIn K (.ref C) C = true) (O : Oth K mg C d1 d2 d3 d4 d5 d6 d7 d8 d9 d10)
  (F1 : FnX P w K mg base 6 "shares" ["web", "root", "many"] (qg5 C)) (F2 : FnH P w K mg base 1 "_law_is_other" ["_law_e"] (qm4 C)) : qca P w K mg base CX0 7 f fd ["_law_web_here", "_law_root", "_law_many"] qtz := by
 refine F.ok qvg (fun vs H Q E h => ?_) (fun cdv A outer s H vs Q E hr h => ?_)
 ·obtain ⟨v, pa, ra, ps, rs, root, m, l0, rfl, _⟩ := h
  rfl
 ·obtain ⟨v, pa, ra, ps, rs, root, m, l0, rfl, W, G, h8, hroot, hm6, hl0, hlt0, k⟩ := h
  have hr1 : qcl 1 _ := hr.mono (by decide)
  refine ⟨_, qae (qax (i := 3) qvg.nd rfl (Or.inl rfl) qkj)
   (qae (quf (j := 4) (qrr (qmq F1 hr (qaa (pv 0) (qaa (pv 1) (qaa (pv 2) qac))))) hxR hR
    (fun ea => qak (qb8 (PW.pt (qg9 (qbq (qaj (qhu hi) rfl B.isinstance qas (qaa (pv 4) (qaa (qbz (v := .ref C) rfl hx rfl) qac))))
     (qg9 (qbq (qaj (qha (c := .ty "ValueError") O.ke (fun _ z => z) O.kv) rfl B.isinstance qas (qaa (pv 4) (qaa (qcm (v := .ty "ValueError") rfl O.ve qxs rfl) qac))))
     (qgv (qb4 (qbq (qua F2 ⟨hr1.dp, hr1.un, hr1.gd⟩ (qaa (pv 4) qac))))))))
     (qak (qax (i := 3) qvg.nd rfl (Or.inl rfl) (qrn (n := Str.ofString "lot") hC (by decide) (by decide) (by decide) (by decide) (pv 4)))) qa2)) qvg.nd rfl rfl rfl rfl rfl)
   (qak (qav (pv 3)))), ?_⟩
  refine ⟨_, rfl, _, rfl, _, rfl, v, pa, ra, ps, rs, root, m, rfl, W, G, h8, hroot, hm6, fun H2 s2 => ⟨fun hall => absurd (hall l0 hl0) (by omega), fun l hl hlt dx u hdx hu => ⟨C, rfl, hU, fun ea hea => ?_⟩⟩⟩
  have s3 := qad (o := qh1 ea C (some dx)) (qar.refl H2) hea
  have e3 : upd H2 ea (qh1 ea C (some dx)) ea = some (qh1 ea C (some dx)) := qab
  generalize upd H2 ea (qh1 ea C (some dx)) = H3 at s3 e3 ⊢
  have hdx3 := s3 _ _ hdx
  refine ⟨_, rfl, ea, some dx, rfl, e3, _, rfl, qf9 ?_⟩
  refine ⟨_, rfl, ea, some dx, rfl, e3, fun d hd => ⟨_, by cases hd; exact hdx3⟩, _, rfl, qf9 ?_⟩
  refine ⟨_, rfl, ea, dx, _, rfl, e3, hdx3, fun H4 s4 => ⟨_, rfl, qf9 ?_⟩⟩
  refine ⟨_, rfl, ea, dx, _, .ref u, rfl, s4 _ _ e3, s4 _ _ hdx3, rfl, _, rfl, ?_⟩
  exact k H4 (s2.trans (s3.trans s4)) l hl hlt u (s4 _ _ (s3 _ _ hu))
noncomputable def qqy : Sp := fun vs H Q _ => ∃ (v pa ra : Addr) (ps : List Str) (rs : List T) (root : Str) (m : Nat), vs = [.ref v, .str root, .int m] /\ qdg H v pa ra ps rs /\ Good ps (rs.map (·.2)) /\ ps.length <= 8 /\ root ∈ ps /\ m <= 6 /\ (∀ l ∈ qam (others ps root), m <= cnt rs l) /\
 ∀ H', qar H H' -> ∀ (q : Addr) (trs : List (List T)) (tls : List (Addr × List Str)) (cur : List T), H q = none -> H' q = some (.lst (qan tls)) -> qcq H' tls -> Trs ps (List.replicate m root) rs m trs tls cur -> Q (.ref q) H'
noncomputable abbrev N50 : List Str := ["_law_web_here", "_law_root", "_law_many", "_law_found"]
theorem qvl : qao N50 ["_law_web_here", "_law_root", "_law_many"] (qai (top 50)) := ⟨rfl, rfl, rfl, by decide +kernel, rfl, by decide +kernel, by decide +kernel⟩
theorem qrk {f R : Addr} {fd : FuncData} (F : Fun K "_law_told" "_law_told" (top 50) f fd) (hxR : mg "RootError" = some (.ref R)) (hR : qry base R)
  (F1 : FnX P w K mg base 6 "shares" ["web", "root", "many"] (qg5 C)) : qca P w K mg base CX0 7 f fd ["_law_web_here", "_law_root", "_law_many"] qqy := by
 refine F.ok qvl (fun vs H Q E h => ?_) (fun cdv A outer s H vs Q E hr h => ?_)
 ·obtain ⟨v, pa, ra, ps, rs, root, m, rfl, _⟩ := h
  rfl
 ·obtain ⟨v, pa, ra, ps, rs, root, m, rfl, W, G, h8, hroot, hm6, hall, k⟩ := h
  refine ⟨_, qae (qax (i := 3) qvl.nd rfl (Or.inl rfl) qkj)
   (qae (qrf (qt4 (i := 3) qvl.nd rfl (Or.inl rfl) (qmq F1 hr (qaa (pv 0) (qaa (pv 1) (qaa (pv 2) qac))))) hxR hR.cat
    (fun ea => qak (qax (i := 3) qvl.nd rfl (Or.inl rfl) qkj)) rfl rfl rfl)
   (qak (qav (pv 3)))), ?_⟩
  exact ⟨_, rfl, _, rfl, _, rfl, v, pa, ra, ps, rs, root, m, rfl, W, G, h8, hroot, hm6, fun H2 s2 => ⟨fun _ q trs tls cur hq q2 A2 R2 => ⟨_, rfl, k H2 s2 q trs tls cur hq q2 A2 R2⟩, fun l hl hlt => absurd (hall l hl) (by omega)⟩⟩
end
end K32
namespace K32
open PySem L2 PySem.Spec PyProof.Rows
noncomputable def qxl (K : PySem.W.Frag) : R2 := fun x y H Q => ∃ (a p : Addr) (ss : List Str) (lts : List (Addr × List Str)), x = .ref a /\ y = .ref p /\ H a = some (.tup (ss.map V.str)) /\ (∀ z ∈ ss, qa9 z) /\ SqL K H p (qan lts) /\ qcq H lts /\ (∀ l ∈ lts, ∀ z ∈ l.2, qa9 z) /\ Q (.bl (decide (ss ∈ lts.map (·.2)))) H
theorem quc {X : Cx} {k : Nat} (hr : qcl k X.A) : OpR X (compareOp .In) (qxl X.K) := by
 intro pins s σ H x y v u Q I rx ry h
 obtain ⟨a, p, ss, lts, rfl, rfl, ha, hs, hq, hL, hn, q⟩ := h
 cases rx
 cases ry
 obtain ⟨its, r', pl, hz⟩ := I.list hq
 have hun := hr.un
 obtain ⟨as, r1⟩ := (DV.tup ha (DVs.strs _)).reads I.hok (show RelV (.ref a) (Value.ref a) from rfl)
 have item : ∀ (i : Nat) (v : Value), its[i]? = some v -> ∃ l, lts[i]? = some l /\ v = Value.ref l.1 := fun i v hv => by
  have hlen := r'.length
  rw [List.length_map] at hlen
  have hi : i < lts.length := by rw [hlen]; exact (List.getElem?_eq_some_iff.mp hv).1
  have e1 : (qan lts)[i]? = some (V.ref lts[i].1) := by rw [List.getElem?_map, List.getElem?_eq_getElem hi]; rfl
  obtain ⟨w', e2, rw'⟩ := r'.get e1
  rw [hv] at e2
  cases e2
  exact ⟨lts[i], List.getElem?_eq_getElem hi, rw'⟩
 have data : ∀ y ∈ its, ∃ l ∈ lts, y = Value.ref l.1 := fun y hy => by
  obtain ⟨i, hi⟩ := List.getElem?_of_mem hy
  obtain ⟨l, h1, h2⟩ := item i y hi
  exact ⟨l, List.mem_of_getElem? h1, h2⟩
 let e : Value -> Bool := fun y => match y with | .ref c => lts.any fun l => decide (l.1 = c) && decide (l.2 = ss) | _ => false
 have ee : ∀ c, e (.ref c) = true ↔ ∃ l ∈ lts, l.1 = c /\ l.2 = ss := fun c => by
  show (lts.any fun l => decide (l.1 = c) && decide (l.2 = ss)) = true ↔ _
  rw [List.any_eq_true]
  simp only [Bool.and_eq_true, decide_eq_true_eq]
 refine SeqAt.in_listAt e pl.isList (fun y hy => ?_) ?_
 ·obtain ⟨l, hl, rfl⟩ := data y (by simpa using hy)
  have el : e (.ref l.1) = decide (l.2 = ss) := by
   rw [Bool.eq_iff_iff, ee, decide_eq_true_iff]
   constructor
   ·rintro ⟨m, hm, em, es⟩
    rw [qgk (hL l hl) (hL m hm) em.symm]; exact es
   ·exact fun q => ⟨l, hl, rfl, q⟩
  rw [el]
  by_cases hab : l.1 = a
  ·rw [decide_eq_true (qgk (hL l hl) ha hab), hab]
   exact SeqAt.EqAt.same _
  ·refine SeqAt.EqAt.of_refs hab fun prog w E Q hq => ?_
   obtain ⟨bs, r2⟩ := (DV.tup (hL l hl) (DVs.strs _)).reads I.hok (show RelV (.ref l.1) (Value.ref l.1) from rfl)
   have ev : PyData.eqv (.tuple (l.2.map PyData.str)) (.tuple (ss.map PyData.str)) = decide (l.2 = ss) := qb1 _ _
   refine (eq_dataH (A := X.A.in1) r2 r1 (qbc (hn l hl)).2 (qbc hs).2 (by show X.A.units + 1 + 64 < cLine; omega) ?_ : wpAny (model prog w) X.A.in1 (compareOp .Eq (.ref l.1) (.ref a)) Q E _)
   rw [ev]; exact hq
 ·have ea : its.toArray.any e = decide (ss ∈ lts.map (·.2)) := by
   rw [Bool.eq_iff_iff, List.any_toArray, List.any_eq_true, decide_eq_true_iff]
   constructor
   ·rintro ⟨y, hy, ey⟩
    obtain ⟨m, hm, rfl⟩ := data y hy
    obtain ⟨l, hl, _, es⟩ := (ee _).mp ey
    exact es ▸ List.mem_map_of_mem hl
   ·intro hm
    obtain ⟨l, hl, es⟩ := List.mem_map.mp hm
    obtain ⟨i, hi⟩ := List.getElem?_of_mem hl
    obtain ⟨w', e2, rw'⟩ := r'.get (show (qan lts)[i]? = some (V.ref l.1) by rw [List.getElem?_map, hi]; rfl)
    cases rw'
    exact ⟨_, List.mem_of_getElem? e2, (ee _).mpr ⟨l, hl, rfl, es⟩⟩
  rw [ea]
  exact ⟨V.bl (decide (ss ∈ lts.map (fun z : Addr × List Str => z.2))), H, I, rfl, q⟩
theorem qfz : ∀ (tls : List (Addr × List Str)) (trs : List (List T)), tls.length = trs.length -> (∀ (i : Nat) (tr : List T) (x : Addr × List Str), trs[i]? = some tr -> tls[i]? = some x -> x.2.Perm (tna tr)) -> ((tls.map (·.2)).flatten).Perm (tna trs.flatten)
 | [], [], _, _ => by simp
 | [], _ :: _, h, _ => by simp at h
 | _ :: _, [], h, _ => by simp at h
 | x :: xs, t :: ts, hl, h => by
  have ih := qfz xs ts (by simpa using hl) fun i tr x h1 h2 => h (i + 1) tr x (by simpa using h1) (by simpa using h2)
  have h0 := h 0 t x rfl rfl
  rw [List.map_cons, List.flatten_cons, List.flatten_cons]
  show List.Perm _ (List.map _ (_ ++ _))
  rw [List.map_append]
  exact h0.append ih
theorem qq3 {m i : Nat} {root : Str} (h : i < m) : (List.replicate m root)[i]? = some root := by rw [List.getElem?_replicate, if_pos h]
theorem Trs.names {ps : List Str} {rs : List T} {m : Nat} {root : Str} {trs : List (List T)} {tls : List (Addr × List Str)} {cur : List T} (h : Trs ps (List.replicate m root) rs m trs tls cur) (hn : (tna rs).Nodup) : ((tls.map (·.2)).flatten).Nodup /\ ((tls.map (·.2)).flatten).Perm (tna trs.flatten) := by
 have hp := qfz tls trs (by rw [h.l1, h.l2]) fun i tr x h1 h2 => (h.tr i root tr x (qq3 (by rw [<- h.l1]; exact (List.getElem?_eq_some_iff.mp h1).1)) h1 h2).2.2.1
 refine ⟨hp.nodup_iff.mpr ?_, hp⟩
 have h2 := (h.pm.map fun r : T => r.2.1).nodup_iff.mp hn
 rw [List.map_append] at h2
 exact (List.nodup_append.mp h2).1
theorem Trs.one {ps : List Str} {rs : List T} {m : Nat} {root : Str} {trs : List (List T)} {tls : List (Addr × List Str)} {cur : List T} (h : Trs ps (List.replicate m root) rs m trs tls cur) {i : Nat} {x : Addr × List Str} (hx : tls[i]? = some x) : ∃ tr rest, trs[i]? = some tr /\ rs.Perm (tr ++ rest) /\ SpT root ps tr /\ tr.length + 1 = ps.length /\ x.2.Perm (tna tr) /\ PyProof.Rows.sortedS x.2 = true := by
 have hi : i < m := by rw [<- h.l2]; exact (List.getElem?_eq_some_iff.mp hx).1
 have hi' : i < trs.length := by rw [h.l1]; exact hi
 have ht : trs[i]? = some trs[i] := List.getElem?_eq_getElem hi'
 obtain ⟨h1, h2, h3, h4⟩ := h.tr i root _ x (qq3 hi) ht hx
 obtain ⟨rest, hr⟩ := qr5 ht
 exact ⟨_, rest ++ cur, ht, (h.pm.trans (hr.append_right cur)).trans (by rw [List.append_assoc]), h1, h2, h3, h4⟩
theorem Trs.nameP {ps : List Str} {rs : List T} {m : Nat} {root : Str} {trs : List (List T)} {tls : List (Addr × List Str)} {cur : List T} (h : Trs ps (List.replicate m root) rs m trs tls cur) (G : Good ps (rs.map (·.2))) : ∀ ts ∈ tls.map (·.2), ∀ y ∈ ts, qa9 y := fun ts hts y hy => by
 obtain ⟨x, hx, rfl⟩ := List.mem_map.mp hts
 obtain ⟨i, hi⟩ := List.getElem?_of_mem hx
 obtain ⟨tr, rest, _, hp, _, _, h3, _⟩ := h.one hi
 obtain ⟨r, hr, e⟩ := List.mem_map.mp (h3.mem_iff.mp hy)
 rw [<- e]
 exact (G.rn r.2 (List.mem_map_of_mem (hp.mem_iff.mpr (List.mem_append_left _ hr)))).1
theorem Trs.same {ps : List Str} {rs : List T} {m : Nat} {root : Str} {trs trs' : List (List T)} {tls tls' : List (Addr × List Str)} {cur cur' : List T} (h : Trs ps (List.replicate m root) rs m trs tls cur) (h' : Trs ps (List.replicate m root) rs m trs' tls' cur') (hn : (tna rs).Nodup) : tls.map (·.2) = tls'.map (·.2) := by
 have et : trs = trs' := (Prod.mk.inj (h.fn.symm.trans h'.fn)).1
 refine List.ext_getElem? fun i => ?_
 rw [List.getElem?_map, List.getElem?_map]
 cases e : tls[i]? with
 | none =>
  have : m <= i := by rw [<- h.l2]; exact List.getElem?_eq_none_iff.mp e
  rw [List.getElem?_eq_none (by rw [h'.l2]; exact this)]
 | some x =>
  have hi : i < m := by rw [<- h.l2]; exact (List.getElem?_eq_some_iff.mp e).1
  have hi' : i < tls'.length := by rw [h'.l2]; exact hi
  have e' : tls'[i]? = some tls'[i] := List.getElem?_eq_getElem hi'
  obtain ⟨tr, rest, ht, hp, _, _, h3, h4⟩ := h.one e
  obtain ⟨tr', rest', ht', hp', _, _, h3', h4'⟩ := h'.one e'
  rw [<- et, ht] at ht'
  cases ht'
  rw [e']
  have nd : (tna tr).Nodup := by
   have : (tna tr ++ tna rest).Nodup := by rw [<- List.map_append]; exact (hp.map _).nodup_iff.mp hn
   exact (List.nodup_append.mp this).1
  have ee : x.2 = tls'[i].2 := qjs (qci h4 (h3.nodup_iff.mpr nd)) (qci h4' (h3'.nodup_iff.mpr nd)) fun z => by rw [h3.mem_iff, h3'.mem_iff]
  simp [ee]
theorem eq_self (tl : List (List Str)) (h : ∀ ts ∈ tl, ∀ y ∈ ts, qa9 y) : PyData.eqv (tlD tl) (tlD tl) = true := by
 have q := qje h
 exact qkd (tlD tl) (by simp only [tlD, PyData.canLay0, q.1])
section
variable {P : Program} {w : World} {K : PySem.W.Frag} {mg : Str -> Option Value} {base : Heap}
noncomputable def qut : Sp := fun vs H Q _ => ∃ (v pa ra q : Addr) (ps : List Str) (rs : List T) (root : Str) (m : Nat) (trs : List (List T)) (tls : List (Addr × List Str)) (cur : List T), vs = [.ref v, .str root, .int m, .ref q] /\ qdg H v pa ra ps rs /\ Good ps (rs.map (·.2)) /\ ps.length <= 8 /\ root ∈ ps /\ m <= 6 /\
 H q = some (.lst (qan tls)) /\ qcq H tls /\ Trs ps (List.replicate m root) rs m trs tls cur /\ ∀ H', qar H H' -> Q (.bl true) H'
noncomputable abbrev N51 : List Str := ["_law_web_here", "_law_root", "_law_many", "_law_told_here", "_law_used", "_law_tree"]
theorem qvo : qao N51 ["_law_web_here", "_law_root", "_law_many", "_law_told_here"] (qai (top 51)) := ⟨rfl, rfl, rfl, by decide +kernel, rfl, by decide +kernel, by decide +kernel⟩
theorem qup {f : Addr} {fd : FuncData} (F : Fun K "_law_are_shares" "_law_are_shares" (top 51) f fd) (B : Bl mg) (F1 : Fn P w K mg base 1 "_law_is_tree" ["_law_web_here", "_law_root", "_law_thing"] qjy) : qca P w K mg base CX0 2 f fd ["_law_web_here", "_law_root", "_law_many", "_law_told_here"] qut := by
 refine F.ok qvo (fun vs H Q E h => ?_) (fun cdv A outer s H vs Q E hr h => ?_)
 ·obtain ⟨v, pa, ra, q, ps, rs, root, m, trs, tls, cur, rfl, _⟩ := h
  rfl
 ·obtain ⟨v, pa, ra, q, ps, rs, root, m, trs, tls, cur, rfl, W, G, h8, hroot, hm6, hq, A0, R, k⟩ := h
  refine ⟨_, qae (qb8 (PW.pt (qgs (qb4 (qbq (qaj (qbe (T := "list")) rfl B.isinstance qas (qaa (pv 3) (qaa (qcm (v := .ty "list") rfl B.list qhv rfl) qac)))))
    (qen (qay qi5 (qaj qal rfl B.len PySem.boot_len (qaa (pv 3) qac)) (pv 2) (qbg _))))) qbr qa2)
   (qae (qb8 (qb4 (qbq (qaj (qc0 rfl) rfl B.all qlq (qaa (qcx (N := ["_law_tree", "_law_web_here", "_law_root"]) (ix := [none, some 0, some 1]) ⟨rfl, rfl, rfl, by decide⟩ rfl (qbd (pv 3)) (fun _ _ _ _ => qbu 0 (by decide) rfl rfl) (fun _ _ _ _ => qbk)
    (fun _ _ _ _ => qaw F1 hr (qaa (pv 1) (qaa (pv 2) (qaa (pv 0) qac))))) qac)))) qbr qa2)
   (qae (qax (i := 4) qvo.nd rfl (Or.inl rfl) (qbv qac))
   (qae (qcn PassesOwn.never rfl (qbd (pv 3)) (qa0 (i := 5) qvo.nd rfl (Or.inl rfl))
    (qak (qax (i := 4) qvo.nd rfl (Or.inl rfl) (qa4 qfg (pv 4) (qbs qco rfl B.list qhv (qaa (pv 5) qac))))))
   (qak (qav (qcc qqm (qaj (qle w) rfl B.len PySem.boot_len (qaa (qbs (qiw w rfl) rfl B.set qt3 (qaa (pv 4) qac)) qac)) (qaj qal rfl B.len PySem.boot_len (qaa (pv 4) qac)) (qbg _))))))), ?_⟩
  have htn : (tna rs).Nodup := by
   have := qcp G.rso
   rw [List.map_map] at this
   exact this
  obtain ⟨und, unp⟩ := R.names htn
  have htl : tls.length = m := R.l2
  have hx7 : ∀ x ∈ tls, x.2.length <= 7 := fun x hx => by
   obtain ⟨i, hi⟩ := List.getElem?_of_mem hx
   obtain ⟨tr, rest, _, _, _, hl, hp, _⟩ := R.one hi
   rw [hp.length_eq, List.length_map]
   omega
  have hfl : ∀ i, ((tls.take i).map (·.2)).flatten.length <= 7 * i := fun i => by
   induction i with
   | zero => simp
   | succ n ih =>
    rw [List.take_add_one, List.map_append, List.flatten_append, List.length_append]
    cases e : tls[n]? with
    | none => exact Nat.le_trans (by simp [List.length_flatten]) (by omega : ((tls.take n).map (·.2)).flatten.length <= 7 * (n + 1))
    | some x =>
     have := hx7 x (List.mem_of_getElem? e)
     have e1 : ((some x : Option (Addr × List Str)).toList.map (·.2)).flatten.length = x.2.length := by simp
     rw [e1]
     omega
  refine ⟨_, rfl, _, _, true, rfl, .lst hq, rfl, true, rfl, qem ?_⟩
  refine ⟨_, rfl, q, _, rfl, .inl (SqL.of hq), _, rfl, rfl, _, rfl, ?_⟩
  have en : (!decide (V.int ((qan tls).length : Int) = V.int (m : Int))) = false := by
   rw [List.length_map, htl]; simp
  rw [en]
  refine qem ?_
  refine ⟨_, rfl, q, rfl, ⟨_, SqL.of hq⟩, qcj (xs := qan tls) (fits (by rw [List.length_map]; omega)) (fun i ys σ H1 => ys = (List.replicate i true).map V.bl /\ qar H H1 /\ ∃ x, σ = [x, some (.ref v), some (.str root)]) ⟨rfl, qar.refl _, _, rfl⟩
   (fun i ys σ H1 _ p => ⟨by rw [p.1]; simp, SqL.of (p.2.1 _ _ hq)⟩) ?_ ?_⟩
  ·rintro i x ys σ H1 hx ⟨rfl, s1, g, rfl⟩
   obtain ⟨y, hy, rfl⟩ := qbx hx
   obtain ⟨tr, rest, _, hp, hS, hl, hpm, hso⟩ := R.one hy
   refine ⟨_, rfl, _, rfl, _, rfl, v, pa, ra, y.1, ps, rs, tr, rest, root, y.2, rfl, W.same s1, G, h8, hroot, s1 _ _ (A0 y (List.mem_of_getElem? hy)), hp, hS, hl, hpm, hso, fun H2 s2 => ⟨?_, s1.trans s2, _, rfl⟩⟩
   rw [List.replicate_succ', List.map_append]; rfl
  rintro ys σ H1 ⟨rfl, s1, g, rfl⟩ al hal
  have s2 := qad (o := .lst ((List.replicate (qan tls).length true).map V.bl)) s1 hal
  refine ⟨al, List.replicate (qan tls).length true, rfl, SqL.of qab, _, rfl, ?_⟩
  have eall : ∀ n : Nat, (List.replicate n true).all id = true := by simp
  rw [eall]
  refine qem ?_
  generalize upd H1 al (.lst ((List.replicate (qan tls).length true).map V.bl)) = H2 at s2 ⊢
  refine ⟨Nat.zero_le _, fun u0 hu0 => ?_⟩
  have s3 := qad (o := .lst []) s2 hu0
  have u3 : upd H2 u0 (.lst []) u0 = some (.lst ((((tls.take 0).map (·.2)).flatten).map V.str)) := qab
  generalize upd H2 u0 (.lst []) = H3 at s3 u3 ⊢
  refine ⟨_, rfl, q, rfl, ⟨_, SqL.of (s3 _ _ hq)⟩, qdn (K := K) (a := q) (xs := qan tls) (fun i σ H4 => ∃ (u : Addr) (g : Option V), σ = [some (.ref v), some (.str root), some (.int m), some (.ref q), some (.ref u), g] /\ qar H H4 /\ H4 u = some (.lst ((((tls.take i).map (·.2)).flatten).map V.str)))
   ⟨u0, none, rfl, s3, u3⟩ (fun i σ H4 _ p => by obtain ⟨_, _, _, s4, _⟩ := p; exact SqL.of (s4 _ _ hq)) ?_ ?_⟩
  ·rintro i x σ H4 hx ⟨u, g, rfl, s4, u4⟩
   obtain ⟨y, hy, rfl⟩ := qbx hx
   have hym := List.mem_of_getElem? hy
   have hi : i < tls.length := (List.getElem?_eq_some_iff.mp hy).1
   have y4 := s4 _ _ (A0 y hym)
   refine ⟨_, rfl, _, rfl, y.1, _, rfl, .inr (SqT.of y4), fun l hl => ?_⟩
   have s5 := qad (o := .lst (y.2.map V.str)) (qar.refl H4) hl
   have h7 := hx7 y hym
   have h7i := hfl i
   refine ⟨u, l, _, _, rfl, rfl, s5 _ _ u4, qab, by rw [sizeLine_eq, List.length_map, List.length_map]; omega, fun n hn => ?_⟩
   refine ⟨n, _, rfl, s4.trans (qad s5 hn), ?_⟩
   rw [qab, List.take_add_one, hy]
   simp
  ·rintro σ H4 ⟨u, g, rfl, s4, u4⟩
   rw [take_all tls (by simp)] at u4
   have hlen : ((tls.map (·.2)).flatten).length <= 42 := by
    have := hfl tls.length
    rw [List.take_length] at this
    omega
   refine ⟨_, rfl, u, _, rfl, SqL.of u4, by omega, fun st hst => ?_⟩
   rw [qii (qe3 und)]
   have s5 := qad (o := qhw w st ((tls.map (·.2)).flatten).reverse) (qar.refl H4) hst
   refine ⟨st, _, rfl, qab, _, rfl, u, _, rfl, .inl (SqL.of (s5 _ _ u4)), rfl, ?_⟩
   have ed : decide (V.int ((((tls.map (·.2)).flatten).reverse.length : Nat) : Int) = V.int (((((tls.map (·.2)).flatten).map V.str).length : Nat) : Int)) = true := by
    rw [List.length_reverse, List.length_map]; simp
   rw [ed]
   exact k _ (s4.trans s5)
end
end K32
namespace K32
open PySem L2
theorem qpd {H : Hp} {p t : Addr} {lts : List (Addr × List Str)} (h1 : Pot H p) (h2 : H t = some (.lst (qan lts))) : t ≠ p := by
 rintro rfl
 obtain ⟨a, b, e, _⟩ := h1
 rw [e] at h2
 have h3 := HO.lst.inj (Option.some.inj h2)
 cases lts with
 | nil => cases h3
 | cons x r => cases (List.cons.inj h3).1
section
variable {P : Program} {w : World} {K : PySem.W.Frag} {mg : Str -> Option Value} {base : Heap}
noncomputable def qn0 : Sp := fun vs H Q _ => ∃ (v pa ra lo : Addr) (ps : List Str) (rs : List T) (root : Str) (m : Nat) (lts : List (Addr × List Str)), vs = [.ref v, .str root, .int m, .ref lo] /\ qdg H v pa ra ps rs /\ Good ps (rs.map (·.2)) /\ ps.length <= 8 /\ root ∈ ps /\ m <= 6 /\
 H lo = some (.lst (qan lts)) /\ qcq H lts /\ lts.map (·.2) = qam (others ps root) /\ ∀ H', qar H H' -> Q (.bl true) H'
noncomputable abbrev N52 : List Str := ["_law_web_here", "_law_root", "_law_many", "_law_lots_here", "_law_lot", "_law_told_here", "_law_kept"]
theorem qvj : qao N52 ["_law_web_here", "_law_root", "_law_many", "_law_lots_here"] (qai (top 52)) := ⟨rfl, rfl, rfl, by decide +kernel, rfl, by decide +kernel, by decide +kernel⟩
theorem qpq {f : Addr} {fd : FuncData} (F : Fun K "_law_right" "_law_right" (top 52) f fd) (B : Bl mg) (Fi : Fn P w K mg base 1 "_law_into" ["_law_web_here", "_law_lot"] qjd) (Ff : Fn P w K mg base 7 "_law_too_few" ["_law_web_here", "_law_root", "_law_many"] qtz)
  (Ft : Fn P w K mg base 7 "_law_told" ["_law_web_here", "_law_root", "_law_many"] qqy) (Fa : Fn P w K mg base 2 "_law_are_shares" ["_law_web_here", "_law_root", "_law_many", "_law_told_here"] qut) : qca P w K mg base CX0 8 f fd ["_law_web_here", "_law_root", "_law_many", "_law_lots_here"] qn0 := by
 refine F.ok qvj (fun vs H Q E h => ?_) (fun cdv A outer s H vs Q E hr h => ?_)
 ·obtain ⟨v, pa, ra, lo, ps, rs, root, m, lts, rfl, _⟩ := h
  rfl
 ·obtain ⟨v, pa, ra, lo, ps, rs, root, m, lts, rfl, W, G, h8, hroot, hm6, hlo, A0, eL, k⟩ := h
  have hr1 : qcl 1 _ := hr.mono (by decide)
  have hr2 : qcl 2 _ := hr.mono (by decide)
  refine ⟨_, qae (qb8 (qay (qnv hr) (qcx (N := ["_law_lot", "_law_web_here", "_law_many"]) (ix := [none, some 0, some 2]) ⟨rfl, rfl, rfl, by decide⟩ rfl (qbd (pv 3)) (fun _ _ _ _ => qbu 0 (by decide) rfl rfl)
     (fun _ _ _ _ => qcw (qay qme (qaw Fi hr1 (qaa (pv 1) (qaa (pv 0) qac))) (pv 2) (qbg _))) (fun _ _ _ _ => pv 0)) (qbv qac) (qbg _))
    (qae (qax (i := 4) qvj.nd rfl (Or.inl rfl) (qaw Ff hr (qaa (pv 0) (qaa (pv 1) (qaa (pv 2) qac)))))
    (qak (qav (qd1 (qcc (quc hr) (pv 4) (pv 3) (by with_unfolding_all rfl)) (qe0 (qcc qme (qaw Fi hr1 (qaa (pv 0) (qaa (pv 4) qac))) (pv 2) (qbg _))))))) qa2)
   (qae (qax (i := 5) qvj.nd rfl (Or.inl rfl) (qaw Ft hr (qaa (pv 0) (qaa (pv 1) (qaa (pv 2) qac)))))
   (qae (qb8 (qb4 (qbq (qaw Fa hr2 (qaa (pv 0) (qaa (pv 1) (qaa (pv 2) (qaa (pv 5) qac))))))) qbr qa2)
   (qae (qax (i := 6) qvj.nd rfl (Or.inl rfl) (qbs qco rfl B.list qhv (qaa (pv 5) qac)))
   (qae (qch (qhr PySem.F.plainAttrs_list PySem.F.slot_list_append PySem.F.type_list_append qcz (pv 5) (qaa (qcr (qaa qfv qac)) qac)))
   (qak (qav (qcc (qq9 hr) (qaw Ft hr (qaa (pv 0) (qaa (pv 1) (qaa (pv 2) qac)))) (pv 6) (qbg _)))))))), ?_⟩
  have hnd := qcp G.so
  have hrz : rs.length <= 60 := by have := G.rz; simpa using this
  have htn : (tna rs).Nodup := by
   have := qcp G.rso
   rw [List.map_map] at this
   exact this
  have hon : (others ps root).length <= 8 := Nat.le_trans (List.length_filter_le _ _) h8
  have hlz : lts.length <= 256 := by
   have e := congrArg List.length eL
   rw [List.length_map] at e
   have h1 := qey (others ps root)
   have h2 := qf7 hon
   omega
  have hLn : ∀ l ∈ qam (others ps root), ∀ y ∈ l, qa9 y := fun l hl y hy => G.nm y (List.mem_filter.mp ((qkc hl).subset hy)).1
  have hln : ∀ x ∈ lts, x.2 ∈ qam (others ps root) := fun x hx => by rw [<- eL]; exact List.mem_map_of_mem hx
  refine ⟨_, rfl, lo, rfl, ⟨_, SqL.of hlo⟩, qe1 (xs := qan lts) (fits (by rw [List.length_map]; omega)) (fun i ys σ H1 => ys = qan ((lts.take i).filter fun x => decide (cnt rs x.2 < m)) /\ qar H H1 /\ ∃ x, σ = [x, some (.ref v), some (.int m)]) ⟨rfl, qar.refl _, _, rfl⟩
   (fun i ys σ H1 _ p => ⟨by rw [p.1, List.length_map]; exact Nat.le_trans (List.length_filter_le _ _) (by rw [List.length_take]; omega), SqL.of (p.2.1 _ _ hlo)⟩) ?_ ?_⟩
  ·rintro i x ys σ H1 hx ⟨rfl, s1, g, rfl⟩
   obtain ⟨y, hy, rfl⟩ := qbx hx
   have hym := List.mem_of_getElem? hy
   have tf := qaq (fun x : Addr × List Str => decide (cnt rs x.2 < m)) lts i y hy
   refine ⟨_, rfl, _, rfl, v, y.1, pa, ra, ps, y.2, rs, rfl, W.same s1, hrz, s1 _ _ (A0 y hym), fun H2 s2 => ⟨_, rfl, _, _, rfl, rfl, _, rfl, ?_⟩⟩
   have ed : decide (((rs.filter (lead y.2)).length : Int) < (m : Int)) = decide (cnt rs y.2 < m) := by
    have : (((rs.filter (lead y.2)).length : Int) < (m : Int)) ↔ cnt rs y.2 < m := by unfold cnt; omega
    simp only [this]
   show if decide (((rs.filter (lead y.2)).length : Int) < (m : Int)) = true then _ else _
   rw [ed]
   refine qev (fun c => ⟨_, rfl, ?_, s1.trans s2, _, rfl⟩) (fun c => ⟨?_, s1.trans s2, _, rfl⟩)
   ·rw [tf, c]; simp [qan]
   ·rw [tf]; simp only [Bool.not_eq_true] at c; rw [c]; simp
  rintro ys σ H1 ⟨rfl, s1, g, rfl⟩ fa hfa
  rw [take_all lts (by simp)]
  generalize hfw : (lts.filter fun x => decide (cnt rs x.2 < m)) = fw
  have hfm : ∀ x, x ∈ fw ↔ x ∈ lts /\ cnt rs x.2 < m := fun x => by rw [<- hfw, List.mem_filter, decide_eq_true_iff]
  have s2 := qad (o := .lst (qan fw)) s1 hfa
  have f2 : upd H1 fa (.lst (qan fw)) fa = some (.lst (qan fw)) := qab
  generalize upd H1 fa (.lst (qan fw)) = H2 at s2 f2 ⊢
  refine ⟨Nat.zero_le _, fun em hem => ?_⟩
  have s3 := qad (o := .lst []) s2 hem
  have f3 : upd H2 em (.lst []) fa = some (.lst (qan fw)) := by rw [qag (qaf f2 hem)]; exact f2
  have e3 : upd H2 em (.lst []) em = some (.lst []) := qab
  generalize upd H2 em (.lst []) = H3 at s3 f3 e3 ⊢
  have A3 : qcq H3 fw := fun x hx => s3 _ _ (A0 x ((hfm x).mp hx).1)
  refine ⟨tlD (fw.map (·.2)), .list [], .lst f3 (qqn A3), .lst e3 .nil, shT fun ts hts y hy => ?_, rfl, _, rfl, ?_⟩
  ·obtain ⟨x, hx, rfl⟩ := List.mem_map.mp hts
   exact hLn _ (hln x ((hfm x).mp hx).1) y hy
  rw [qqb]
  have W3 := W.same s3
  cases fw with
  | cons x0 fr =>
   have h0 := (hfm x0).mp List.mem_cons_self
   rw [show decide (List.map (fun x : Addr × List Str => x.2) (x0 :: fr) = []) = false from rfl]
   refine qf9 ⟨_, rfl, _, rfl, _, rfl, v, pa, ra, ps, rs, root, m, x0.2, rfl, W3, G, h8, hroot, hm6, hln x0 h0.1, h0.2, fun H4 s4 l hl hlt u hu => ?_⟩
   have s04 := s3.trans s4
   refine ⟨_, rfl, _, rfl, u, lo, l, lts, rfl, rfl, hu, hLn l hl, SqL.of (s04 _ _ hlo), A0.same s04, fun x hx => hLn _ (hln x hx), ?_⟩
   rw [decide_eq_true (show l ∈ lts.map (·.2) by rw [eL]; exact hl)]
   refine ⟨true, rfl, qf9 ⟨_, rfl, _, rfl, v, u, pa, ra, ps, l, rs, rfl, W.same s04, hrz, hu, fun H5 s5 => ⟨_, rfl, _, _, rfl, rfl, ?_⟩⟩⟩
   have hl5 : ((rs.filter (lead l)).length : Int) < (m : Int) := by unfold cnt at hlt; omega
   show Q (.bl (decide (((rs.filter (lead l)).length : Int) < (m : Int)))) H5
   rw [decide_eq_true hl5]
   exact k H5 (s04.trans s5)
  | nil =>
   have hall : ∀ l ∈ qam (others ps root), m <= cnt rs l := fun l hl => by
    rw [<- eL] at hl
    obtain ⟨x, hx, rfl⟩ := List.mem_map.mp hl
    refine Nat.le_of_not_lt fun c => ?_
    have := (hfm x).mpr ⟨hx, c⟩
    cases this
   rw [show decide (List.map (fun x : Addr × List Str => x.2) ([] : List (Addr × List Str)) = []) = true from rfl]
   refine qem ⟨_, rfl, _, rfl, _, rfl, v, pa, ra, ps, rs, root, m, rfl, W3, G, h8, hroot, hm6, hall, fun H4 s4 q trs tls cur hq q4 A4 R => ?_⟩
   have s04 := s3.trans s4
   have hq0 : H q = none := s3.free hq
   have htl : tls.length = m := R.l2
   refine ⟨_, rfl, _, rfl, _, rfl, _, rfl, v, pa, ra, q, ps, rs, root, m, trs, tls, cur, rfl, W.same s04, G, h8, hroot, hm6, q4, A4, R, fun H5 s5 => ⟨true, rfl, qem ?_⟩⟩
   have s05 := s04.trans s5
   have q5 := s5 _ _ q4
   have A5 := A4.same s5
   refine ⟨_, rfl, q, _, rfl, .inl (SqL.of q5), fun kp hkp => ?_⟩
   have s6 := qad (o := .lst (qan tls)) s05 hkp
   have k6 : upd H5 kp (.lst (qan tls)) kp = some (.lst (qan tls)) := qab
   have q6 : upd H5 kp (.lst (qan tls)) q = some (.lst (qan tls)) := by rw [qag (qaf q5 hkp)]; exact q5
   have A6 : qcq (upd H5 kp (.lst (qan tls))) tls := A5.same (qad (qar.refl H5) hkp)
   have nkq : kp ≠ q := fun z => by rw [z, q5] at hkp; cases hkp
   generalize upd H5 kp (.lst (qan tls)) = H6 at s6 k6 q6 A6 ⊢
   refine ⟨_, rfl, .inl ⟨rfl, _, SqL.of q6⟩, by show 1 <= sizeLine; decide, fun zz hzz => ?_⟩
   have s7 := qad (o := .tup [.str (Str.ofString "zz")]) s6 hzz
   have s67 := qad (o := .tup [.str (Str.ofString "zz")]) (qar.refl H6) hzz
   generalize upd H6 zz (.tup [.str (Str.ofString "zz")]) = H7 at s7 s67 ⊢
   refine ⟨q, _, _, rfl, rfl, s67 _ _ q6, fits (by rw [List.length_map]; omega), ?_⟩
   have s8 := qb3 (o := .lst (qan tls ++ [.ref zz])) s7 hq0
   have k8 : upd H7 q (.lst (qan tls ++ [.ref zz])) kp = some (.lst (qan tls)) := by rw [qag nkq]; exact s67 _ _ k6
   have A8 : qcq (upd H7 q (.lst (qan tls ++ [.ref zz]))) tls := fun x hx => by
    have hx7 := s67 _ _ (A6 x hx)
    rw [qag (fun z => by rw [z, s67 _ _ q6] at hx7; cases hx7)]
    exact hx7
   generalize upd H7 q (.lst (qan tls ++ [.ref zz])) = H8 at s8 k8 A8 ⊢
   refine ⟨_, rfl, _, rfl, _, rfl, v, pa, ra, ps, rs, root, m, rfl, W.same s8, G, h8, hroot, hm6, hall, fun H9 s9 q' trs' tls' cur' hq' q9 A9 R' => ?_⟩
   have ee := R.same R' htn
   have hN := R.nameP G
   have hN' := R'.nameP G
   refine ⟨_, rfl, tlD (tls'.map (·.2)), tlD (tls.map (·.2)), .lst q9 (qqn A9), .lst (s9 _ _ k8) (qqn (A8.same s9)), shT hN', shT hN, ?_⟩
   rw [<- ee, eq_self _ hN]
   exact k H9 (s8.trans s9)
noncomputable def qqg (K : PySem.W.Frag) : Sp := fun vs H Q _ => ∃ (a : Addr) (ns : List Int), vs = [.ref a] /\ SqL K H a (ns.map V.int) /\ ns.length <= 63 /\ ∀ H', Q (.bl true) H'
noncomputable abbrev N53 : List Str := ["_law_script", "_law_k", "_law_pot_here", "_law_web_here", "_law_places", "_law_root", "_law_lots_here", "_law_most", "_law_many"]
theorem qpv : qao N53 ["_law_script"] (qai (top 53)) := ⟨rfl, rfl, rfl, by decide +kernel, rfl, by decide +kernel, by decide +kernel⟩
theorem qu8 {f : Addr} {fd : FuncData} (F : Fun K "law" "law" (top 53) f fd) (B : Bl mg) (Fp : Fn P w K mg base 1 "_law_pot" ["_law_script", "_law_k"] (qtq K)) (Ft : Fn P w K mg base 1 "_law_take" ["_law_pot_here", "_law_many"] qfl) (Fg : Fn P w K mg base 3 "_law_web" ["_law_pot_here"] qra)
  (Fl : Fn P w K mg base 1 "_law_lots" ["_law_places"] qnz) (Fi : Fn P w K mg base 1 "_law_into" ["_law_web_here", "_law_lot"] qjd) (Fr : Fn P w K mg base 8 "_law_right" ["_law_web_here", "_law_root", "_law_many", "_law_lots_here"] qn0) : qca P w K mg base CX0 9 f fd ["_law_script"] (qqg K) := by
 refine F.ok qpv (fun vs H Q E h => ?_) (fun cdv A outer s H vs Q E hr h => ?_)
 ·obtain ⟨a, ns, rfl, _⟩ := h
  rfl
 ·obtain ⟨a, sc, rfl, hS, hlen, k⟩ := h
  have hr1 : qcl 1 _ := hr.mono (by decide)
  have hr3 : qcl 3 _ := hr.mono (by decide)
  refine ⟨_, qae (qcn PassesOwn.never rfl (qcg rfl B.range (qaa (qaj (qh6 rfl) rfl B.max quz (qaa qah (qaa (qaj (qdw rfl) rfl B.min qnd (qaa (qaj qal rfl B.len PySem.boot_len (qaa (pv 0) qac)) (qaa qah qac))) qac))) qac)) (qa0 (i := 1) qpv.nd rfl (Or.inl rfl))
    (qae (qax (i := 2) qpv.nd rfl (Or.inl rfl) (qaw Fp hr1 (qaa (pv 0) (qaa (pv 1) qac))))
    (qae (qfc (qaw Fg hr3 (qaa (pv 2) qac)) (qej rfl (n := 2) (qa3 (qa0 (i := 3) qpv.nd rfl (Or.inr rfl)) (qa3 (qa0 (i := 4) qpv.nd rfl (Or.inl rfl)) qc6))))
    (qae (qax (i := 5) qpv.nd rfl (Or.inr rfl) (qa8 qa7 (qbv (qaa (qa8 qa7 (pv 4) qah (fun _ _ => rfl)) (qaa (qa8 qa7 (pv 4) qah (fun _ _ => rfl)) (qaa (qa8 qa7 (pv 4) (qaw Ft hr1 (qaa (pv 2) (qaa (qaj qal rfl B.len PySem.boot_len (qaa (pv 4) qac)) qac))) (fun _ _ => rfl)) qac)))) (qaw Ft hr1 (qaa (pv 2) (qaa qah qac))) (fun _ _ => rfl)))
    (qae (qax (i := 6) qpv.nd rfl (Or.inl rfl) (qaw Fl hr1 (qaa (qcx (N := ["_law_place", "_law_root"]) (ix := [none, some 5]) ⟨rfl, rfl, rfl, by decide⟩ rfl (qda (qa8 qa7 (pv 3) qah (fun _ _ => rfl))) (fun _ _ _ _ => qbu 0 (by decide) rfl rfl) (fun _ _ _ _ => qcw (qay qi5 (pv 0) (pv 1) (qbg _))) (fun _ _ _ _ => pv 0)) qac)))
    (qae (qax (i := 7) qpv.nd rfl (Or.inl rfl) (qaj (qmv rfl) rfl B.min qnd (qaa (qa4 qfg (qbv (qaa qah qac)) (qcx (N := ["_law_lot", "_law_web_here"]) (ix := [none, some 3]) ⟨rfl, rfl, rfl, by decide⟩ rfl (qbd (pv 6)) (fun _ _ _ _ => qbu 0 (by decide) rfl rfl) (fun _ _ _ _ => qbk) (fun _ _ _ _ => qaw Fi hr1 (qaa (pv 1) (qaa (pv 0) qac))))) qac)))
    (qak (qcn PassesOwn.never rfl (qbd (qbv (qaa (pv 7) (qaa (qaj (qdw rfl) rfl B.min qnd (qaa qah (qaa (qa4 qcu (pv 7) qah) qac))) (qaa (qaw Ft hr1 (qaa (pv 2) (qaa qah qac))) qac))))) (qa0 (i := 8) qpv.nd rfl (Or.inl rfl))
     (qak (qb8 (qb4 (qbq (qaw Fr hr (qaa (pv 3) (qaa (pv 5) (qaa (pv 8) (qaa (pv 6) qac))))))) qbr qa2))))))))))
   (qak (qav qkz)), ?_⟩
  refine ⟨_, rfl, a, _, rfl, .inl hS, _, _, rfl, _, _, rfl, _, rfl, ?_, ?_, ?_⟩
  ·repeat' split
   all_goals omega
  ·repeat' split
   all_goals omega
  have hn9 : ∀ x : Int, x = (if (if (2 : Int) < ((sc.map V.int).length : Int) then 2 else ((sc.map V.int).length : Int)) > 1 then (if (2 : Int) < ((sc.map V.int).length : Int) then 2 else ((sc.map V.int).length : Int)) else 1) -> x.toNat <= 8 := fun x hx => by
   subst hx
   repeat' split
   all_goals omega
  refine qdf (fun i σ H1 => (∃ g1 g2 g3 g4 g5 g6 g7 g8, σ = [some (.ref a), g1, g2, g3, g4, g5, g6, g7, g8]) /\ qar H H1) ⟨⟨_, _, _, _, _, _, _, _, rfl⟩, qar.refl _⟩ ?_ (fun σ H1 _ => k H1)
  rintro i σ H1 hi ⟨⟨g1, g2, g3, g4, g5, g6, g7, g8, rfl⟩, s1⟩
  have hi8 : i < 8 := Nat.lt_of_lt_of_le hi (hn9 _ rfl)
  refine ⟨_, rfl, _, rfl, a, sc, _, rfl, s1.seq hS, by omega, by omega, fun p H2 s2 p0 P2 => ?_⟩
  refine ⟨_, rfl, p, rfl, P2, fun w0 u pl pa ra ns ps rs H3 P3 w3 W3 G p8 r40 n3 nin n1 n8 K3 => ?_⟩
  have npl := qhf P3 n3
  refine ⟨w0, _, rfl, SqT.of w3, rfl, _, _, rfl, _, _, rfl, rfl, ?_⟩
  have hnl : (ns.map V.str).length = ns.length := by simp
  have n0 : 0 < ns.length := by omega
  refine ⟨_, rfl, qat (j := 0) (.inl (SqL.of n3)) rfl (strAt n0) ⟨_, rfl, qat (j := 0) (.inl (SqL.of n3)) rfl (strAt n0) ⟨_, rfl, _, rfl, _, rfl, pl, _, rfl, .inl (SqL.of n3), p, _, rfl, P3, by omega, by omega, fun r H4 r0 r1 P4 K4 => ?_⟩⟩⟩
  rw [hnl] at r1
  have n4 := K4.at npl n3
  have hrl : r.toNat < ns.length := by omega
  refine qat (j := r.toNat) (.inl (SqL.of n4)) (by omega) (strAt hrl) ⟨by show 3 <= sizeLine; decide, fun t ht => ?_⟩
  have K34 := K3.trans K4
  have ntp := P4.ne_new ht
  have P5 := P4.new (o := .lst [.str ns[0], .str ns[0], .str ns[r.toNat]]) ht
  have K5 := K34.new (o := .lst [.str ns[0], .str ns[0], .str ns[r.toNat]]) ht
  have K35 := K4.new (o := .lst [.str ns[0], .str ns[0], .str ns[r.toNat]]) ht
  have t5 : upd H4 t (.lst [.str ns[0], .str ns[0], .str ns[r.toNat]]) t = some (.lst [.str ns[0], .str ns[0], .str ns[r.toNat]]) := qab
  generalize upd H4 t (.lst [.str ns[0], .str ns[0], .str ns[r.toNat]]) = H5 at P5 K5 K35 t5 ⊢
  refine ⟨_, rfl, p, 3, rfl, P5, by decide, by decide, fun r3 H6 q0 q1 P6 K6 => ?_⟩
  have t6 := K6.at ntp t5
  have hpick : ∃ root, root ∈ ps /\ ([V.str ns[0], V.str ns[0], V.str ns[r.toNat]] : List V)[r3.toNat]? = some (.str root) := by
   have : r3 = 0 \/ r3 = 1 \/ r3 = 2 := by omega
   rcases this with rfl | rfl | rfl
   ·exact ⟨_, nin _ (List.getElem_mem n0), rfl⟩
   ·exact ⟨_, nin _ (List.getElem_mem n0), rfl⟩
   ·exact ⟨_, nin _ (List.getElem_mem hrl), rfl⟩
  obtain ⟨root, hroot, hpk⟩ := hpick
  have K36 := K35.trans K6
  have K26 := K5.trans K6
  have W6 : qdg H6 u pa ra ps rs := ⟨K36.tup P3 W3.tp, K36.tup P3 W3.pl, K36.tup P3 W3.rl, fun r hr => K36.tup P3 (W3.rows r hr)⟩
  refine qat (j := r3.toNat) (.inl (SqL.of t6)) (by omega) hpk ?_
  have sH6 : qar H1 H6 := fun b o e => K26 b o (s2 b o e) (by simp; exact qaf e p0)
  clear K6 K5 K35 t5 t6 hpk P5 n4 P4 K4 K34 ntp ht K36 K26 K3 n3 P3 W3 w3 npl P2 s2
  have hrz : rs.length <= 60 := by omega
  refine ⟨_, rfl, qat (j := 0) (.inr (SqT.of W6.tp)) rfl rfl ⟨pa, rfl, ⟨_, SqT.of W6.pl⟩, qdy (xs := ps.map V.str) (fits (by rw [List.length_map]; omega)) (fun i ys σ H7 => ys = (others (ps.take i) root).map V.str /\ H7 = H6 /\ ∃ x, σ = [x, some (.str root)]) ⟨rfl, rfl, _, rfl⟩
   (fun i ys σ H7 _ q => ⟨by rw [q.1, List.length_map]; exact Nat.le_trans (List.length_filter_le _ _) (by rw [List.length_take]; omega), by rw [q.2.1]; exact SqT.of W6.pl⟩) ?_ ?_⟩⟩
  ·rintro j x ys σ H7 hx ⟨rfl, rfl, z, rfl⟩
   rw [List.getElem?_map] at hx
   cases hc : ps[j]? with
   | none => rw [hc] at hx; cases hx
   | some y =>
    rw [hc] at hx
    cases hx
    have tf := qaq (fun y : Str => !decide (y = root)) ps j y hc
    refine ⟨_, rfl, _, rfl, rfl, _, rfl, ?_⟩
    have e : (!decide (V.str y = V.str root)) = !decide (y = root) := by simp
    rw [e]
    refine qev (fun c => ⟨_, rfl, ?_, rfl, _, rfl⟩) (fun c => ⟨?_, rfl, _, rfl⟩)
    ·unfold others; rw [tf, c]; simp
    ·unfold others; rw [tf]; simp only [Bool.not_eq_true] at c; rw [c]; simp
  rintro ys σ H7 ⟨rfl, rfl, z, rfl⟩ ot hot
  rw [take_all ps (by simp)]
  have s8 := qad (o := .lst ((others ps root).map V.str)) (qar.refl H7) hot
  have o8 : upd H7 ot (.lst ((others ps root).map V.str)) ot = some (.lst ((others ps root).map V.str)) := qab
  generalize upd H7 ot (.lst ((others ps root).map V.str)) = H8 at s8 o8 ⊢
  have hon : (others ps root).length <= 8 := Nat.le_trans (List.length_filter_le _ _) p8
  refine ⟨ot, others ps root, rfl, o8, hon, fun lo lts H9 s9 lo9 A9 eL => ?_⟩
  have hlz : lts.length <= 256 := by
   have e := congrArg List.length eL
   rw [List.length_map] at e
   have h1 := qey (others ps root)
   have h2 := qf7 hon
   omega
  have s69 := s8.trans s9
  refine ⟨by show 1 <= sizeLine; decide, fun l6 hl6 => ?_⟩
  have s10 := qad (o := .lst [.int 6]) s69 hl6
  have x10 : upd H9 l6 (.lst [.int 6]) l6 = some (.lst [.int 6]) := qab
  have lo10 : upd H9 l6 (.lst [.int 6]) lo = some (.lst (qan lts)) := by rw [qag (qaf lo9 hl6)]; exact lo9
  have A10 : qcq (upd H9 l6 (.lst [.int 6])) lts := A9.same (qad (qar.refl H9) hl6)
  generalize upd H9 l6 (.lst [.int 6]) = H10 at s10 x10 lo10 A10 ⊢
  refine ⟨_, rfl, lo, rfl, ⟨_, SqL.of lo10⟩, qcj (xs := qan lts) (fits (by rw [List.length_map]; omega)) (fun j ys σ H11 => ys = ((lts.take j).map fun x => ((cnt rs x.2 : Nat) : Int)).map V.int /\ qar H10 H11 /\ ∃ x, σ = [x, some (.ref u)]) ⟨rfl, qar.refl _, _, rfl⟩
   (fun j ys σ H11 _ q => ⟨by rw [q.1, List.length_map, List.length_map, List.length_take]; omega, SqL.of (q.2.1 _ _ lo10)⟩) ?_ ?_⟩
  ·rintro j x ys σ H11 hx ⟨rfl, s11, z, rfl⟩
   obtain ⟨y, hy, rfl⟩ := qbx hx
   refine ⟨_, rfl, _, rfl, u, y.1, pa, ra, ps, y.2, rs, rfl, W6.same (s10.trans s11), hrz, s11 _ _ (A10 y (List.mem_of_getElem? hy)), fun H12 s12 => ⟨?_, s11.trans s12, _, rfl⟩⟩
   rw [List.take_add_one, hy]; simp [cnt]
  rintro ys σ H11 ⟨rfl, s11, z, rfl⟩ cs hcs
  rw [take_all lts (by simp)]
  have s12 := qad (o := .lst ((lts.map fun x => ((cnt rs x.2 : Nat) : Int)).map V.int)) s11 hcs
  have c12 : upd H11 cs (.lst ((lts.map fun x => ((cnt rs x.2 : Nat) : Int)).map V.int)) cs = some (.lst ((lts.map fun x => ((cnt rs x.2 : Nat) : Int)).map V.int)) := qab
  generalize upd H11 cs (.lst ((lts.map fun x => ((cnt rs x.2 : Nat) : Int)).map V.int)) = H12 at s12 c12 ⊢
  refine ⟨l6, cs, [.int 6], _, rfl, rfl, s12 _ _ x10, c12, by rw [sizeLine_eq, List.length_map, List.length_map]; simp; omega, fun ml hml => ?_⟩
  have s13 := qad (o := .lst ([V.int 6] ++ (lts.map fun x => ((cnt rs x.2 : Nat) : Int)).map V.int)) s12 hml
  have m13 : upd H12 ml (.lst ([V.int 6] ++ (lts.map fun x => ((cnt rs x.2 : Nat) : Int)).map V.int)) ml = some (.lst ((6 :: lts.map fun x => ((cnt rs x.2 : Nat) : Int)).map V.int)) := qab
  generalize upd H12 ml (.lst ([V.int 6] ++ (lts.map fun x => ((cnt rs x.2 : Nat) : Int)).map V.int)) = H13 at s13 m13 ⊢
  refine ⟨ml, 6 :: lts.map fun x => ((cnt rs x.2 : Nat) : Int), rfl, SqL.of m13, (fun z => nomatch z), ?_⟩
  have hmm := qpy (ns := 6 :: lts.map fun x => ((cnt rs x.2 : Nat) : Int)) (fun z => nomatch z)
  have hml6 : qpw (6 :: lts.map fun x => ((cnt rs x.2 : Nat) : Int)) <= 6 := qsx List.mem_cons_self
  have hm0 : 0 <= qpw (6 :: lts.map fun x => ((cnt rs x.2 : Nat) : Int)) := by
   rcases List.mem_cons.mp hmm with e | e
   ·rw [e]; decide
   ·obtain ⟨x, _, ex⟩ := List.mem_map.mp e
    rw [<- ex]; omega
  generalize qpw (6 :: lts.map fun x => ((cnt rs x.2 : Nat) : Int)) = mo at hml6 hm0 ⊢
  have s613 := s10.trans s13
  have P13 : Pot H13 p := P6.keep fun o e => s613 _ _ e
  have W13 := W6.same s613
  have lo13 := s13 _ _ lo10
  have A13 := A10.same s13
  refine ⟨_, rfl, _, rfl, _, _, rfl, rfl, _, _, rfl, ?_⟩
  refine ⟨_, rfl, p, 7, rfl, P13, by decide, by decide, fun r7 H14 z0 z1 P14 K14 => ⟨by show 3 <= sizeLine; decide, fun sm hsm => ?_⟩⟩
  have nlo : lo ≠ p := qpd P13 lo13
  have W14 : qdg H14 u pa ra ps rs := ⟨K14.tup P13 W13.tp, K14.tup P13 W13.pl, K14.tup P13 W13.rl, fun r hr => K14.tup P13 (W13.rows r hr)⟩
  have lo14 := K14.at nlo lo13
  have A14 : qcq H14 lts := fun x hx => K14.tup P13 (A13 x hx)
  have sH14 : qar H1 H14 := fun b o e => K14 b o (s613 b o (sH6 b o e)) (by simp; exact qaf e p0)
  have hms : ∃ m1 m2 m3 : Nat, mo = (m1 : Int) /\ (if mo + 1 < (6 : Int) then mo + 1 else 6) = (m2 : Int) /\ r7 = (m3 : Int) /\ m1 <= 6 /\ m2 <= 6 /\ m3 <= 6 :=
   ⟨mo.toNat, (if mo + 1 < (6 : Int) then mo + 1 else 6).toNat, r7.toNat, by omega, by split <;> omega, by omega, by omega, by split <;> omega, by omega⟩
  obtain ⟨m1, m2, m3, em1, em2, em3, l1, l2, l3⟩ := hms
  rw [em2, em1, em3]
  have s15 := qad (o := .lst [.int m1, .int m2, .int m3]) (qar.refl H14) hsm
  have m15 : upd H14 sm (.lst [.int m1, .int m2, .int m3]) sm = some (.lst [.int m1, .int m2, .int m3]) := qab
  generalize upd H14 sm (.lst [.int m1, .int m2, .int m3]) = H15 at s15 m15 ⊢
  refine ⟨sm, rfl, ⟨_, SqL.of m15⟩, qdn (K := K) (a := sm) (xs := [.int m1, .int m2, .int m3]) (fun j σ H16 => (∃ g8, σ = [some (.ref a), some (.int (0 + (i : Int))), some (.ref p), some (.ref u), some (.ref pl), some (.str root), some (.ref lo), some (.int m1), g8]) /\ qar H15 H16) ⟨⟨_, rfl⟩, qar.refl _⟩ (fun j σ H16 _ z => SqL.of (z.2 _ _ m15)) ?_ ?_⟩
  ·rintro j x σ H16 hx ⟨⟨g9, rfl⟩, s16⟩
   have hx' : ∃ m : Nat, x = .int m /\ m <= 6 := by
    have hm := List.mem_of_getElem? hx
    simp only [List.mem_cons, List.not_mem_nil, or_false] at hm
    rcases hm with rfl | rfl | rfl
    ·exact ⟨m1, rfl, l1⟩
    ·exact ⟨m2, rfl, l2⟩
    ·exact ⟨m3, rfl, l3⟩
   obtain ⟨m, rfl, hm6⟩ := hx'
   have s1416 := s15.trans s16
   exact ⟨_, rfl, _, rfl, _, rfl, _, rfl, u, pa, ra, lo, ps, rs, root, m, lts, rfl, W14.same s1416, G, p8, hroot, hm6, s1416 _ _ lo14, A14.same s1416, eL, fun H17 s17 => ⟨true, rfl, qem ⟨⟨_, rfl⟩, s16.trans s17⟩⟩⟩
  ·rintro σ H16 ⟨⟨g9, rfl⟩, s16⟩
   exact ⟨⟨_, _, _, _, _, _, _, _, rfl⟩, s1.trans (sH14.trans (s15.trans s16))⟩
end
noncomputable def qbh (K : PySem.W.Frag) (x : Str) (st : Stmt) : Prop := ∃ (f : Addr) (oc : Value) (od : Option Addr) (kV doc pm : Value) (an : Option Addr) (cd ct : Value) (sl : Array (Option Value)),
 PySem.W.nsIn K mainGlobals x = some (some (.ref f)) /\ K.lookup f = some ⟨oc, od, .func (PySem.W.fnOf x x (qcb st) (qbt st) (qai st) .none kV doc pm an cd ct), sl⟩ /\ PySem.W.codeIn K cd x = true /\ PySem.W.keepIn K (.ref f) = true
theorem qxg {K : PySem.W.Frag} {x : Str} {st : Stmt} {f : Addr} {oc : Value} {od : Option Addr} {kV doc pm : Value} {an : Option Addr} {cd ct : Value} {sl : Array (Option Value)} (a : PySem.W.nsIn K mainGlobals x = some (some (.ref f)))
  (l : K.lookup f = some ⟨oc, od, .func (PySem.W.fnOf x x (qcb st) (qbt st) (qai st) .none kV doc pm an cd ct), sl⟩) (c : PySem.W.codeIn K cd x = true) (k : PySem.W.keepIn K (.ref f) = true) : qbh K x st :=
 ⟨f, oc, od, kV, doc, pm, an, cd, ct, sl, a, l, c, k⟩
theorem qa5 {P : Program} {w : World} {K : PySem.W.Frag} {mg : Str -> Option Value} {base h : Heap} {x : Str} {st : Stmt} {k : Nat} {ps : List Str} {sp : Sp} (D : qbh K x st) (X : K.In h) (G : h.Ns mainGlobals mg)
  (hb : ∀ (kV doc pm : Value) (an : Option Addr) (cdv ct : Value) (us : List Value), us.length = ps.length -> bindArgs (PySem.W.fnOf x x (qcb st) (qbt st) (qai st) .none kV doc pm an cdv ct) ⟨us, []⟩ = pure (ps.zip us))
  (ok : ∀ (f : Addr) (fd : FuncData), Fun K x x st f fd -> qca P w K mg base CX0 k f fd ps sp) : Fn P w K mg base k x ps sp := by
 obtain ⟨f, oc, od, kV, doc, pm, an, cd, ct, sl, a, l, c, kk⟩ := D
 have F := qh8 (st := st) l c kk
 exact ⟨f, _, PySem.W.mg_of X G a, kk, F.binds hb, ok f _ F⟩
theorem qi3 {P : Program} {w : World} {K : PySem.W.Frag} {mg : Str -> Option Value} {base h : Heap} {x : Str} {st : Stmt} {k : Nat} {ps : List Str} {sp : Sp} (D : qbh K x st) (X : K.In h) (G : h.Ns mainGlobals mg)
  (hb : ∀ (kV doc pm : Value) (an : Option Addr) (cdv ct : Value) (us : List Value), us.length = ps.length -> bindArgs (PySem.W.fnOf x x (qcb st) (qbt st) (qai st) .none kV doc pm an cdv ct) ⟨us, []⟩ = pure (ps.zip us))
  (ok : ∀ (f : Addr) (fd : FuncData), Fun K x x st f fd -> qca P w K mg base (CXE P w) k f fd ps sp) : FnX P w K mg base k x ps sp := by
 obtain ⟨f, oc, od, kV, doc, pm, an, cd, ct, sl, a, l, c, kk⟩ := D
 have F := qh8 (st := st) l c kk
 exact ⟨f, _, PySem.W.mg_of X G a, kk, F.binds hb, ok f _ F⟩
theorem qsc {P : Program} {w : World} {K : PySem.W.Frag} {mg : Str -> Option Value} {base h : Heap} {x : Str} {st : Stmt} {k : Nat} {ps : List Str} {sp : Sp} (D : qbh K x st) (X : K.In h) (G : h.Ns mainGlobals mg)
  (hb : ∀ (kV doc pm : Value) (an : Option Addr) (cdv ct : Value) (us : List Value), us.length = ps.length -> bindArgs (PySem.W.fnOf x x (qcb st) (qbt st) (qai st) .none kV doc pm an cdv ct) ⟨us, []⟩ = pure (ps.zip us))
  (ok : ∀ (f : Addr) (fd : FuncData), Fun K x x st f fd -> qiv P w K mg base CX0 k f fd ps sp) : FnH P w K mg base k x ps sp := by
 obtain ⟨f, oc, od, kV, doc, pm, an, cd, ct, sl, a, l, c, kk⟩ := D
 have F := qh8 (st := st) l c kk
 exact ⟨f, _, PySem.W.mg_of X G a, kk, F.binds hb, ok f _ F⟩
noncomputable def quv (K : PySem.W.Frag) (x q : Str) (st : Stmt) (C f : Addr) : Prop := ∃ (oc : Value) (od : Option Addr) (kV doc pm : Value) (an : Option Addr) (cd ct : Value) (sl : Array (Option Value)),
 PySem.W.nsIn K mainGlobals x = some (some (.ref C)) /\ qht K qox C f veM "ValueError.__new__" = true /\ K.lookup f = some ⟨oc, od, .func (PySem.W.fnOf "__init__" q (qcb st) (qbt st) (qai st) .none kV doc pm an cd ct), sl⟩ /\ PySem.W.codeIn K cd q = true /\ PySem.W.keepIn K (.ref f) = true
theorem qxf {K : PySem.W.Frag} {x q : Str} {st : Stmt} {C f : Addr} {oc : Value} {od : Option Addr} {kV doc pm : Value} {an : Option Addr} {cd ct : Value} {sl : Array (Option Value)} (a : PySem.W.nsIn K mainGlobals x = some (some (.ref C))) (i : PySem.W.findIn K (.ref C) "__init__" = some (some (.ref f)))
  (l : K.lookup f = some ⟨oc, od, .func (PySem.W.fnOf "__init__" q (qcb st) (qbt st) (qai st) .none kV doc pm an cd ct), sl⟩) (c : PySem.W.codeIn K cd q = true) (k : PySem.W.keepIn K (.ref f) = true) (e : qht K qox C f veM "ValueError.__new__" = true) : quv K x q st C f :=
 ⟨oc, od, kV, doc, pm, an, cd, ct, sl, a, e, l, c, k⟩
theorem qw7 {l : PySem.W.OpenLaw} {w : World} {K : PySem.W.Frag} {h : Heap} {mg : Str -> Option Value} {fa : Addr} (X : K.In h) (G : h.Ns mainGlobals mg) (hfa : mg "law" = some (.ref fa)) (B : Bl mg) {R C fI d1a d2a d3a d4a d5a d6a d7a d8a d9a d10a : Addr}
  (cR : PySem.W.nsIn K mainGlobals "RootError" = some (some (.ref R))) (eR : PySem.W.excIn K R veM "ValueError.__new__" = true)
  (tC : quv K "TooFew" "TooFew.__init__" (mth (top 12) 0) C fI)
  (uCR : qjg K C R = true)
  (iCC : PySem.W.isIn K (.ref C) C = true)
  (cd1a : PySem.W.nsIn K mainGlobals "NoCosts" = some (some (.ref d1a)))
  (cd2a : PySem.W.nsIn K mainGlobals "NoLot" = some (some (.ref d2a)))
  (cd3a : PySem.W.nsIn K mainGlobals "NoNumber" = some (some (.ref d3a)))
  (cd4a : PySem.W.nsIn K mainGlobals "NoPlace" = some (some (.ref d4a)))
  (cd5a : PySem.W.nsIn K mainGlobals "NoRoots" = some (some (.ref d5a)))
  (cd6a : PySem.W.nsIn K mainGlobals "NoText" = some (some (.ref d6a)))
  (cd7a : PySem.W.nsIn K mainGlobals "NoTie" = some (some (.ref d7a)))
  (cd8a : PySem.W.nsIn K mainGlobals "NoTree" = some (some (.ref d8a)))
  (cd9a : PySem.W.nsIn K mainGlobals "NoWeb" = some (some (.ref d9a)))
  (cd10a : PySem.W.nsIn K mainGlobals "TooMany" = some (some (.ref d10a)))
  (kq1 : PySem.W.kitAny K (.ref C) ([d1a, d2a, d3a, d4a, d5a].map Value.ref) = some false)
  (kq2 : PySem.W.kitAny K (.ref C) ([d6a, d7a, d8a, d9a, d10a].map Value.ref) = some false)
  (zve : PySem.W.nsIn K mainGlobals "ValueError" = some none)
  (kqv : PySem.W.kitOne K (.ref C) (.type "ValueError") = some true)
  (kqe : ql2 K C = true)
  (d15 : qbh K "is_name" (top 15))
  (d16 : qbh K "is_whole" (top 16))
  (d17 : qbh K "is_rising" (top 17))
  (d18 : qbh K "is_sorted_names" (top 18))
  (d19 : qbh K "is_among" (top 19))
  (d20 : qbh K "is_tie_row" (top 20))
  (d21 : qbh K "is_web" (top 21))
  (d22 : qbh K "need_web" (top 22))
  (d23 : qbh K "need_number" (top 23))
  (d24 : qbh K "need_place" (top 24))
  (d25 : qbh K "leads_into" (top 25))
  (d28 : qbh K "lots_among" (top 28))
  (d29 : qbh K "counts_into" (top 29))
  (d30 : qbh K "need_of" (top 30))
  (d31 : qbh K "spare_into" (top 31))
  (d32 : qbh K "next_row" (top 32))
  (d33 : qbh K "grown" (top 33))
  (d34 : qbh K "need_enough" (top 34))
  (d35 : qbh K "trees_from" (top 35))
  (d36 : qbh K "shares" (top 36))
  (d38 : qbh K "_law_pot" (top 38))
  (d39 : qbh K "_law_take" (top 39))
  (d40 : qbh K "_law_names" (top 40))
  (d41 : qbh K "_law_pairs" (top 41))
  (d42 : qbh K "_law_named" (top 42))
  (d43 : qbh K "_law_called" (top 43))
  (d44 : qbh K "_law_web" (top 44))
  (d45 : qbh K "_law_lots" (top 45))
  (d46 : qbh K "_law_into" (top 46))
  (d47 : qbh K "_law_is_tree" (top 47))
  (d48 : qbh K "_law_is_other" (top 48))
  (d49 : qbh K "_law_too_few" (top 49))
  (d50 : qbh K "_law_told" (top 50))
  (d51 : qbh K "_law_are_shares" (top 51))
  (d52 : qbh K "_law_right" (top 52))
  (d53 : qbh K "law" (top 53)) :
  ∃ fd : FuncData, (∀ (s : Shared) (v : Value), BindsTo s fd ⟨[v], []⟩ [("_law_script", v)]) /\ ∀ base : Heap, K.In base -> base.Ns mainGlobals mg -> qca l.prog w K mg base CX0 9 fa fd ["_law_script"] (qqg K) := by
 obtain ⟨f, oc, od, kV, doc, pm, an, cd, ct, sl, a, lk, c, kk⟩ := d53
 have e := hfa.symm.trans (PySem.W.mg_of X G a)
 cases e
 refine ⟨PySem.W.fnOf "law" "law" (qcb (top 53)) (qbt (top 53)) (qai (top 53)) .none kV doc pm an cd ct, fun s v => .of_eq rfl, fun base KB _ => ?_⟩
 have gR := PySem.W.mg_of X G cR
 have xR := qs0 KB eR
 obtain ⟨ocI, odI, kVI, docI, pmI, anI, cdI, ctI, slI, a1, a2, a3, a4, a5⟩ := tC
 have gC := PySem.W.mg_of X G a1
 have xC := qp3 KB a2
 have FI := qh8 (st := mth (top 12) 0) a3 a4 a5
 have bI := FI.binds (ps := ["self", "lot"]) (fun _ _ _ _ _ _ us hl => match us, hl with | [_, _], _ => rfl)
 have nI := qsd (P := l.prog) (w := w) (mg := mg) FI xC
 have vCR := qqi KB uCR
 have gd1a := PySem.W.mg_of X G cd1a
 have gd2a := PySem.W.mg_of X G cd2a
 have gd3a := PySem.W.mg_of X G cd3a
 have gd4a := PySem.W.mg_of X G cd4a
 have gd5a := PySem.W.mg_of X G cd5a
 have gd6a := PySem.W.mg_of X G cd6a
 have gd7a := PySem.W.mg_of X G cd7a
 have gd8a := PySem.W.mg_of X G cd8a
 have gd9a := PySem.W.mg_of X G cd9a
 have gd10a := PySem.W.mg_of X G cd10a
 have O : Oth K mg C d1a d2a d3a d4a d5a d6a d7a d8a d9a d10a := ⟨gd1a, gd2a, gd3a, gd4a, gd5a, gd6a, gd7a, gd8a, gd9a, gd10a, kq1, kq2, PySem.W.mg_none_of X G zve, kqv, qsw kqe⟩
 have n15 := qa5 (P := l.prog) (w := w) (base := base) d15 X G (ps := ["thing"]) (fun _ _ _ _ _ _ us hl => match us, hl with | [_], _ => rfl) fun f fd F => qlg F B
 have n16 := qa5 (P := l.prog) (w := w) (base := base) d16 X G (ps := ["thing"]) (fun _ _ _ _ _ _ us hl => match us, hl with | [_], _ => rfl) fun f fd F => qiu F B
 have n17 := qa5 (P := l.prog) (w := w) (base := base) d17 X G (ps := ["names"]) (fun _ _ _ _ _ _ us hl => match us, hl with | [_], _ => rfl) fun f fd F => qhd F B
 have n18 := qa5 (P := l.prog) (w := w) (base := base) d18 X G (ps := ["thing"]) (fun _ _ _ _ _ _ us hl => match us, hl with | [_], _ => rfl) fun f fd F => qhh F B n15 n17
 have n19 := qa5 (P := l.prog) (w := w) (base := base) d19 X G (ps := ["thing", "names"]) (fun _ _ _ _ _ _ us hl => match us, hl with | [_, _], _ => rfl) fun f fd F => qi0 F B
 have n20 := qa5 (P := l.prog) (w := w) (base := base) d20 X G (ps := ["thing", "places"]) (fun _ _ _ _ _ _ us hl => match us, hl with | [_, _], _ => rfl) fun f fd F => qgt F B n15 n19
 have n21 := qa5 (P := l.prog) (w := w) (base := base) d21 X G (ps := ["thing"]) (fun _ _ _ _ _ _ us hl => match us, hl with | [_], _ => rfl) fun f fd F => qmh F B n18 n20 n17
 have n22 := qa5 (P := l.prog) (w := w) (base := base) d22 X G (ps := ["thing"]) (fun _ _ _ _ _ _ us hl => match us, hl with | [_], _ => rfl) fun f fd F => qis F n21
 have n23 := qa5 (P := l.prog) (w := w) (base := base) d23 X G (ps := ["thing", "low", "high"]) (fun _ _ _ _ _ _ us hl => match us, hl with | [_, _, _], _ => rfl) fun f fd F => qft F n16
 have n24 := qa5 (P := l.prog) (w := w) (base := base) d24 X G (ps := ["web", "thing"]) (fun _ _ _ _ _ _ us hl => match us, hl with | [_, _], _ => rfl) fun f fd F => qg3 F n19
 have n25 := qa5 (P := l.prog) (w := w) (base := base) d25 X G (ps := ["row", "lot"]) (fun _ _ _ _ _ _ us hl => match us, hl with | [_, _], _ => rfl) fun f fd F => qgr F
 have n28 := qa5 (P := l.prog) (w := w) (base := base) d28 X G (ps := ["places"]) (fun _ _ _ _ _ _ us hl => match us, hl with | [_], _ => rfl) fun f fd F => qgj F B
 have n29 := qa5 (P := l.prog) (w := w) (base := base) d29 X G (ps := ["rows", "lots"]) (fun _ _ _ _ _ _ us hl => match us, hl with | [_, _], _ => rfl) fun f fd F => qn1 F n25
 have n30 := qa5 (P := l.prog) (w := w) (base := base) d30 X G (ps := ["roots", "lot"]) (fun _ _ _ _ _ _ us hl => match us, hl with | [_, _], _ => rfl) fun f fd F => qkw F B
 have n31 := qa5 (P := l.prog) (w := w) (base := base) d31 X G (ps := ["rows", "lots", "roots"]) (fun _ _ _ _ _ _ us hl => match us, hl with | [_, _, _], _ => rfl) fun f fd F => qqf F n29 n30
 have n32 := qa5 (P := l.prog) (w := w) (base := base) d32 X G (ps := ["rows", "found", "spare"]) (fun _ _ _ _ _ _ us hl => match us, hl with | [_, _, _], _ => rfl) fun f fd F => qrm F B n25
 have n33 := qa5 (P := l.prog) (w := w) (base := base) d33 X G (ps := ["places", "rows", "root", "later"]) (fun _ _ _ _ _ _ us hl => match us, hl with | [_, _, _, _], _ => rfl) fun f fd F => qpo F B n31 n28 n32
 have n34 := qi3 (P := l.prog) (w := w) (base := base) d34 X G (ps := ["web", "roots"]) (fun _ _ _ _ _ _ us hl => match us, hl with | [_, _], _ => rfl) fun f fd F => qn9 F gC xC nI bI n31 n28
 have n35 := qi3 (P := l.prog) (w := w) (base := base) d35 X G (ps := ["web", "roots"]) (fun _ _ _ _ _ _ us hl => match us, hl with | [_, _], _ => rfl) fun f fd F => qpu F B n34 n33
 have n36 := qi3 (P := l.prog) (w := w) (base := base) d36 X G (ps := ["web", "root", "many"]) (fun _ _ _ _ _ _ us hl => match us, hl with | [_, _, _], _ => rfl) fun f fd F => ql5 F B n22 n24 n23 n35
 have n38 := qa5 (P := l.prog) (w := w) (base := base) d38 X G (ps := ["_law_script", "_law_k"]) (fun _ _ _ _ _ _ us hl => match us, hl with | [_, _], _ => rfl) fun f fd F => qt7 F B
 have n39 := qa5 (P := l.prog) (w := w) (base := base) d39 X G (ps := ["_law_pot_here", "_law_many"]) (fun _ _ _ _ _ _ us hl => match us, hl with | [_, _], _ => rfl) fun f fd F => qrw F B
 have n40 := qa5 (P := l.prog) (w := w) (base := base) d40 X G (ps := ["_law_pot_here", "_law_many"]) (fun _ _ _ _ _ _ us hl => match us, hl with | [_, _], _ => rfl) fun f fd F => qo0 F B n39
 have n41 := qa5 (P := l.prog) (w := w) (base := base) d41 X G (ps := ["_law_pot_here", "_law_many"]) (fun _ _ _ _ _ _ us hl => match us, hl with | [_, _], _ => rfl) fun f fd F => qpk F B n39
 have n42 := qa5 (P := l.prog) (w := w) (base := base) d42 X G (ps := ["_law_pot_here", "_law_names_here"]) (fun _ _ _ _ _ _ us hl => match us, hl with | [_, _], _ => rfl) fun f fd F => qps F B n39
 have n43 := qa5 (P := l.prog) (w := w) (base := base) d43 X G (ps := ["_law_pot_here", "_law_ties", "_law_places"]) (fun _ _ _ _ _ _ us hl => match us, hl with | [_, _, _], _ => rfl) fun f fd F => ql8 F B n39
 have n44 := qa5 (P := l.prog) (w := w) (base := base) d44 X G (ps := ["_law_pot_here"]) (fun _ _ _ _ _ _ us hl => match us, hl with | [_], _ => rfl) fun f fd F => quy F B n39 n40 n42 n41 n43
 have n45 := qa5 (P := l.prog) (w := w) (base := base) d45 X G (ps := ["_law_places"]) (fun _ _ _ _ _ _ us hl => match us, hl with | [_], _ => rfl) fun f fd F => qpl F B
 have n46 := qa5 (P := l.prog) (w := w) (base := base) d46 X G (ps := ["_law_web_here", "_law_lot"]) (fun _ _ _ _ _ _ us hl => match us, hl with | [_, _], _ => rfl) fun f fd F => qsj F B
 have n47 := qa5 (P := l.prog) (w := w) (base := base) d47 X G (ps := ["_law_web_here", "_law_root", "_law_thing"]) (fun _ _ _ _ _ _ us hl => match us, hl with | [_, _, _], _ => rfl) fun f fd F => qll F B
 have n48 := qsc (P := l.prog) (w := w) (base := base) d48 X G (ps := ["_law_e"]) (fun _ _ _ _ _ _ us hl => match us, hl with | [_], _ => rfl) fun f fd F => qp2 F B O
 have n49 := qa5 (P := l.prog) (w := w) (base := base) d49 X G (ps := ["_law_web_here", "_law_root", "_law_many"]) (fun _ _ _ _ _ _ us hl => match us, hl with | [_, _, _], _ => rfl) fun f fd F => qtx F B gC xC gR xR vCR iCC O n36 n48
 have n50 := qa5 (P := l.prog) (w := w) (base := base) d50 X G (ps := ["_law_web_here", "_law_root", "_law_many"]) (fun _ _ _ _ _ _ us hl => match us, hl with | [_, _, _], _ => rfl) fun f fd F => qrk F gR xR n36
 have n51 := qa5 (P := l.prog) (w := w) (base := base) d51 X G (ps := ["_law_web_here", "_law_root", "_law_many", "_law_told_here"]) (fun _ _ _ _ _ _ us hl => match us, hl with | [_, _, _, _], _ => rfl) fun f fd F => qup F B n47
 have n52 := qa5 (P := l.prog) (w := w) (base := base) d52 X G (ps := ["_law_web_here", "_law_root", "_law_many", "_law_lots_here"]) (fun _ _ _ _ _ _ us hl => match us, hl with | [_, _, _, _], _ => rfl) fun f fd F => qpq F B n46 n49 n50 n51
 exact qu8 (qh8 (st := top 53) lk c kk) B n38 n39 n44 n45 n46 n52
theorem qyf {K : PySem.W.Frag} {h : Heap} {mg : Str -> Option Value} (X : K.In h) (G : h.Ns mainGlobals mg) {t_most : Tok} {t_lng : Tok}
  (z_len : PySem.W.nsIn K mainGlobals "len" = some none)
  (z_isinstance : PySem.W.nsIn K mainGlobals "isinstance" = some none)
  (z_all : PySem.W.nsIn K mainGlobals "all" = some none)
  (z_range : PySem.W.nsIn K mainGlobals "range" = some none)
  (z_sorted : PySem.W.nsIn K mainGlobals "sorted" = some none)
  (z_repr : PySem.W.nsIn K mainGlobals "repr" = some none)
  (z_max : PySem.W.nsIn K mainGlobals "max" = some none)
  (z_min : PySem.W.nsIn K mainGlobals "min" = some none)
  (z_str : PySem.W.nsIn K mainGlobals "str" = some none)
  (z_tuple : PySem.W.nsIn K mainGlobals "tuple" = some none)
  (z_list : PySem.W.nsIn K mainGlobals "list" = some none)
  (z_int : PySem.W.nsIn K mainGlobals "int" = some none)
  (z_bool : PySem.W.nsIn K mainGlobals "bool" = some none)
  (z_zip : PySem.W.nsIn K mainGlobals "zip" = some none)
  (z_divmod : PySem.W.nsIn K mainGlobals "divmod" = some none)
  (z_abs : PySem.W.nsIn K mainGlobals "abs" = some none)
  (z_set : PySem.W.nsIn K mainGlobals "set" = some none)
  (z_enumerate : PySem.W.nsIn K mainGlobals "enumerate" = some none)
  (z_most : PySem.W.nsIn K mainGlobals "MOST_TREES" = some (some (.int 6 t_most)))
  (z_lng : PySem.W.nsIn K mainGlobals "LONGEST_NAME" = some (some (.int 8 t_lng)))
  : Bl mg :=
 ⟨PySem.W.mg_none_of X G z_len, PySem.W.mg_none_of X G z_isinstance, PySem.W.mg_none_of X G z_all, PySem.W.mg_none_of X G z_range, PySem.W.mg_none_of X G z_sorted, PySem.W.mg_none_of X G z_repr, PySem.W.mg_none_of X G z_max, PySem.W.mg_none_of X G z_min, PySem.W.mg_none_of X G z_str, PySem.W.mg_none_of X G z_tuple, PySem.W.mg_none_of X G z_list, PySem.W.mg_none_of X G z_int, PySem.W.mg_none_of X G z_bool, PySem.W.mg_none_of X G z_zip, PySem.W.mg_none_of X G z_divmod, PySem.W.mg_none_of X G z_abs, PySem.W.mg_none_of X G z_set, PySem.W.mg_none_of X G z_enumerate, ⟨t_most, PySem.W.mg_of X G z_most⟩, ⟨t_lng, PySem.W.mg_of X G z_lng⟩⟩
theorem walk {l : PySem.W.OpenLaw} {q : Program} {loose : List Str} {XP : (Str -> Option Value) -> Heap -> Prop} {YP : World -> Heap -> Prop} {d : DefRec} {K : Params -> PySem.W.Frag} (hn : l.most = some 63) (hdf : d.params.defaults = [])
  (hY : ∀ (w : World) (h : Heap), YP w h -> (K w.params).In h)
  (F : ∀ (w : World) (mg : Str -> Option Value) (fa : Addr) (h : Heap), (K w.params).In h -> h.Ns mainGlobals mg -> mg d.name = some (.ref fa) ->
   ∃ fd : FuncData, (∀ (s : Shared) (u : Value), BindsTo s fd ⟨[u], []⟩ [("_law_script", u)]) /\ ∀ base : Heap, (K w.params).In base -> base.Ns mainGlobals mg -> qca l.prog w (K w.params) mg base CX0 9 fa fd ["_law_script"] (qqg (K w.params))) :
  PySem.W.WalkO q loose XP YP l.row.toRowW d [] (fun f vs => PySem.call f vs) :=
 L2.qwt (n := 63) (k := 9) (x := "_law_script") (CX := fun _ => CX0) (sp := fun w => qqg (K w.params)) hn (by decide) hdf ⟨rfl, by decide, by decide, rfl⟩ hY F (fun _ _ a ns hl _ hS => ⟨a, ns, rfl, hS, hl, fun _ => rfl⟩) fun _ _ _ _ _ z => z
end K32
theorem PySem.W.Fast.tw3161074113167990963 : True := trivial
theorem PySem.W.Fast.tw187131276334441143 : True := trivial
theorem PySem.W.Fast.tw6874463286491684982 : True := trivial
theorem PySem.W.Fast.tw9374762591910945947 : True := trivial
theorem PySem.W.Fast.tw15408851630294205810 : True := trivial
theorem PySem.W.Fast.tw10324419915979720635 : True := trivial
theorem PySem.W.Fast.tw15351438704173423437 : True := trivial
theorem PySem.W.Fast.tw3834020320669146858 : True := trivial
theorem PySem.W.Fast.tw8384807864446128948 : True := trivial
theorem PySem.W.Fast.tw9785479767350085671 : True := trivial
theorem PySem.W.Fast.tw16124304580903640138 : True := trivial
theorem PySem.W.Fast.tw11606745915908360509 : True := trivial
theorem PySem.W.Fast.tw6794179602525307332 : True := trivial
theorem PySem.W.Fast.tw14430991198462990527 : True := trivial
theorem PySem.W.Fast.tw3686602422852522253 : True := trivial
theorem PySem.W.Fast.tw12007683226445442607 : True := trivial
theorem PySem.W.Fast.tw3735177197634253051 : True := trivial
theorem PySem.W.Fast.tw10010857817617322945 : True := trivial
open PySem PySem.W PyProof.Rows
set_option maxRecDepth 100000 in
set_option maxHeartbeats 0 in
theorem PySem.Challenge.cw_rootshares_k32_whole_shares_or_a_lot_holds : PySem.Challenge.rw_rootshares_k32_whole_shares_or_a_lot.Holds := by
 w_on; o_law; k_head; (case hw => w_witness2)
 k_fill
 refine K32.walk (l := PySem.Challenge.rw_rootshares_k32_whole_shares_or_a_lot) rfl rfl (fun w h Y => PySem.W.kIn_of Y) ?F
 case F =>
  intro w mg fa h KX G hmg
  have B : K32.Bl mg := by
   refine' K32.qyf KX G ?len ?isinstance ?all ?range ?sorted ?repr ?max ?min ?str ?tuple ?list ?int ?bool ?zip ?divmod ?abs ?set ?enumerate ?most ?lng
   (case len => k_is)
   (case isinstance => k_is)
   (case all => k_is)
   (case range => k_is)
   (case sorted => k_is)
   (case repr => k_is)
   (case max => k_is)
   (case min => k_is)
   (case str => k_is)
   (case tuple => k_is)
   (case list => k_is)
   (case int => k_is)
   (case bool => k_is)
   (case zip => k_is)
   (case divmod => k_is)
   (case abs => k_is)
   (case set => k_is)
   (case enumerate => k_is)
   (case most => k_is)
   (case lng => k_is)
  refine' K32.qw7 KX G hmg B ?cR ?eR ?tC ?uCR ?iCC ?cd1a ?cd2a ?cd3a ?cd4a ?cd5a ?cd6a ?cd7a ?cd8a ?cd9a ?cd10a ?kq1 ?kq2 ?zve ?kqv ?kqe ?d15 ?d16 ?d17 ?d18 ?d19 ?d20 ?d21 ?d22 ?d23 ?d24 ?d25 ?d28 ?d29 ?d30 ?d31 ?d32 ?d33 ?d34 ?d35 ?d36 ?d38 ?d39 ?d40 ?d41 ?d42 ?d43 ?d44 ?d45 ?d46 ?d47 ?d48 ?d49 ?d50 ?d51 ?d52 ?d53
  (case cR => k_is)
  (case tC => (refine' K32.qxf ?a ?i ?l ?c ?k ?e; (case a => k_is); (case i => k_is); (case l => k_is); (case c => k_is); (case k => k_is); (case e => kernel_rfl)))
  (case eR => kernel_rfl)
  (case uCR => kernel_rfl)
  (case iCC => k_is)
  (case cd1a => k_is)
  (case cd2a => k_is)
  (case cd3a => k_is)
  (case cd4a => k_is)
  (case cd5a => k_is)
  (case cd6a => k_is)
  (case cd7a => k_is)
  (case cd8a => k_is)
  (case cd9a => k_is)
  (case cd10a => k_is)
  (case kq1 => kernel_rfl)
  (case kq2 => kernel_rfl)
  (case zve => k_is)
  (case kqv => kernel_rfl)
  (case kqe => kernel_rfl)
  (case d15 => (refine' K32.qxg ?a ?l ?c ?k; (case a => k_is); (case l => k_is); (case c => k_is); (case k => k_is)))
  (case d16 => (refine' K32.qxg ?a ?l ?c ?k; (case a => k_is); (case l => k_is); (case c => k_is); (case k => k_is)))
  (case d17 => (refine' K32.qxg ?a ?l ?c ?k; (case a => k_is); (case l => k_is); (case c => k_is); (case k => k_is)))
  (case d18 => (refine' K32.qxg ?a ?l ?c ?k; (case a => k_is); (case l => k_is); (case c => k_is); (case k => k_is)))
  (case d19 => (refine' K32.qxg ?a ?l ?c ?k; (case a => k_is); (case l => k_is); (case c => k_is); (case k => k_is)))
  (case d20 => (refine' K32.qxg ?a ?l ?c ?k; (case a => k_is); (case l => k_is); (case c => k_is); (case k => k_is)))
  (case d21 => (refine' K32.qxg ?a ?l ?c ?k; (case a => k_is); (case l => k_is); (case c => k_is); (case k => k_is)))
  (case d22 => (refine' K32.qxg ?a ?l ?c ?k; (case a => k_is); (case l => k_is); (case c => k_is); (case k => k_is)))
  (case d23 => (refine' K32.qxg ?a ?l ?c ?k; (case a => k_is); (case l => k_is); (case c => k_is); (case k => k_is)))
  (case d24 => (refine' K32.qxg ?a ?l ?c ?k; (case a => k_is); (case l => k_is); (case c => k_is); (case k => k_is)))
  (case d25 => (refine' K32.qxg ?a ?l ?c ?k; (case a => k_is); (case l => k_is); (case c => k_is); (case k => k_is)))
  (case d28 => (refine' K32.qxg ?a ?l ?c ?k; (case a => k_is); (case l => k_is); (case c => k_is); (case k => k_is)))
  (case d29 => (refine' K32.qxg ?a ?l ?c ?k; (case a => k_is); (case l => k_is); (case c => k_is); (case k => k_is)))
  (case d30 => (refine' K32.qxg ?a ?l ?c ?k; (case a => k_is); (case l => k_is); (case c => k_is); (case k => k_is)))
  (case d31 => (refine' K32.qxg ?a ?l ?c ?k; (case a => k_is); (case l => k_is); (case c => k_is); (case k => k_is)))
  (case d32 => (refine' K32.qxg ?a ?l ?c ?k; (case a => k_is); (case l => k_is); (case c => k_is); (case k => k_is)))
  (case d33 => (refine' K32.qxg ?a ?l ?c ?k; (case a => k_is); (case l => k_is); (case c => k_is); (case k => k_is)))
  (case d34 => (refine' K32.qxg ?a ?l ?c ?k; (case a => k_is); (case l => k_is); (case c => k_is); (case k => k_is)))
  (case d35 => (refine' K32.qxg ?a ?l ?c ?k; (case a => k_is); (case l => k_is); (case c => k_is); (case k => k_is)))
  (case d36 => (refine' K32.qxg ?a ?l ?c ?k; (case a => k_is); (case l => k_is); (case c => k_is); (case k => k_is)))
  (case d38 => (refine' K32.qxg ?a ?l ?c ?k; (case a => k_is); (case l => k_is); (case c => k_is); (case k => k_is)))
  (case d39 => (refine' K32.qxg ?a ?l ?c ?k; (case a => k_is); (case l => k_is); (case c => k_is); (case k => k_is)))
  (case d40 => (refine' K32.qxg ?a ?l ?c ?k; (case a => k_is); (case l => k_is); (case c => k_is); (case k => k_is)))
  (case d41 => (refine' K32.qxg ?a ?l ?c ?k; (case a => k_is); (case l => k_is); (case c => k_is); (case k => k_is)))
  (case d42 => (refine' K32.qxg ?a ?l ?c ?k; (case a => k_is); (case l => k_is); (case c => k_is); (case k => k_is)))
  (case d43 => (refine' K32.qxg ?a ?l ?c ?k; (case a => k_is); (case l => k_is); (case c => k_is); (case k => k_is)))
  (case d44 => (refine' K32.qxg ?a ?l ?c ?k; (case a => k_is); (case l => k_is); (case c => k_is); (case k => k_is)))
  (case d45 => (refine' K32.qxg ?a ?l ?c ?k; (case a => k_is); (case l => k_is); (case c => k_is); (case k => k_is)))
  (case d46 => (refine' K32.qxg ?a ?l ?c ?k; (case a => k_is); (case l => k_is); (case c => k_is); (case k => k_is)))
  (case d47 => (refine' K32.qxg ?a ?l ?c ?k; (case a => k_is); (case l => k_is); (case c => k_is); (case k => k_is)))
  (case d48 => (refine' K32.qxg ?a ?l ?c ?k; (case a => k_is); (case l => k_is); (case c => k_is); (case k => k_is)))
  (case d49 => (refine' K32.qxg ?a ?l ?c ?k; (case a => k_is); (case l => k_is); (case c => k_is); (case k => k_is)))
  (case d50 => (refine' K32.qxg ?a ?l ?c ?k; (case a => k_is); (case l => k_is); (case c => k_is); (case k => k_is)))
  (case d51 => (refine' K32.qxg ?a ?l ?c ?k; (case a => k_is); (case l => k_is); (case c => k_is); (case k => k_is)))
  (case d52 => (refine' K32.qxg ?a ?l ?c ?k; (case a => k_is); (case l => k_is); (case c => k_is); (case k => k_is)))
  (case d53 => (refine' K32.qxg ?a ?l ?c ?k; (case a => k_is); (case l => k_is); (case c => k_is); (case k => k_is)))
