import Derived.Test.YtbmondbicnfcpaaDoorZNumA
import Derived.WalkSmall
/-
  Terms (api.Term) as the walks want them: Tm (a tree), IsT (a value that reads in a world as a tree), Ts (a slice that reads as a list of trees).
-/
namespace Go.Proofs.YtbmondbicnfcpaaDoor
open Go.RowKit
set_option linter.unusedVariables false
set_option linter.unusedSimpArgs false

/-- A term: kind, sign, limbs, bytes, number, what it is made of. -/
structure Tm where
  mk ::
  kind : Int
  neg : Bool
  limbs : List Int
  str : ByteArray
  num : Int
  kids : List Tm

/-- What is told of a tree by its own and by what is told of its kids. -/
def Tm.fold {α : Type} (f : Tm → List α → α) : Tm → α
  | .mk k n L S N K => f (.mk k n L S N K) (K.map fun t => Tm.fold f t)
theorem Tm.fold_mk {α : Type} (f : Tm → List α → α) (k : Int) (n : Bool) (L : List Int) (S : ByteArray) (N : Int) (K : List Tm) : Tm.fold f (.mk k n L S N K) = f (.mk k n L S N K) (K.map (Tm.fold f)) := by
  rw [Tm.fold]
/-- What holds of a tree when it holds of its kids holds of all. -/
theorem Tm.ind {P : Tm → Prop} (h : ∀ k n L S N K, (∀ t, t ∈ K → P t) → P (.mk k n L S N K)) : ∀ t, P t
  | .mk k n L S N K => h k n L S N K (fun t _ => Tm.ind h t)
/-- All of them. -/
def andL : List Prop → Prop
  | [] => True
  | p :: r => p ∧ andL r

def tmNil : Tm := .mk 3 false [] ⟨#[]⟩ 0 []

/-- Six cells at a place are the value v. -/
def At6 (w : World) (b off : Nat) (v : Value) : Prop := ∃ c0 c1 c2 c3 c4 c5, v = .agg #[c0, c1, c2, c3, c4, c5] ∧ w.cell? ⟨b, off, none⟩ = some c0 ∧ w.cell? ⟨b, off + 1, none⟩ = some c1 ∧ w.cell? ⟨b, off + 2, none⟩ = some c2 ∧ w.cell? ⟨b, off + 3, none⟩ = some c3 ∧ w.cell? ⟨b, off + 4, none⟩ = some c4 ∧ w.cell? ⟨b, off + 5, none⟩ = some c5

/-- The value of a term, by its parts. -/
def tmV (k : Int) (neg : Bool) (sl : Value) (S : ByteArray) (N : Int) (sk : Value) : Value := .agg #[.int .i64 k, .bool neg, sl, .string S, .int .i64 N, sk]

/-- A slice's head: its place, its length, its capacity. -/
def Head (w : World) (a : Option Addr) (n cap : Nat) (el : Nat → Value) : Prop :=
  n ≤ cap ∧ cap ≤ 9223372036854775807 ∧ (a = none → cap = 0) ∧ (0 < n → ∃ b off, a = some ⟨b, off, none⟩ ∧ b < w.heap.size ∧ ∀ i, i < n → At6 w b (off + i * 6) (el i))

/-- How a value reads as a tree, if its kids' values read as their trees. -/
def isF (w : World) (t : Tm) (Ks : List (Value → Prop)) (v : Value) : Prop :=
  ∃ (sl : Value) (a : Option Addr) (cap : Nat) (el : Nat → Value), v = tmV t.kind t.neg sl t.str t.num (.slice a Ks.length cap) ∧ (-9223372036854775808 ≤ t.kind ∧ t.kind ≤ 9223372036854775807) ∧ (-9223372036854775808 ≤ t.num ∧ t.num ≤ 9223372036854775807) ∧ (t.str.size : Int) ≤ 140737488355328 ∧ Sl w sl t.limbs ∧ Head w a Ks.length cap el ∧ ∀ i (h : i < Ks.length), Ks[i] (el i)
/-- v reads in w as the tree. -/
def IsT (w : World) : Tm → Value → Prop := Tm.fold (isF w)
theorem isT_mk (w : World) (k : Int) (neg : Bool) (L : List Int) (S : ByteArray) (N : Int) (K : List Tm) (v : Value) : IsT w (.mk k neg L S N K) v ↔
    ∃ (sl : Value) (a : Option Addr) (cap : Nat) (el : Nat → Value), v = tmV k neg sl S N (.slice a K.length cap) ∧ (-9223372036854775808 ≤ k ∧ k ≤ 9223372036854775807) ∧ (-9223372036854775808 ≤ N ∧ N ≤ 9223372036854775807) ∧ (S.size : Int) ≤ 140737488355328 ∧ Sl w sl L ∧ Head w a K.length cap el ∧ ∀ i (h : i < K.length), IsT w (K[i]) (el i) := by
  unfold IsT
  rw [Tm.fold_mk]
  unfold isF
  simp only [List.length_map, List.getElem_map]
theorem IsT.mk {w : World} (k : Int) (neg : Bool) (L : List Int) (S : ByteArray) (N : Int) (K : List Tm) (sl : Value) (a : Option Addr) (cap : Nat) (el : Nat → Value)
      (hk : -9223372036854775808 ≤ k ∧ k ≤ 9223372036854775807) (hN : -9223372036854775808 ≤ N ∧ N ≤ 9223372036854775807) (hS : (S.size : Int) ≤ 140737488355328) (hL : Sl w sl L) (hh : Head w a K.length cap el)
      (hr : ∀ i (h : i < K.length), IsT w (K[i]) (el i)) : IsT w (.mk k neg L S N K) (tmV k neg sl S N (.slice a K.length cap)) :=
  (isT_mk ..).2 ⟨sl, a, cap, el, rfl, hk, hN, hS, hL, hh, hr⟩
/-- Trees that are read, by what they are made of. -/
theorem IsT.ind {w : World} {P : Tm → Value → Prop} (h : ∀ (k : Int) (neg : Bool) (L : List Int) (S : ByteArray) (N : Int) (K : List Tm) (sl : Value) (a : Option Addr) (cap : Nat) (el : Nat → Value),
      (-9223372036854775808 ≤ k ∧ k ≤ 9223372036854775807) → (-9223372036854775808 ≤ N ∧ N ≤ 9223372036854775807) → ((S.size : Int) ≤ 140737488355328) → Sl w sl L → Head w a K.length cap el →
      (∀ i (h : i < K.length), IsT w (K[i]) (el i)) → (∀ i (h : i < K.length), P (K[i]) (el i)) → P (.mk k neg L S N K) (tmV k neg sl S N (.slice a K.length cap))) : ∀ (t : Tm) (v : Value), IsT w t v → P t v :=
  Tm.ind (P := fun t => ∀ v, IsT w t v → P t v) (fun k neg L S N K ih v hv => by
    obtain ⟨sl, a, cap, el, rfl, hk, hN, hS, hL, hh, hr⟩ := (isT_mk ..).1 hv
    exact h k neg L S N K sl a cap el hk hN hS hL hh hr (fun i hi => ih _ (List.getElem_mem hi) _ (hr i hi)))

/-- The slice v reads in w as the list of trees. -/
def Ts (w : World) (v : Value) (K : List Tm) : Prop := ∃ a cap el, v = .slice a K.length cap ∧ Head w a K.length cap el ∧ ∀ i (h : i < K.length), IsT w (K[i]) (el i)

theorem At6.below {w w' : World} {b off : Nat} {v : Value} (h : At6 w b off v) (hb : Below w.heap.size w w') (hlt : b < w.heap.size) : At6 w' b off v := by
  obtain ⟨c0, c1, c2, c3, c4, c5, rfl, h0, h1, h2, h3, h4, h5⟩ := h
  refine ⟨c0, c1, c2, c3, c4, c5, rfl, ?_, ?_, ?_, ?_, ?_, ?_⟩
  · rw [hb.cell (p := ⟨b, off, none⟩) hlt]; exact h0
  · rw [hb.cell (p := ⟨b, off + 1, none⟩) hlt]; exact h1
  · rw [hb.cell (p := ⟨b, off + 2, none⟩) hlt]; exact h2
  · rw [hb.cell (p := ⟨b, off + 3, none⟩) hlt]; exact h3
  · rw [hb.cell (p := ⟨b, off + 4, none⟩) hlt]; exact h4
  · rw [hb.cell (p := ⟨b, off + 5, none⟩) hlt]; exact h5

theorem Head.below {w w' : World} {a : Option Addr} {n cap : Nat} {el : Nat → Value} (h : Head w a n cap el) (hb : Below w.heap.size w w') : Head w' a n cap el := by
  obtain ⟨h1, h2, h3, h4⟩ := h
  refine ⟨h1, h2, h3, fun h0 => ?_⟩
  obtain ⟨b, off, rfl, hlt, hc⟩ := h4 h0
  exact ⟨b, off, rfl, Nat.lt_of_lt_of_le hlt hb.size, fun i hi => (hc i hi).below hb hlt⟩

theorem IsT.under {w w' : World} {t : Tm} {v : Value} (h : IsT w t v) (hb : Below w.heap.size w w') : IsT w' t v := by
  refine IsT.ind (P := fun t v => IsT w' t v) ?_ t v h
  intro k neg L S N K sl a cap el hk hN hS hL hh hr ih
  exact IsT.mk k neg L S N K sl a cap el hk hN hS (hL.below hb) (hh.below hb) ih

theorem Ts.under {w w' : World} {v : Value} {K : List Tm} (h : Ts w v K) (hb : Below w.heap.size w w') : Ts w' v K := by
  obtain ⟨a, cap, el, rfl, hh, hr⟩ := h
  exact ⟨a, cap, el, rfl, hh.below hb, fun i hi => (hr i hi).under hb⟩

theorem Ts.nil (w : World) : Ts w (.slice none 0 0) [] := ⟨none, 0, fun _ => .bool false, rfl, ⟨Nat.le_refl _, by decide, fun _ => rfl, fun h => absurd h (by simp)⟩, fun i h => absurd h (by simp)⟩

theorem IsT.open {w : World} {t : Tm} {v : Value} (h : IsT w t v) : ∃ sl sk, v = tmV t.kind t.neg sl t.str t.num sk ∧ Sl w sl t.limbs ∧ Ts w sk t.kids ∧ (-9223372036854775808 ≤ t.kind ∧ t.kind ≤ 9223372036854775807) ∧ (-9223372036854775808 ≤ t.num ∧ t.num ≤ 9223372036854775807) ∧ (t.str.size : Int) ≤ 140737488355328 := by
  obtain ⟨k, neg, L, S, N, K⟩ := t
  obtain ⟨sl, a, cap, el, rfl, hk, hN, hS, hL, hh, hr⟩ := (isT_mk ..).1 h
  exact ⟨sl, _, rfl, hL, ⟨a, cap, el, rfl, hh, hr⟩, hk, hN, hS⟩

theorem IsT.shut {w : World} {k : Int} {neg : Bool} {L : List Int} {S : ByteArray} {N : Int} {K : List Tm} {sl sk : Value} (hk : -9223372036854775808 ≤ k ∧ k ≤ 9223372036854775807) (hN : -9223372036854775808 ≤ N ∧ N ≤ 9223372036854775807) (hS : (S.size : Int) ≤ 140737488355328) (hL : Sl w sl L) (hK : Ts w sk K) :
    IsT w (.mk k neg L S N K) (tmV k neg sl S N sk) := by
  obtain ⟨a, cap, el, rfl, hh, hr⟩ := hK
  exact IsT.mk k neg L S N K sl a cap el hk hN hS hL hh hr

theorem Ts.shape {w : World} {v : Value} {K : List Tm} (h : Ts w v K) : ∃ a cap, v = .slice a K.length cap ∧ K.length ≤ cap ∧ (cap : Int) ≤ 9223372036854775807 ∧ (a = none → cap = 0) := by
  obtain ⟨a, cap, el, rfl, ⟨h1, h2, h3, _⟩, _⟩ := h
  exact ⟨a, cap, rfl, h1, by omega, h3⟩

/-- What stands in a slice of terms at a place. -/
theorem Ts.at {w : World} {a : Option Addr} {n cap : Nat} {K : List Tm} (h : Ts w (.slice a n cap) K) (i : Nat) (hi : i < K.length) :
    ∃ b off v, a = some ⟨b, off, none⟩ ∧ b < w.heap.size ∧ At6 w b (off + i * 6) v ∧ IsT w (K[i]) v := by
  obtain ⟨a', cap', el, he, ⟨h1, h2, h3, h4⟩, hr⟩ := h
  injection he with e1 e2 e3
  subst e1; subst e2; subst e3
  obtain ⟨b, off, rfl, hlt, hc⟩ := h4 (by omega)
  exact ⟨b, off, el i, rfl, hlt, hc i hi, hr i hi⟩

theorem Ts.take {w : World} {a : Option Addr} {n cap : Nat} {K : List Tm} (h : Ts w (.slice a n cap) K) (m : Nat) (hm : m ≤ K.length) : Ts w (.slice a m cap) (K.take m) := by
  obtain ⟨a', cap', el, he, ⟨h1, h2, h3, h4⟩, hr⟩ := h
  injection he with e1 e2 e3
  subst e1; subst e2; subst e3
  have hl : (K.take m).length = m := by simp; omega
  refine ⟨a, cap, el, by rw [hl], ⟨by rw [hl]; omega, h2, h3, fun h0 => ?_⟩, fun i hi => ?_⟩
  · obtain ⟨b, off, rfl, hlt, hc⟩ := h4 (by omega)
    exact ⟨b, off, rfl, hlt, fun i hi => hc i (by omega)⟩
  · rw [List.getElem_take]
    exact hr i (by omega)

/-- 'l[q:]' -/
theorem Ts.cut {w : World} {b off n cap q : Nat} {K : List Tm} (h : Ts w (.slice (some ⟨b, off, none⟩) n cap) K) (hq : q ≤ K.length) : Ts w (.slice (some ⟨b, off + q * 6, none⟩) (n - q) (cap - q)) (K.drop q) := by
  obtain ⟨a', cap', el, he, ⟨h1, h2, h3, h4⟩, hr⟩ := h
  injection he with e1 e2 e3
  subst e1; subst e2; subst e3
  have hl : (K.drop q).length = K.length - q := by simp
  refine ⟨_, cap - q, fun i => el (q + i), by rw [hl], ⟨by rw [hl]; omega, by omega, fun e => (by cases e), fun h0 => ?_⟩, fun i hi => ?_⟩
  · obtain ⟨b', off', he, hlt, hc⟩ := h4 (by omega)
    simp at he
    obtain ⟨rfl, rfl⟩ := he
    refine ⟨b, off + q * 6, rfl, hlt, fun i hi => ?_⟩
    have := hc (q + i) (by omega)
    rwa [show off + (q + i) * 6 = off + q * 6 + i * 6 by omega] at this
  · rw [List.getElem_drop]
    exact hr (q + i) (by omega)

end Go.Proofs.YtbmondbicnfcpaaDoor

/-
  A box of six cells: a term of the call's own.
-/
namespace Go.Proofs.YtbmondbicnfcpaaDoor
open Go.RowKit
set_option linter.unusedVariables false
set_option linter.unusedSimpArgs false

/-- A value that is a slice. -/
def IsS (v : Value) : Prop := ∃ p n c, v = .slice p n c
/-- Block g is a box of six cells. -/
def Bt (w : World) (g : Nat) (k : Int) (neg : Bool) (sl : Value) (S : ByteArray) (N : Int) (sk : Value) : Prop := w.heap[g]? = some (.cells #[.int .i64 k, .bool neg, sl, .string S, .int .i64 N, sk] 29 (0, 0)) ∧ IsS sl ∧ IsS sk

theorem Bt.lt {w : World} {g : Nat} {k : Int} {neg : Bool} {sl : Value} {S : ByteArray} {N : Int} {sk : Value} (h : Bt w g k neg sl S N sk) : g < w.heap.size := (Array.getElem?_eq_some_iff.1 h.1).1
theorem Bt.cells {w : World} {g : Nat} {k : Int} {neg : Bool} {sl : Value} {S : ByteArray} {N : Int} {sk : Value} (h : Bt w g k neg sl S N sk) : w.cell? ⟨g, 0, none⟩ = some (.int .i64 k) ∧ w.cell? ⟨g, 1, none⟩ = some (.bool neg) ∧ w.cell? ⟨g, 2, none⟩ = some (sl) ∧ w.cell? ⟨g, 3, none⟩ = some (.string S) ∧ w.cell? ⟨g, 4, none⟩ = some (.int .i64 N) ∧ w.cell? ⟨g, 5, none⟩ = some (sk) := by
  obtain ⟨h, _⟩ := h
  refine ⟨?_, ?_, ?_, ?_, ?_, ?_⟩ <;> simp [World.cell?, h]
theorem Bt.froz {w : World} {g : Nat} {k : Int} {neg : Bool} {sl : Value} {S : ByteArray} {N : Int} {sk : Value} (h : Bt w g k neg sl S N sk) : w.frozen? ⟨g, 0, none⟩ = false ∧ w.frozen? ⟨g, 1, none⟩ = false ∧ w.frozen? ⟨g, 2, none⟩ = false ∧ w.frozen? ⟨g, 3, none⟩ = false ∧ w.frozen? ⟨g, 4, none⟩ = false ∧ w.frozen? ⟨g, 5, none⟩ = false := by
  obtain ⟨h, _⟩ := h
  refine ⟨?_, ?_, ?_, ?_, ?_, ?_⟩ <;> simp [World.frozen?, h]
theorem Bt.below {w w' : World} {g B : Nat} {k : Int} {neg : Bool} {sl : Value} {S : ByteArray} {N : Int} {sk : Value} (h : Bt w g k neg sl S N sk) (hb : Below B w w') (hg : g < B) : Bt w' g k neg sl S N sk := ⟨by rw [hb.block g hg]; exact h.1, h.2⟩
theorem Bt.under {w w' : World} {g : Nat} {k : Int} {neg : Bool} {sl : Value} {S : ByteArray} {N : Int} {sk : Value} (h : Bt w g k neg sl S N sk) (hb : Below w.heap.size w w') : Bt w' g k neg sl S N sk := h.below hb h.lt
theorem Bt.other {w w' : World} {g g' : Nat} {k : Int} {neg : Bool} {sl : Value} {S : ByteArray} {N : Int} {sk : Value} (h : Bt w g k neg sl S N sk) (hb : But g' w w') (hne : g ≠ g') : Bt w' g k neg sl S N sk := ⟨by rw [hb.block g hne]; exact h.1, h.2⟩
theorem Bt.grw {w w' : World} {g g' : Nat} {k : Int} {neg : Bool} {sl : Value} {S : ByteArray} {N : Int} {sk : Value} (h : Bt w g k neg sl S N sk) (hb : Grw g' w w') (hne : g ≠ g') : Bt w' g k neg sl S N sk := ⟨by rw [hb.block g h.lt hne]; exact h.1, h.2⟩
theorem Bt.new (w : World) (k : Int) (neg : Bool) (sl : Value) (S : ByteArray) (N : Int) (sk : Value) (h1 : IsS sl) (h2 : IsS sk) : Bt (w.alloc (.cells #[.int .i64 k, .bool neg, sl, .string S, .int .i64 N, sk] 29)) w.heap.size k neg sl S N sk := ⟨heap_alloc_new w _, h1, h2⟩
/-- The world behind a store of a term into its box. -/
def setBt (w : World) (g : Nat) (k : Int) (neg : Bool) (sl : Value) (S : ByteArray) (N : Int) (sk : Value) : World := (((((w.setCell ⟨g, 0, none⟩ (.int .i64 k)).setCell ⟨g, 1, none⟩ (.bool neg)).setCell ⟨g, 2, none⟩ (sl)).setCell ⟨g, 3, none⟩ (.string S)).setCell ⟨g, 4, none⟩ (.int .i64 N)).setCell ⟨g, 5, none⟩ (sk)
theorem setBt_but (w : World) (g : Nat) (k : Int) (neg : Bool) (sl : Value) (S : ByteArray) (N : Int) (sk : Value) : But g w (setBt w g k neg sl S N sk) := ((((((But.refl g w).setCell 0 _).setCell 1 _).setCell 2 _).setCell 3 _).setCell 4 _).setCell 5 _
theorem Bt.set {w : World} {g : Nat} {k' : Int} {neg' : Bool} {sl' : Value} {S' : ByteArray} {N' : Int} {sk' : Value} (h : Bt w g k' neg' sl' S' N' sk') (k : Int) (neg : Bool) (sl : Value) (S : ByteArray) (N : Int) (sk : Value) (h1 : IsS sl) (h2 : IsS sk) : Bt (setBt w g k neg sl S N sk) g k neg sl S N sk := by
  refine ⟨?_, h1, h2⟩
  simp [setBt, World.setCell, Array.getElem?_modify, h.1]
theorem Bt.load {w : World} {g : Nat} {k : Int} {neg : Bool} {sl : Value} {S : ByteArray} {N : Int} {sk : Value} (h : Bt w g k neg sl S N sk) : (loadVar 29 ⟨g, 0, none⟩).run Tryd.prog w = .ok (.agg #[.int .i64 k, .bool neg, sl, .string S, .int .i64 N, sk]) w := by
  obtain ⟨c0, c1, c2, c3, c4, c5⟩ := h.cells
  simp [loadVar, go_sem, c0, c1, c2, c3, c4, c5]
theorem Sl.isS {w : World} {v : Value} {zs : List Int} (h : Sl w v zs) : IsS v := by
  obtain ⟨a, c, rfl⟩ := h.shape
  exact ⟨_, _, _, rfl⟩
theorem Ts.isS {w : World} {v : Value} {K : List Tm} (h : Ts w v K) : IsS v := by
  obtain ⟨a, c, rfl, _⟩ := h.shape
  exact ⟨_, _, _, rfl⟩
end Go.Proofs.YtbmondbicnfcpaaDoor
