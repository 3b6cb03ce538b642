/-
  A world seen through a veil: only the blocks that are let through have cells.
-/
import Derived.Test.YtbmondbicnfcpaaDoorTermList
namespace Go.Proofs.YtbmondbicnfcpaaDoor
open Go.RowKit
set_option linter.unusedVariables false
set_option linter.unusedSimpArgs false

/-- The world with the cells of these blocks alone. -/
def veil (P : Nat → Bool) (w : World) : World := { w with heap := w.heap.mapIdx fun b o => if P b then o else .deferred none }
theorem veil_size (P : Nat → Bool) (w : World) : (veil P w).heap.size = w.heap.size := by simp [veil]
theorem veil_block {P : Nat → Bool} {w : World} {b : Nat} (h : P b = true) : (veil P w).heap[b]? = w.heap[b]? := by
  simp only [veil, Array.getElem?_mapIdx, h, if_true]
  cases w.heap[b]? <;> rfl
theorem veil_hid {P : Nat → Bool} {w : World} {b : Nat} (h : P b = false) (o : Obj) (ho : (veil P w).heap[b]? = some o) : o = .deferred none := by
  simp only [veil, Array.getElem?_mapIdx, h] at ho
  cases hb : w.heap[b]? with
  | none => rw [hb] at ho; cases ho
  | some x => rw [hb] at ho; simp at ho; exact ho.symm
theorem veil_cell {P : Nat → Bool} {w : World} {a : Addr} {u : Value} (h : (veil P w).cell? a = some u) : P a.block = true ∧ w.cell? a = some u := by
  cases hP : P a.block with
  | true => exact ⟨rfl, by rw [← World.cell?_of_block (w := w) (w' := veil P w) (veil_block hP)]; exact h⟩
  | false =>
    exfalso
    unfold World.cell? at h
    cases hb : (veil P w).heap[a.block]? with
    | none => rw [hb] at h; simp at h
    | some o => rw [hb, veil_hid hP o hb] at h; simp at h
theorem veil_put {P : Nat → Bool} {w : World} {a : Addr} {u : Value} (hP : P a.block = true) (h : w.cell? a = some u) : (veil P w).cell? a = some u := by
  rw [World.cell?_of_block (w := w) (w' := veil P w) (veil_block hP)]; exact h
theorem veil_lt {P : Nat → Bool} {w : World} {a : Addr} {u : Value} (h : (veil P w).cell? a = some u) : a.block < w.heap.size := World.block_lt_of_cell? w a (veil_cell h).2
/-- From one veil to another one: what is let through stays. -/
theorem veil_move {P Q : Nat → Bool} {w w' : World} (hs : ∀ b, P b = true → b < w.heap.size → w'.heap[b]? = w.heap[b]? ∧ Q b = true) : ∀ a u, (veil P w).cell? a = some u → (veil Q w').cell? a = some u := by
  intro a u h
  obtain ⟨h1, h2⟩ := veil_cell h
  obtain ⟨h3, h4⟩ := hs a.block h1 (World.block_lt_of_cell? w a h2)
  refine veil_put h4 ?_
  rw [World.cell?_of_block (w := w) h3]; exact h2
theorem IsT.veiled {P Q : Nat → Bool} {w w' : World} {t : Tm} {v : Value} (h : IsT (veil P w) t v) (hz : w.heap.size ≤ w'.heap.size) (hs : ∀ b, P b = true → b < w.heap.size → w'.heap[b]? = w.heap[b]? ∧ Q b = true) : IsT (veil Q w') t v :=
  h.cells (by rw [veil_size, veil_size]; exact hz) (veil_move hs)
theorem IsT.unveil {P : Nat → Bool} {w : World} {t : Tm} {v : Value} (h : IsT (veil P w) t v) : IsT w t v :=
  h.cells (by rw [veil_size]; exact Nat.le_refl _) (fun a u ha => (veil_cell ha).2)
theorem Sl.veiled {P Q : Nat → Bool} {w w' : World} {v : Value} {zs : List Int} (h : Sl (veil P w) v zs) (hz : w.heap.size ≤ w'.heap.size) (hs : ∀ b, P b = true → b < w.heap.size → w'.heap[b]? = w.heap[b]? ∧ Q b = true) : Sl (veil Q w') v zs :=
  h.cells (by rw [veil_size, veil_size]; exact hz) (veil_move hs)
theorem Ts.cells {w w' : World} {v : Value} {K : List Tm} (h : Ts w v K) (hs : w.heap.size ≤ w'.heap.size) (hc : ∀ a u, w.cell? a = some u → w'.cell? a = some u) : Ts w' v K := by
  obtain ⟨a, cap, el, rfl, ⟨h1, h2, h3, h4⟩, hr⟩ := h
  refine ⟨a, cap, el, rfl, ⟨h1, h2, h3, fun h0 => ?_⟩, fun i hi => (hr i hi).cells hs hc⟩
  obtain ⟨b, off, rfl, hlt, hcl⟩ := h4 h0
  exact ⟨b, off, rfl, Nat.lt_of_lt_of_le hlt hs, fun i hi => (hcl i hi).cells hc⟩
theorem Ts.veiled {P Q : Nat → Bool} {w w' : World} {v : Value} {K : List Tm} (h : Ts (veil P w) v K) (hz : w.heap.size ≤ w'.heap.size) (hs : ∀ b, P b = true → b < w.heap.size → w'.heap[b]? = w.heap[b]? ∧ Q b = true) : Ts (veil Q w') v K :=
  h.cells (by rw [veil_size, veil_size]; exact hz) (veil_move hs)
theorem Ts.unveil {P : Nat → Bool} {w : World} {v : Value} {K : List Tm} (h : Ts (veil P w) v K) : Ts w v K :=
  h.cells (by rw [veil_size]; exact Nat.le_refl _) (fun a u ha => (veil_cell ha).2)
end Go.Proofs.YtbmondbicnfcpaaDoor
