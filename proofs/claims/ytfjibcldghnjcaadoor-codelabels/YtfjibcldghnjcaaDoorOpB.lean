
/-
  ops: isOp, Name, Ends; relictref07: Names, Sigs, Name, Sig, Ends.
-/
import Derived.Test.YtfjibcldghnjcaaDoorOpA
import Derived.Test.YtfjibcldghnjcaaDoorAgA
namespace Go.Proofs.YtfjibcldghnjcaaDoor
open Go.RowKit
set_option linter.unusedVariables false
set_option linter.unusedSimpArgs false

/-- The variable names holds what the program's text lays. -/
def Nam (w : World) : Prop := ∀ k : Nat, k < 52 → w.cell? ⟨0, k, none⟩ = some (strV (nmS k))
theorem Nam.lt {w : World} (h : Nam w) : 0 < w.heap.size := World.block_lt_of_cell? w ⟨0, 0, none⟩ (h 0 (by decide))
theorem Nam.under {w w' : World} (h : Nam w) (hb : Below w.heap.size w w') : Nam w' := by
  intro k hk
  rw [hb.cell (by exact h.lt)]
  exact h k hk

set_option maxRecDepth 100000 in
set_option maxHeartbeats 1000000 in
theorem isOp_any (op : Int) (w : World) : Calls Tryd.prog 29 #[.int .i64 op] w fun e w' => e = .returned (.bool (decide (1 ≤ op ∧ op ≤ 51))) ∧ w' = w := by
  by_cases h1 : 1 ≤ op
  · by_cases h2 : op ≤ 51
    all_goals
      go_enter Tryd.func29, Tryd.ntmps29
      go_wp2_with fail
      go_ret
      refine ⟨?_, rfl⟩
      simp [h1, h2]
  · go_enter Tryd.func29, Tryd.ntmps29
    go_wp2_with fail
    go_ret
    refine ⟨?_, rfl⟩
    have h1' : ¬ 1 ≤ op := by omega
    simp [h1']

set_option maxRecDepth 100000 in
set_option maxHeartbeats 1000000 in
theorem name_any (op : Int) (w : World) (hN : Nam w) : Calls Tryd.prog 26 #[.int .i64 op] w fun e w' => e = .returned (strV (nmS op)) ∧ w' = w := by
  have HI : Hid (Calls Tryd.prog 29 #[.int .i64 op] w fun e w' => e = .returned (.bool (decide (1 ≤ op ∧ op ≤ 51))) ∧ w' = w) := isOp_any op w
  by_cases h : 1 ≤ op ∧ op ≤ 51
  · obtain ⟨k, rfl⟩ : ∃ k : Nat, op = (k : Int) := ⟨op.toNat, by omega⟩
    have hc := hN k (by omega)
    obtain ⟨h1, h2⟩ := h
    rw [show decide (1 ≤ (k : Int) ∧ (k : Int) ≤ 51) = true by simp [h1, h2]] at HI
    generalize strV (nmS k) = r at *
    clear hN
    go_enter Tryd.func26, Tryd.ntmps26
    go_wp2_with fail
    refine HI.out.mono ?_
    rintro e w2 ⟨rfl, rfl⟩
    go_wp2_with fail
    go_ret
    exact ⟨rfl, rfl⟩
  · rw [show nmS op = [] from nm_out (by omega)]
    rw [show decide (1 ≤ op ∧ op ≤ 51) = false by simp only [decide_eq_false_iff_not]; exact h] at HI
    clear hN h
    go_enter Tryd.func26, Tryd.ntmps26
    go_wp2_with fail
    refine HI.out.mono ?_
    rintro e w2 ⟨rfl, rfl⟩
    go_wp2_with fail
    go_ret
    exact ⟨rfl, rfl⟩

def cellsT (l : List (List UInt8)) : Array Value := (l.map strV).toArray
theorem cells_rname (w : World) (k : Nat) (h1 : 1 ≤ k) (h2 : k ≤ 51) : (w.alloc (.cells (cellsT nmT) 9)).cell? ⟨w.heap.size, 0 + (k - 1), none⟩ = some (strV (nmS k)) := by
  have e : nmS (k : Int) = nmT.getD (k - 1) [] := by
    unfold nmS
    rw [if_pos (by omega)]
    congr 1
    omega
  rw [e, World.cell?_alloc_mark]
  have hl : nmT.length = 51 := rfl
  have hk : k - 1 < nmT.length := by omega
  simp [cellsT, hk]
theorem cells_rsig (w : World) (k : Nat) (h1 : 1 ≤ k) (h2 : k ≤ 51) : (w.alloc (.cells (cellsT sigT) 9)).cell? ⟨w.heap.size, 0 + (k - 1), none⟩ = some (strV (sigS k)) := by
  have e : sigS (k : Int) = sigT.getD (k - 1) [] := by
    unfold sigS
    rw [if_pos (by omega)]
    congr 1
    omega
  rw [e, World.cell?_alloc_mark]
  have hl : sigT.length = 51 := rfl
  have hk : k - 1 < sigT.length := by omega
  simp [cellsT, hk]
end Go.Proofs.YtfjibcldghnjcaaDoor
