
/-
  ops: isOp, Name, Ends; relictref07: Names, Sigs, Name, Sig, Ends.
-/
import Derived.Test.YtgjjeghnfhjnnaaDoorOpA
import Derived.Test.YtgjjeghnfhjnnaaDoorAgA
namespace Go.Proofs.YtgjjeghnfhjnnaaDoor
open Go.RowKit
set_option linter.unusedVariables false
set_option linter.unusedSimpArgs false

/-- The variable names holds what the program's text lays. -/
def Nam (w : World) : Prop := ∀ k : Nat, k < 52 → w.cell? ⟨1, k, none⟩ = some (strV (nmS k))
theorem Nam.lt {w : World} (h : Nam w) : 1 < w.heap.size := World.block_lt_of_cell? w ⟨1, 0, none⟩ (h 0 (by decide))
theorem Nam.under {w w' : World} (h : Nam w) (hb : Below w.heap.size w w') : Nam w' := by
  intro k hk
  rw [hb.cell (by exact h.lt)]
  exact h k hk

set_option maxRecDepth 100000 in
set_option maxHeartbeats 1000000 in
theorem isOp_any (op : Int) (w : World) : Calls Tryd.prog 44 #[.int .i64 op] w fun e w' => e = .returned (.bool (decide (1 ≤ op ∧ op ≤ 51))) ∧ w' = w := by
  by_cases h1 : 1 ≤ op
  · by_cases h2 : op ≤ 51
    all_goals
      go_enter Tryd.func44, Tryd.ntmps44
      go_wp2_with fail
      go_ret
      refine ⟨?_, rfl⟩
      simp [h1, h2]
  · go_enter Tryd.func44, Tryd.ntmps44
    go_wp2_with fail
    go_ret
    refine ⟨?_, rfl⟩
    have h1' : ¬ 1 ≤ op := by omega
    simp [h1']

set_option maxRecDepth 100000 in
set_option maxHeartbeats 1000000 in
theorem name_any (op : Int) (w : World) (hN : Nam w) : Calls Tryd.prog 46 #[.int .i64 op] w fun e w' => e = .returned (strV (nmS op)) ∧ w' = w := by
  have HI : Hid (Calls Tryd.prog 44 #[.int .i64 op] w fun e w' => e = .returned (.bool (decide (1 ≤ op ∧ op ≤ 51))) ∧ w' = w) := isOp_any op w
  by_cases h : 1 ≤ op ∧ op ≤ 51
  · obtain ⟨k, rfl⟩ : ∃ k : Nat, op = (k : Int) := ⟨op.toNat, by omega⟩
    have hc := hN k (by omega)
    obtain ⟨h1, h2⟩ := h
    rw [show decide (1 ≤ (k : Int) ∧ (k : Int) ≤ 51) = true by simp [h1, h2]] at HI
    generalize strV (nmS k) = r at *
    clear hN
    go_enter Tryd.func46, Tryd.ntmps46
    go_wp2_with fail
    refine HI.out.mono ?_
    rintro e w2 ⟨rfl, rfl⟩
    go_wp2_with fail
    go_ret
    exact ⟨rfl, rfl⟩
  · rw [show nmS op = [] from nm_out (by omega)]
    rw [show decide (1 ≤ op ∧ op ≤ 51) = false by simp only [decide_eq_false_iff_not]; exact h] at HI
    clear hN h
    go_enter Tryd.func46, Tryd.ntmps46
    go_wp2_with fail
    refine HI.out.mono ?_
    rintro e w2 ⟨rfl, rfl⟩
    go_wp2_with fail
    go_ret
    exact ⟨rfl, rfl⟩

def cellsT (l : List (List UInt8)) : Array Value := (l.map strV).toArray
set_option maxRecDepth 100000 in
set_option maxHeartbeats 1000000 in
theorem rsigs_any (w : World) : Calls Tryd.prog 53 #[] w fun e w' => e = .returned (.slice (some ⟨w.heap.size, 0, none⟩) 51 51) ∧ w' = w.alloc (.cells (cellsT sigT) 9) := by
  go_enter Tryd.func53, Tryd.ntmps53
  go_wp2_with fail
  go_ret
  exact ⟨rfl, rfl⟩
set_option maxRecDepth 100000 in
set_option maxHeartbeats 4000000 in
theorem ends_any (op : Int) (w : World) : Calls Tryd.prog 47 #[.int .i64 op] w fun e w' => e = .returned (.bool (endS op)) ∧ w' = w := by
  by_cases h : op = 2 ∨ op = 3 ∨ op = 5 ∨ op = 7 ∨ op = 8 ∨ op = 11 ∨ op = 33 ∨ op = 48 ∨ op = 49 ∨ op = 50 ∨ op = 51
  · rw [show endS op = true from decide_eq_true h]
    rcases h with rfl | rfl | rfl | rfl | rfl | rfl | rfl | rfl | rfl | rfl | rfl
    all_goals
      go_enter Tryd.func47, Tryd.ntmps47
      repeat (first | (with_reducible (first | apply then_exit | apply inb_eq | apply then_normal | apply then_ret | apply inb_ret | apply inb_normal | (refine inb_ne (by decide) ?_))) | go_values | go_skip | go_guarded | go_step | go_upon | go_back | (simp only [Int.not_lt, Int.not_le] at *; go_simp) | (go_values <;> (try go_simp)))
      go_ret
      exact ⟨rfl, rfl⟩
  · rw [show endS op = false from decide_eq_false h]
    have n2 : ¬ op = 2 := fun e => h (by subst e; decide)
    have n3 : ¬ op = 3 := fun e => h (by subst e; decide)
    have n5 : ¬ op = 5 := fun e => h (by subst e; decide)
    have n7 : ¬ op = 7 := fun e => h (by subst e; decide)
    have n8 : ¬ op = 8 := fun e => h (by subst e; decide)
    have n11 : ¬ op = 11 := fun e => h (by subst e; decide)
    have n33 : ¬ op = 33 := fun e => h (by subst e; decide)
    have n48 : ¬ op = 48 := fun e => h (by subst e; decide)
    have n49 : ¬ op = 49 := fun e => h (by subst e; decide)
    have n50 : ¬ op = 50 := fun e => h (by subst e; decide)
    have n51 : ¬ op = 51 := fun e => h (by subst e; decide)
    clear h
    go_enter Tryd.func47, Tryd.ntmps47
    repeat (first | (with_reducible (first | apply then_exit | apply inb_eq | apply then_normal | apply then_ret | apply inb_ret | apply inb_normal | (refine inb_ne (by decide) ?_))) | go_values | go_skip | go_guarded | go_step | go_upon | go_back | (simp only [Int.not_lt, Int.not_le] at *; go_simp) | (go_values <;> (try go_simp)))
    go_ret
    exact ⟨rfl, rfl⟩
theorem cells_rname (w : World) (k : Nat) (h1 : 1 ≤ k) (h2 : k ≤ 51) : (w.alloc (.cells (cellsT nmT) 9)).cell? ⟨w.heap.size, 0 + (k - 1), none⟩ = some (strV (nmS k)) := by
  have e : nmS (k : Int) = nmT.getD (k - 1) [] := by
    unfold nmS
    rw [if_pos (by omega)]
    congr 1
    omega
  rw [e, World.cell?_alloc_mark]
  have hl : nmT.length = 51 := rfl
  have hk : k - 1 < nmT.length := by omega
  simp [cellsT, hk]
theorem cells_rsig (w : World) (k : Nat) (h1 : 1 ≤ k) (h2 : k ≤ 51) : (w.alloc (.cells (cellsT sigT) 9)).cell? ⟨w.heap.size, 0 + (k - 1), none⟩ = some (strV (sigS k)) := by
  have e : sigS (k : Int) = sigT.getD (k - 1) [] := by
    unfold sigS
    rw [if_pos (by omega)]
    congr 1
    omega
  rw [e, World.cell?_alloc_mark]
  have hl : sigT.length = 51 := rfl
  have hk : k - 1 < sigT.length := by omega
  simp [cellsT, hk]
set_option maxRecDepth 100000 in
set_option maxHeartbeats 1000000 in
theorem rsig_any (op : Int) (w : World) : Calls Tryd.prog 33 #[.int .i64 op] w fun e w' => e = .returned (strV (sigS op)) ∧ Below w.heap.size w w' := by
  by_cases h1 : op < 1
  · rw [show sigS op = [] from sig_out (by omega)]
    go_enter Tryd.func33, Tryd.ntmps33
    go_wp2_with fail
    go_ret
    exact ⟨rfl, Below.refl _ _⟩
  by_cases h2 : 51 < op
  · rw [show sigS op = [] from sig_out (by omega)]
    go_enter Tryd.func33, Tryd.ntmps33
    go_wp2_with fail
    go_ret
    exact ⟨rfl, Below.refl _ _⟩
  obtain ⟨k, rfl⟩ : ∃ k : Nat, op = (k : Int) := ⟨op.toNat, by omega⟩
  have HC : Hid (Calls Tryd.prog 53 #[] w fun e w' => e = .returned (.slice (some ⟨w.heap.size, 0, none⟩) 51 51) ∧ w' = w.alloc (.cells (cellsT sigT) 9)) := rsigs_any w
  have hc := cells_rsig w k (by omega) (by omega)
  have HB : Hid (Below w.heap.size w (w.alloc (.cells (cellsT sigT) 9))) := (Below.refl _ _).alloc (Nat.le_refl _) _
  generalize w.alloc (.cells (cellsT sigT) 9) = wn at *
  generalize strV (sigS k) = r at *
  obtain ⟨gz, hgz⟩ : ∃ gz, w.heap.size = gz := ⟨_, rfl⟩
  obtain ⟨j, rfl⟩ : ∃ j : Nat, k = j + 1 := ⟨k - 1, by omega⟩
  rw [show 0 + (j + 1 - 1) = j by omega] at hc
  have HZ : Hid (w.heap.size = gz) := hgz
  rw [hgz] at hc HC
  clear hgz
  have hj : j < 51 := by omega
  clear h1 h2
  go_enter Tryd.func33, Tryd.ntmps33
  go_wp2_with fail
  refine HC.out.mono ?_
  rintro e w2 ⟨rfl, rfl⟩
  go_wp2_with fail
  go_ret
  exact ⟨rfl, HB.out⟩
end Go.Proofs.YtgjjeghnfhjnnaaDoor
