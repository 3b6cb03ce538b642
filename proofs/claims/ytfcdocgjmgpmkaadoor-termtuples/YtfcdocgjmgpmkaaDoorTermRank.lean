
/-
  term.rank: where a kind stands among the others (the variable order is read).
-/
import Derived.Test.YtfcdocgjmgpmkaaDoorZTermA
namespace Go.Proofs.YtfcdocgjmgpmkaaDoor
open Go.RowKit
set_option linter.unusedVariables false
set_option linter.unusedSimpArgs false

/-- The variable order holds what the program's text lays. -/
def Ord (w : World) : Prop := w.cell? ⟨0, 0, none⟩ = some (.int .i64 1) ∧ w.cell? ⟨0, 1, none⟩ = some (.int .i64 2) ∧ w.cell? ⟨0, 2, none⟩ = some (.int .i64 7) ∧ w.cell? ⟨0, 3, none⟩ = some (.int .i64 5) ∧ w.cell? ⟨0, 4, none⟩ = some (.int .i64 3) ∧ w.cell? ⟨0, 5, none⟩ = some (.int .i64 4) ∧ w.cell? ⟨0, 6, none⟩ = some (.int .i64 6) ∧ w.cell? ⟨0, 7, none⟩ = some (.int .i64 8) ∧ w.cell? ⟨0, 8, none⟩ = some (.int .i64 9)
def rankS (k : Int) : Int := if k = 1 then 0 else if k = 2 then 1 else if k = 7 then 2 else if k = 5 then 3 else if k = 3 then 4 else if k = 4 then 5 else if k = 6 then 6 else if k = 8 then 7 else if k = 9 then 8 else 9

def ordL : List Int := [1, 2, 7, 5, 3, 4, 6, 8, 9]
theorem rank_none {k : Int} (h : ∀ j : Nat, j < 9 → ordL.getD j 0 ≠ k) : rankS k = 9 := by
  have n0 : ¬ k = 1 := fun e => h 0 (by omega) e.symm
  have n1 : ¬ k = 2 := fun e => h 1 (by omega) e.symm
  have n2 : ¬ k = 7 := fun e => h 2 (by omega) e.symm
  have n3 : ¬ k = 5 := fun e => h 3 (by omega) e.symm
  have n4 : ¬ k = 3 := fun e => h 4 (by omega) e.symm
  have n5 : ¬ k = 4 := fun e => h 5 (by omega) e.symm
  have n6 : ¬ k = 6 := fun e => h 6 (by omega) e.symm
  have n7 : ¬ k = 8 := fun e => h 7 (by omega) e.symm
  have n8 : ¬ k = 9 := fun e => h 8 (by omega) e.symm
  unfold rankS
  rw [if_neg n0, if_neg n1, if_neg n2, if_neg n3, if_neg n4, if_neg n5, if_neg n6, if_neg n7, if_neg n8]

theorem Ord.under {w w' : World} (h : Ord w) (hb : Below w.heap.size w w') : Ord w' := by
  obtain ⟨h0, h1, h2, h3, h4, h5, h6, h7, h8⟩ := h
  have hlt : 0 < w.heap.size := World.block_lt_of_cell? w ⟨0, 0, none⟩ h0
  refine ⟨?_, ?_, ?_, ?_, ?_, ?_, ?_, ?_, ?_⟩ <;> (rw [hb.cell (by exact hlt)]; assumption)

set_option maxRecDepth 100000 in
set_option maxHeartbeats 4000000 in
theorem rank_any (k : Int) (w : World) (h : Ord w) : Calls Tryd.prog 42 #[.int .i64 k] w fun e w' => e = .returned (.int .i64 (rankS k)) ∧ w' = w := by
  obtain ⟨h0, h1, h2, h3, h4, h5, h6, h7, h8⟩ := h
  obtain ⟨q, hq⟩ : ∃ q, rankS k = q := ⟨_, rfl⟩
  have HQ : Hid (rankS k = q) := hq
  rw [hq]; clear hq
  go_enter Tryd.func42, Tryd.ntmps42
  go_wp2_with fail
  go_loopg [6] 9 (fun gk s6 wr => ∃ i : Nat, i + gk = 9 ∧ s6 = .int .i64 (i : Int) ∧ wr = w ∧ Hid (∀ j : Nat, j < i → ordL.getD j 0 ≠ k))
  case atStart => exact ⟨0, by omega, rfl, rfl, fun j hj => absurd hj (by omega)⟩
  case round =>
    obtain ⟨i, hi, rfl, rfl, HN⟩ := hrel
    cases gk with
    | zero =>
      obtain rfl : i = 9 := by omega
      have HR : Hid (q = 9) := by
        show q = 9
        rw [← HQ.out]
        exact rank_none HN.out
      clear HN HQ
      go_wp2_with fail
      go_ret
      exact ⟨by rw [HR.out]; rfl, rfl⟩
    | succ g =>
      by_cases e0 : i = 0
      · subst e0
        have x0 : ∀ wx : World, (Instr.index 85 (.agg #[.int .i64 1, .int .i64 2, .int .i64 7, .int .i64 5, .int .i64 3, .int .i64 4, .int .i64 6, .int .i64 8, .int .i64 9]) (.int .i64 0)).run Tryd.prog wx = .ok (.int .i64 1) wx := fun _ => by kernel_rfl
        by_cases e : (1 : Int) = k
        · have HR : Hid (q = 0) := by
            show q = 0
            rw [← HQ.out, ← e]; rfl
          subst e
          clear HN HQ hi
          go_wp2_with fail
          go_ret
          exact ⟨by rw [HR.out]; rfl, rfl⟩
        · have HM : Hid (∀ j : Nat, j < 1 → ordL.getD j 0 ≠ k) := fun j hj => by
            rcases Nat.lt_or_ge j 0 with h | h
            · exact HN.out j h
            · obtain rfl : j = 0 := by omega
              exact e
          have e' : ¬ k = 1 := fun x => e x.symm
          clear HN
          go_wp2_with fail
          go_roundg g
          case measure => omega
          case rel => exact ⟨1, by omega, rfl, rfl, HM⟩
      by_cases e1 : i = 1
      · subst e1
        have x1 : ∀ wx : World, (Instr.index 85 (.agg #[.int .i64 1, .int .i64 2, .int .i64 7, .int .i64 5, .int .i64 3, .int .i64 4, .int .i64 6, .int .i64 8, .int .i64 9]) (.int .i64 1)).run Tryd.prog wx = .ok (.int .i64 2) wx := fun _ => by kernel_rfl
        by_cases e : (2 : Int) = k
        · have HR : Hid (q = 1) := by
            show q = 1
            rw [← HQ.out, ← e]; rfl
          subst e
          clear HN HQ hi
          go_wp2_with fail
          go_ret
          exact ⟨by rw [HR.out]; rfl, rfl⟩
        · have HM : Hid (∀ j : Nat, j < 2 → ordL.getD j 0 ≠ k) := fun j hj => by
            rcases Nat.lt_or_ge j 1 with h | h
            · exact HN.out j h
            · obtain rfl : j = 1 := by omega
              exact e
          have e' : ¬ k = 2 := fun x => e x.symm
          clear HN
          go_wp2_with fail
          go_roundg g
          case measure => omega
          case rel => exact ⟨2, by omega, rfl, rfl, HM⟩
      by_cases e2 : i = 2
      · subst e2
        have x2 : ∀ wx : World, (Instr.index 85 (.agg #[.int .i64 1, .int .i64 2, .int .i64 7, .int .i64 5, .int .i64 3, .int .i64 4, .int .i64 6, .int .i64 8, .int .i64 9]) (.int .i64 2)).run Tryd.prog wx = .ok (.int .i64 7) wx := fun _ => by kernel_rfl
        by_cases e : (7 : Int) = k
        · have HR : Hid (q = 2) := by
            show q = 2
            rw [← HQ.out, ← e]; rfl
          subst e
          clear HN HQ hi
          go_wp2_with fail
          go_ret
          exact ⟨by rw [HR.out]; rfl, rfl⟩
        · have HM : Hid (∀ j : Nat, j < 3 → ordL.getD j 0 ≠ k) := fun j hj => by
            rcases Nat.lt_or_ge j 2 with h | h
            · exact HN.out j h
            · obtain rfl : j = 2 := by omega
              exact e
          have e' : ¬ k = 7 := fun x => e x.symm
          clear HN
          go_wp2_with fail
          go_roundg g
          case measure => omega
          case rel => exact ⟨3, by omega, rfl, rfl, HM⟩
      by_cases e3 : i = 3
      · subst e3
        have x3 : ∀ wx : World, (Instr.index 85 (.agg #[.int .i64 1, .int .i64 2, .int .i64 7, .int .i64 5, .int .i64 3, .int .i64 4, .int .i64 6, .int .i64 8, .int .i64 9]) (.int .i64 3)).run Tryd.prog wx = .ok (.int .i64 5) wx := fun _ => by kernel_rfl
        by_cases e : (5 : Int) = k
        · have HR : Hid (q = 3) := by
            show q = 3
            rw [← HQ.out, ← e]; rfl
          subst e
          clear HN HQ hi
          go_wp2_with fail
          go_ret
          exact ⟨by rw [HR.out]; rfl, rfl⟩
        · have HM : Hid (∀ j : Nat, j < 4 → ordL.getD j 0 ≠ k) := fun j hj => by
            rcases Nat.lt_or_ge j 3 with h | h
            · exact HN.out j h
            · obtain rfl : j = 3 := by omega
              exact e
          have e' : ¬ k = 5 := fun x => e x.symm
          clear HN
          go_wp2_with fail
          go_roundg g
          case measure => omega
          case rel => exact ⟨4, by omega, rfl, rfl, HM⟩
      by_cases e4 : i = 4
      · subst e4
        have x4 : ∀ wx : World, (Instr.index 85 (.agg #[.int .i64 1, .int .i64 2, .int .i64 7, .int .i64 5, .int .i64 3, .int .i64 4, .int .i64 6, .int .i64 8, .int .i64 9]) (.int .i64 4)).run Tryd.prog wx = .ok (.int .i64 3) wx := fun _ => by kernel_rfl
        by_cases e : (3 : Int) = k
        · have HR : Hid (q = 4) := by
            show q = 4
            rw [← HQ.out, ← e]; rfl
          subst e
          clear HN HQ hi
          go_wp2_with fail
          go_ret
          exact ⟨by rw [HR.out]; rfl, rfl⟩
        · have HM : Hid (∀ j : Nat, j < 5 → ordL.getD j 0 ≠ k) := fun j hj => by
            rcases Nat.lt_or_ge j 4 with h | h
            · exact HN.out j h
            · obtain rfl : j = 4 := by omega
              exact e
          have e' : ¬ k = 3 := fun x => e x.symm
          clear HN
          go_wp2_with fail
          go_roundg g
          case measure => omega
          case rel => exact ⟨5, by omega, rfl, rfl, HM⟩
      by_cases e5 : i = 5
      · subst e5
        have x5 : ∀ wx : World, (Instr.index 85 (.agg #[.int .i64 1, .int .i64 2, .int .i64 7, .int .i64 5, .int .i64 3, .int .i64 4, .int .i64 6, .int .i64 8, .int .i64 9]) (.int .i64 5)).run Tryd.prog wx = .ok (.int .i64 4) wx := fun _ => by kernel_rfl
        by_cases e : (4 : Int) = k
        · have HR : Hid (q = 5) := by
            show q = 5
            rw [← HQ.out, ← e]; rfl
          subst e
          clear HN HQ hi
          go_wp2_with fail
          go_ret
          exact ⟨by rw [HR.out]; rfl, rfl⟩
        · have HM : Hid (∀ j : Nat, j < 6 → ordL.getD j 0 ≠ k) := fun j hj => by
            rcases Nat.lt_or_ge j 5 with h | h
            · exact HN.out j h
            · obtain rfl : j = 5 := by omega
              exact e
          have e' : ¬ k = 4 := fun x => e x.symm
          clear HN
          go_wp2_with fail
          go_roundg g
          case measure => omega
          case rel => exact ⟨6, by omega, rfl, rfl, HM⟩
      by_cases e6 : i = 6
      · subst e6
        have x6 : ∀ wx : World, (Instr.index 85 (.agg #[.int .i64 1, .int .i64 2, .int .i64 7, .int .i64 5, .int .i64 3, .int .i64 4, .int .i64 6, .int .i64 8, .int .i64 9]) (.int .i64 6)).run Tryd.prog wx = .ok (.int .i64 6) wx := fun _ => by kernel_rfl
        by_cases e : (6 : Int) = k
        · have HR : Hid (q = 6) := by
            show q = 6
            rw [← HQ.out, ← e]; rfl
          subst e
          clear HN HQ hi
          go_wp2_with fail
          go_ret
          exact ⟨by rw [HR.out]; rfl, rfl⟩
        · have HM : Hid (∀ j : Nat, j < 7 → ordL.getD j 0 ≠ k) := fun j hj => by
            rcases Nat.lt_or_ge j 6 with h | h
            · exact HN.out j h
            · obtain rfl : j = 6 := by omega
              exact e
          have e' : ¬ k = 6 := fun x => e x.symm
          clear HN
          go_wp2_with fail
          go_roundg g
          case measure => omega
          case rel => exact ⟨7, by omega, rfl, rfl, HM⟩
      by_cases e7 : i = 7
      · subst e7
        have x7 : ∀ wx : World, (Instr.index 85 (.agg #[.int .i64 1, .int .i64 2, .int .i64 7, .int .i64 5, .int .i64 3, .int .i64 4, .int .i64 6, .int .i64 8, .int .i64 9]) (.int .i64 7)).run Tryd.prog wx = .ok (.int .i64 8) wx := fun _ => by kernel_rfl
        by_cases e : (8 : Int) = k
        · have HR : Hid (q = 7) := by
            show q = 7
            rw [← HQ.out, ← e]; rfl
          subst e
          clear HN HQ hi
          go_wp2_with fail
          go_ret
          exact ⟨by rw [HR.out]; rfl, rfl⟩
        · have HM : Hid (∀ j : Nat, j < 8 → ordL.getD j 0 ≠ k) := fun j hj => by
            rcases Nat.lt_or_ge j 7 with h | h
            · exact HN.out j h
            · obtain rfl : j = 7 := by omega
              exact e
          have e' : ¬ k = 8 := fun x => e x.symm
          clear HN
          go_wp2_with fail
          go_roundg g
          case measure => omega
          case rel => exact ⟨8, by omega, rfl, rfl, HM⟩
      by_cases e8 : i = 8
      · subst e8
        have x8 : ∀ wx : World, (Instr.index 85 (.agg #[.int .i64 1, .int .i64 2, .int .i64 7, .int .i64 5, .int .i64 3, .int .i64 4, .int .i64 6, .int .i64 8, .int .i64 9]) (.int .i64 8)).run Tryd.prog wx = .ok (.int .i64 9) wx := fun _ => by kernel_rfl
        by_cases e : (9 : Int) = k
        · have HR : Hid (q = 8) := by
            show q = 8
            rw [← HQ.out, ← e]; rfl
          subst e
          clear HN HQ hi
          go_wp2_with fail
          go_ret
          exact ⟨by rw [HR.out]; rfl, rfl⟩
        · have HM : Hid (∀ j : Nat, j < 9 → ordL.getD j 0 ≠ k) := fun j hj => by
            rcases Nat.lt_or_ge j 8 with h | h
            · exact HN.out j h
            · obtain rfl : j = 8 := by omega
              exact e
          have e' : ¬ k = 9 := fun x => e x.symm
          clear HN
          go_wp2_with fail
          go_roundg g
          case measure => omega
          case rel => exact ⟨9, by omega, rfl, rfl, HM⟩
      exact absurd hi (by omega)
end Go.Proofs.YtfcdocgjmgpmkaaDoor
