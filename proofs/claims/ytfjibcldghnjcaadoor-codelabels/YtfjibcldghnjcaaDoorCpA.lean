/-
  compact: hasRoom, putNumber.
-/
import Derived.Test.YtfjibcldghnjcaaDoorByRow
import Derived.Test.YtfjibcldghnjcaaDoorCpMath
namespace Go.Proofs.YtfjibcldghnjcaaDoor
open Go.RowKit
set_option linter.unusedVariables false
set_option linter.unusedSimpArgs false

theorem room_i (n : Int) (s : Nat) : roomB 1 n s = (n / 2 ^ (s * 8 - 1) == 0 || n / 2 ^ (s * 8 - 1) == -1) := by
  unfold roomB
  rw [if_pos rfl]
  by_cases h1 : n / 2 ^ (s * 8 - 1) = 0 <;> by_cases h2 : n / 2 ^ (s * 8 - 1) = -1 <;> simp [h1, h2]
theorem room_u (t n : Int) (s : Nat) (h : ¬ t = 1) : roomB t n s = (n / 2 ^ (s * 8) == 0) := by
  unfold roomB
  rw [if_neg h]
  by_cases h1 : n / 2 ^ (s * 8) = 0 <;> simp [h1]
set_option maxRecDepth 100000 in
set_option maxHeartbeats 4000000 in
theorem hasRoom_any (t n : Int) (s : Nat) (w : World) (hs : 2 ≤ s) (hs8 : s ≤ 8) (hn : -9223372036854775808 ≤ n) (hn2 : n ≤ 9223372036854775807) :
    Calls Tryd.prog 39 #[.int .i64 t, .int .i64 n, .int .i64 (s : Int)] w fun e w' => e = .returned (.bool (roomB t n s)) ∧ w' = w := by
  obtain ⟨r, hr⟩ : ∃ r, roomB t n s = r := ⟨_, rfl⟩
  have HR : Hid (roomB t n s = r) := hr
  rw [hr]; clear hr
  have : s = 2 ∨ s = 3 ∨ s = 4 ∨ s = 5 ∨ s = 6 ∨ s = 7 ∨ s = 8 := by omega
  by_cases ht : t = 1
  · subst ht
    rcases this with rfl | rfl | rfl | rfl | rfl | rfl | rfl
    all_goals
      go_enter Tryd.func39, Tryd.ntmps39
      go_wp2_with fail
      all_goals
        go_ret
        refine ⟨ret_bool ?_, rfl⟩
        rw [← HR.out, room_i]
        simp only [Nat.reduceMul, Nat.reduceSub, Int.reducePow]
        first | done | rfl | simp_all
  · rcases this with rfl | rfl | rfl | rfl | rfl | rfl | rfl
    all_goals
      go_enter Tryd.func39, Tryd.ntmps39
      go_wp2_with fail
      all_goals
        go_ret
        refine ⟨ret_bool ?_, rfl⟩
        rw [← HR.out, room_u _ _ _ ht]
        simp only [Nat.reduceMul, Nat.reduceSub, Int.reducePow]
end Go.Proofs.YtfjibcldghnjcaaDoor
