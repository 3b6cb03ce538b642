/-
  word: what is told of a word.
-/
import Derived.Test.YtfcphhbkmplclaaWordC
namespace Go.Proofs.Ytfcphhbkmplclaa
open Go.RowKit
set_option linter.unusedVariables false
set_option linter.unusedSimpArgs false

theorem wisAtom_any (x : Int) (w : World) (h1 : 0 ≤ x) (h2 : x < 18446744073709551616) :
    Calls Try.prog 9 #[.int .u64 x] w fun e w' => e = .returned (.tuple #[.int .i64 (abR 7 x), .bool (decide (x % 16 = 7))]) ∧ w = w' := by
  have HS : Hid (∀ W, Calls Try.prog 33 #[.int .u64 1, .int .u64 x] W fun e w' => e = .returned (.tuple #[.int .i64 (abR 7 x), .bool (decide (x % 16 = 7))]) ∧ W = w') := fun W => wabove_any 1 x W (by omega) h1 h2
  generalize abR 7 x = a at *
  generalize decide (x % 16 = 7) = b at *
  go_enter Try.func9, Try.ntmps9
  go_wp2_with fail
  refine (HS.out _).mono ?_
  rintro e w1 ⟨rfl, rfl⟩
  go_wp2_with fail
  go_ret2
  exact ⟨rfl, rfl⟩

theorem wisCatch_any (x : Int) (w : World) (h1 : 0 ≤ x) (h2 : x < 18446744073709551616) :
    Calls Try.prog 11 #[.int .u64 x] w fun e w' => e = .returned (.tuple #[.int .i64 (abR 15 x), .bool (decide (x % 16 = 15))]) ∧ w = w' := by
  have HS : Hid (∀ W, Calls Try.prog 33 #[.int .u64 3, .int .u64 x] W fun e w' => e = .returned (.tuple #[.int .i64 (abR 15 x), .bool (decide (x % 16 = 15))]) ∧ W = w') := fun W => wabove_any 3 x W (by omega) h1 h2
  generalize abR 15 x = a at *
  generalize decide (x % 16 = 15) = b at *
  go_enter Try.func11, Try.ntmps11
  go_wp2_with fail
  refine (HS.out _).mono ?_
  rintro e w1 ⟨rfl, rfl⟩
  go_wp2_with fail
  go_ret2
  exact ⟨rfl, rfl⟩

theorem wintOf_any (x : Int) (w : World) (h1 : 0 ≤ x) (h2 : x < 18446744073709551616) :
    Calls Try.prog 7 #[.int .u64 x] w fun e w' => e = .returned (.tuple #[.int .i64 (intR x), .bool (decide (x % 16 = 3))]) ∧ w = w' := by
  have HS : Hid (∀ W, Calls Try.prog 31 #[.int .u64 0, .int .u64 x] W fun e w' => e = .returned (.bool (decide (x % 16 = 3))) ∧ W = w') := fun W => wisOf_any 0 x W (by omega) h1 h2
  have HI : Hid (intR x = if x % 16 = 3 then (if x < 9223372036854775808 then x / 16 else x / 16 - 1152921504606846976) else 0) := rfl
  by_cases hx : x % 16 = 3
  · have hD : decide (x % 16 = 3) = true := decide_eq_true hx
    obtain ⟨s, hs⟩ : ∃ s, s = IntKind.i64.wrap x := ⟨_, rfl⟩
    have hs2 : IntKind.i64.wrap x = s := hs.symm
    have hq : Hid (s / 16 = intR x) := by
      show _ = _
      rw [HI.out, if_pos hx, hs, IntKind.wrap_i64]
      split <;> omega
    have hsb : -9223372036854775808 ≤ s ∧ s ≤ 9223372036854775807 := by rw [hs, IntKind.wrap_i64]; omega
    rw [hD] at HS ⊢
    clear hs HI hx hD
    rw [← hq.out]
    generalize intR x = r at *
    go_enter Try.func7, Try.ntmps7
    go_wp2_with fail
    refine (HS.out _).mono ?_
    rintro e w1 ⟨rfl, rfl⟩
    go_wp2_with fail
    go_ret2
    exact ⟨rfl, rfl⟩
  · have hD : decide (x % 16 = 3) = false := decide_eq_false hx
    have hq : intR x = 0 := by rw [HI.out, if_neg hx]
    rw [hD] at HS ⊢
    rw [hq]
    clear HI hx hD hq
    go_enter Try.func7, Try.ntmps7
    go_wp2_with fail
    refine (HS.out _).mono ?_
    rintro e w1 ⟨rfl, rfl⟩
    go_wp2_with fail
    go_ret2
    exact ⟨rfl, rfl⟩

theorem wat_any (x : Int) (w : World) (h1 : 0 ≤ x) (h2 : x < 18446744073709551616) :
    Calls Try.prog 27 #[.int .u64 x] w fun e w' => e = .returned (.int .i64 (plR x)) ∧ w = w' := by
  have HS : Hid (∀ W, Calls Try.prog 25 #[.int .u64 x] W fun e w' => e = .returned (.int .i64 (x % 4)) ∧ W = w') := fun W => wtag_any x W h1 h2
  have HP : Hid (plR x = if x % 4 = 1 ∨ x % 4 = 2 then x / 4 else -1) := rfl
  have hm : 0 ≤ x % 4 ∧ x % 4 < 4 := by omega
  generalize plR x = r at *
  generalize x % 4 = m at *
  rcases (show m = 0 ∨ m = 1 ∨ m = 2 ∨ m = 3 by omega) with rfl | rfl | rfl | rfl <;> (obtain rfl := HP.out; clear HP hm; go_enter Try.func27, Try.ntmps27; go_wp2_with fail; refine (HS.out _).mono ?_; rintro e w1 ⟨rfl, rfl⟩; clear HS; go_wp2_with fail; go_ret; exact ⟨rfl, rfl⟩)
end Go.Proofs.Ytfcphhbkmplclaa
