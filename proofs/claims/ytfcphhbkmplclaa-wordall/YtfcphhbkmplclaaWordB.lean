/-
  word.now, isOf, above.
-/
import Derived.Test.YtfcphhbkmplclaaWordA
namespace Go.Proofs.Ytfcphhbkmplclaa
open Go.RowKit
set_option linter.unusedVariables false
set_option linter.unusedSimpArgs false

theorem wnow_any (s n : Int) (w : World) (hs : 0 ≤ s ∧ s ≤ 3) (h1 : -9223372036854775808 ≤ n) (h2 : n ≤ 9223372036854775807) :
    Calls Try.prog 35 #[.int .u64 s, .int .i64 n] w fun e w' => e = .returned (.int .u64 (n * 16 % 18446744073709551616 + (s * 4 + 3))) ∧ w = w' := by
  obtain ⟨a, ha⟩ : ∃ a, a = n * 16 % 18446744073709551616 := ⟨_, rfl⟩
  have ho1 : bits .or .u64 a (s * 4) = a + s * 4 := or_low 4 _ _ (by omega) (by omega) (by omega) (by omega) (by omega) (by decide)
  have ho2 : bits .or .u64 (a + s * 4) 3 = a + (s * 4 + 3) := by rw [or_low 2 _ _ (by omega) (by omega) (by omega) (by omega) (by omega) (by decide)]; omega
  have hw1 : IntKind.u64.wrap (IntKind.u64.wrap n * 16) = a := by rw [ha]; simp only [IntKind.wrap_u64]; omega
  rw [← ha]
  clear ha
  go_enter Try.func35, Try.ntmps35
  go_wp2_with fail
  go_ret
  exact ⟨rfl, rfl⟩

theorem wisOf_any (s x : Int) (w : World) (hs : 0 ≤ s ∧ s ≤ 3) (h1 : 0 ≤ x) (h2 : x < 18446744073709551616) :
    Calls Try.prog 31 #[.int .u64 s, .int .u64 x] w fun e w' => e = .returned (.bool (decide (x % 16 = s * 4 + 3))) ∧ w = w' := by
  have ho2 : bits .or .u64 (s * 4) 3 = s * 4 + 3 := or_low 2 _ _ (by omega) (by omega) (by omega) (by omega) (by omega) (by decide)
  go_enter Try.func31, Try.ntmps31
  go_wp2_with fail
  refine (wlow4_any x _ h1 h2).mono ?_
  rintro e w1 ⟨rfl, rfl⟩
  go_wp2_with fail
  go_ret
  exact ⟨rfl, rfl⟩

theorem wabove_any (s x : Int) (w : World) (hs : 0 ≤ s ∧ s ≤ 3) (h1 : 0 ≤ x) (h2 : x < 18446744073709551616) :
    Calls Try.prog 33 #[.int .u64 s, .int .u64 x] w fun e w' => e = .returned (.tuple #[.int .i64 (abR (s * 4 + 3) x), .bool (decide (x % 16 = s * 4 + 3))]) ∧ w = w' := by
  by_cases hx : x % 16 = s * 4 + 3
  · have hA : abR (s * 4 + 3) x = x / 16 := if_pos hx
    have hD : decide (x % 16 = s * 4 + 3) = true := decide_eq_true hx
    rw [hA, hD]
    have HD : Hid (decide (x % 16 = s * 4 + 3) = true) := hD
    have hw : IntKind.i64.wrap (x / 16) = x / 16 := by rw [IntKind.wrap_i64]; omega
    clear hA hD hx
    go_enter Try.func33, Try.ntmps33
    go_wp2_with fail
    refine (wisOf_any s x _ hs h1 h2).mono ?_
    rintro e w1 ⟨he, rfl⟩
    rw [HD.out] at he
    subst he
    go_wp2_with fail
    go_ret2
    exact ⟨rfl, rfl⟩
  · have hA : abR (s * 4 + 3) x = 0 := if_neg hx
    have hD : decide (x % 16 = s * 4 + 3) = false := decide_eq_false hx
    rw [hA, hD]
    have HD : Hid (decide (x % 16 = s * 4 + 3) = false) := hD
    clear hA hD hx
    go_enter Try.func33, Try.ntmps33
    go_wp2_with fail
    refine (wisOf_any s x _ hs h1 h2).mono ?_
    rintro e w1 ⟨he, rfl⟩
    rw [HD.out] at he
    subst he
    go_wp2_with fail
    go_ret2
    exact ⟨rfl, rfl⟩
end Go.Proofs.Ytfcphhbkmplclaa
