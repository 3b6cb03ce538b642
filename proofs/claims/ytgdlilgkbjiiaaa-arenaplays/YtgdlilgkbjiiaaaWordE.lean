
/-
  word.HeadOf.
-/
import Derived.Test.YtgdlilgkbjiiaaaWordD
namespace Go.Proofs.Ytgdlilgkbjiiaaa
open Go.RowKit
set_option linter.unusedVariables false
set_option linter.unusedSimpArgs false

theorem wheadOf_any (x : Int) (w : World) (h1 : 0 ≤ x) (h2 : x < 18446744073709551616) :
    Calls Try.prog 25 #[.int .u64 x] w fun e w' => e = .returned (.tuple #[.int .i64 (hkR x), .int .i64 (hsR x), .bool (decide (x % 4 = 0))]) ∧ w = w' := by
  have HS : Hid (∀ W, Calls Try.prog 29 #[.int .u64 x] W fun e w' => e = .returned (.int .i64 (x % 4)) ∧ W = w') := fun W => wtag_any x W h1 h2
  by_cases hx : x % 4 = 0
  · have hD : decide (x % 4 = 0) = true := decide_eq_true hx
    obtain ⟨z, hz⟩ : ∃ z, z = x / 4 := ⟨_, rfl⟩
    have hz2 : x / 4 = z := hz.symm
    have hzb : 0 ≤ z ∧ z < 4611686018427387904 := by omega
    have HL : Hid (∀ W, Calls Try.prog 30 #[.int .i64 4, .int .u64 z] W fun e w' => e = .returned (.int .u64 (z % 16)) ∧ W = w') := fun W => wlow4_any z W (by omega) (by omega)
    have hk : Hid (z % 16 = hkR x) := by show _ = _; unfold hkR; rw [if_pos hx, hz]
    have hs : Hid (z / 16 = hsR x) := by show _ = _; unfold hsR; rw [if_pos hx, hz]; omega
    have hm : 0 ≤ z % 16 ∧ z % 16 < 16 := by omega
    rw [hx] at HS
    rw [hD, ← hs.out, ← hk.out]
    clear hx hD hz hs hk
    generalize z % 16 = m at *
    go_enter Try.func25, Try.ntmps25
    go_wp2_with fail
    refine (HS.out _).mono ?_
    rintro e w1 ⟨rfl, rfl⟩
    go_wp2_with fail
    refine (HL.out _).mono ?_
    rintro e w1 ⟨rfl, rfl⟩
    go_wp2_with fail
    refine bodyPost_ret (results_tmp3 rfl _ _ _) rfl ?_
    exact ⟨rfl, rfl⟩
  · have hD : decide (x % 4 = 0) = false := decide_eq_false hx
    have hk : hkR x = 0 := by unfold hkR; rw [if_neg hx]
    have hs : hsR x = 0 := by unfold hsR; rw [if_neg hx]
    have ht : (x % 4 == 0) = false := by simp [hx]
    have ht2 : (x % 4 != 0) = true := by simp [hx]
    rw [hD, hk, hs]
    clear hD hk hs hx
    generalize x % 4 = m at *
    go_enter Try.func25, Try.ntmps25
    go_wp2_with fail
    refine (HS.out _).mono ?_
    rintro e w1 ⟨rfl, rfl⟩
    go_wp2_with fail
    refine bodyPost_ret (results_tmp3 rfl _ _ _) rfl ?_
    exact ⟨rfl, rfl⟩
end Go.Proofs.Ytgdlilgkbjiiaaa
