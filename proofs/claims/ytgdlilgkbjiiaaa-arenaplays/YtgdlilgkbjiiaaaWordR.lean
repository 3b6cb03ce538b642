
/-
  relictref10: the document's own answers.
-/
import Derived.Test.YtgdlilgkbjiiaaaWordE
namespace Go.Proofs.Ytgdlilgkbjiiaaa
open Go.RowKit
set_option linter.unusedVariables false
set_option linter.unusedSimpArgs false

theorem rcut_w (n : Int) (w : World) (h1 : -9223372036854775808 ≤ n) (h2 : n ≤ 9223372036854775807) :
    Calls Try.prog 28 #[.int .i64 n] w fun e w' => e = .returned (.int .u64 (cutW n)) ∧ w = w' := by
  obtain ⟨M, hM⟩ : ∃ M, (if n < 0 then 0 else n) = M := ⟨_, rfl⟩
  have hc : (if 1099511627776 < M then 1099511627776 else M) = cutW n := by rw [← hM]; unfold cutW; split <;> split <;> omega
  have hb := cutW_bd n
  have hw : IntKind.u64.wrap (cutW n) = cutW n := by rw [IntKind.wrap_u64]; omega
  go_enter Try.func28, Try.ntmps28
  go_wp2_with fail
  go_ret
  exact ⟨rfl, rfl⟩

theorem rsmall_any (v : Int) (w : World) (h1 : -9223372036854775808 ≤ v) (h2 : v ≤ 9223372036854775807) :
    Calls Try.prog 23 #[.int .i64 v] w fun e w' => e = .returned (.int .u64 (smW v)) ∧ w = w' := by
  obtain ⟨M, hM⟩ : ∃ M, (if v < -576460752303423488 then -576460752303423488 else v) = M := ⟨_, rfl⟩
  have hc : (if 576460752303423487 < M then 576460752303423487 else M) = cutS v := by rw [← hM]; unfold cutS; split <;> split <;> omega
  have hb := cutS_bd v
  obtain ⟨a, ha⟩ : ∃ a, a = cutS v * 16 % 18446744073709551616 := ⟨_, rfl⟩
  have hw1 : IntKind.u64.wrap (IntKind.u64.wrap (cutS v) * 16) = a := by rw [ha]; simp only [IntKind.wrap_u64]; omega
  have ho : bits .or .u64 a 3 = smW v := by
    rw [or_low 4 _ _ (by omega) (by omega) (by omega) (by omega) (by omega) (by decide), ha]; rfl
  generalize cutS v = c at *
  generalize smW v = r at *
  clear ha
  go_enter Try.func23, Try.ntmps23
  go_wp2_with fail
  go_ret
  exact ⟨rfl, rfl⟩

theorem rhead_w (t n : Int) (w : World) (h1 : -9223372036854775808 ≤ n) (h2 : n ≤ 9223372036854775807) :
    Calls Try.prog 22 #[.int .i64 t, .int .i64 n] w fun e w' => e = .returned (.int .u64 (heW t n)) ∧ w = w' := by
  have hb := cutW_bd n
  have hi := iand15 t
  have hm : 0 ≤ t % 16 ∧ t % 16 < 16 := by omega
  have ho : bits .or .u64 (cutW n * 64) (t % 16 * 4) = heW t n := by
    rw [or_low 6 _ _ (by omega) (by omega) (by omega) (by omega) (by omega) (by decide)]; rfl
  have HC : Hid (∀ W, Calls Try.prog 28 #[.int .i64 n] W fun e w' => e = .returned (.int .u64 (cutW n)) ∧ W = w') := fun W => rcut_w n W h1 h2
  generalize cutW n = c at *
  generalize t % 16 = m at *
  generalize heW t n = r at *
  go_enter Try.func22, Try.ntmps22
  go_wp2_with fail
  refine (HC.out _).mono ?_
  rintro e w1 ⟨rfl, rfl⟩
  go_wp2_with fail
  go_ret
  exact ⟨rfl, rfl⟩

theorem rtag_w (x : Int) (w : World) (h1 : 0 ≤ x) (h2 : x < 18446744073709551616) :
    Calls Try.prog 31 #[.int .u64 x] w fun e w' => e = .returned (.int .i64 (x % 4)) ∧ w = w' := by
  have hm : 0 ≤ x % 4 ∧ x % 4 < 4 := by omega
  have hi := and3 x h1 h2
  generalize x % 4 = m at *
  go_enter Try.func31, Try.ntmps31
  go_wp2_with fail
  go_ret
  exact ⟨rfl, rfl⟩

theorem rheadOf_w (x : Int) (w : World) (h1 : 0 ≤ x) (h2 : x < 18446744073709551616) :
    Calls Try.prog 26 #[.int .u64 x] w fun e w' => e = .returned (.tuple #[.int .i64 (hkR x), .int .i64 (hsR x), .bool (decide (x % 4 = 0))]) ∧ w = w' := by
  have HS : Hid (∀ W, Calls Try.prog 31 #[.int .u64 x] W fun e w' => e = .returned (.int .i64 (x % 4)) ∧ W = w') := fun W => rtag_w x W h1 h2
  by_cases hx : x % 4 = 0
  · have hD : decide (x % 4 = 0) = true := decide_eq_true hx
    have hk : x / 4 % 16 = hkR x := by unfold hkR; rw [if_pos hx]
    have hs : x / 64 = hsR x := by unfold hsR; rw [if_pos hx]
    have hi : bits .and .u64 (x / 4) 15 = hkR x := by rw [and15 _ (by omega) (by omega)]; exact hk
    have hkb : 0 ≤ hkR x ∧ hkR x < 16 := by omega
    have hsb : 0 ≤ hsR x ∧ hsR x < 288230376151711744 := by omega
    rw [hx] at HS
    rw [hD]
    clear hx hD hk
    generalize hkR x = k at *
    generalize hsR x = s at *
    go_enter Try.func26, Try.ntmps26
    go_wp2_with fail
    refine (HS.out _).mono ?_
    rintro e w1 ⟨rfl, rfl⟩
    go_wp2_with fail
    refine bodyPost_ret (results_tmp3 rfl _ _ _) rfl ?_
    exact ⟨rfl, rfl⟩
  · have hD : decide (x % 4 = 0) = false := decide_eq_false hx
    have hk : hkR x = 0 := by unfold hkR; rw [if_neg hx]
    have hs : hsR x = 0 := by unfold hsR; rw [if_neg hx]
    have ht : (x % 4 == 0) = false := by simp [hx]
    have ht2 : (x % 4 != 0) = true := by simp [hx]
    rw [hD, hk, hs]
    clear hD hk hs hx
    generalize x % 4 = m at *
    go_enter Try.func26, Try.ntmps26
    go_wp2_with fail
    refine (HS.out _).mono ?_
    rintro e w1 ⟨rfl, rfl⟩
    go_wp2_with fail
    refine bodyPost_ret (results_tmp3 rfl _ _ _) rfl ?_
    exact ⟨rfl, rfl⟩
end Go.Proofs.Ytgdlilgkbjiiaaa
