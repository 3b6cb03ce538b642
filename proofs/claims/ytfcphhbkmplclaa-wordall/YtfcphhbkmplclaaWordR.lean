/-
  relictref10: the document's own answers.
-/
import Derived.Test.YtfcphhbkmplclaaWordE
namespace Go.Proofs.Ytfcphhbkmplclaa
open Go.RowKit
set_option linter.unusedVariables false
set_option linter.unusedSimpArgs false

theorem rcut_w (n : Int) (w : World) (h1 : -9223372036854775808 ≤ n) (h2 : n ≤ 9223372036854775807) :
    Calls Try.prog 37 #[.int .i64 n] w fun e w' => e = .returned (.int .u64 (cutW n)) ∧ w = w' := by
  obtain ⟨M, hM⟩ : ∃ M, (if n < 0 then 0 else n) = M := ⟨_, rfl⟩
  have hc : (if 1099511627776 < M then 1099511627776 else M) = cutW n := by rw [← hM]; unfold cutW; split <;> split <;> omega
  have hb := cutW_bd n
  have hw : IntKind.u64.wrap (cutW n) = cutW n := by rw [IntKind.wrap_u64]; omega
  go_enter Try.func37, Try.ntmps37
  go_wp2_with fail
  go_ret
  exact ⟨rfl, rfl⟩

theorem rsmall_any (v : Int) (w : World) (h1 : -9223372036854775808 ≤ v) (h2 : v ≤ 9223372036854775807) :
    Calls Try.prog 16 #[.int .i64 v] w fun e w' => e = .returned (.int .u64 (smW v)) ∧ w = w' := by
  obtain ⟨M, hM⟩ : ∃ M, (if v < -576460752303423488 then -576460752303423488 else v) = M := ⟨_, rfl⟩
  have hc : (if 576460752303423487 < M then 576460752303423487 else M) = cutS v := by rw [← hM]; unfold cutS; split <;> split <;> omega
  have hb := cutS_bd v
  obtain ⟨a, ha⟩ : ∃ a, a = cutS v * 16 % 18446744073709551616 := ⟨_, rfl⟩
  have hw1 : IntKind.u64.wrap (IntKind.u64.wrap (cutS v) * 16) = a := by rw [ha]; simp only [IntKind.wrap_u64]; omega
  have ho : bits .or .u64 a 3 = smW v := by
    rw [or_low 4 _ _ (by omega) (by omega) (by omega) (by omega) (by omega) (by decide), ha]; rfl
  generalize cutS v = c at *
  generalize smW v = r at *
  clear ha
  go_enter Try.func16, Try.ntmps16
  go_wp2_with fail
  go_ret
  exact ⟨rfl, rfl⟩

theorem ratomof_w (n : Int) (w : World) (h1 : -9223372036854775808 ≤ n) (h2 : n ≤ 9223372036854775807) :
    Calls Try.prog 18 #[.int .i64 n] w fun e w' => e = .returned (.int .u64 (atW n)) ∧ w = w' := by
  have hb := cutW_bd n
  have ho : bits .or .u64 (cutW n * 16) 7 = atW n := by
    rw [or_low 4 _ _ (by omega) (by omega) (by omega) (by omega) (by omega) (by decide)]; rfl
  have HC : Hid (∀ W, Calls Try.prog 37 #[.int .i64 n] W fun e w' => e = .returned (.int .u64 (cutW n)) ∧ W = w') := fun W => rcut_w n W h1 h2
  generalize cutW n = c at *
  generalize atW n = r at *
  go_enter Try.func18, Try.ntmps18
  go_wp2_with fail
  refine (HC.out _).mono ?_
  rintro e w1 ⟨rfl, rfl⟩
  go_wp2_with fail
  go_ret
  exact ⟨rfl, rfl⟩

theorem rcatch_w (n : Int) (w : World) (h1 : -9223372036854775808 ≤ n) (h2 : n ≤ 9223372036854775807) :
    Calls Try.prog 20 #[.int .i64 n] w fun e w' => e = .returned (.int .u64 (caW n)) ∧ w = w' := by
  have hb := cutW_bd n
  have ho : bits .or .u64 (cutW n * 16) 15 = caW n := by
    rw [or_low 4 _ _ (by omega) (by omega) (by omega) (by omega) (by omega) (by decide)]; rfl
  have HC : Hid (∀ W, Calls Try.prog 37 #[.int .i64 n] W fun e w' => e = .returned (.int .u64 (cutW n)) ∧ W = w') := fun W => rcut_w n W h1 h2
  generalize cutW n = c at *
  generalize caW n = r at *
  go_enter Try.func20, Try.ntmps20
  go_wp2_with fail
  refine (HC.out _).mono ?_
  rintro e w1 ⟨rfl, rfl⟩
  go_wp2_with fail
  go_ret
  exact ⟨rfl, rfl⟩

theorem rpointer_w (t n : Int) (w : World) (h1 : -9223372036854775808 ≤ n) (h2 : n ≤ 9223372036854775807) :
    Calls Try.prog 22 #[.int .i64 t, .int .i64 n] w fun e w' => e = .returned (.int .u64 (poW t n)) ∧ w = w' := by
  have hb := cutW_bd n
  have hi := iand3 t
  have hm : 0 ≤ t % 4 ∧ t % 4 < 4 := by omega
  have ho : bits .or .u64 (cutW n * 4) (t % 4) = poW t n := by
    rw [or_low 2 _ _ (by omega) (by omega) (by omega) (by omega) (by omega) (by decide)]; rfl
  have HC : Hid (∀ W, Calls Try.prog 37 #[.int .i64 n] W fun e w' => e = .returned (.int .u64 (cutW n)) ∧ W = w') := fun W => rcut_w n W h1 h2
  generalize cutW n = c at *
  generalize t % 4 = m at *
  generalize poW t n = r at *
  go_enter Try.func22, Try.ntmps22
  go_wp2_with fail
  refine (HC.out _).mono ?_
  rintro e w1 ⟨rfl, rfl⟩
  go_wp2_with fail
  go_ret
  exact ⟨rfl, rfl⟩

theorem rhead_w (t n : Int) (w : World) (h1 : -9223372036854775808 ≤ n) (h2 : n ≤ 9223372036854775807) :
    Calls Try.prog 24 #[.int .i64 t, .int .i64 n] w fun e w' => e = .returned (.int .u64 (heW t n)) ∧ w = w' := by
  have hb := cutW_bd n
  have hi := iand15 t
  have hm : 0 ≤ t % 16 ∧ t % 16 < 16 := by omega
  have ho : bits .or .u64 (cutW n * 64) (t % 16 * 4) = heW t n := by
    rw [or_low 6 _ _ (by omega) (by omega) (by omega) (by omega) (by omega) (by decide)]; rfl
  have HC : Hid (∀ W, Calls Try.prog 37 #[.int .i64 n] W fun e w' => e = .returned (.int .u64 (cutW n)) ∧ W = w') := fun W => rcut_w n W h1 h2
  generalize cutW n = c at *
  generalize t % 16 = m at *
  generalize heW t n = r at *
  go_enter Try.func24, Try.ntmps24
  go_wp2_with fail
  refine (HC.out _).mono ?_
  rintro e w1 ⟨rfl, rfl⟩
  go_wp2_with fail
  go_ret
  exact ⟨rfl, rfl⟩

theorem rtag_w (x : Int) (w : World) (h1 : 0 ≤ x) (h2 : x < 18446744073709551616) :
    Calls Try.prog 26 #[.int .u64 x] w fun e w' => e = .returned (.int .i64 (x % 4)) ∧ w = w' := by
  have hm : 0 ≤ x % 4 ∧ x % 4 < 4 := by omega
  have hi := and3 x h1 h2
  generalize x % 4 = m at *
  go_enter Try.func26, Try.ntmps26
  go_wp2_with fail
  go_ret
  exact ⟨rfl, rfl⟩

theorem rnow_w (s x : Int) (w : World) (hs : 0 ≤ s ∧ s ≤ 3) (h1 : 0 ≤ x) (h2 : x < 18446744073709551616) :
    Calls Try.prog 32 #[.int .u64 x, .int .u64 s] w fun e w' => e = .returned (.bool (decide (x % 16 = s * 4 + 3))) ∧ w = w' := by
  have ho2 : bits .or .u64 (s * 4) 3 = s * 4 + 3 := or_low 2 _ _ (by omega) (by omega) (by omega) (by omega) (by omega) (by decide)
  have hi := and15 x h1 h2
  go_enter Try.func32, Try.ntmps32
  go_wp2_with fail
  go_ret
  exact ⟨rfl, rfl⟩

theorem risatom_w (x : Int) (w : World) (h1 : 0 ≤ x) (h2 : x < 18446744073709551616) :
    Calls Try.prog 10 #[.int .u64 x] w fun e w' => e = .returned (.tuple #[.int .i64 (abR 7 x), .bool (decide (x % 16 = 7))]) ∧ w = w' := by
  have HS : Hid (∀ W, Calls Try.prog 32 #[.int .u64 x, .int .u64 1] W fun e w' => e = .returned (.bool (decide (x % 16 = 7))) ∧ W = w') := fun W => rnow_w 1 x W (by omega) h1 h2
  by_cases hx : x % 16 = 7
  · have hD : decide (x % 16 = 7) = true := decide_eq_true hx
    have hw : IntKind.i64.wrap (x / 16) = x / 16 := by rw [IntKind.wrap_i64]; omega
    have hA : abR 7 x = x / 16 := if_pos hx
    rw [hD] at HS ⊢
    rw [hA]
    clear hA hx hD
    go_enter Try.func10, Try.ntmps10
    go_wp2_with fail
    refine (HS.out _).mono ?_
    rintro e w1 ⟨rfl, rfl⟩
    go_wp2_with fail
    go_ret2
    exact ⟨rfl, rfl⟩
  · have hD : decide (x % 16 = 7) = false := decide_eq_false hx
    have hA : abR 7 x = 0 := if_neg hx
    rw [hD] at HS ⊢
    rw [hA]
    clear hA hx hD
    go_enter Try.func10, Try.ntmps10
    go_wp2_with fail
    refine (HS.out _).mono ?_
    rintro e w1 ⟨rfl, rfl⟩
    go_wp2_with fail
    go_ret2
    exact ⟨rfl, rfl⟩

theorem riscatch_w (x : Int) (w : World) (h1 : 0 ≤ x) (h2 : x < 18446744073709551616) :
    Calls Try.prog 12 #[.int .u64 x] w fun e w' => e = .returned (.tuple #[.int .i64 (abR 15 x), .bool (decide (x % 16 = 15))]) ∧ w = w' := by
  have HS : Hid (∀ W, Calls Try.prog 32 #[.int .u64 x, .int .u64 3] W fun e w' => e = .returned (.bool (decide (x % 16 = 15))) ∧ W = w') := fun W => rnow_w 3 x W (by omega) h1 h2
  by_cases hx : x % 16 = 15
  · have hD : decide (x % 16 = 15) = true := decide_eq_true hx
    have hw : IntKind.i64.wrap (x / 16) = x / 16 := by rw [IntKind.wrap_i64]; omega
    have hA : abR 15 x = x / 16 := if_pos hx
    rw [hD] at HS ⊢
    rw [hA]
    clear hA hx hD
    go_enter Try.func12, Try.ntmps12
    go_wp2_with fail
    refine (HS.out _).mono ?_
    rintro e w1 ⟨rfl, rfl⟩
    go_wp2_with fail
    go_ret2
    exact ⟨rfl, rfl⟩
  · have hD : decide (x % 16 = 15) = false := decide_eq_false hx
    have hA : abR 15 x = 0 := if_neg hx
    rw [hD] at HS ⊢
    rw [hA]
    clear hA hx hD
    go_enter Try.func12, Try.ntmps12
    go_wp2_with fail
    refine (HS.out _).mono ?_
    rintro e w1 ⟨rfl, rfl⟩
    go_wp2_with fail
    go_ret2
    exact ⟨rfl, rfl⟩

theorem rintOf_w (x : Int) (w : World) (h1 : 0 ≤ x) (h2 : x < 18446744073709551616) :
    Calls Try.prog 8 #[.int .u64 x] w fun e w' => e = .returned (.tuple #[.int .i64 (intR x), .bool (decide (x % 16 = 3))]) ∧ w = w' := by
  have HS : Hid (∀ W, Calls Try.prog 32 #[.int .u64 x, .int .u64 0] W fun e w' => e = .returned (.bool (decide (x % 16 = 3))) ∧ W = w') := fun W => rnow_w 0 x W (by omega) h1 h2
  have HI : Hid (intR x = if x % 16 = 3 then (if x < 9223372036854775808 then x / 16 else x / 16 - 1152921504606846976) else 0) := rfl
  by_cases hx : x % 16 = 3
  · have hD : decide (x % 16 = 3) = true := decide_eq_true hx
    obtain ⟨s, hs⟩ : ∃ s, s = IntKind.i64.wrap x := ⟨_, rfl⟩
    have hs2 : IntKind.i64.wrap x = s := hs.symm
    have hq : Hid (s / 16 = intR x) := by
      show _ = _
      rw [HI.out, if_pos hx, hs, IntKind.wrap_i64]
      split <;> omega
    have hsb : -9223372036854775808 ≤ s ∧ s ≤ 9223372036854775807 := by rw [hs, IntKind.wrap_i64]; omega
    rw [hD] at HS ⊢
    clear hs HI hx hD
    rw [← hq.out]
    generalize intR x = r at *
    go_enter Try.func8, Try.ntmps8
    go_wp2_with fail
    refine (HS.out _).mono ?_
    rintro e w1 ⟨rfl, rfl⟩
    go_wp2_with fail
    go_ret2
    exact ⟨rfl, rfl⟩
  · have hD : decide (x % 16 = 3) = false := decide_eq_false hx
    have hq : intR x = 0 := by rw [HI.out, if_neg hx]
    rw [hD] at HS ⊢
    rw [hq]
    clear HI hx hD hq
    go_enter Try.func8, Try.ntmps8
    go_wp2_with fail
    refine (HS.out _).mono ?_
    rintro e w1 ⟨rfl, rfl⟩
    go_wp2_with fail
    go_ret2
    exact ⟨rfl, rfl⟩

theorem rat_w (x : Int) (w : World) (h1 : 0 ≤ x) (h2 : x < 18446744073709551616) :
    Calls Try.prog 28 #[.int .u64 x] w fun e w' => e = .returned (.int .i64 (plR x)) ∧ w = w' := by
  have HS : Hid (∀ W, Calls Try.prog 26 #[.int .u64 x] W fun e w' => e = .returned (.int .i64 (x % 4)) ∧ W = w') := fun W => rtag_w x W h1 h2
  have HP : Hid (plR x = if x % 4 = 1 ∨ x % 4 = 2 then x / 4 else -1) := rfl
  have hm : 0 ≤ x % 4 ∧ x % 4 < 4 := by omega
  generalize plR x = r at *
  generalize x % 4 = m at *
  rcases (show m = 0 ∨ m = 1 ∨ m = 2 ∨ m = 3 by omega) with rfl | rfl | rfl | rfl <;> (obtain rfl := HP.out; clear HP hm; go_enter Try.func28, Try.ntmps28; go_wp2_with fail; refine (HS.out _).mono ?_; rintro e w1 ⟨rfl, rfl⟩; clear HS; go_wp2_with fail; go_ret; exact ⟨rfl, rfl⟩)

theorem rheadOf_w (x : Int) (w : World) (h1 : 0 ≤ x) (h2 : x < 18446744073709551616) :
    Calls Try.prog 14 #[.int .u64 x] w fun e w' => e = .returned (.tuple #[.int .i64 (hkR x), .int .i64 (hsR x), .bool (decide (x % 4 = 0))]) ∧ w = w' := by
  have HS : Hid (∀ W, Calls Try.prog 26 #[.int .u64 x] W fun e w' => e = .returned (.int .i64 (x % 4)) ∧ W = w') := fun W => rtag_w x W h1 h2
  by_cases hx : x % 4 = 0
  · have hD : decide (x % 4 = 0) = true := decide_eq_true hx
    have hk : x / 4 % 16 = hkR x := by unfold hkR; rw [if_pos hx]
    have hs : x / 64 = hsR x := by unfold hsR; rw [if_pos hx]
    have hi : bits .and .u64 (x / 4) 15 = hkR x := by rw [and15 _ (by omega) (by omega)]; exact hk
    have hkb : 0 ≤ hkR x ∧ hkR x < 16 := by omega
    have hsb : 0 ≤ hsR x ∧ hsR x < 288230376151711744 := by omega
    rw [hx] at HS
    rw [hD]
    clear hx hD hk
    generalize hkR x = k at *
    generalize hsR x = s at *
    go_enter Try.func14, Try.ntmps14
    go_wp2_with fail
    refine (HS.out _).mono ?_
    rintro e w1 ⟨rfl, rfl⟩
    go_wp2_with fail
    refine bodyPost_ret (results_tmp3 rfl _ _ _) rfl ?_
    exact ⟨rfl, rfl⟩
  · have hD : decide (x % 4 = 0) = false := decide_eq_false hx
    have hk : hkR x = 0 := by unfold hkR; rw [if_neg hx]
    have hs : hsR x = 0 := by unfold hsR; rw [if_neg hx]
    have ht : (x % 4 == 0) = false := by simp [hx]
    have ht2 : (x % 4 != 0) = true := by simp [hx]
    rw [hD, hk, hs]
    clear hD hk hs hx
    generalize x % 4 = m at *
    go_enter Try.func14, Try.ntmps14
    go_wp2_with fail
    refine (HS.out _).mono ?_
    rintro e w1 ⟨rfl, rfl⟩
    go_wp2_with fail
    refine bodyPost_ret (results_tmp3 rfl _ _ _) rfl ?_
    exact ⟨rfl, rfl⟩
end Go.Proofs.Ytfcphhbkmplclaa
