/-
  relictlaw10.WordBack.
-/
import Derived.Test.YtfcphhbkmplclaaWordAw
import Derived.Test.YtfcphhbkmplclaaPlaceB
namespace Go.Proofs.Ytfcphhbkmplclaa
open Go.RowKit
set_option linter.unusedVariables false
set_option linter.unusedSimpArgs false

/-- What is made is told: the numbers. -/
theorem sm_back {s : Int} (h : -576460752303423488 ≤ s ∧ s < 576460752303423488) : intR (smW s) = s ∧ smW s % 16 = 3 := by
  have hc : cutS s = s := by unfold cutS; omega
  unfold intR smW
  rw [hc]
  refine ⟨?_, by omega⟩
  rw [if_pos (by omega)]
  split <;> omega
theorem cutW_id {p : Int} (h : 0 ≤ p ∧ p < 1099511627776) : cutW p = p := by unfold cutW; omega

set_option maxRecDepth 100000 in
set_option maxHeartbeats 4000000 in
theorem wordBack_walk (v n k : Int) (w : World) (v1 : -9223372036854775808 ≤ v) (v2 : v ≤ 9223372036854775807) (n1 : -9223372036854775808 ≤ n) (n2 : n ≤ 9223372036854775807) (k1 : -9223372036854775808 ≤ k) (k2 : k ≤ 9223372036854775807) :
    Calls Try.prog 4 #[.int .i64 v, .int .i64 n, .int .i64 k] w fun e w' => e = .returned (.bool true) ∧ Below w.heap.size w w' := by
  have hq : 0 ≤ v % 1152921504606846976 ∧ v % 1152921504606846976 < 1152921504606846976 := by omega
  have hp : 0 ≤ n % 1099511627776 ∧ n % 1099511627776 < 1099511627776 := by omega
  have P0 : Hid (∀ W, Calls Try.prog 30 #[.int .i64 v, .int .i64 1152921504606846976] W fun e w' => e = .returned (.int .i64 (v % 1152921504606846976)) ∧ W = w') := fun W => place_any v 1152921504606846976 W (by decide) (by decide) v1 v2
  have P1 : Hid (∀ W, Calls Try.prog 30 #[.int .i64 n, .int .i64 1099511627776] W fun e w' => e = .returned (.int .i64 (n % 1099511627776)) ∧ W = w') := fun W => place_any n 1099511627776 W (by decide) (by decide) n1 n2
  have P2 : Hid (∀ W, Calls Try.prog 30 #[.int .i64 k, .int .i64 16] W fun e w' => e = .returned (.int .i64 (k % 16)) ∧ W = w') := fun W => place_any k 16 W (by decide) (by decide) k1 k2
  generalize v % 1152921504606846976 = q at *
  generalize n % 1099511627776 = p at *
  obtain ⟨s, hs⟩ : ∃ s, q - 576460752303423488 = s := ⟨_, rfl⟩
  have hsb : -576460752303423488 ≤ s ∧ s < 576460752303423488 := by omega
  have sb := sm_back hsb
  have sc := cutW_id hp
  have b0 := smW_bd s
  have b1 := atW_bd p
  have b2 := caW_bd p
  have b3 := heW_bd k p
  have b4 := poW_bd 1 p
  have b5 := poW_bd 2 p
  have e1 : abR 7 (atW p) = p ∧ atW p % 16 = 7 := by unfold abR atW; rw [sc]; exact ⟨by rw [if_pos (by omega)]; omega, by omega⟩
  have e2 : abR 15 (caW p) = p ∧ caW p % 16 = 15 := by unfold abR caW; rw [sc]; exact ⟨by rw [if_pos (by omega)]; omega, by omega⟩
  have e3 : hkR (heW k p) = k % 16 ∧ hsR (heW k p) = p ∧ heW k p % 4 = 0 := by unfold hkR hsR heW; rw [sc]; exact ⟨by rw [if_pos (by omega)]; omega, by rw [if_pos (by omega)]; omega, by omega⟩
  have e4 : poW 1 p % 4 = 1 ∧ hkR (poW 1 p) = 0 ∧ hsR (poW 1 p) = 0 := by unfold hkR hsR poW; rw [sc]; exact ⟨by omega, if_neg (by omega), if_neg (by omega)⟩
  have e5 : plR (poW 2 p) = p := by unfold plR poW; rw [sc, if_pos (by omega)]; omega
  have e6 : plR (smW s) = -1 := by unfold plR; rw [if_neg (by omega)]
  have e7 : intR (atW p) = 0 := by unfold intR; rw [if_neg (by omega)]
  have e8 : abR 15 (smW s) = 0 := by unfold abR; rw [if_neg (by omega)]
  have H0 : Hid (∀ W, Calls Try.prog 30 #[.int .i64 v, .int .i64 1152921504606846976] W fun e w' => e = .returned (.int .i64 q) ∧ W = w') := fun W => P0.out W
  have H1 : Hid (∀ W, Calls Try.prog 30 #[.int .i64 n, .int .i64 1099511627776] W fun e w' => e = .returned (.int .i64 p) ∧ W = w') := fun W => P1.out W
  have H2 : Hid (∀ W, Calls Try.prog 15 #[.int .i64 s] W fun e w' => e = .returned (.int .u64 (smW s)) ∧ W = w') := fun W => by have h := wsmall_any s W (by omega) (by omega); exact h
  have H3 : Hid (∀ W, Calls Try.prog 7 #[.int .u64 (smW s)] W fun e w' => e = .returned (.tuple #[.int .i64 s, .bool true]) ∧ W = w') := fun W => by have h := wintOf_any (smW s) W b0.1 b0.2; rw [sb.1, decide_eq_true sb.2] at h; exact h
  have H4 : Hid (∀ W, Calls Try.prog 17 #[.int .i64 p] W fun e w' => e = .returned (.int .u64 (atW p)) ∧ W = w') := fun W => watomof_any p W (by omega) (by omega)
  have H5 : Hid (∀ W, Calls Try.prog 9 #[.int .u64 (atW p)] W fun e w' => e = .returned (.tuple #[.int .i64 p, .bool true]) ∧ W = w') := fun W => by have h := wisAtom_any (atW p) W b1.1 b1.2; rw [e1.1, decide_eq_true e1.2] at h; exact h
  have H6 : Hid (∀ W, Calls Try.prog 19 #[.int .i64 p] W fun e w' => e = .returned (.int .u64 (caW p)) ∧ W = w') := fun W => wcatch_any p W (by omega) (by omega)
  have H7 : Hid (∀ W, Calls Try.prog 11 #[.int .u64 (caW p)] W fun e w' => e = .returned (.tuple #[.int .i64 p, .bool true]) ∧ W = w') := fun W => by have h := wisCatch_any (caW p) W b2.1 b2.2; rw [e2.1, decide_eq_true e2.2] at h; exact h
  have H8 : Hid (∀ W, Calls Try.prog 23 #[.int .i64 k, .int .i64 p] W fun e w' => e = .returned (.int .u64 (heW k p)) ∧ W = w') := fun W => whead_any k p W (by omega) (by omega) k1 k2
  have H9 : Hid (∀ W, Calls Try.prog 13 #[.int .u64 (heW k p)] W fun e w' => e = .returned (.tuple #[.int .i64 (k % 16), .int .i64 p, .bool true]) ∧ W = w') := fun W => by have h := wheadOf_any (heW k p) W b3.1 b3.2; rw [e3.1, e3.2.1, decide_eq_true e3.2.2] at h; exact h
  have H10 : Hid (∀ W, Calls Try.prog 17 #[.int .i64 p] W fun e w' => e = .returned (.int .u64 (atW p)) ∧ W = w') := fun W => watomof_any p W (by omega) (by omega)
  have H11 : Hid (∀ W, Calls Try.prog 7 #[.int .u64 (atW p)] W fun e w' => e = .returned (.tuple #[.int .i64 0, .bool false]) ∧ W = w') := fun W => by have h := wintOf_any (atW p) W b1.1 b1.2; rw [e7, decide_eq_false (show ¬ atW p % 16 = 3 by omega)] at h; exact h
  have H12 : Hid (∀ W, Calls Try.prog 9 #[.int .u64 11] W fun e w' => e = .returned (.tuple #[.int .i64 0, .bool false]) ∧ W = w') := fun W => wisAtom_any 11 W (by decide) (by decide)
  have H13 : Hid (∀ W, Calls Try.prog 15 #[.int .i64 s] W fun e w' => e = .returned (.int .u64 (smW s)) ∧ W = w') := fun W => by have h := wsmall_any s W (by omega) (by omega); exact h
  have H14 : Hid (∀ W, Calls Try.prog 11 #[.int .u64 (smW s)] W fun e w' => e = .returned (.tuple #[.int .i64 0, .bool false]) ∧ W = w') := fun W => by have h := wisCatch_any (smW s) W b0.1 b0.2; rw [e8, decide_eq_false (show ¬ smW s % 16 = 15 by omega)] at h; exact h
  have H15 : Hid (∀ W, Calls Try.prog 21 #[.int .i64 1, .int .i64 p] W fun e w' => e = .returned (.int .u64 (poW 1 p)) ∧ W = w') := fun W => wpointer_any 1 p W (by omega) (by omega) (by decide) (by decide)
  have H16 : Hid (∀ W, Calls Try.prog 13 #[.int .u64 (poW 1 p)] W fun e w' => e = .returned (.tuple #[.int .i64 0, .int .i64 0, .bool false]) ∧ W = w') := fun W => by have h := wheadOf_any (poW 1 p) W b4.1 b4.2; rw [e4.2.1, e4.2.2, decide_eq_false (show ¬ poW 1 p % 4 = 0 by omega)] at h; exact h
  have H17 : Hid (∀ W, Calls Try.prog 30 #[.int .i64 k, .int .i64 16] W fun e w' => e = .returned (.int .i64 (k % 16)) ∧ W = w') := fun W => P2.out W
  have H18 : Hid (∀ W, Calls Try.prog 21 #[.int .i64 2, .int .i64 p] W fun e w' => e = .returned (.int .u64 (poW 2 p)) ∧ W = w') := fun W => wpointer_any 2 p W (by omega) (by omega) (by decide) (by decide)
  have H19 : Hid (∀ W, Calls Try.prog 27 #[.int .u64 (poW 2 p)] W fun e w' => e = .returned (.int .i64 p) ∧ W = w') := fun W => by have h := wat_any (poW 2 p) W b5.1 b5.2; rw [e5] at h; exact h
  have H20 : Hid (∀ W, Calls Try.prog 15 #[.int .i64 s] W fun e w' => e = .returned (.int .u64 (smW s)) ∧ W = w') := fun W => by have h := wsmall_any s W (by omega) (by omega); exact h
  have H21 : Hid (∀ W, Calls Try.prog 27 #[.int .u64 (smW s)] W fun e w' => e = .returned (.int .i64 (-1)) ∧ W = w') := fun W => by have h := wat_any (smW s) W b0.1 b0.2; rw [e6] at h; exact h
  have H22 : Hid (∀ W, Calls Try.prog 15 #[.int .i64 s] W fun e w' => e = .returned (.int .u64 (smW s)) ∧ W = w') := fun W => by have h := wsmall_any s W (by omega) (by omega); exact h
  have H23 : Hid (∀ W, Calls Try.prog 25 #[.int .u64 (smW s)] W fun e w' => e = .returned (.int .i64 3) ∧ W = w') := fun W => by have h := wtag_any (smW s) W b0.1 b0.2; rw [show smW s % 4 = 3 by omega] at h; exact h
  clear P0 P1 P2 sb sc b0 b1 b2 b3 b4 b5 e1 e2 e3 e4 e5 e6 e7 e8 v1 v2 n1 n2 k1 k2
  generalize smW s = z0 at *
  generalize atW p = z1 at *
  generalize caW p = z2 at *
  generalize heW k p = z3 at *
  generalize poW 1 p = z4 at *
  generalize poW 2 p = z5 at *
  generalize k % 16 = z6 at *
  go_enter Try.func4, Try.ntmps4
  go_wp2_with fail
  refine (H0.out _).mono ?_
  clear H0
  rintro e wq ⟨rfl, rfl⟩
  go_wp2_with fail
  refine (H1.out _).mono ?_
  clear H1
  rintro e wq ⟨rfl, rfl⟩
  go_wp2_with fail
  refine (H2.out _).mono ?_
  clear H2
  rintro e wq ⟨rfl, rfl⟩
  go_wp2_with fail
  refine (H3.out _).mono ?_
  clear H3
  rintro e wq ⟨rfl, rfl⟩
  go_wp2_with fail
  refine (H4.out _).mono ?_
  clear H4
  rintro e wq ⟨rfl, rfl⟩
  go_wp2_with fail
  refine (H5.out _).mono ?_
  clear H5
  rintro e wq ⟨rfl, rfl⟩
  go_wp2_with fail
  refine (H6.out _).mono ?_
  clear H6
  rintro e wq ⟨rfl, rfl⟩
  go_wp2_with fail
  refine (H7.out _).mono ?_
  clear H7
  rintro e wq ⟨rfl, rfl⟩
  go_wp2_with fail
  refine (H8.out _).mono ?_
  clear H8
  rintro e wq ⟨rfl, rfl⟩
  go_wp2_with fail
  refine (H9.out _).mono ?_
  clear H9
  rintro e wq ⟨rfl, rfl⟩
  go_wp2_with fail
  refine (H10.out _).mono ?_
  clear H10
  rintro e wq ⟨rfl, rfl⟩
  go_wp2_with fail
  refine (H11.out _).mono ?_
  clear H11
  rintro e wq ⟨rfl, rfl⟩
  go_wp2_with fail
  refine (H12.out _).mono ?_
  clear H12
  rintro e wq ⟨rfl, rfl⟩
  go_wp2_with fail
  refine (H13.out _).mono ?_
  clear H13
  rintro e wq ⟨rfl, rfl⟩
  go_wp2_with fail
  refine (H14.out _).mono ?_
  clear H14
  rintro e wq ⟨rfl, rfl⟩
  go_wp2_with fail
  refine (H15.out _).mono ?_
  clear H15
  rintro e wq ⟨rfl, rfl⟩
  go_wp2_with fail
  refine (H16.out _).mono ?_
  clear H16
  rintro e wq ⟨rfl, rfl⟩
  go_wp2_with fail
  refine (H17.out _).mono ?_
  clear H17
  rintro e wq ⟨rfl, rfl⟩
  go_wp2_with fail
  refine (H18.out _).mono ?_
  clear H18
  rintro e wq ⟨rfl, rfl⟩
  go_wp2_with fail
  refine (H19.out _).mono ?_
  clear H19
  rintro e wq ⟨rfl, rfl⟩
  go_wp2_with fail
  refine (H20.out _).mono ?_
  clear H20
  rintro e wq ⟨rfl, rfl⟩
  go_wp2_with fail
  refine (H21.out _).mono ?_
  clear H21
  rintro e wq ⟨rfl, rfl⟩
  go_wp2_with fail
  refine (H22.out _).mono ?_
  clear H22
  rintro e wq ⟨rfl, rfl⟩
  go_wp2_with fail
  refine (H23.out _).mono ?_
  clear H23
  rintro e wq ⟨rfl, rfl⟩
  go_wp2_with fail
  refine (awake10 _).mono ?_
  rintro e wq ⟨rfl, rfl⟩
  go_wp2_with fail
  go_ret
  exact ⟨rfl, Below.refl _ _⟩
end Go.Proofs.Ytfcphhbkmplclaa
