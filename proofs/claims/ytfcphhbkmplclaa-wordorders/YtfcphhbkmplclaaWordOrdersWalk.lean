/-
  relictlaw10.WordOrders.
-/
import Derived.Test.YtfcphhbkmplclaaWordBackWalk
import Derived.Test.YtfcphhbkmplclaaPlaceB
namespace Go.Proofs.Ytfcphhbkmplclaa
open Go.RowKit
set_option linter.unusedVariables false
set_option linter.unusedSimpArgs false

theorem sm_cut (v : Int) : smW v = smW (cutS v) := by
  have : cutS (cutS v) = cutS v := by unfold cutS; omega
  unfold smW; rw [this]

set_option maxRecDepth 100000 in
set_option maxHeartbeats 4000000 in
theorem wordOrders_walk (v n k t : Int) (w : World) (v1 : -9223372036854775808 ≤ v) (v2 : v ≤ 9223372036854775807) (n1 : -9223372036854775808 ≤ n) (n2 : n ≤ 9223372036854775807) (k1 : -9223372036854775808 ≤ k) (k2 : k ≤ 9223372036854775807) (t1 : -9223372036854775808 ≤ t) (t2 : t ≤ 9223372036854775807) :
    Calls Try.prog 6 #[.int .i64 v, .int .i64 n, .int .i64 k, .int .i64 t] w fun e w' => e = .returned (.bool true) ∧ Below w.heap.size w w' := by
  have hp : 0 ≤ n % 1099511627776 ∧ n % 1099511627776 < 1099511627776 := by omega
  have hu : 0 ≤ t % 2 ∧ t % 2 < 2 := by omega
  have P1 : Hid (∀ W, Calls Try.prog 30 #[.int .i64 n, .int .i64 1099511627776] W fun e w' => e = .returned (.int .i64 (n % 1099511627776)) ∧ W = w') := fun W => place_any n 1099511627776 W (by decide) (by decide) n1 n2
  have P2 : Hid (∀ W, Calls Try.prog 30 #[.int .i64 k, .int .i64 16] W fun e w' => e = .returned (.int .i64 (k % 16)) ∧ W = w') := fun W => place_any k 16 W (by decide) (by decide) k1 k2
  have P3 : Hid (∀ W, Calls Try.prog 30 #[.int .i64 t, .int .i64 2] W fun e w' => e = .returned (.int .i64 (t % 2)) ∧ W = w') := fun W => place_any t 2 W (by decide) (by decide) t1 t2
  generalize t % 2 = u at *
  generalize n % 1099511627776 = p at *
  obtain ⟨M, hM⟩ : ∃ M, (if v < -576460752303423488 then -576460752303423488 else v) = M := ⟨_, rfl⟩
  have hc : (if 576460752303423487 < M then 576460752303423487 else M) = cutS v := by rw [← hM]; unfold cutS; split <;> split <;> omega
  have hb := cutS_bd v
  have sb := sm_back (s := cutS v) (by omega)
  rw [← sm_cut] at sb
  have sc := cutW_id hp
  obtain ⟨tg, htg⟩ : ∃ tg, 1 + u = tg := ⟨_, rfl⟩
  have htb : 1 ≤ tg ∧ tg ≤ 2 := by omega
  have b0 := smW_bd v
  have b3 := heW_bd k p
  have b5 := poW_bd tg p
  have e3 : hkR (heW k p) = k % 16 ∧ hsR (heW k p) = p ∧ heW k p % 4 = 0 := by unfold hkR hsR heW; rw [sc]; exact ⟨by rw [if_pos (by omega)]; omega, by rw [if_pos (by omega)]; omega, by omega⟩
  have e5 : plR (poW tg p) = p ∧ poW tg p % 4 = tg := by unfold plR poW; rw [sc]; exact ⟨by rw [if_pos (by omega)]; omega, by omega⟩
  have e6 : plR (heW k p) = -1 := by unfold plR; rw [if_neg (by omega)]
  have H0 : Hid (∀ W, Calls Try.prog 30 #[.int .i64 n, .int .i64 1099511627776] W fun e w' => e = .returned (.int .i64 p) ∧ W = w') := fun W => P1.out W
  have H1 : Hid (∀ W, Calls Try.prog 15 #[.int .i64 v] W fun e w' => e = .returned (.int .u64 (smW v)) ∧ W = w') := fun W => wsmall_any v W v1 v2
  have H2 : Hid (∀ W, Calls Try.prog 7 #[.int .u64 (smW v)] W fun e w' => e = .returned (.tuple #[.int .i64 (cutS v), .bool true]) ∧ W = w') := fun W => by have h := wintOf_any (smW v) W b0.1 b0.2; rw [sb.1, decide_eq_true sb.2] at h; exact h
  have H3 : Hid (∀ W, Calls Try.prog 23 #[.int .i64 k, .int .i64 p] W fun e w' => e = .returned (.int .u64 (heW k p)) ∧ W = w') := fun W => whead_any k p W (by omega) (by omega) k1 k2
  have H4 : Hid (∀ W, Calls Try.prog 13 #[.int .u64 (heW k p)] W fun e w' => e = .returned (.tuple #[.int .i64 (k % 16), .int .i64 p, .bool true]) ∧ W = w') := fun W => by have h := wheadOf_any (heW k p) W b3.1 b3.2; rw [e3.1, e3.2.1, decide_eq_true e3.2.2] at h; exact h
  have H5 : Hid (∀ W, Calls Try.prog 30 #[.int .i64 t, .int .i64 2] W fun e w' => e = .returned (.int .i64 u) ∧ W = w') := fun W => P3.out W
  have H6 : Hid (∀ W, Calls Try.prog 21 #[.int .i64 tg, .int .i64 p] W fun e w' => e = .returned (.int .u64 (poW tg p)) ∧ W = w') := fun W => wpointer_any tg p W (by omega) (by omega) (by omega) (by omega)
  have H7 : Hid (∀ W, Calls Try.prog 30 #[.int .i64 k, .int .i64 16] W fun e w' => e = .returned (.int .i64 (k % 16)) ∧ W = w') := fun W => P2.out W
  have H8 : Hid (∀ W, Calls Try.prog 25 #[.int .u64 (poW tg p)] W fun e w' => e = .returned (.int .i64 tg) ∧ W = w') := fun W => by have h := wtag_any (poW tg p) W b5.1 b5.2; rw [e5.2] at h; exact h
  have H9 : Hid (∀ W, Calls Try.prog 27 #[.int .u64 (poW tg p)] W fun e w' => e = .returned (.int .i64 p) ∧ W = w') := fun W => by have h := wat_any (poW tg p) W b5.1 b5.2; rw [e5.1] at h; exact h
  have H10 : Hid (∀ W, Calls Try.prog 23 #[.int .i64 k, .int .i64 p] W fun e w' => e = .returned (.int .u64 (heW k p)) ∧ W = w') := fun W => whead_any k p W (by omega) (by omega) k1 k2
  have H11 : Hid (∀ W, Calls Try.prog 27 #[.int .u64 (heW k p)] W fun e w' => e = .returned (.int .i64 (-1)) ∧ W = w') := fun W => by have h := wat_any (heW k p) W b3.1 b3.2; rw [e6] at h; exact h
  have H12 : Hid (∀ W, Calls Try.prog 25 #[.int .u64 11] W fun e w' => e = .returned (.int .i64 3) ∧ W = w') := fun W => wtag_any 11 W (by decide) (by decide)
  clear P1 P2 P3 sb sc b0 b3 b5 e3 e5 e6 v1 v2 n1 n2 k1 k2 t1 t2
  generalize smW v = z0 at *
  generalize cutS v = z1 at *
  generalize heW k p = z3 at *
  generalize poW tg p = z5 at *
  generalize k % 16 = z6 at *
  go_enter Try.func6, Try.ntmps6
  go_wp2_with fail
  refine (H0.out _).mono ?_
  clear H0
  rintro e wq ⟨rfl, rfl⟩
  go_wp2_with fail
  refine (H1.out _).mono ?_
  clear H1
  rintro e wq ⟨rfl, rfl⟩
  go_wp2_with fail
  refine (H2.out _).mono ?_
  clear H2
  rintro e wq ⟨rfl, rfl⟩
  go_wp2_with fail
  refine (H3.out _).mono ?_
  clear H3
  rintro e wq ⟨rfl, rfl⟩
  go_wp2_with fail
  refine (H4.out _).mono ?_
  clear H4
  rintro e wq ⟨rfl, rfl⟩
  go_wp2_with fail
  refine (H5.out _).mono ?_
  clear H5
  rintro e wq ⟨rfl, rfl⟩
  go_wp2_with fail
  refine (H6.out _).mono ?_
  clear H6
  rintro e wq ⟨rfl, rfl⟩
  go_wp2_with fail
  refine (H7.out _).mono ?_
  clear H7
  rintro e wq ⟨rfl, rfl⟩
  go_wp2_with fail
  refine (H8.out _).mono ?_
  clear H8
  rintro e wq ⟨rfl, rfl⟩
  go_wp2_with fail
  refine (H9.out _).mono ?_
  clear H9
  rintro e wq ⟨rfl, rfl⟩
  go_wp2_with fail
  refine (H10.out _).mono ?_
  clear H10
  rintro e wq ⟨rfl, rfl⟩
  go_wp2_with fail
  refine (H11.out _).mono ?_
  clear H11
  rintro e wq ⟨rfl, rfl⟩
  go_wp2_with fail
  refine (H12.out _).mono ?_
  clear H12
  rintro e wq ⟨rfl, rfl⟩
  go_wp2_with fail
  refine (awake10 _).mono ?_
  rintro e wq ⟨rfl, rfl⟩
  go_wp2_with fail
  go_ret
  exact ⟨rfl, Below.refl _ _⟩
end Go.Proofs.Ytfcphhbkmplclaa
