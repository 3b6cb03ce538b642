/-
  word: what is exported.
-/
import Derived.Test.YtfcphhbkmplclaaWordB
namespace Go.Proofs.Ytfcphhbkmplclaa
open Go.RowKit
set_option linter.unusedVariables false
set_option linter.unusedSimpArgs false

theorem wsmall_any (v : Int) (w : World) (h1 : -9223372036854775808 ≤ v) (h2 : v ≤ 9223372036854775807) :
    Calls Try.prog 15 #[.int .i64 v] w fun e w' => e = .returned (.int .u64 (smW v)) ∧ w = w' := by
  obtain ⟨M, hM⟩ : ∃ M, (if v < -576460752303423488 then -576460752303423488 else v) = M := ⟨_, rfl⟩
  have hc : (if 576460752303423487 < M then 576460752303423487 else M) = cutS v := by rw [← hM]; unfold cutS; split <;> split <;> omega
  have hb := cutS_bd v
  have HS : Hid (cutS v * 16 % 18446744073709551616 + (0 * 4 + 3) = smW v) := by show _ = _; unfold smW; omega
  generalize cutS v = c at *
  generalize smW v = r at *
  go_enter Try.func15, Try.ntmps15
  go_wp2_with fail
  refine (wnow_any 0 c _ (by omega) (by omega) (by omega)).mono ?_
  rintro e w1 ⟨rfl, rfl⟩
  rw [HS.out]
  go_wp2_with fail
  go_ret
  exact ⟨rfl, rfl⟩

theorem watomof_any (n : Int) (w : World) (h1 : -9223372036854775808 ≤ n) (h2 : n ≤ 9223372036854775807) :
    Calls Try.prog 17 #[.int .i64 n] w fun e w' => e = .returned (.int .u64 (atW n)) ∧ w = w' := by
  have hb := cutW_bd n
  have HS : Hid (cutW n * 16 % 18446744073709551616 + (1 * 4 + 3) = atW n) := by show _ = _; unfold atW; omega
  have HB : Hid (0 ≤ cutW n ∧ cutW n ≤ 1099511627776) := hb
  clear hb
  go_enter Try.func17, Try.ntmps17
  go_wp2_with fail
  refine (wcut_any n _ h1 h2).mono ?_
  rintro e w1 ⟨rfl, rfl⟩
  go_wp2_with fail
  refine (wnow_any 1 (cutW n) _ (by omega) (by have := HB.out; omega) (by have := HB.out; omega)).mono ?_
  rintro e w1 ⟨rfl, rfl⟩
  rw [HS.out]
  go_wp2_with fail
  go_ret
  exact ⟨rfl, rfl⟩

theorem wcatch_any (n : Int) (w : World) (h1 : -9223372036854775808 ≤ n) (h2 : n ≤ 9223372036854775807) :
    Calls Try.prog 19 #[.int .i64 n] w fun e w' => e = .returned (.int .u64 (caW n)) ∧ w = w' := by
  have hb := cutW_bd n
  have HS : Hid (cutW n * 16 % 18446744073709551616 + (3 * 4 + 3) = caW n) := by show _ = _; unfold caW; omega
  have HB : Hid (0 ≤ cutW n ∧ cutW n ≤ 1099511627776) := hb
  clear hb
  go_enter Try.func19, Try.ntmps19
  go_wp2_with fail
  refine (wcut_any n _ h1 h2).mono ?_
  rintro e w1 ⟨rfl, rfl⟩
  go_wp2_with fail
  refine (wnow_any 3 (cutW n) _ (by omega) (by have := HB.out; omega) (by have := HB.out; omega)).mono ?_
  rintro e w1 ⟨rfl, rfl⟩
  rw [HS.out]
  go_wp2_with fail
  go_ret
  exact ⟨rfl, rfl⟩

theorem wtag_any (x : Int) (w : World) (h1 : 0 ≤ x) (h2 : x < 18446744073709551616) :
    Calls Try.prog 25 #[.int .u64 x] w fun e w' => e = .returned (.int .i64 (x % 4)) ∧ w = w' := by
  have hm : 0 ≤ x % 4 ∧ x % 4 < 4 := by omega
  have HL : Hid (∀ W, Calls Try.prog 34 #[.int .i64 2, .int .u64 x] W fun e w' => e = .returned (.int .u64 (x % 4)) ∧ W = w') := fun W => wlow2_any x W h1 h2
  generalize x % 4 = m at *
  go_enter Try.func25, Try.ntmps25
  go_wp2_with fail
  refine (HL.out _).mono ?_
  rintro e w1 ⟨rfl, rfl⟩
  go_wp2_with fail
  go_ret
  exact ⟨rfl, rfl⟩

theorem wpointer_any (t n : Int) (w : World) (h1 : -9223372036854775808 ≤ n) (h2 : n ≤ 9223372036854775807) (h3 : -9223372036854775808 ≤ t) (h4 : t ≤ 9223372036854775807) :
    Calls Try.prog 21 #[.int .i64 t, .int .i64 n] w fun e w' => e = .returned (.int .u64 (poW t n)) ∧ w = w' := by
  have hb := cutW_bd n
  obtain ⟨T, hT⟩ : ∃ T, T = t % 18446744073709551616 := ⟨_, rfl⟩
  have hw : IntKind.u64.wrap t = T := by rw [IntKind.wrap_u64, hT]
  have hT4 : T % 4 = t % 4 := by omega
  have hTb : 0 ≤ T ∧ T < 18446744073709551616 := by omega
  have ho : bits .or .u64 (cutW n * 4) (t % 4) = poW t n := by
    rw [or_low 2 _ _ (by omega) (by omega) (by omega) (by omega) (by omega) (by decide)]; rfl
  have HL : Hid (∀ W, Calls Try.prog 34 #[.int .i64 2, .int .u64 T] W fun e w' => e = .returned (.int .u64 (t % 4)) ∧ W = w') := fun W => by rw [← hT4]; exact wlow2_any T W hTb.1 hTb.2
  have HC : Hid (∀ W, Calls Try.prog 36 #[.int .i64 n] W fun e w' => e = .returned (.int .i64 (cutW n)) ∧ W = w') := fun W => wcut_any n W h1 h2
  have hm : 0 ≤ t % 4 ∧ t % 4 < 4 := by omega
  generalize cutW n = c at *
  generalize t % 4 = m at *
  generalize poW t n = r at *
  clear hT hT4
  go_enter Try.func21, Try.ntmps21
  go_wp2_with fail
  refine (HC.out _).mono ?_
  rintro e w1 ⟨rfl, rfl⟩
  go_wp2_with fail
  refine (HL.out _).mono ?_
  rintro e w1 ⟨rfl, rfl⟩
  go_wp2_with fail
  go_ret
  exact ⟨rfl, rfl⟩

theorem whead_any (t n : Int) (w : World) (h1 : -9223372036854775808 ≤ n) (h2 : n ≤ 9223372036854775807) (h3 : -9223372036854775808 ≤ t) (h4 : t ≤ 9223372036854775807) :
    Calls Try.prog 23 #[.int .i64 t, .int .i64 n] w fun e w' => e = .returned (.int .u64 (heW t n)) ∧ w = w' := by
  have hb := cutW_bd n
  obtain ⟨T, hT⟩ : ∃ T, T = t % 18446744073709551616 := ⟨_, rfl⟩
  have hw : IntKind.u64.wrap t = T := by rw [IntKind.wrap_u64, hT]
  have hT4 : T % 16 = t % 16 := by omega
  have hTb : 0 ≤ T ∧ T < 18446744073709551616 := by omega
  obtain ⟨z, hz⟩ : ∃ z, z = cutW n * 16 + t % 16 := ⟨_, rfl⟩
  have ho : bits .or .u64 (cutW n * 16) (t % 16) = z := by
    rw [or_low 4 _ _ (by omega) (by omega) (by omega) (by omega) (by omega) (by decide), hz]
  have hr : z * 4 = heW t n := by unfold heW; omega
  have hzb : 0 ≤ z ∧ z < 35184372088848 := by omega
  have ho2 : bits .or .u64 (heW t n) 0 = heW t n := by
    rw [or_low 2 _ _ (by omega) (by omega) (by omega) (by omega) (by omega) (by decide)]; omega
  have HL : Hid (∀ W, Calls Try.prog 34 #[.int .i64 4, .int .u64 T] W fun e w' => e = .returned (.int .u64 (t % 16)) ∧ W = w') := fun W => by rw [← hT4]; exact wlow4_any T W hTb.1 hTb.2
  have HC : Hid (∀ W, Calls Try.prog 36 #[.int .i64 n] W fun e w' => e = .returned (.int .i64 (cutW n)) ∧ W = w') := fun W => wcut_any n W h1 h2
  have hm : 0 ≤ t % 16 ∧ t % 16 < 16 := by omega
  generalize cutW n = c at *
  generalize t % 16 = m at *
  generalize heW t n = r at *
  clear hT hT4 hz
  go_enter Try.func23, Try.ntmps23
  go_wp2_with fail
  refine (HC.out _).mono ?_
  rintro e w1 ⟨rfl, rfl⟩
  go_wp2_with fail
  refine (HL.out _).mono ?_
  rintro e w1 ⟨rfl, rfl⟩
  go_wp2_with fail
  go_ret
  exact ⟨rfl, rfl⟩
end Go.Proofs.Ytfcphhbkmplclaa
