/-
  word: each function by plain numbers.
-/
import Derived.Test.YtfcphhbkmplclaaWordM
namespace Go.Proofs.Ytfcphhbkmplclaa
open Go.RowKit
set_option linter.unusedVariables false
set_option linter.unusedSimpArgs false

theorem wcut_any (n : Int) (w : World) (h1 : -9223372036854775808 ≤ n) (h2 : n ≤ 9223372036854775807) :
    Calls Try.prog 36 #[.int .i64 n] w fun e w' => e = .returned (.int .i64 (cutW n)) ∧ w = w' := by
  obtain ⟨M, hM⟩ : ∃ M, (if n < 0 then 0 else n) = M := ⟨_, rfl⟩
  have hc : (if 1099511627776 < M then 1099511627776 else M) = cutW n := by rw [← hM]; unfold cutW; split <;> split <;> omega
  go_enter Try.func36, Try.ntmps36
  go_wp2_with fail
  go_ret
  exact ⟨rfl, rfl⟩

theorem wlow2_any (x : Int) (w : World) (h1 : 0 ≤ x) (h2 : x < 18446744073709551616) :
    Calls Try.prog 34 #[.int .i64 2, .int .u64 x] w fun e w' => e = .returned (.int .u64 (x % 4)) ∧ w = w' := by
  have hb := and3 x h1 h2
  go_enter Try.func34, Try.ntmps34
  go_wp2_with fail
  go_ret
  exact ⟨rfl, rfl⟩

theorem wlow4_any (x : Int) (w : World) (h1 : 0 ≤ x) (h2 : x < 18446744073709551616) :
    Calls Try.prog 34 #[.int .i64 4, .int .u64 x] w fun e w' => e = .returned (.int .u64 (x % 16)) ∧ w = w' := by
  have hb := and15 x h1 h2
  go_enter Try.func34, Try.ntmps34
  go_wp2_with fail
  go_ret
  exact ⟨rfl, rfl⟩
end Go.Proofs.Ytfcphhbkmplclaa
