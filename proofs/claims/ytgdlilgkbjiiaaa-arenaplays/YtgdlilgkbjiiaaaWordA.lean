
/-
  word: each function by plain numbers.
-/
import Derived.Test.YtgdlilgkbjiiaaaWordM
namespace Go.Proofs.Ytgdlilgkbjiiaaa
open Go.RowKit
set_option linter.unusedVariables false
set_option linter.unusedSimpArgs false

theorem wlow2_any (x : Int) (w : World) (h1 : 0 ≤ x) (h2 : x < 18446744073709551616) :
    Calls Try.prog 30 #[.int .i64 2, .int .u64 x] w fun e w' => e = .returned (.int .u64 (x % 4)) ∧ w = w' := by
  have hb := and3 x h1 h2
  go_enter Try.func30, Try.ntmps30
  go_wp2_with fail
  go_ret
  exact ⟨rfl, rfl⟩

theorem wlow4_any (x : Int) (w : World) (h1 : 0 ≤ x) (h2 : x < 18446744073709551616) :
    Calls Try.prog 30 #[.int .i64 4, .int .u64 x] w fun e w' => e = .returned (.int .u64 (x % 16)) ∧ w = w' := by
  have hb := and15 x h1 h2
  go_enter Try.func30, Try.ntmps30
  go_wp2_with fail
  go_ret
  exact ⟨rfl, rfl⟩
end Go.Proofs.Ytgdlilgkbjiiaaa
