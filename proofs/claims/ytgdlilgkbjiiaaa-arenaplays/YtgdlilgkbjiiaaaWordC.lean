
/-
  word: what is exported.
-/
import Derived.Test.YtgdlilgkbjiiaaaWordB
namespace Go.Proofs.Ytgdlilgkbjiiaaa
open Go.RowKit
set_option linter.unusedVariables false
set_option linter.unusedSimpArgs false

theorem wtag_any (x : Int) (w : World) (h1 : 0 ≤ x) (h2 : x < 18446744073709551616) :
    Calls Try.prog 29 #[.int .u64 x] w fun e w' => e = .returned (.int .i64 (x % 4)) ∧ w = w' := by
  have hm : 0 ≤ x % 4 ∧ x % 4 < 4 := by omega
  have HL : Hid (∀ W, Calls Try.prog 30 #[.int .i64 2, .int .u64 x] W fun e w' => e = .returned (.int .u64 (x % 4)) ∧ W = w') := fun W => wlow2_any x W h1 h2
  generalize x % 4 = m at *
  go_enter Try.func29, Try.ntmps29
  go_wp2_with fail
  refine (HL.out _).mono ?_
  rintro e w1 ⟨rfl, rfl⟩
  go_wp2_with fail
  go_ret
  exact ⟨rfl, rfl⟩

end Go.Proofs.Ytgdlilgkbjiiaaa
