/-
  relictlaw10.awake.
-/
import Derived.Test.YtfcphhbkmplclaaWordR
namespace Go.Proofs.Ytfcphhbkmplclaa
open Go.RowKit
set_option linter.unusedVariables false
set_option linter.unusedSimpArgs false

set_option maxRecDepth 100000 in
theorem awake10 (w : World) : Calls Try.prog 29 #[] w fun e w' => e = .returned (.bool true) ∧ w = w' := by
  have H1 : Hid (∀ W, Calls Try.prog 15 #[.int .i64 (-7)] W fun e w' => e = .returned (.int .u64 18446744073709551507) ∧ W = w') := fun W => wsmall_any (-7) W (by decide) (by decide)
  have H2 : Hid (∀ W, Calls Try.prog 7 #[.int .u64 18446744073709551507] W fun e w' => e = .returned (.tuple #[.int .i64 (-7), .bool true]) ∧ W = w') := fun W => wintOf_any 18446744073709551507 W (by decide) (by decide)
  have H3 : Hid (∀ W, Calls Try.prog 15 #[.int .i64 5] W fun e w' => e = .returned (.int .u64 83) ∧ W = w') := fun W => wsmall_any 5 W (by decide) (by decide)
  have H4 : Hid (∀ W, Calls Try.prog 21 #[.int .i64 2, .int .i64 9] W fun e w' => e = .returned (.int .u64 38) ∧ W = w') := fun W => wpointer_any 2 9 W (by decide) (by decide) (by decide) (by decide)
  have H5 : Hid (∀ W, Calls Try.prog 25 #[.int .u64 38] W fun e w' => e = .returned (.int .i64 2) ∧ W = w') := fun W => wtag_any 38 W (by decide) (by decide)
  have H6 : Hid (∀ W, Calls Try.prog 21 #[.int .i64 1, .int .i64 9] W fun e w' => e = .returned (.int .u64 37) ∧ W = w') := fun W => wpointer_any 1 9 W (by decide) (by decide) (by decide) (by decide)
  have H7 : Hid (∀ W, Calls Try.prog 27 #[.int .u64 37] W fun e w' => e = .returned (.int .i64 9) ∧ W = w') := fun W => wat_any 37 W (by decide) (by decide)
  go_enter Try.func29, Try.ntmps29
  go_wp2_with fail
  refine (H1.out _).mono ?_
  rintro e w1 ⟨rfl, rfl⟩
  go_wp2_with fail
  refine (H2.out _).mono ?_
  rintro e w1 ⟨rfl, rfl⟩
  go_wp2_with fail
  refine (H3.out _).mono ?_
  rintro e w1 ⟨rfl, rfl⟩
  go_wp2_with fail
  refine (H4.out _).mono ?_
  rintro e w1 ⟨rfl, rfl⟩
  go_wp2_with fail
  refine (H5.out _).mono ?_
  rintro e w1 ⟨rfl, rfl⟩
  go_wp2_with fail
  refine (H6.out _).mono ?_
  rintro e w1 ⟨rfl, rfl⟩
  go_wp2_with fail
  refine (H7.out _).mono ?_
  rintro e w1 ⟨rfl, rfl⟩
  go_wp2_with fail
  go_ret
  exact ⟨rfl, rfl⟩
end Go.Proofs.Ytfcphhbkmplclaa
