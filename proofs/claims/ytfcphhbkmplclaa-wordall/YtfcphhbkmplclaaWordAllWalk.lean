/-
  relictlaw10.WordAll.
-/
import Derived.Test.YtfcphhbkmplclaaWordAw
namespace Go.Proofs.Ytfcphhbkmplclaa
open Go.RowKit
set_option linter.unusedVariables false
set_option linter.unusedSimpArgs false

set_option maxRecDepth 100000 in
set_option maxHeartbeats 4000000 in
theorem wordAll_walk (v n tag x : Int) (w : World) (v1 : -9223372036854775808 ≤ v) (v2 : v ≤ 9223372036854775807) (n1 : -9223372036854775808 ≤ n) (n2 : n ≤ 9223372036854775807) (t1 : -9223372036854775808 ≤ tag) (t2 : tag ≤ 9223372036854775807) (x1 : 0 ≤ x) (x2 : x ≤ 18446744073709551615) :
    Calls Try.prog 3 #[.int .i64 v, .int .i64 n, .int .i64 tag, .int .u64 x] w fun e w' => e = .returned (.bool true) ∧ Below w.heap.size w w' := by
  have H0 : Hid (∀ W, Calls Try.prog 7 #[.int .u64 x] W fun e w' => e = .returned (.tuple #[.int .i64 (intR x), .bool (decide (x % 16 = 3))]) ∧ W = w') := fun W => wintOf_any x W x1 (by omega)
  have H1 : Hid (∀ W, Calls Try.prog 8 #[.int .u64 x] W fun e w' => e = .returned (.tuple #[.int .i64 (intR x), .bool (decide (x % 16 = 3))]) ∧ W = w') := fun W => rintOf_w x W x1 (by omega)
  have H2 : Hid (∀ W, Calls Try.prog 9 #[.int .u64 x] W fun e w' => e = .returned (.tuple #[.int .i64 (abR 7 x), .bool (decide (x % 16 = 7))]) ∧ W = w') := fun W => wisAtom_any x W x1 (by omega)
  have H3 : Hid (∀ W, Calls Try.prog 10 #[.int .u64 x] W fun e w' => e = .returned (.tuple #[.int .i64 (abR 7 x), .bool (decide (x % 16 = 7))]) ∧ W = w') := fun W => risatom_w x W x1 (by omega)
  have H4 : Hid (∀ W, Calls Try.prog 11 #[.int .u64 x] W fun e w' => e = .returned (.tuple #[.int .i64 (abR 15 x), .bool (decide (x % 16 = 15))]) ∧ W = w') := fun W => wisCatch_any x W x1 (by omega)
  have H5 : Hid (∀ W, Calls Try.prog 12 #[.int .u64 x] W fun e w' => e = .returned (.tuple #[.int .i64 (abR 15 x), .bool (decide (x % 16 = 15))]) ∧ W = w') := fun W => riscatch_w x W x1 (by omega)
  have H6 : Hid (∀ W, Calls Try.prog 13 #[.int .u64 x] W fun e w' => e = .returned (.tuple #[.int .i64 (hkR x), .int .i64 (hsR x), .bool (decide (x % 4 = 0))]) ∧ W = w') := fun W => wheadOf_any x W x1 (by omega)
  have H7 : Hid (∀ W, Calls Try.prog 14 #[.int .u64 x] W fun e w' => e = .returned (.tuple #[.int .i64 (hkR x), .int .i64 (hsR x), .bool (decide (x % 4 = 0))]) ∧ W = w') := fun W => rheadOf_w x W x1 (by omega)
  have H8 : Hid (∀ W, Calls Try.prog 15 #[.int .i64 v] W fun e w' => e = .returned (.int .u64 (smW v)) ∧ W = w') := fun W => wsmall_any v W v1 v2
  have H9 : Hid (∀ W, Calls Try.prog 16 #[.int .i64 v] W fun e w' => e = .returned (.int .u64 (smW v)) ∧ W = w') := fun W => rsmall_any v W v1 v2
  have H10 : Hid (∀ W, Calls Try.prog 17 #[.int .i64 v] W fun e w' => e = .returned (.int .u64 (atW v)) ∧ W = w') := fun W => watomof_any v W v1 v2
  have H11 : Hid (∀ W, Calls Try.prog 18 #[.int .i64 v] W fun e w' => e = .returned (.int .u64 (atW v)) ∧ W = w') := fun W => ratomof_w v W v1 v2
  have H12 : Hid (∀ W, Calls Try.prog 19 #[.int .i64 v] W fun e w' => e = .returned (.int .u64 (caW v)) ∧ W = w') := fun W => wcatch_any v W v1 v2
  have H13 : Hid (∀ W, Calls Try.prog 20 #[.int .i64 v] W fun e w' => e = .returned (.int .u64 (caW v)) ∧ W = w') := fun W => rcatch_w v W v1 v2
  have H14 : Hid (∀ W, Calls Try.prog 21 #[.int .i64 tag, .int .i64 v] W fun e w' => e = .returned (.int .u64 (poW tag v)) ∧ W = w') := fun W => wpointer_any tag v W v1 v2 t1 t2
  have H15 : Hid (∀ W, Calls Try.prog 22 #[.int .i64 tag, .int .i64 v] W fun e w' => e = .returned (.int .u64 (poW tag v)) ∧ W = w') := fun W => rpointer_w tag v W v1 v2
  have H16 : Hid (∀ W, Calls Try.prog 23 #[.int .i64 n, .int .i64 v] W fun e w' => e = .returned (.int .u64 (heW n v)) ∧ W = w') := fun W => whead_any n v W v1 v2 n1 n2
  have H17 : Hid (∀ W, Calls Try.prog 24 #[.int .i64 n, .int .i64 v] W fun e w' => e = .returned (.int .u64 (heW n v)) ∧ W = w') := fun W => rhead_w n v W v1 v2
  have H18 : Hid (∀ W, Calls Try.prog 25 #[.int .u64 x] W fun e w' => e = .returned (.int .i64 (x % 4)) ∧ W = w') := fun W => wtag_any x W x1 (by omega)
  have H19 : Hid (∀ W, Calls Try.prog 26 #[.int .u64 x] W fun e w' => e = .returned (.int .i64 (x % 4)) ∧ W = w') := fun W => rtag_w x W x1 (by omega)
  have H20 : Hid (∀ W, Calls Try.prog 27 #[.int .u64 x] W fun e w' => e = .returned (.int .i64 (plR x)) ∧ W = w') := fun W => wat_any x W x1 (by omega)
  have H21 : Hid (∀ W, Calls Try.prog 28 #[.int .u64 x] W fun e w' => e = .returned (.int .i64 (plR x)) ∧ W = w') := fun W => rat_w x W x1 (by omega)
  generalize intR x = z0 at *
  generalize abR 7 x = z1 at *
  generalize abR 15 x = z2 at *
  generalize hkR x = z3 at *
  generalize hsR x = z4 at *
  generalize smW v = z5 at *
  generalize atW v = z6 at *
  generalize caW v = z7 at *
  generalize poW tag v = z8 at *
  generalize heW n v = z9 at *
  generalize plR x = z10 at *
  generalize decide (x % 16 = 3) = z11 at *
  generalize decide (x % 16 = 7) = z12 at *
  generalize decide (x % 16 = 15) = z13 at *
  generalize decide (x % 4 = 0) = z14 at *
  generalize x % 4 = z15 at *
  clear v1 v2 n1 n2 t1 t2 x1 x2
  go_enter Try.func3, Try.ntmps3
  go_wp2_with fail
  refine (H0.out _).mono ?_
  clear H0
  rintro e wq ⟨rfl, rfl⟩
  go_wp2_with fail
  refine (H1.out _).mono ?_
  clear H1
  rintro e wq ⟨rfl, rfl⟩
  go_wp2_with fail
  refine (H2.out _).mono ?_
  clear H2
  rintro e wq ⟨rfl, rfl⟩
  go_wp2_with fail
  refine (H3.out _).mono ?_
  clear H3
  rintro e wq ⟨rfl, rfl⟩
  go_wp2_with fail
  refine (H4.out _).mono ?_
  clear H4
  rintro e wq ⟨rfl, rfl⟩
  go_wp2_with fail
  refine (H5.out _).mono ?_
  clear H5
  rintro e wq ⟨rfl, rfl⟩
  go_wp2_with fail
  refine (H6.out _).mono ?_
  clear H6
  rintro e wq ⟨rfl, rfl⟩
  go_wp2_with fail
  refine (H7.out _).mono ?_
  clear H7
  rintro e wq ⟨rfl, rfl⟩
  go_wp2_with fail
  refine (H8.out _).mono ?_
  clear H8
  rintro e wq ⟨rfl, rfl⟩
  go_wp2_with fail
  refine (H9.out _).mono ?_
  clear H9
  rintro e wq ⟨rfl, rfl⟩
  go_wp2_with fail
  refine (H10.out _).mono ?_
  clear H10
  rintro e wq ⟨rfl, rfl⟩
  go_wp2_with fail
  refine (H11.out _).mono ?_
  clear H11
  rintro e wq ⟨rfl, rfl⟩
  go_wp2_with fail
  refine (H12.out _).mono ?_
  clear H12
  rintro e wq ⟨rfl, rfl⟩
  go_wp2_with fail
  refine (H13.out _).mono ?_
  clear H13
  rintro e wq ⟨rfl, rfl⟩
  go_wp2_with fail
  refine (H14.out _).mono ?_
  clear H14
  rintro e wq ⟨rfl, rfl⟩
  go_wp2_with fail
  refine (H15.out _).mono ?_
  clear H15
  rintro e wq ⟨rfl, rfl⟩
  go_wp2_with fail
  refine (H16.out _).mono ?_
  clear H16
  rintro e wq ⟨rfl, rfl⟩
  go_wp2_with fail
  refine (H17.out _).mono ?_
  clear H17
  rintro e wq ⟨rfl, rfl⟩
  go_wp2_with fail
  refine (H18.out _).mono ?_
  clear H18
  rintro e wq ⟨rfl, rfl⟩
  go_wp2_with fail
  refine (H19.out _).mono ?_
  clear H19
  rintro e wq ⟨rfl, rfl⟩
  go_wp2_with fail
  refine (H20.out _).mono ?_
  clear H20
  rintro e wq ⟨rfl, rfl⟩
  go_wp2_with fail
  refine (H21.out _).mono ?_
  clear H21
  rintro e wq ⟨rfl, rfl⟩
  go_wp2_with fail
  refine (awake10 _).mono ?_
  rintro e wq ⟨rfl, rfl⟩
  go_wp2_with fail
  go_ret
  exact ⟨rfl, Below.refl _ _⟩
end Go.Proofs.Ytfcphhbkmplclaa
