/-
  Words as numbers: what word's functions answer, in plain numbers; the bits' laws.
-/
import Derived.Test.YtgdlilgkbjiiaaaProg
import Derived.WalkKit
import Derived.WalkSpells
import Derived.WalkLawsBesides
import Derived.Laws.BitsAllLaws
import Derived.Below
namespace Go.Proofs.Ytgdlilgkbjiiaaa
open Go.RowKit
set_option linter.unusedVariables false
set_option linter.unusedSimpArgs false

/-- n, cut to from 0 to 2^40. -/
def cutW (n : Int) : Int := min (max n 0) 1099511627776
/-- v, cut to what is small. -/
def cutS (v : Int) : Int := min (max v (-576460752303423488)) 576460752303423487

theorem cutW_bd (n : Int) : 0 ≤ cutW n ∧ cutW n ≤ 1099511627776 := by unfold cutW; omega
theorem cutS_bd (n : Int) : -576460752303423488 ≤ cutS n ∧ cutS n ≤ 576460752303423487 := by unfold cutS; omega

/-- The words. -/
def smW (v : Int) : Int := (cutS v * 16) % 18446744073709551616 + 3
def atW (n : Int) : Int := cutW n * 16 + 7
def caW (n : Int) : Int := cutW n * 16 + 15
def poW (tag n : Int) : Int := cutW n * 4 + tag % 4
def heW (k n : Int) : Int := cutW n * 64 + k % 16 * 4
/-- What they are: the number, and whether. -/
def intR (w : Int) : Int := if w % 16 = 3 then (if w < 9223372036854775808 then w / 16 else w / 16 - 1152921504606846976) else 0
def abR (s w : Int) : Int := if w % 16 = s then w / 16 else 0
def plR (w : Int) : Int := if w % 4 = 1 ∨ w % 4 = 2 then w / 4 else -1
def hkR (w : Int) : Int := if w % 4 = 0 then w / 4 % 16 else 0
def hsR (w : Int) : Int := if w % 4 = 0 then w / 64 else 0

theorem smW_bd (v : Int) : 0 ≤ smW v ∧ smW v < 18446744073709551616 := by
  have := cutS_bd v
  unfold smW; omega
theorem atW_bd (v : Int) : 0 ≤ atW v ∧ atW v < 18446744073709551616 := by have := cutW_bd v; unfold atW; omega
theorem caW_bd (v : Int) : 0 ≤ caW v ∧ caW v < 18446744073709551616 := by have := cutW_bd v; unfold caW; omega
theorem poW_bd (t v : Int) : 0 ≤ poW t v ∧ poW t v < 18446744073709551616 := by have := cutW_bd v; unfold poW; omega
theorem heW_bd (t v : Int) : 0 ≤ heW t v ∧ heW t v < 18446744073709551616 := by have := cutW_bd v; unfold heW; omega

theorem and_low (i : Nat) (x m : Int) (h0 : 0 ≤ x) (h1 : x < 18446744073709551616) (hm : m = ((2 ^ i - 1 : Nat) : Int)) (hi : i ≤ 63) : bits .and .u64 x m = x % ((2 ^ i : Nat) : Int) := by
  obtain ⟨X, rfl⟩ := Int.eq_ofNat_of_zero_le h0
  have hp : (2 : Nat) ^ i ≤ 2 ^ 63 := Nat.pow_le_pow_right (by decide) hi
  have hp3 : (2 : Nat) ^ 63 = 9223372036854775808 := by decide
  rw [hm, u64_and_nat _ _ (by omega) (by omega), Nat.and_two_pow_sub_one_eq_mod]
  simp
theorem and3 (x : Int) (h0 : 0 ≤ x) (h1 : x < 18446744073709551616) : bits .and .u64 x 3 = x % 4 := and_low 2 x 3 h0 h1 (by decide) (by decide)
theorem and15 (x : Int) (h0 : 0 ≤ x) (h1 : x < 18446744073709551616) : bits .and .u64 x 15 = x % 16 := and_low 4 x 15 h0 h1 (by decide) (by decide)
theorem or_low (i : Nat) (x y : Int) (hx0 : 0 ≤ x) (hx1 : x < 18446744073709551616) (hx : x % ((2 ^ i : Nat) : Int) = 0) (hy0 : 0 ≤ y) (hy : y < ((2 ^ i : Nat) : Int)) (hi : i ≤ 63) : bits .or .u64 x y = x + y := by
  obtain ⟨X, rfl⟩ := Int.eq_ofNat_of_zero_le hx0
  obtain ⟨Y, rfl⟩ := Int.eq_ofNat_of_zero_le hy0
  have hp : (2 : Nat) ^ i ≤ 2 ^ 63 := Nat.pow_le_pow_right (by decide) hi
  have hp3 : (2 : Nat) ^ 63 = 9223372036854775808 := by decide
  rw [u64_or_nat _ _ (by omega) (by omega), nat_join i X Y (by omega) (by omega)]
  simp
theorem iand3 (n : Int) : bits .and .i64 n 3 = n % 4 := by
  have h127 : (BitVec.ofInt 64 3).toNat = 2 ^ 2 - 1 := by decide
  have key : (BitVec.ofInt 64 n &&& BitVec.ofInt 64 3).toNat = (n % ((2 ^ 64 : Nat) : Int)).toNat % 2 ^ 2 := by
    rw [BitVec.toNat_and, BitVec.toNat_ofInt, h127, Nat.and_two_pow_sub_one_eq_mod]
  show IntKind.i64.wrap ((BitVec.ofInt 64 n &&& BitVec.ofInt 64 3).toNat : Nat) = n % 4
  rw [key, IntKind.wrap_i64]
  omega
theorem iand15 (n : Int) : bits .and .i64 n 15 = n % 16 := by
  have h127 : (BitVec.ofInt 64 15).toNat = 2 ^ 4 - 1 := by decide
  have key : (BitVec.ofInt 64 n &&& BitVec.ofInt 64 15).toNat = (n % ((2 ^ 64 : Nat) : Int)).toNat % 2 ^ 4 := by
    rw [BitVec.toNat_and, BitVec.toNat_ofInt, h127, Nat.and_two_pow_sub_one_eq_mod]
  show IntKind.i64.wrap ((BitVec.ofInt 64 n &&& BitVec.ofInt 64 15).toNat : Nat) = n % 16
  rw [key, IntKind.wrap_i64]
  omega

/-- One value is answered, and nothing that was there is turned. -/
def W1 (v : Value) (w : World) (e : Ending) (w' : World) : Prop := e = .returned v ∧ Below w.heap.size w w'
end Go.Proofs.Ytgdlilgkbjiiaaa
