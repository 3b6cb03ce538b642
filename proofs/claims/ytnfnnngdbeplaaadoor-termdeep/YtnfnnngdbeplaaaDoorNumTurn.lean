
/-
  num.oneLess, num.oneMore, num.turned.
-/
import Derived.Test.YtnfnnngdbeplaaaDoorNumDiv
import Derived.Test.YtnfnnngdbeplaaaDoorBitMath
namespace Go.Proofs.YtnfnnngdbeplaaaDoor
open Go.RowKit
set_option linter.unusedVariables false

/-- Each bit turned. -/
def TurnPost (w : World) (a : List Int) (e : Ending) (w' : World) : Prop :=
  ∃ g Z, e = .returned (.slice (some ⟨g, 0, none⟩) a.length a.length) ∧ Row w' g Z ∧ Ok Z ∧ Z.length = a.length ∧ (∀ i, i < a.length → Z.getD i 0 = 4294967295 - a.getD i 0) ∧ Below w.heap.size w w' ∧ w.heap.size ≤ g

theorem V_turned {a Z : List Int} (hl : Z.length = a.length) (h : ∀ i, i < a.length → Z.getD i 0 = 4294967295 - a.getD i 0) : V Z = B a.length - 1 - V a := by
  induction a generalizing Z with
  | nil =>
    cases Z with
    | nil => rfl
    | cons z t => simp at hl
  | cons x t ih =>
    cases Z with
    | nil => simp at hl
    | cons z u =>
      have h0 := h 0 (by simp)
      have := ih (Z := u) (by simpa using hl) (fun i hi => by have := h (i + 1) (by simpa using hi); simpa using this)
      simp at h0
      simp only [V, List.length_cons, B, this]
      omega

theorem not_nat (x : Nat) (h : x < 4294967296) : 4294967295 ^^^ x = 4294967295 - x := by
  have hp : (2 : Nat) ^ 32 = 4294967296 := by decide
  apply Nat.eq_of_testBit_eq
  intro i
  rw [Nat.testBit_xor, show (4294967295 : Nat) = 2 ^ 32 - 1 by decide, show 2 ^ 32 - 1 - x = 2 ^ 32 - (x + 1) by omega, Nat.testBit_two_pow_sub_one, Nat.testBit_two_pow_sub_succ (by omega)]
  by_cases hi : i < 32
  · simp [hi]
  · have : x.testBit i = false := Nat.testBit_lt_two_pow (Nat.lt_of_lt_of_le (show x < 2 ^ 32 by omega) (Nat.pow_le_pow_right (by decide) (by omega)))
    simp [hi, this]

theorem not_u32 (x : Int) (h0 : 0 ≤ x) (h1 : x < 4294967296) : bits BinOp.xor IntKind.u32 (if IntKind.u32.signed = true then -1 else IntKind.u32.max) x = 4294967295 - x := by
  have e : (if IntKind.u32.signed = true then -1 else IntKind.u32.max) = 4294967295 := by decide
  rw [e]
  obtain ⟨X, rfl⟩ := Int.eq_ofNat_of_zero_le h0
  rw [show (4294967295 : Int) = ((4294967295 : Nat) : Int) from rfl, u32_xor_nat _ _ (by decide) (by omega), not_nat X (by omega)]
  omega

end Go.Proofs.YtnfnnngdbeplaaaDoor
