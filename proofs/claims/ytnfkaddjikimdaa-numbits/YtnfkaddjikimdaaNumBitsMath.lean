/-
  What and, or, exclusive or make of a number with room, with all ones, with nought, with itself; the closures 'one' of the laws.
-/
import Derived.Test.YtnfkaddjikimdaaNumSame
namespace Go.Proofs.Ytnfkaddjikimdaa
open Go.RowKit
set_option linter.unusedVariables false

theorem bitS_of {op x y z : Int} (hx : -(B 12) ≤ x ∧ x < B 12) (hy : -(B 12) ≤ y ∧ y < B 12) (h : ∀ i, bt z i = fop op (bt x i) (bt y i)) : bitS op x y = z :=
  (bz_one (fop op) 384 (by rw [T384]; exact hx.1) (by rw [T384]; exact hx.2) (by rw [T384]; exact hy.1) (by rw [T384]; exact hy.2) h).symm

theorem fitS_ok {z : Int} (h0 : -(B 12) < z) (h1 : z < B 12) : fitS z = some z := by unfold fitS; rw [if_pos ⟨h0, h1⟩]

theorem bits_math {x : Int} (h0 : -(B 11) < x) (h1 : x < B 11) :
    (opS 2 (-1) x).getD 0 = -1 - x ∧ (opS 6 x (-1)).getD 0 = x ∧ (opS 6 x 0).getD 0 = 0 ∧ (opS 7 x 0).getD 0 = x ∧ (opS 7 x (-1)).getD 0 = -1 ∧ (opS 8 x x).getD 0 = 0 ∧ (opS 8 x (-1)).getD 0 = -1 - x ∧ (opS 8 x 0).getD 0 = x ∧ (opS 6 x (-1 - x)).getD 0 = 0 := by
  have e : B 12 = 4294967296 * B 11 := rfl
  have hp := B_pos 11
  have hx : -(B 12) ≤ x ∧ x < B 12 := ⟨by omega, by omega⟩
  have h1' : -(B 12) ≤ (-1 : Int) ∧ (-1 : Int) < B 12 := ⟨by omega, by omega⟩
  have h0' : -(B 12) ≤ (0 : Int) ∧ (0 : Int) < B 12 := ⟨by omega, by omega⟩
  have hn' : -(B 12) ≤ -1 - x ∧ -1 - x < B 12 := ⟨by omega, by omega⟩
  have a1 : bitS 6 x (-1) = x := bitS_of hx h1' (fun i => by rw [bt_neg_one]; simp [fop])
  have a2 : bitS 6 x 0 = 0 := bitS_of hx h0' (fun i => by rw [bt_of_zero]; simp [fop])
  have a3 : bitS 7 x 0 = x := bitS_of hx h0' (fun i => by rw [bt_of_zero]; simp [fop])
  have a4 : bitS 7 x (-1) = -1 := bitS_of hx h1' (fun i => by rw [bt_neg_one]; simp [fop])
  have a5 : bitS 8 x x = 0 := bitS_of hx hx (fun i => by rw [bt_of_zero]; simp [fop])
  have a6 : bitS 8 x (-1) = -1 - x := bitS_of hx h1' (fun i => by rw [bt_neg_one, bt_not]; simp [fop])
  have a7 : bitS 8 x 0 = x := bitS_of hx h0' (fun i => by rw [bt_of_zero]; simp [fop])
  have a8 : bitS 6 x (-1 - x) = 0 := bitS_of hx hn' (fun i => by rw [bt_of_zero, bt_not]; simp [fop])
  rw [opS_2, opS_6, opS_6, opS_7, opS_7, opS_8, opS_8, opS_8, opS_6, a1, a2, a3, a4, a5, a6, a7, a8]
  rw [fitS_ok (z := -1 - x) (by omega) (by omega), fitS_ok (z := x) (by omega) (by omega), fitS_ok (z := 0) (by omega) (by omega), fitS_ok (z := -1) (by omega) (by omega)]
  simp

theorem small_of {n : Bool} {zs : List Int} (hok : Ok zs) {k : Nat} (hl : zs.length ≤ k) : -(B k) < Z n (V zs) ∧ Z n (V zs) < B k := by
  have h1 := V_lt hok
  have h2 := B_mono hl
  have h3 := V_nonneg hok
  have h4 := B_pos k
  cases n <;> simp [Z] <;> omega
end Go.Proofs.Ytnfkaddjikimdaa
