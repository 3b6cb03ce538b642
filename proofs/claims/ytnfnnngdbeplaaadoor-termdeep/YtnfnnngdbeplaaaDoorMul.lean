
/-
  limb.Mul: the product: for every two slices of uint32 that are not too long.
-/
import Derived.Test.YtnfnnngdbeplaaaDoorAdd
namespace Go.Proofs.YtnfnnngdbeplaaaDoor
open Go.RowKit
set_option linter.unusedVariables false

theorem prod_lt {x y z b : Int} (hb : 1 ≤ b) (hx0 : 0 ≤ x) (hx : x < b) (hy0 : 0 ≤ y) (hy : y < b) (hz0 : 0 ≤ z) (hz : z < 4294967296) : x + y * z < 4294967296 * b := by
  have h1 : y * z ≤ (b - 1) * 4294967295 := Int.mul_le_mul (by omega) (by omega) hz0 (by omega)
  omega

theorem mul_step (Z C A X' : List Int) (k : Nat) (x c : Int) (hC : Ok C) (hZ : Ok Z) (hX : Ok X') (hlen : k + (C.length + 1) ≤ Z.length) (hV : V Z = V (A.take k) * V C) (hz : ∀ j, k + C.length ≤ j → Z.getD j 0 = 0)
    (hx : x = A.getD k 0) (hx0 : 0 ≤ x) (hx1 : x < 4294967296) (hl : X'.length = ((Z.drop k).take (C.length + 1)).length) (hc0 : 0 ≤ c)
    (h : V X' + B ((Z.drop k).take (C.length + 1)).length * c = V ((Z.drop k).take (C.length + 1)) + V (C.take ((Z.drop k).take (C.length + 1)).length) * x) :
    V (Z.take k ++ (X' ++ Z.drop (k + (C.length + 1)))) = V (A.take (k + 1)) * V C ∧ (∀ j, k + 1 + C.length ≤ j → (Z.take k ++ (X' ++ Z.drop (k + (C.length + 1)))).getD j 0 = 0) ∧
      (Z.take k ++ (X' ++ Z.drop (k + (C.length + 1)))).length = Z.length := by
  have e0 : ((Z.drop k).take (C.length + 1)).length = C.length + 1 := by simp; omega
  rw [e0] at h hl
  rw [List.take_of_length_le (l := C) (by omega)] at h
  have hXok : Ok ((Z.drop k).take (C.length + 1)) := (hZ.drop _).take _
  have e1 : V ((Z.drop k).take (C.length + 1)) = V ((Z.drop k).take C.length) := by
    rw [V_take_next]
    have : (Z.drop k).getD C.length 0 = 0 := by
      have := hz (k + C.length) (Nat.le_refl _)
      simpa [List.getD] using this
    rw [this]; omega
  have e2 : ((Z.drop k).take C.length).length = C.length := by simp; omega
  have b1 := V_lt ((hZ.drop k).take C.length)
  rw [e2, ← e1] at b1
  have b2 := V_nonneg hXok
  have b3 := V_lt hC
  have b4 := V_nonneg hC
  have b5 := B_pos C.length
  have b6 := V_nonneg hX
  have b7 := prod_lt (by omega) b2 b1 b4 b3 hx0 hx1
  have hc : c = 0 := by
    by_cases hc : c = 0
    · exact hc
    · have : B (C.length + 1) * 1 ≤ B (C.length + 1) * c := Int.mul_le_mul_of_nonneg_left (by omega) (Int.le_of_lt (B_pos _))
      simp only [B] at this h
      omega
  subst hc
  have s1 := V_split Z k (by omega)
  have s2 := V_split (Z.drop k) (C.length + 1) (by simp; omega)
  rw [List.drop_drop] at s2
  have hS : V (Z.drop (k + (C.length + 1))) = 0 := by
    apply V_zeros
    intro i hi
    have := hz (k + (C.length + 1) + i) (by omega)
    simpa [List.getD] using this
  refine ⟨?_, ?_, ?_⟩
  · rw [V_append, V_append, hS, V_take_next A, ← hx]
    have e3 : (Z.take k).length = k := by simp; omega
    rw [e3, Int.mul_zero, Int.add_zero]
    rw [hS, Int.mul_zero, Int.add_zero] at s2
    rw [s2] at s1
    have e4 : V X' = V ((Z.drop k).take (C.length + 1)) + V C * x := by omega
    rw [e4, Int.mul_add, Int.add_mul, ← hV, s1, Int.mul_assoc, Int.mul_comm x]
    omega
  · intro j hj
    have e3 : (Z.take k).length = k := by simp; omega
    simp only [List.getD_eq_getElem?_getD]
    rw [List.getElem?_append_right (by omega), e3, List.getElem?_append_right (by omega), hl, List.getElem?_drop]
    have := hz (k + (C.length + 1) + (j - k - (C.length + 1))) (by omega)
    simpa [List.getD] using this
  · simp; omega

theorem cut3 (Z : List Int) (k n : Nat) : Z = Z.take k ++ ((Z.drop k).take n ++ Z.drop (k + n)) := by
  rw [← List.drop_drop, List.take_append_drop, List.take_append_drop]

end Go.Proofs.YtnfnnngdbeplaaaDoor
