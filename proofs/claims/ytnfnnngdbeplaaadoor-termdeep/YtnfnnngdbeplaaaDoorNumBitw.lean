
/-
  num.bitwise: and, or, exclusive or of two numbers that may be.
-/
import Derived.Test.YtnfnnngdbeplaaaDoorBitLimb
namespace Go.Proofs.YtnfnnngdbeplaaaDoor
open Go.RowKit
set_option linter.unusedVariables false

/-- Bit by bit. -/
def bitS (op x y : Int) : Int := bz (fop op) 384 x y

theorem getD_set_ne' (Z : List Int) (k j : Nat) (y : Int) (h : j ≠ k) : (Z.set k y).getD j 0 = Z.getD j 0 := by
  simp only [List.getD_eq_getElem?_getD]
  rw [List.getElem?_set_ne (by omega)]
theorem getD_set_eq' (Z : List Int) (k : Nat) (y : Int) (h : k < Z.length) : (Z.set k y).getD k 0 = y := by
  simp [List.getD, h]

/-- What the loop has done: limbs below k are put together, those above are as they were. -/
def BwRel (op : Int) (A C O : List Int) (k : Nat) : Prop := O.length = A.length ∧ Ok O ∧ (∀ j, j < k → O.getD j 0 = lb op (A.getD j 0) (C.getD j 0)) ∧ ∀ j, k ≤ j → O.getD j 0 = A.getD j 0

theorem BwRel.step {op : Int} {A C O : List Int} {k : Nat} (h : BwRel op A C O k) (hA : Ok A) (hC : Ok C) (hk : k < A.length) {z : Int} (hz : z = lb op (A.getD k 0) (C.getD k 0)) : BwRel op A C (O.set k z) (k + 1) := by
  obtain ⟨h1, h2, h3, h4⟩ := h
  have a := hA.getD k
  have c := hC.getD k
  have hb := lb_spec op _ _ a.1 a.2 c.1 c.2
  rw [← hz] at hb
  refine ⟨by simpa using h1, h2.set k hb.1 hb.2.1, fun j hj => ?_, fun j hj => ?_⟩
  · by_cases e : j = k
    · subst e; rw [getD_set_eq' _ _ _ (by omega), hz]
    · rw [getD_set_ne' _ _ _ _ e]; exact h3 j (by omega)
  · rw [getD_set_ne' _ _ _ _ (by omega)]; exact h4 j (by omega)

end Go.Proofs.YtnfnnngdbeplaaaDoor
