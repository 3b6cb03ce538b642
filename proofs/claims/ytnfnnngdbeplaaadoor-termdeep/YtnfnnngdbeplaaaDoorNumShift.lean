
/-
  num.steps, num.shift: a number times 2^y, or by 2^-y, rounded down.
-/
import Derived.Test.YtnfnnngdbeplaaaDoorNumBitw
namespace Go.Proofs.YtnfnnngdbeplaaaDoor
open Go.RowKit
set_option linter.unusedVariables false

/-- How far a shift goes. -/
def farS (y : Int) : Int := min (y.natAbs : Int) 10000

/-- A shift, up or down. -/
def shS (x y : Int) : Int := if 0 ≤ y then x * T (upN (farS y)) else x / T (downN (farS y))

theorem floor_neg {A t : Int} (ht : 0 < t) : -((A - 1) / t + 1) = -A / t := by
  have h1 := Int.emod_add_mul_ediv (A - 1) t
  have h2 := Int.emod_nonneg (A - 1) (show t ≠ 0 by omega)
  have h3 := Int.emod_lt_of_pos (A - 1) ht
  have e : t * -((A - 1) / t + 1) = -(t * ((A - 1) / t)) - t := by rw [Int.mul_neg, Int.mul_add, Int.mul_one]; omega
  exact ((Int.ediv_emod_unique ht (r := t - 1 - (A - 1) % t) (q := -((A - 1) / t + 1))).2 ⟨by rw [e]; omega, by omega, by omega⟩).1.symm

end Go.Proofs.YtnfnnngdbeplaaaDoor
