
/-
  num.spread: the bits of a number that may be, in n limbs, one more than it has at least; num.gather: the number of which these are the bits.
-/
import Derived.Test.YtnfnnngdbeplaaaDoorNumTurn
namespace Go.Proofs.YtnfnnngdbeplaaaDoor
open Go.RowKit
set_option linter.unusedVariables false

/-- n limbs in new memory: x, or 2^(32 n) more, if it is below 0. -/
def SpPost (w : World) (n : Nat) (x : Int) (e : Ending) (w' : World) : Prop :=
  ∃ g L, e = .returned (.slice (some ⟨g, 0, none⟩) n n) ∧ Row w' g L ∧ Ok L ∧ L.length = n ∧ V L = (if x < 0 then x + B n else x) ∧ Below w.heap.size w w' ∧ w.heap.size ≤ g

theorem V_over (n : Nat) (A : List Int) (h : A.length ≤ n) : V (over (zer n) 0 A) = V A := by
  simp only [over, List.take_zero, List.nil_append]
  rw [V_append]
  have : (zer n).drop (0 + A.length) = zer (n - A.length) := by simp [zer]
  rw [this, zer_V]; omega

end Go.Proofs.YtnfnnngdbeplaaaDoor
