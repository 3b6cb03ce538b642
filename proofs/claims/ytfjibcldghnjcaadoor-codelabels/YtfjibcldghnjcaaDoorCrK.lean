
/-
  relictref06.Check: just what the program's own says.
-/
import Derived.Test.YtfjibcldghnjcaaDoorAgA
namespace Go.Proofs.YtfjibcldghnjcaaDoor
open Go.RowKit
set_option linter.unusedVariables false
set_option linter.unusedSimpArgs false

theorem retB {a b : Bool} (h : a = b) : Ending.returned (.bool a) = .returned (.bool b) := by rw [h]
def CxPost (w : World) (q : Bool) (e : Ending) (w' : World) : Prop := e = .returned (.bool q) ∧ Below w.heap.size w w'

theorem ok1_seven {x : El} (h : x.t = 7) : x.ok1 = false := by
  unfold El.ok1 okN1
  rw [h, if_neg (by decide)]
  simp
/-- That all of the first may be. -/
def CxRel (w : World) (L : List El) (k : Nat) (wr : World) : Prop := Below w.heap.size w wr ∧ ∀ i (h : i < L.length), i < k → L[i].ok1 = true

end Go.Proofs.YtfjibcldghnjcaaDoor
