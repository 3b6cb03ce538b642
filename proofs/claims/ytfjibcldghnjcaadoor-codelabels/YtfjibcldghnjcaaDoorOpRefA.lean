
/-
  relictref07: register, source, pairs, letter.
-/
import Derived.Test.YtfjibcldghnjcaaDoorZOpD
import Derived.Test.YtfjibcldghnjcaaDoorCrK
namespace Go.Proofs.YtfjibcldghnjcaaDoor
open Go.RowKit
set_option linter.unusedVariables false
set_option linter.unusedSimpArgs false

def regT (t n : Int) : Bool := decide (t = 3 ∧ n < 16 ∨ t = 4 ∧ n < 12)
def srcT (t n : Int) : Bool := regT t n || decide (t = 1 ∨ t = 2 ∨ t = 6)
/-- Whether the pair with this number is one, by the document. -/
def rpB (K : List Ag) (j : Nat) : Bool := coA (K.getD (2 * j) zA) && decide ((K.getD (2 * j + 1) zA).t = 5) && decide ((K.getD (2 * j + 1) zA).n ≠ 0) && (List.range j).all (fun e => !sameTN (K.getD (2 * e) zA) (K.getD (2 * j) zA))
def rpairsB (K : List Ag) : Bool := decide (K.length % 2 = 0) && (List.range (K.length / 2)).all (rpB K)
theorem rpairs_no {K : List Ag} {j : Nat} (hj : 2 * j + 1 < K.length) (h : rpB K j = false) : rpairsB K = false := by
  unfold rpairsB
  cases hr : (List.range (K.length / 2)).all (rpB K)
  · simp
  · have := List.all_eq_true.1 hr j (List.mem_range.2 (by omega))
    rw [h] at this
    cases this
theorem rpairs_yes {K : List Ag} (h2 : K.length % 2 = 0) (h : ∀ j, 2 * j < K.length → rpB K j = true) : rpairsB K = true := by
  unfold rpairsB
  simp only [h2, decide_true, Bool.true_and]
  exact List.all_eq_true.2 (fun j hj => h j (by have := List.mem_range.1 hj; omega))

end Go.Proofs.YtfjibcldghnjcaaDoor
