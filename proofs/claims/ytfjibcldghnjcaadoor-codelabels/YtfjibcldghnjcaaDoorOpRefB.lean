
/-
  relictref07.letter.
-/
import Derived.Test.YtfjibcldghnjcaaDoorOpRefA
namespace Go.Proofs.YtfjibcldghnjcaaDoor
open Go.RowKit
set_option linter.unusedVariables false
set_option linter.unusedSimpArgs false

def srcA (a : Ag) : Bool := srcT a.t a.n
/-- Whether an operand is by a letter, by the document. -/
def rletA (c : Int) (a : Ag) : Bool :=
  if c = 117 then decide (a.t = 0) else if c = 97 then decide (a.t = 2) && decide (0 < a.n) else if c = 115 then srcA a else if c = 100 then regT a.t a.n
  else if c = 120 then regT a.t a.n && decide (a.t = 3) else if c = 121 then regT a.t a.n && decide (a.t = 4) else if c = 108 then decide (a.t = 5) && decide (0 < a.n)
  else if c = 102 then decide (a.t = 5) else if c = 80 then decide (a.t = 7) && rpairsB a.kids else a.kids.all srcA && decide (a.t = 7)
/-- The letters there are. -/
def isLet (c : Int) : Prop := c = 117 ∨ c = 97 ∨ c = 115 ∨ c = 100 ∨ c = 120 ∨ c = 121 ∨ c = 108 ∨ c = 102 ∨ c = 80 ∨ c = 83
end Go.Proofs.YtfjibcldghnjcaaDoor
