
/-
  Operands as trees: Ag, IsG (a value that reads in a world as a tree), Gs (a slice that reads as trees).
-/
import Derived.Test.YtfjibcldghnjcaaDoorCpL
import Derived.Test.YtfjibcldghnjcaaDoorZCpN
namespace Go.Proofs.YtfjibcldghnjcaaDoor
open Go.RowKit
set_option linter.unusedVariables false
set_option linter.unusedSimpArgs false

end Go.Proofs.YtfjibcldghnjcaaDoor
