
/-
  relictref07.Fits: just what the program's own says.
-/
import Derived.Test.YtfjibcldghnjcaaDoorOpRefC
import Derived.Test.YtfjibcldghnjcaaDoorNth
namespace Go.Proofs.YtfjibcldghnjcaaDoor
open Go.RowKit
set_option linter.unusedVariables false
set_option linter.unusedSimpArgs false

end Go.Proofs.YtfjibcldghnjcaaDoor
