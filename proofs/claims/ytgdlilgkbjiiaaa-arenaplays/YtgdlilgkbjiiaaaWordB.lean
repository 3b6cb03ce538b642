
/-
  word.now, isOf, above.
-/
import Derived.Test.YtgdlilgkbjiiaaaWordA
namespace Go.Proofs.Ytgdlilgkbjiiaaa
open Go.RowKit
set_option linter.unusedVariables false
set_option linter.unusedSimpArgs false

end Go.Proofs.Ytgdlilgkbjiiaaa
