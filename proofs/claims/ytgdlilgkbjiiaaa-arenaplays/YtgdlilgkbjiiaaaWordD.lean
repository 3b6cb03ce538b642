
/-
  word: what is told of a word.
-/
import Derived.Test.YtgdlilgkbjiiaaaWordC
namespace Go.Proofs.Ytgdlilgkbjiiaaa
open Go.RowKit
set_option linter.unusedVariables false
set_option linter.unusedSimpArgs false

end Go.Proofs.Ytgdlilgkbjiiaaa
