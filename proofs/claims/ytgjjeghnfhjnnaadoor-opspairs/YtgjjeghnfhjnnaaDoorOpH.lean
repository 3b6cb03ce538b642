
/-
  ops: Throws; relictlaw00's instructions.
-/
import Derived.Test.YtgjjeghnfhjnnaaDoorOpG
namespace Go.Proofs.YtgjjeghnfhjnnaaDoor
open Go.RowKit
set_option linter.unusedVariables false
set_option linter.unusedSimpArgs false

end Go.Proofs.YtgjjeghnfhjnnaaDoor
