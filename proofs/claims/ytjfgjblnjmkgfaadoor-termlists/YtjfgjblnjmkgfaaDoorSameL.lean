
/-
  relictlaw00.SameLimbs: true of two slices of the same limbs.
-/
import Derived.Test.YtjfgjblnjmkgfaaDoorZLimbA
namespace Go.Proofs.YtjfgjblnjmkgfaaDoor
open Go.RowKit
set_option linter.unusedVariables false

end Go.Proofs.YtjfgjblnjmkgfaaDoor
