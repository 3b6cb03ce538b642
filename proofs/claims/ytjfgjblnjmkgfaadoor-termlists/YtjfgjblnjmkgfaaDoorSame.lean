
/-
  relictlaw00.Limbs: a slice in new memory.
-/
import Derived.Test.YtjfgjblnjmkgfaaDoorAppZ
import Derived.Test.YtjfgjblnjmkgfaaDoorSameL
namespace Go.Proofs.YtjfgjblnjmkgfaaDoor
open Go.RowKit
set_option linter.unusedVariables false

def LimbsPost (w : World) (a : List Int) (e : Ending) (w' : World) : Prop := ∃ v, e = .returned v ∧ Owns w' w.heap.size v a ∧ Below w.heap.size w w'

end Go.Proofs.YtjfgjblnjmkgfaaDoor
