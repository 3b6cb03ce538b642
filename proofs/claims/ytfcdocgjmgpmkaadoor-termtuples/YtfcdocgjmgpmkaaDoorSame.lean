
/-
  relictlaw00.Limbs: a slice in new memory.
-/
import Derived.Test.YtfcdocgjmgpmkaaDoorAppZ
import Derived.Test.YtfcdocgjmgpmkaaDoorSameL
namespace Go.Proofs.YtfcdocgjmgpmkaaDoor
open Go.RowKit
set_option linter.unusedVariables false

def LimbsPost (w : World) (a : List Int) (e : Ending) (w' : World) : Prop := ∃ v, e = .returned v ∧ Owns w' w.heap.size v a ∧ Below w.heap.size w w'

end Go.Proofs.YtfcdocgjmgpmkaaDoor
