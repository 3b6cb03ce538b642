/-
  The k-th operation of a region, written out.
-/
import Derived.Test.YtfjibcldghnjcaaDoorProg
import Derived.WalkKit
import Derived.Deep.RegionHeld3
namespace Go.Proofs.YtfjibcldghnjcaaDoor
open Go.RowKit
set_option linter.unusedVariables false

def opNth : List Oper → Nat → Option Oper
  | [], _ => none
  | o :: _, 0 => some o
  | _ :: l, k + 1 => opNth l k
theorem opNth_eq : ∀ (l : List Oper) (k : Nat), opNth l k = l[k]?
  | [], _ => rfl
  | _ :: _, 0 => rfl
  | _ :: l, k + 1 => by simp [opNth, opNth_eq l k]
theorem opNth_ops {ops : Array Oper} {i : Nat} {o : Oper} (h : opNth ops.toList i = some o) : ops[i]? = some o := by
  rw [opNth_eq] at h
  simpa using h
end Go.Proofs.YtfjibcldghnjcaaDoor
