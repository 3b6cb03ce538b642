/-
  The bounds of an integer that came in.
-/
import Derived.Test.YtbmondbicnfcpaaDoorProg
import Derived.ProofKit
namespace Go.Proofs.YtbmondbicnfcpaaDoor
theorem bdI {n : Int} (h : (Lit.int .i64 n).wf = true) : -9223372036854775808 ≤ n ∧ n ≤ 9223372036854775807 := by
  simp [Lit.wf, IntKind.min, IntKind.max, IntKind.signed, IntKind.bits] at h
  omega
end Go.Proofs.YtbmondbicnfcpaaDoor
