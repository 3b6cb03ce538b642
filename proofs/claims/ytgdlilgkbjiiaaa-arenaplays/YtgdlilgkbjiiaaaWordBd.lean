/-
  Bounds of an int and of a uint64 that came in.
-/
import Derived.Test.YtgdlilgkbjiiaaaProg
import Derived.OpenShut
namespace Go.Proofs.Ytgdlilgkbjiiaaa
open Go.RowKit
theorem bdI {n : Int} (h : (Lit.int .i64 n).wf = true) : -9223372036854775808 ≤ n ∧ n ≤ 9223372036854775807 := by
  simp [Lit.wf, IntKind.min, IntKind.max, IntKind.signed, IntKind.bits] at h
  omega
theorem bdX {n : Int} (h : (Lit.int .u64 n).wf = true) : 0 ≤ n ∧ n ≤ 18446744073709551615 := by
  simp [Lit.wf, IntKind.min, IntKind.max, IntKind.signed, IntKind.bits] at h
  omega
end Go.Proofs.Ytgdlilgkbjiiaaa
