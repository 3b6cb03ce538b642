/-
  relictlaw00.Place.
-/
import Derived.Test.YtbmondbicnfcpaaDoorZLimbB
namespace Go.Proofs.YtbmondbicnfcpaaDoor
open Go.RowKit
set_option linter.unusedVariables false

set_option maxHeartbeats 1000000 in
/-- A number as one from 0 to m - 1. -/
theorem place_any (v m : Int) (w : World) (hm : 0 < m) (hm2 : m ≤ 1073741824) (hv1 : -9223372036854775808 ≤ v) (hv2 : v ≤ 9223372036854775807) :
    Calls Tryd.prog 24 #[.int .i64 v, .int .i64 m] w fun e w' => e = .returned (.int .i64 (v % m)) ∧ w = w' := by
  obtain ⟨t1, t2, t3⟩ := tmod_place v m hm
  have T1 : Hid _ := t1
  have T2 : Hid _ := t2
  clear t1 t2
  by_cases h : v.tmod m < 0
  · go_enter Tryd.func24, Tryd.ntmps24
    go_wp2_with fail
    go_ret
    exact ⟨congrArg Ending.returned (congrArg (Value.int IntKind.i64) (T1.out h)), rfl⟩
  · go_enter Tryd.func24, Tryd.ntmps24
    go_wp2_with fail
    go_ret
    exact ⟨congrArg Ending.returned (congrArg (Value.int IntKind.i64) (T2.out h)), rfl⟩
end Go.Proofs.YtbmondbicnfcpaaDoor
