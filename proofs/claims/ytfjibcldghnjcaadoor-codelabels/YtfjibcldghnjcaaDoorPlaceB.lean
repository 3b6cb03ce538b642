/-
  relictlaw00.Place, up to 2^60.
-/
import Derived.Test.YtfjibcldghnjcaaDoorProg
import Derived.WalkKit
import Derived.WalkSpells
import Derived.WalkLawsBesides
namespace Go.Proofs.YtfjibcldghnjcaaDoor
open Go.RowKit
set_option linter.unusedVariables false
set_option linter.unusedSimpArgs false

theorem tmod_place (v m : Int) (hm : 0 < m) : (v.tmod m < 0 → v.tmod m + m = v % m) ∧ (¬ v.tmod m < 0 → v.tmod m = v % m) ∧ -m < v.tmod m := by
  have h1 := Int.emod_nonneg v (show m ≠ 0 by omega)
  have h2 := Int.emod_lt_of_pos v hm
  have h3 := Int.tmod_eq_emod (a := v) (b := m)
  by_cases hc : 0 ≤ v ∨ m ∣ v
  · rw [if_pos hc] at h3
    omega
  · rw [if_neg hc] at h3
    have h5 : v % m ≠ 0 := fun e => hc (.inr (Int.dvd_of_emod_eq_zero e))
    omega

set_option maxHeartbeats 1000000 in
/-- A number as one from 0 to m - 1. -/
theorem place_any (v m : Int) (w : World) (hm : 0 < m) (hm2 : m ≤ 1152921504606846976) (hv1 : -9223372036854775808 ≤ v) (hv2 : v ≤ 9223372036854775807) :
    Calls Tryd.prog 4 #[.int .i64 v, .int .i64 m] w fun e w' => e = .returned (.int .i64 (v % m)) ∧ w = w' := by
  obtain ⟨t1, t2, t3⟩ := tmod_place v m hm
  have T1 : Hid _ := t1
  have T2 : Hid _ := t2
  clear t1 t2
  by_cases h : v.tmod m < 0
  · go_enter Tryd.func4, Tryd.ntmps4
    go_wp2_with fail
    go_ret
    exact ⟨congrArg Ending.returned (congrArg (Value.int IntKind.i64) (T1.out h)), rfl⟩
  · go_enter Tryd.func4, Tryd.ntmps4
    go_wp2_with fail
    go_ret
    exact ⟨congrArg Ending.returned (congrArg (Value.int IntKind.i64) (T2.out h)), rfl⟩

end Go.Proofs.YtfjibcldghnjcaaDoor
