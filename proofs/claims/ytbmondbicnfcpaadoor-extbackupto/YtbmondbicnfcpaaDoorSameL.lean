/-
  relictlaw00.SameLimbs: true of two slices of the same limbs.
-/
import Derived.Test.YtbmondbicnfcpaaDoorZLimbA
namespace Go.Proofs.YtbmondbicnfcpaaDoor
open Go.RowKit
set_option linter.unusedVariables false

set_option maxHeartbeats 1000000 in
theorem same_yes (va vb : Value) (a : List Int) (w : World) (ha : Sl w va a) (hb : Sl w vb a) :
    Calls Tryd.prog 91 #[va, vb] w fun e w' => e = .returned (.bool true) ∧ Below w.heap.size w w' := by
  obtain ⟨pa, ca, rfl⟩ := ha.shape
  obtain ⟨pb, cb, rfl⟩ := hb.shape
  have hne : ((a.length : Int) != (a.length : Int)) = false := by simp
  have hlen := ha.len
  go_enter Tryd.func91, Tryd.ntmps91
  go_wp2_with fail
  go_loopw [5] (fun i wr => ∃ k : Nat, k ≤ a.length ∧ i = .int .i64 k ∧ Below w.heap.size w wr) (fun i _ => a.length - (intOf i).toNat)
  case atStart => exact ⟨0, by omega, rfl, Below.refl _ _⟩
  case round =>
    obtain ⟨k, hk, rfl, hbel⟩ := hrel
    by_cases hkl : k < a.length
    · obtain ⟨b1, off1, rfl, c1⟩ := (ha.below hbel).at k hkl
      obtain ⟨b2, off2, rfl, c2⟩ := (hb.below hbel).at k hkl
      generalize a.getD k 0 = x at *
      have hx : (x != x) = false := by simp
      have hkl' : (k : Int) < (a.length : Int) := by omega
      go_wp2_with fail
      go_quiet (fail)
      go_wp2_with fail
      go_roundw
      case rel => exact ⟨k + 1, by omega, by go_num, below_drewN hbel _⟩
      case measure => simp [intOf]; omega
    · go_wp2_with fail
      go_ret
      exact ⟨rfl, hbel⟩
end Go.Proofs.YtbmondbicnfcpaaDoor
