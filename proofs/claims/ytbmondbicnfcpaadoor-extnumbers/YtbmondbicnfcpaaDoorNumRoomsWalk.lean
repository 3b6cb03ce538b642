
/-
  The law NumRooms: for every int and every bool it returns true.
-/
import Derived.Test.YtbmondbicnfcpaaDoorZExtN
import Derived.Test.YtbmondbicnfcpaaDoorNumLenB
namespace Go.Proofs.YtbmondbicnfcpaaDoor
open Go.RowKit
set_option linter.unusedVariables false

theorem far_id {y : Int} (h0 : 0 ≤ y) (h1 : y ≤ 4096) : upN (farS y) = y.toNat := by unfold upN farS; omega
theorem shS_up {x y : Int} (h0 : 0 ≤ y) (h1 : y ≤ 4096) : shS x y = x * T y.toNat := by unfold shS; rw [if_pos h0, far_id h0 h1]
theorem shS_down {x y : Int} (h0 : 0 ≤ y) (h1 : y ≤ 4096) (h2 : y ≠ 0) : shS x (-y) = x / T y.toNat := by
  unfold shS
  rw [if_neg (by omega)]
  congr 2
  unfold downN farS; omega
theorem fitS_some {z : Int} (h0 : -(B 12) < z) (h1 : z < B 12) : fitS z = some z := by unfold fitS; rw [if_pos ⟨h0, h1⟩]
theorem fitS_none {z : Int} (h : z ≤ -(B 12) ∨ B 12 ≤ z) : fitS z = none := by unfold fitS; rw [if_neg (by omega)]

theorem rooms_math (k : Nat) (hk : k ≤ 383) (neg : Bool) : opS 9 1 (k : Int) = some (T k) ∧ opS 9 (Z neg (T k)) (384 - (k : Int)) = none ∧ opS 9 (Z neg (T k)) (383 - (k : Int)) = some (Z neg (T 383)) ∧ opS 10 (Z neg (T 383)) (383 - (k : Int)) = some (Z neg (T k)) := by
  have hB : B 12 = T 384 := T384.symm
  have h1 := T_mono (show k ≤ 383 by omega)
  have h2 := T_pos k
  have h3 : T 384 = 2 * T 383 := rfl
  have h4 := T_pos 383
  refine ⟨?_, ?_, ?_, ?_⟩
  · rw [opS_9, shS_up (by omega) (by omega), Int.one_mul, show ((k : Int)).toNat = k by omega, fitS_some (by omega) (by omega)]
  · rw [opS_9, shS_up (by omega) (by omega), show (384 - (k : Int)).toNat = 384 - k by omega]
    have e : T k * T (384 - k) = T 384 := by rw [← T_add, show k + (384 - k) = 384 by omega]
    cases neg
    · rw [show Z false (T k) = T k from rfl, e, fitS_none (by omega)]
    · rw [show Z true (T k) = -T k from rfl, Int.neg_mul, e, fitS_none (by omega)]
  · rw [opS_9, shS_up (by omega) (by omega), show (383 - (k : Int)).toNat = 383 - k by omega]
    have e : T k * T (383 - k) = T 383 := by rw [← T_add, show k + (383 - k) = 383 by omega]
    cases neg
    · rw [show Z false (T k) = T k from rfl, e, fitS_some (by omega) (by omega)]; rfl
    · rw [show Z true (T k) = -T k from rfl, Int.neg_mul, e, fitS_some (by omega) (by omega)]; rfl
  · rw [opS_10]
    by_cases hk0 : k = 383
    · subst hk0
      rw [show -(383 - ((383 : Nat) : Int)) = 0 by omega, shS_up (by omega) (by omega)]
      cases neg
      · rw [show Z false (T 383) * T (Int.toNat 0) = T 383 from Int.mul_one _, fitS_some (by omega) (by omega)]; rfl
      · rw [show Z true (T 383) * T (Int.toNat 0) = -T 383 from Int.mul_one _, fitS_some (by omega) (by omega)]; rfl
    · rw [shS_down (by omega) (by omega) (by omega), show (383 - (k : Int)).toNat = 383 - k by omega]
      have e : T 383 = T k * T (383 - k) := by rw [← T_add, show k + (383 - k) = 383 by omega]
      have hp := T_pos (383 - k)
      cases neg
      · rw [show Z false (T 383) = T 383 from rfl, e, Int.mul_ediv_cancel _ (by omega), fitS_some (by omega) (by omega)]; rfl
      · rw [show Z true (T 383) = -T 383 from rfl, e, ← Int.neg_mul, Int.mul_ediv_cancel _ (by omega), fitS_some (by omega) (by omega)]; rfl

theorem abs_T (neg : Bool) (k : Nat) : ((Z neg (T k)).natAbs : Int) = T k := by
  have := T_pos k
  cases neg <;> simp [Z] <;> omega
theorem isLen_T (k : Nat) : IsLen (T k) (k + 1) := .inr ⟨by omega, by simp, by have := T_pos k; simp only [T]; omega⟩
/-- THE WALK. -/
def RoomsPost (w : World) (e : Ending) (w' : World) : Prop := e = .returned (.bool true) ∧ Below w.heap.size w w'

end Go.Proofs.YtbmondbicnfcpaaDoor
