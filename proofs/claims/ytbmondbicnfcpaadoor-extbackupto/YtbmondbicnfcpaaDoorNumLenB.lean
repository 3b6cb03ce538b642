
/-
  num.Bits.
-/
import Derived.Test.YtbmondbicnfcpaaDoorNumAwake
namespace Go.Proofs.YtbmondbicnfcpaaDoor
open Go.RowKit
set_option linter.unusedVariables false

/-- How many bits. -/
def BitsPost (w : World) (x : Int) (e : Ending) (w' : World) : Prop := ∃ n : Nat, e = .returned (.int .i64 n) ∧ IsLen (Int.natAbs x) n ∧ n ≤ 384 ∧ Below w.heap.size w w'

set_option maxHeartbeats 2000000 in
theorem bits_any (v : Value) (x : Int) (w : World) (h : Nx w v x) : Calls Tryd.prog 28 #[v] w fun e w' => BitsPost w x e w' := by
  have h0 := h
  obtain ⟨neg, zs, ⟨s, rfl, hs⟩, hv⟩ := h
  obtain ⟨p, c, rfl⟩ := hs.shape
  have hb1 := (Below.refl w.heap.size w).alloc (Nat.le_refl _) (.cells #[.bool neg, .slice p zs.length c] 26)
  have h1 := h0.below hb1
  clear h0
  have kf := run_fieldL
  go_enter Tryd.func28, Tryd.ntmps28
  go_wp2_with fail
  refine (taken_any _ x _ h1).mono ?_
  rintro e w1 ⟨v1, rfl, ⟨n1, z1, ⟨s1, rfl, t1⟩, hg1, hx1⟩, hb2⟩
  obtain ⟨p1, c1, rfl⟩ := t1.shape
  have hbw := hb1.trans (hb2.mono (by simp))
  have hx : Hid (Z n1 (V z1) = x) := hx1
  have hl1 : z1.length ≤ 12 := hg1.1
  clear hb1 hb2 hv hs h1 hg1 hx1
  go_wp2_with fail
  refine (len_any _ z1 _ t1 (by omega)).mono ?_
  rintro e w2 ⟨n, rfl, rfl, hn, hn2⟩
  go_wp2_with fail
  go_ret
  exact ⟨n, rfl, by rw [← hx.out, abs_Z _ t1.ok]; exact hn, by omega, hbw⟩
end Go.Proofs.YtbmondbicnfcpaaDoor
