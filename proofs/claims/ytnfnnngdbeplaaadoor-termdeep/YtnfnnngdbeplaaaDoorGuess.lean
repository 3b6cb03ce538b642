
/-
  math/bits.LeadingZeros32 and limb.guess.
-/
import Derived.Test.YtnfnnngdbeplaaaDoorShlShr
namespace Go.Proofs.YtnfnnngdbeplaaaDoor
open Go.RowKit
set_option linter.unusedVariables false

set_option maxHeartbeats 400000 in
theorem lz32_any (x : Int) (w : World) (h0 : 0 ≤ x) (h1 : x ≤ 4294967295) :
    Calls Tryd.prog 106 #[.int .u32 x] w fun e w' => e = .returned (.int .i64 (32 - (Lib.bitLen x.toNat : Int))) ∧ w = w' := by
  have hb := (isLen_u32 x h0 (by omega)).2
  go_enter Tryd.func106, Tryd.ntmps106
  go_wp2_with fail
  refine (len32_any x _ h0 h1).mono ?_
  rintro e w' ⟨rfl, hw⟩
  subst hw
  go_wp2_with fail
  go_ret
  exact ⟨rfl, rfl⟩

theorem or_high (x1 x0 : Int) (h1 : 0 ≤ x1) (h2 : x1 < 4294967296) (h3 : 0 ≤ x0) (h4 : x0 < 4294967296) : bits .or .u64 (x1 * 4294967296) x0 = x1 * 4294967296 + x0 := by
  obtain ⟨X, rfl⟩ := Int.eq_ofNat_of_zero_le h1
  obtain ⟨Y, rfl⟩ := Int.eq_ofNat_of_zero_le h3
  have e : ((X : Int) * 4294967296) = ((2 ^ 32 * X : Nat) : Int) := by simp; omega
  have hp : (2 : Nat) ^ 32 = 4294967296 := by decide
  rw [e, u64_or_nat _ _ (by omega) (by omega), or_nat 32 X Y (by omega)]
  simp

/-- What guess answers. -/
def gs (X Y : List Int) : Int := min ((X.getD Y.length 0 * 4294967296 + X.getD (Y.length - 1) 0) / Y.getD (Y.length - 1) 0) 4294967295

set_option maxHeartbeats 1000000 in
theorem guess_any (vx vy : Value) (X Y : List Int) (w : World) (hx : Sl w vx X) (hy : Sl w vy Y) (hl : X.length = Y.length + 1) (h0 : 0 < Y.length) (hY : 0 < Y.getD (Y.length - 1) 0) (hn : Y.length ≤ 1000000) :
    Calls Tryd.prog 114 #[vx, vy] w fun e w' => e = .returned (.int .u32 (gs X Y)) ∧ Below w.heap.size w w' := by
  obtain ⟨px, cx, rfl⟩ := hx.shape
  obtain ⟨py, cy, rfl⟩ := hy.shape
  obtain ⟨b, off, rfl, c1⟩ := hx.at Y.length (by omega)
  obtain ⟨b', off', he, c2⟩ := hx.at (Y.length - 1) (by omega)
  simp at he
  obtain ⟨rfl, rfl⟩ := he
  obtain ⟨d, o2, rfl, c3⟩ := hy.at (Y.length - 1) (by omega)
  have b1 := hx.ok.getD Y.length
  have b2 := hx.ok.getD (Y.length - 1)
  have b3 := hy.ok.getD (Y.length - 1)
  have HG : Hid (gs X Y = min ((X.getD Y.length 0 * 4294967296 + X.getD (Y.length - 1) 0) / Y.getD (Y.length - 1) 0) 4294967295) := rfl
  generalize X.getD Y.length 0 = x1 at *
  generalize X.getD (Y.length - 1) 0 = x0 at *
  generalize Y.getD (Y.length - 1) 0 = y at *
  generalize gs X Y = G at *
  have hi1 : ((Y.length : Int) - 1).toNat = Y.length - 1 := by omega
  have hi2 : (0 : Int) ≤ (Y.length : Int) - 1 := by omega
  have hi3 : (Y.length : Int) < (X.length : Int) := by omega
  have hi4 : (Y.length : Int) - 1 < (X.length : Int) := by omega
  obtain ⟨h, hh⟩ : ∃ h, h = x1 * 4294967296 + x0 := ⟨_, rfl⟩
  have hor : bits BinOp.or IntKind.u64 (x1 * 4294967296) x0 = h := by rw [hh]; exact or_high x1 x0 b1.1 b1.2 b2.1 b2.2
  have hb0 : 0 ≤ h := by omega
  have hb1 : h ≤ 18446744073709551615 := by omega
  rw [← hh] at HG
  clear hh
  have hd0 : 0 ≤ h / y := Int.ediv_nonneg hb0 (by omega)
  have hd1 : h / y ≤ 18446744073709551615 := Int.le_trans (Int.ediv_le_self _ hb0) hb1
  by_cases hm : h / y ≤ 4294967295
  · have HG' : Hid (h / y = G) := by
      show h / y = G
      rw [HG.out]; omega
    clear HG
    go_enter Tryd.func114, Tryd.ntmps114
    go_wp2_with fail
    go_quiet (fail)
    go_wp2_with fail
    go_ret
    exact ⟨congrArg Ending.returned (congrArg (Value.int IntKind.u32) HG'.out), below_drewN (Below.refl _ _) _⟩
  · have HG' : Hid (4294967295 = G) := by
      show 4294967295 = G
      rw [HG.out]; omega
    clear HG
    go_enter Tryd.func114, Tryd.ntmps114
    go_wp2_with fail
    go_quiet (fail)
    go_wp2_with fail
    go_ret
    exact ⟨congrArg Ending.returned (congrArg (Value.int IntKind.u32) HG'.out), below_drewN (Below.refl _ _) _⟩
end Go.Proofs.YtnfnnngdbeplaaaDoor
