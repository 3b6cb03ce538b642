/-
  The closure 'one' of the law NumLaws.
-/
import Derived.Test.YtnfkaddjikimdaaNumSame
namespace Go.Proofs.Ytnfkaddjikimdaa
open Go.RowKit
set_option linter.unusedVariables false

set_option maxHeartbeats 2000000 in
theorem oneL_any (op : Int) (va vb : Value) (x y : Int) (w : World) (ha : Nx w va x) (hb : Nx w vb y) : Calls Try.prog 32 #[.int .i64 op, va, vb] w fun e w' => NPost w ((opS op x y).getD 0) e w' := by
  have ha0 := ha
  have hb0 := hb
  obtain ⟨na, za, ⟨sa, rfl, hsa⟩, -⟩ := ha
  obtain ⟨nb, zb, ⟨sb, rfl, hsb⟩, -⟩ := hb
  obtain ⟨pa, ca, rfl⟩ := hsa.shape
  obtain ⟨pb, cb, rfl⟩ := hsb.shape
  obtain ⟨hB, xa, xb, xr⟩ := boxes2 w na nb pa pb za.length ca zb.length cb
  replace ha0 := ha0.below hB
  replace hb0 := hb0.below hB
  clear hsa hsb
  obtain ⟨r, hr⟩ : ∃ r, r = opS op x y := ⟨_, rfl⟩
  rw [← hr]
  go_enter Try.func32, Try.ntmps32
  go_wp2_with fail
  refine (op_any op _ _ x y _ ha0 hb0).mono ?_
  rw [← hr]
  rintro e w1 ⟨v1, rfl, i1, b1⟩
  obtain ⟨n1, p1, z1, c1, rfl, t1, g1, x1⟩ := i1.open
  have hB1 := hB.trans (b1.mono hB.size)
  have ur := (xr.under b1).under ((Below.refl _ _).alloc (Nat.le_refl _) (.cells #[.bool n1, .slice p1 z1.length c1] 24))
  have un := Bx.new w1 n1 p1 z1.length c1
  have t1' := t1.below ((Below.refl _ _).alloc (Nat.le_refl _) (.cells #[.bool n1, .slice p1 z1.length c1] 24))
  have hB2 := hB1.alloc hB1.size (.cells #[.bool n1, .slice p1 z1.length c1] 24)
  have HG : Hid (Good n1 z1) := g1
  have HX : Hid (Z n1 (V z1) = r.getD 0) := x1
  obtain ⟨c0, c1', f0, f1, l0⟩ := ur.facts
  obtain ⟨d0, d1, -⟩ := un.facts
  clear ha0 hb0 xa xb xr b1 i1 t1 g1 x1 hr
  go_wp2_with fail
  refine bodyPost_ret (results_box1 rfl _ _ (w.heap.size + 1 + 1) _ _ rfl ur.set) rfl ?_
  exact ⟨_, rfl, ⟨n1, z1, ⟨_, rfl, t1'.box ur (setBx_but _ _ _ _)⟩, HG.out, HX.out⟩, hB2.trans ((setBx_but _ _ _ _).below (by omega))⟩
end Go.Proofs.Ytnfkaddjikimdaa
