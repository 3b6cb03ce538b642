
/-
  The document's own answers of layer 2 (relictref02): is, made, Of, Cmp.
-/
import Derived.Test.YtfcdocgjmgpmkaaDoorNumSame
import Derived.Test.YtfcdocgjmgpmkaaDoorRefA
namespace Go.Proofs.YtfcdocgjmgpmkaaDoor
open Go.RowKit
set_option linter.unusedVariables false

/-- The result's box, laid ahead of all. -/
theorem box0 (w : World) : Below w.heap.size w (w.alloc (.cells #[.bool false, .slice none 0 0] 24)) ∧ Bx (w.alloc (.cells #[.bool false, .slice none 0 0] 24)) w.heap.size false (.slice none 0 0) :=
  ⟨(Below.refl w.heap.size w).alloc (Nat.le_refl _) _, Bx.new w false none 0 0⟩

set_option maxHeartbeats 2000000 in
theorem made_any (neg : Bool) (s : Value) (zs : List Int) (w : World) (hs : Sl w s zs) (hl : zs.length ≤ 1000000) :
    Calls Tryd.prog 64 #[.bool neg, s] w fun e w' => OpPost w (fitS (Z neg (V zs))) e w' := by
  obtain ⟨p, c, rfl⟩ := hs.shape
  obtain ⟨hb1, x0⟩ := box0 w
  go_enter Tryd.func64, Tryd.ntmps64
  go_wp2_with fail
  refine (rnorm_any _ zs _ (hs.below hb1) hl).mono ?_
  intro e w1 h1
  obtain ⟨v1, z1, rfl, s1, m1, v1', l1, b1, -⟩ := h1
  obtain ⟨p1, c1, rfl⟩ := s1.shape
  have u1 := x0.under b1
  have hbw := hb1.trans (b1.mono hb1.size)
  have hV : Hid (V z1 = V zs) := v1'
  clear hb1 x0 hs b1 v1'
  obtain ⟨d0, d1, g0, g1, k1⟩ := u1.facts
  by_cases h12 : z1.length ≤ 12
  · have h12' : ¬ ((12 : Int) < (z1.length : Int)) := by omega
    have HG : Hid (Good (neg && decide (0 < z1.length)) z1) := (good_signed neg m1).2 h12
    have HF : Hid (fitS (Z neg (V zs)) = some (Z (neg && decide (0 < z1.length)) (V z1))) := by
      show fitS (Z neg (V zs)) = _
      rw [← hV.out, fitS_Z neg s1.ok, if_pos ((room_len s1.ok m1).1 h12), Z_signed]
    clear hV
    cases neg
    · go_wp2_with fail
      refine bodyPost_ret (results_box2 rfl _ _ w.heap.size _ _ rfl u1.set) rfl ?_
      rw [HF.out]
      refine ⟨_, rfl, ?_, hbw.trans ((setBx_but w1 w.heap.size _ _).below (Nat.le_refl _))⟩
      exact ⟨_, z1, ⟨_, rfl, s1.box u1 (setBx_but w1 w.heap.size _ _)⟩, HG.out, rfl⟩
    · go_wp2_with fail
      refine bodyPost_ret (results_box2 rfl _ _ w.heap.size _ _ rfl u1.set) rfl ?_
      rw [HF.out]
      refine ⟨_, rfl, ?_, hbw.trans ((setBx_but w1 w.heap.size _ _).below (Nat.le_refl _))⟩
      exact ⟨_, z1, ⟨_, rfl, s1.box u1 (setBx_but w1 w.heap.size _ _)⟩, HG.out, rfl⟩
  · have h12' : (12 : Int) < (z1.length : Int) := by omega
    have HF : Hid (fitS (Z neg (V zs)) = none) := by
      show fitS (Z neg (V zs)) = _
      rw [← hV.out, fitS_Z neg s1.ok, if_neg (fun h => h12 ((room_len s1.ok m1).2 h))]
    clear hV h12
    go_wp2_with fail
    refine bodyPost_ret (results_box2 rfl _ _ w.heap.size false (.slice none 0 0) rfl u1.set) rfl ?_
    rw [HF.out]
    exact ⟨_, rfl, IsN.zero _, hbw.trans ((setBx_but w1 w.heap.size false _).below (Nat.le_refl _))⟩

theorem rof_fit (n : Bool) (y : Int) (h0 : 0 ≤ y) (h1 : y < 18446744073709551616) : fitS (Z n (V [y % 4294967296, y / 4294967296])) = some (Z n y) := by
  have e : V [y % 4294967296, y / 4294967296] = y := by simp only [V]; omega
  have hb : (18446744073709551616 : Int) ≤ B 12 := by decide
  rw [e]
  unfold fitS
  rw [if_pos (by cases n <;> simp [Z] <;> omega)]

set_option maxHeartbeats 2000000 in
theorem rof_any (x : Int) (w : World) (h0 : -9223372036854775808 ≤ x) (h1 : x ≤ 9223372036854775807) : Calls Tryd.prog 49 #[.int .i64 x] w fun e w' => NPost w x e w' := by
  by_cases hn : x < 0
  · obtain ⟨y, hy⟩ : ∃ y, y = -x := ⟨_, rfl⟩
    have hw : IntKind.u64.wrap (-IntKind.u64.wrap x) = y := by rw [IntKind.wrap_u64, IntKind.wrap_u64]; omega
    have hy0 : 0 ≤ y := by omega
    have hy1 : y < 18446744073709551616 := by omega
    have HY : Hid (y = -x) := hy
    clear hy
    obtain ⟨b0, x1, q1⟩ := box_lit w y
    have sl := sl_lit2 (w.alloc (.cells #[.bool false, .slice none 0 0] 24)) (y % 4294967296) (y / 4294967296) (by omega) (by omega) (by omega) (by omega)
    rw [World.size_alloc] at sl
    go_enter Tryd.func49, Tryd.ntmps49
    go_wp2_with fail
    refine (made_any true _ [y % 4294967296, y / 4294967296] _ sl (by simp)).mono ?_
    rw [rof_fit true y hy0 (by omega)]
    rintro e w1 ⟨v1, rfl, i1, b1⟩
    replace i1 : IsN w1 v1 (Z true y) := i1
    rw [show Z true y = x by simp only [Z]; rw [HY.out]; simp] at i1
    obtain ⟨n1, p1, z1, c1, rfl, t1, g1, e1⟩ := i1.open
    have u1 := x1.under b1
    have hbw := b0.trans (b1.mono b0.size)
    have bd := (Below.refl w1.heap.size w1).alloc (Nat.le_refl _) (.cells #[.bool n1, .slice p1 z1.length c1] 24)
    have u2 := u1.under bd
    have hbv := hbw.trans (bd.mono hbw.size)
    have i2 := i1.below bd
    clear sl b0 x1 q1 b1 t1 g1 e1 i1 u1
    obtain ⟨d0, d1, g0, g1, l1⟩ := u2.facts
    go_wp2_with fail
    refine bodyPost_ret (results_box1 rfl _ _ w.heap.size _ _ rfl u2.set) rfl ?_
    exact ⟨_, rfl, i2.box u2 (setBx_but _ w.heap.size n1 _), hbv.trans ((setBx_but _ w.heap.size n1 _).below (Nat.le_refl _))⟩
  · have hx0 : 0 ≤ x := by omega
    obtain ⟨b0, x1, q1⟩ := box_lit w x
    have sl := sl_lit2 (w.alloc (.cells #[.bool false, .slice none 0 0] 24)) (x % 4294967296) (x / 4294967296) (by omega) (by omega) (by omega) (by omega)
    rw [World.size_alloc] at sl
    go_enter Tryd.func49, Tryd.ntmps49
    go_wp2_with fail
    refine (made_any false _ [x % 4294967296, x / 4294967296] _ sl (by simp)).mono ?_
    rw [rof_fit false x hx0 (by omega)]
    rintro e w1 ⟨v1, rfl, i1, b1⟩
    replace i1 : IsN w1 v1 (Z false x) := i1
    rw [show Z false x = x from rfl] at i1
    obtain ⟨n1, p1, z1, c1, rfl, t1, g1, e1⟩ := i1.open
    have u1 := x1.under b1
    have hbw := b0.trans (b1.mono b0.size)
    have bd := (Below.refl w1.heap.size w1).alloc (Nat.le_refl _) (.cells #[.bool n1, .slice p1 z1.length c1] 24)
    have u2 := u1.under bd
    have hbv := hbw.trans (bd.mono hbw.size)
    have i2 := i1.below bd
    clear sl b0 x1 q1 b1 t1 g1 e1 i1 u1
    obtain ⟨d0, d1, g0, g1, l1⟩ := u2.facts
    go_wp2_with fail
    refine bodyPost_ret (results_box1 rfl _ _ w.heap.size _ _ rfl u2.set) rfl ?_
    exact ⟨_, rfl, i2.box u2 (setBx_but _ w.heap.size n1 _), hbv.trans ((setBx_but _ w.heap.size n1 _).below (Nat.le_refl _))⟩
end Go.Proofs.YtfcdocgjmgpmkaaDoor
