
/-
  ext: depth, first.
-/
import Derived.Test.YtbmondbicnfcpaaDoorExtL
namespace Go.Proofs.YtbmondbicnfcpaaDoor
open Go.RowKit
set_option linter.unusedVariables false
set_option linter.unusedSimpArgs false

set_option maxRecDepth 100000 in
set_option maxHeartbeats 2000000 in
theorem depth_any (w : World) (g : Nat) (bv : Value) (p n : Int) (ov : Value) (base : Nat) (hs : List Ho) (hx : RdX w g bv p n ov) (hr : HoRow w base ov hs) :
    Calls Tryd.prog 82 #[.pointer (some ⟨g, 0, none⟩)] w fun e w' => e = .returned (.int .i64 (depS hs : Int)) ∧ Below w.heap.size w w' := by
  obtain ⟨⟨d0, d1, d2, d3⟩, e0, e1, e2, e3⟩ := hx.facts
  by_cases h0 : 0 < hs.length
  · have hd := depS_some hs h0
    obtain ⟨gr, c, rfl, hb, hc1, hc2, c0, c1, c2, c3⟩ := hr.at (hs.length - 1) (by omega)
    obtain ⟨⟨a, cp, hpv⟩, hk, hdp, hw1, hw2, hpl⟩ := hr.2 hs[hs.length - 1] (List.getElem_mem (by omega))
    rw [hpv] at c2
    have hi : ((hs.length : Nat) : Int) - 1 = ((hs.length - 1 : Nat) : Int) := by omega
    have hlt : ((hs.length - 1 : Nat) : Int) < (hs.length : Int) := by omega
    have hne : ((hs.length : Int) == 0) = false := by rw [beq_eq_false_iff_ne]; omega
    obtain ⟨i, hid⟩ : ∃ i, i = hs.length - 1 := ⟨_, rfl⟩
    obtain ⟨m, hm⟩ : ∃ m, m = hs.length := ⟨_, rfl⟩
    have hdi : depS hs = if hs[hs.length - 1].kind = 4 ∧ hs[hs.length - 1].ps.length + 1 = hs[hs.length - 1].want then hs[hs.length - 1].depth else hs[hs.length - 1].depth + 1 := hd
    obtain ⟨kd, hkd⟩ : ∃ kd, kd = hs[hs.length - 1].kind := ⟨_, rfl⟩
    obtain ⟨dp, hdpd⟩ : ∃ dp, dp = hs[hs.length - 1].depth := ⟨_, rfl⟩
    obtain ⟨wt, hwt⟩ : ∃ wt, wt = hs[hs.length - 1].want := ⟨_, rfl⟩
    obtain ⟨pl, hpl2⟩ : ∃ pl, pl = hs[hs.length - 1].ps.length := ⟨_, rfl⟩
    rw [← hkd, ← hdpd, ← hwt, ← hpl2] at hdi
    rw [← hkd] at c0 hk
    rw [← hdpd] at c1 hdp
    rw [← hpl2] at c2 hpl
    rw [← hwt] at c3 hw1 hw2
    rw [← hid] at c0 c1 c2 c3 hi hlt
    rw [← hm] at hi hlt hne d3 hc1
    have HD : Hid (depS hs = if kd = 4 ∧ pl + 1 = wt then dp else dp + 1) := hdi
    have hmi : (m : Int) ≤ (c : Int) := by omega
    have b1 := (Below.refl w.heap.size w).alloc (Nat.le_refl _) (.cells #[.int .i64 0, .int .i64 0, .slice none 0 0, .int .i64 0] 113)
    obtain ⟨⟨-, -, -, d3'⟩, -⟩ := (hx.under b1).facts
    rw [← hm] at d3'
    have hgl := World.block_lt_of_cell? w _ c0
    have c0' := (b1.cell (p := ⟨gr, i * 4, none⟩) hgl).trans c0
    have c1' := (b1.cell (p := ⟨gr, i * 4 + 1, none⟩) hgl).trans c1
    have c2' := (b1.cell (p := ⟨gr, i * 4 + 2, none⟩) hgl).trans c2
    have c3' := (b1.cell (p := ⟨gr, i * 4 + 3, none⟩) hgl).trans c3
    clear hpv hd hdi b1 hkd hdpd hwt hpl2 hid hr hx h0 hb
    have hpw : ((pl : Int) == (wt : Int) - 1) = decide (pl + 1 = wt) := by
      rw [Bool.eq_iff_iff]; simp; omega
    clear hm
    go_enter Tryd.func82, Tryd.ntmps82
    go_wp2_with fail
    go_region
    rcases hk with rfl | rfl
    · by_cases hq : pl + 1 = wt
      · have HE : Hid (depS hs = dp) := by unfold Hid; rw [HD.out, if_pos ⟨rfl, hq⟩]
        rw [decide_eq_true hq] at hpw
        clear hq
        go_wp2_with fail
        go_ret
        rw [HE.out]
        exact ⟨rfl, ((Below.refl _ _).drew).alloc (Nat.le_refl _) _⟩
      · have HE : Hid (depS hs = dp + 1) := by unfold Hid; rw [HD.out, if_neg (fun h => hq h.2)]
        rw [decide_eq_false hq] at hpw
        clear hq
        go_wp2_with fail
        go_ret
        rw [HE.out]
        exact ⟨rfl, ((Below.refl _ _).drew).alloc (Nat.le_refl _) _⟩
    · have HE : Hid (depS hs = dp + 1) := by unfold Hid; rw [HD.out, if_neg (fun h => absurd h.1 (by decide))]
      go_wp2_with fail
      go_ret
      rw [HE.out]
      exact ⟨rfl, ((Below.refl _ _).drew).alloc (Nat.le_refl _) _⟩
  · obtain rfl : hs = [] := List.eq_nil_of_length_eq_zero (by omega)
    obtain ⟨a, c, rfl⟩ := hr.shape
    rw [List.length_nil] at d3
    clear hr hx
    go_enter Tryd.func82, Tryd.ntmps82
    go_wp2_with fail
    go_ret
    exact ⟨rfl, Below.refl _ _⟩
end Go.Proofs.YtbmondbicnfcpaaDoor
