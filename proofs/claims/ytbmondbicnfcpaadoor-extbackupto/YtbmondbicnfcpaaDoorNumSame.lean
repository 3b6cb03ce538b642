
/-
  relictlaw00.SameNum: true of two numbers that are one; relictref02.Check: whether a number may be.
-/
import Derived.Test.YtbmondbicnfcpaaDoorNumAwake
import Derived.Test.YtbmondbicnfcpaaDoorSameL
namespace Go.Proofs.YtbmondbicnfcpaaDoor
open Go.RowKit
set_option linter.unusedVariables false

set_option maxHeartbeats 1000000 in
theorem same_raw (neg : Bool) (sa sb : Value) (zs : List Int) (w : World) (ha : Sl w sa zs) (hb : Sl w sb zs) :
    Calls Tryd.prog 48 #[.agg #[.bool neg, sa], .agg #[.bool neg, sb]] w fun e w' => e = .returned (.bool true) ∧ Below w.heap.size w w' := by
  obtain ⟨pa, ca, rfl⟩ := ha.shape
  obtain ⟨pb, cb, rfl⟩ := hb.shape
  obtain ⟨hB, u1, u2⟩ := boxes2' w neg neg pa pb zs.length ca zs.length cb
  replace ha := ha.below hB
  replace hb := hb.below hB
  have hn : (neg == neg) = true := by simp
  go_enter Tryd.func48, Tryd.ntmps48
  go_wp2_with fail
  refine (same_yes _ _ zs _ ha hb).mono ?_
  rintro e w1 ⟨rfl, b1⟩
  have B1 := hB.trans (b1.mono hB.size)
  clear ha hb hB u1 u2 b1
  go_wp2_with fail
  go_ret
  exact ⟨rfl, B1⟩

theorem Good.one {m n : Bool} {a b : List Int} (ha : Good m a) (hb : Good n b) (oa : Ok a) (ob : Ok b) (h : Z m (V a) = Z n (V b)) : m = n ∧ a = b := by
  have pa := Z_pos ha oa
  have pb := Z_pos hb ob
  cases m <;> cases n
  · exact ⟨rfl, Nm_inj oa ob ha.2.1 hb.2.1 h⟩
  · have := pa.2 rfl; have := pb.1 rfl; omega
  · have := pa.1 rfl; have := pb.2 rfl; omega
  · refine ⟨rfl, Nm_inj oa ob ha.2.1 hb.2.1 ?_⟩
    simp only [Z, if_true] at h
    omega

theorem same_num (va vb : Value) (x : Int) (w : World) (ha : IsN w va x) (hb : IsN w vb x) :
    Calls Tryd.prog 48 #[va, vb] w fun e w' => e = .returned (.bool true) ∧ Below w.heap.size w w' := by
  obtain ⟨m, a, ⟨sa, rfl, ta⟩, ga, hx⟩ := ha
  obtain ⟨n, b, ⟨sb, rfl, tb⟩, gb, hy⟩ := hb
  obtain ⟨rfl, rfl⟩ := Good.one ga gb ta.ok tb.ok (hx.trans hy.symm)
  exact same_raw m sa sb a w ta tb

set_option maxHeartbeats 1000000 in
theorem rcheck_yes (neg : Bool) (s : Value) (zs : List Int) (w : World) (hs : Sl w s zs) (hg : Good neg zs) :
    Calls Tryd.prog 135 #[.agg #[.bool neg, s]] w fun e w' => e = .returned (.bool true) ∧ Below w.heap.size w w' := by
  obtain ⟨p, c, rfl⟩ := hs.shape
  obtain ⟨h1, h2, h3⟩ := hg
  have hb0 := (Below.refl w.heap.size w).alloc (Nat.le_refl _) (.cells #[.bool neg, .slice p zs.length c] 26)
  have h1' : (zs.length : Int) ≤ 12 := by omega
  by_cases h0 : zs.length = 0
  · obtain rfl : zs = [] := List.eq_nil_of_length_eq_zero h0
    obtain rfl := h3 rfl
    go_enter Tryd.func135, Tryd.ntmps135
    go_wp2_with fail
    go_ret
    exact ⟨rfl, hb0⟩
  · obtain ⟨b, off, rfl, hc⟩ := (hs.below hb0).at (zs.length - 1) (by omega)
    have hx := hs.ok.getD (zs.length - 1)
    have hne := h2 (by omega)
    generalize zs.getD (zs.length - 1) 0 = t at *
    have hb : (t != 0) = true := by simpa using hne
    have h0' : ((zs.length : Int) == 0) = false := beq_eq_false_iff_ne.2 (by omega)
    have hp : (0 : Int) < (zs.length : Int) := by omega
    have hi1 : ((zs.length : Int) - 1).toNat = zs.length - 1 := by omega
    have hi2 : (0 : Int) ≤ (zs.length : Int) - 1 := by omega
    go_enter Tryd.func135, Tryd.ntmps135
    go_wp2_with fail
    go_ret
    exact ⟨rfl, hb0⟩

set_option maxHeartbeats 1000000 in
theorem rcheck_no (neg : Bool) (s : Value) (zs : List Int) (w : World) (hs : Sl w s zs) (hg : ¬ Good neg zs) :
    Calls Tryd.prog 135 #[.agg #[.bool neg, s]] w fun e w' => e = .returned (.bool false) ∧ Below w.heap.size w w' := by
  obtain ⟨p, c, rfl⟩ := hs.shape
  have hb0 := (Below.refl w.heap.size w).alloc (Nat.le_refl _) (.cells #[.bool neg, .slice p zs.length c] 26)
  by_cases h0 : zs.length = 0
  · obtain rfl : zs = [] := List.eq_nil_of_length_eq_zero h0
    obtain rfl : neg = true := by
      cases neg
      · exact absurd Good.nil hg
      · rfl
    go_enter Tryd.func135, Tryd.ntmps135
    go_wp2_with fail
    go_ret
    exact ⟨rfl, hb0⟩
  · by_cases hl : zs.length ≤ 12
    · obtain ⟨b, off, rfl, hc⟩ := (hs.below hb0).at (zs.length - 1) (by omega)
      have hne : zs.getD (zs.length - 1) 0 = 0 := by
        refine Classical.byContradiction fun h => hg ⟨hl, fun _ => h, fun e => absurd (by rw [e]; rfl) h0⟩
      rw [hne] at hc
      have h1' : (zs.length : Int) ≤ 12 := by omega
      have h0' : ((zs.length : Int) == 0) = false := beq_eq_false_iff_ne.2 (by omega)
      have hp : (0 : Int) < (zs.length : Int) := by omega
      have hi1 : ((zs.length : Int) - 1).toNat = zs.length - 1 := by omega
      have hi2 : (0 : Int) ≤ (zs.length : Int) - 1 := by omega
      go_enter Tryd.func135, Tryd.ntmps135
      go_wp2_with fail
      go_ret
      exact ⟨rfl, hb0⟩
    · have hl' : ¬ ((zs.length : Int) ≤ 12) := by omega
      go_enter Tryd.func135, Tryd.ntmps135
      go_wp2_with fail
      go_ret
      exact ⟨rfl, hb0⟩
end Go.Proofs.YtbmondbicnfcpaaDoor
