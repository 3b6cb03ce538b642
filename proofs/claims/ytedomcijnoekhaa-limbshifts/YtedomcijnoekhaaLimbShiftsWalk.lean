/-
  The walk of the law LimbShifts: for every slice of uint32 and every int it answers true, and turns nothing that was there.
-/
import Derived.Test.YtedomcijnoekhaaLaw
import Derived.Test.YtedomcijnoekhaaShlShr
namespace Go.Proofs.Ytedomcijnoekhaa
open Go.RowKit
set_option linter.unusedVariables false

set_option maxRecDepth 100000 in
set_option maxHeartbeats 4000000 in
theorem limbShifts_walk (va : Value) (a : List Int) (n : Int) (w : World) (ha : Sl w va a) (hn1 : -9223372036854775808 ≤ n) (hn2 : n ≤ 9223372036854775807) :
    Calls Try.prog 6 #[va, .int .i64 n] w fun e w' => e = .returned (.bool true) ∧ Below w.heap.size w w' := by
  obtain ⟨pa, ca, rfl⟩ := ha.shape
  by_cases hla : a.length ≤ 30
  · have hcl' : ¬ (30 : Int) < (a.length : Int) := by omega
    go_enter Try.func6, Try.ntmps6
    go_wp2_with fail
    refine (place_any n 200 _ (by decide) (by decide) hn1 hn2).mono ?_
    rintro e w' ⟨rfl, rfl⟩
    have hk0 : 0 ≤ n % 200 := by omega
    have hk1 : n % 200 < 200 := by omega
    generalize n % 200 = K at *
    obtain ⟨k, rfl⟩ := Int.eq_ofNat_of_zero_le hk0
    have hk2 : k < 200 := by omega
    go_wp2_with fail
    refine (shl_any _ a _ _ ha (by omega)).mono ?_
    rintro e w1 ⟨v1, z1, rfl, s1, m1, x1, l1, b1, -⟩
    have X1 : Hid (V z1 = V a * T (upN (k : Int))) := x1
    clear x1
    have B1 := b1
    replace ha := ha.below b1
    go_wp2_with fail
    refine (shr_any _ z1 _ _ s1 (by omega) (by omega)).mono ?_
    rintro e w2 ⟨v2, z2, rfl, s2, m2, x2, l2, b2, -⟩
    have X2 : Hid (V z2 = V z1 / T (downN (k : Int))) := x2
    clear x2
    have B2 := B1.trans (b2.mono B1.size)
    replace ha := ha.below b2
    replace s1 := s1.below b2
    go_wp2_with fail
    refine (cmp_any _ _ z2 a _ s2 ha).mono ?_
    rintro e w3 ⟨rfl, b3⟩
    have B3 := B2.trans (b3.mono B2.size)
    replace ha := ha.below b3
    replace s1 := s1.below b3
    replace s2 := s2.below b3
    have e3 : sg (V z2) (V a) = 0 := sg_eq (by rw [X2.out, X1.out, upN_nat (by omega), downN_nat]; exact Int.mul_ediv_cancel _ (by have := T_pos k; omega))
    rw [e3]
    clear e3
    go_wp2_with fail
    refine (shl_any _ a _ _ ha (by omega)).mono ?_
    rintro e w4 ⟨v4, z4, rfl, s4, m4, x4, l4, b4, -⟩
    have X4 : Hid (V z4 = V a * T (upN 1)) := x4
    clear x4
    have B4 := B3.trans (b4.mono B3.size)
    replace ha := ha.below b4
    replace s1 := s1.below b4
    replace s2 := s2.below b4
    go_wp2_with fail
    refine (add_any _ _ a a _ ha ha (by omega) (by omega)).mono ?_
    rintro e w5 ⟨v5, z5, rfl, s5, m5, x5, l5, b5, -⟩
    have X5 : Hid (V z5 = V a + V a) := x5
    clear x5
    have B5 := B4.trans (b5.mono B4.size)
    replace ha := ha.below b5
    replace s1 := s1.below b5
    replace s2 := s2.below b5
    replace s4 := s4.below b5
    go_wp2_with fail
    refine (cmp_any _ _ z4 z5 _ s4 s5).mono ?_
    rintro e w6 ⟨rfl, b6⟩
    have B6 := B5.trans (b6.mono B5.size)
    replace ha := ha.below b6
    replace s1 := s1.below b6
    replace s2 := s2.below b6
    replace s4 := s4.below b6
    replace s5 := s5.below b6
    have e6 : sg (V z4) (V z5) = 0 := sg_eq (by rw [X4.out, X5.out, show upN 1 = 1 from rfl]; simp only [T]; omega)
    rw [e6]
    clear e6
    go_wp2_with fail
    refine (len_any _ a _ ha (by omega)).mono ?_
    rintro e w' ⟨l, rfl, rfl, hl, bl⟩
    have HL : Hid (IsLen (V a) l) := hl
    clear hl
    by_cases hl0 : l = 0
    · subst hl0
      go_wp2_with fail
      refine (len_any _ z1 _ s1 (by omega)).mono ?_
      rintro e w' ⟨m, rfl, rfl, hm, bm⟩
      obtain rfl : m = 0 := hm.one (by rw [X1.out, isLen_zero HL.out, Int.zero_mul]; exact .inl ⟨rfl, rfl⟩)
      clear hm bm
      go_wp2_with fail
      refine (shr_any _ a _ _ ha (by omega) (by omega)).mono ?_
      rintro e w7 ⟨v7, z7, rfl, s7, m7, x7, l7, b7, -⟩
      have X7 : Hid (V z7 = V a / T (downN 0)) := x7
      clear x7
      have B7 := B6.trans (b7.mono B6.size)
      replace ha := ha.below b7
      replace s1 := s1.below b7
      replace s2 := s2.below b7
      replace s4 := s4.below b7
      replace s5 := s5.below b7
      go_wp2_with fail
      refine (len_any _ z7 _ s7 (by omega)).mono ?_
      rintro e w' ⟨m, rfl, rfl, hm, bm⟩
      obtain rfl : m = 0 := hm.one (by rw [X7.out, isLen_zero HL.out, Int.zero_ediv]; exact .inl ⟨rfl, rfl⟩)
      clear hm bm
      go_wp2_with fail
      refine (awake_any _).mono ?_
      rintro e w20 ⟨rfl, b20⟩
      have BF := B7.trans (b20.mono B7.size)
      go_wp2_with fail
      go_ret
      exact ⟨rfl, BF⟩
    · have hl1 : ((l : Int) == 0) = false := beq_eq_false_iff_ne.2 (by omega)
      have hl2 : (0 : Int) < (l : Int) := by omega
      go_wp2_with fail
      refine (len_any _ z1 _ s1 (by omega)).mono ?_
      rintro e w' ⟨m, rfl, rfl, hm, bm⟩
      obtain rfl : m = l + k := hm.one (by rw [X1.out, upN_nat (by omega)]; exact isLen_up k HL.out (by omega))
      clear hm bm
      have hlk : (((l + k : Nat) : Int) == (l : Int) + (k : Int)) = true := beq_iff_eq.2 (by omega)
      go_wp2_with fail
      refine (shr_any _ a _ _ ha (by omega) (by omega)).mono ?_
      rintro e w7 ⟨v7, z7, rfl, s7, m7, x7, l7, b7, -⟩
      have X7 : Hid (V z7 = V a / T (downN (l : Int))) := x7
      clear x7
      have B7 := B6.trans (b7.mono B6.size)
      replace ha := ha.below b7
      replace s1 := s1.below b7
      replace s2 := s2.below b7
      replace s4 := s4.below b7
      replace s5 := s5.below b7
      go_wp2_with fail
      refine (len_any _ z7 _ s7 (by omega)).mono ?_
      rintro e w' ⟨m, rfl, rfl, hm, bm⟩
      obtain rfl : m = 0 := hm.one (by rw [X7.out, downN_nat, isLen_top HL.out]; exact .inl ⟨rfl, rfl⟩)
      clear hm bm
      go_wp2_with fail
      refine (shr_any _ a _ _ ha (by omega) (by omega)).mono ?_
      rintro e w8 ⟨v8, z8, rfl, s8, m8, x8, l8, b8, -⟩
      have X8 : Hid (V z8 = V a / T (downN ((l : Int) - 1))) := x8
      clear x8
      have B8 := B7.trans (b8.mono B7.size)
      replace ha := ha.below b8
      replace s1 := s1.below b8
      replace s2 := s2.below b8
      replace s4 := s4.below b8
      replace s5 := s5.below b8
      replace s7 := s7.below b8
      go_wp2_with fail
      refine (len_any _ z8 _ s8 (by omega)).mono ?_
      rintro e w' ⟨m, rfl, rfl, hm, bm⟩
      obtain rfl : m = 1 := hm.one (by rw [X8.out, show ((l : Int) - 1) = ((l - 1 : Nat) : Int) by omega, downN_nat, isLen_one HL.out (by omega)]; exact .inr ⟨by decide, by decide, by decide⟩)
      clear hm bm
      go_wp2_with fail
      refine (awake_any _).mono ?_
      rintro e w20 ⟨rfl, b20⟩
      have BF := B8.trans (b20.mono B8.size)
      go_wp2_with fail
      go_ret
      exact ⟨rfl, BF⟩
  · have hcl' : (30 : Int) < (a.length : Int) := by omega
    go_enter Try.func6, Try.ntmps6
    go_wp2_with fail
    refine (awake_any _).mono ?_
    rintro e w20 ⟨rfl, b20⟩
    go_wp2_with fail
    go_ret
    exact ⟨rfl, b20⟩
end Go.Proofs.Ytedomcijnoekhaa
