/-
  The walk of the law LimbPowers: for every two ints it answers true, and turns nothing that was there.
-/
import Derived.Test.YtedomcijnoekhaaLaw
import Derived.Test.YtedomcijnoekhaaDiv
namespace Go.Proofs.Ytedomcijnoekhaa
open Go.RowKit
set_option linter.unusedVariables false

theorem T_lt {a b : Nat} (h : a < b) : T a < T b := by
  have h1 := T_mono (show a + 1 ≤ b by omega)
  have h2 := T_pos a
  simp only [T] at h1
  omega

theorem div_uniq {x y q r : Int} (hy : 0 < y) (h : q * y + r = x) (h0 : 0 ≤ r) (h1 : r < y) : q = x / y ∧ r = x % y := by
  refine ⟨?_, ?_⟩
  · rw [← h, Int.add_comm, Int.add_mul_ediv_right _ _ (by omega), Int.ediv_eq_zero_of_lt h0 h1]; omega
  · rw [← h, Int.add_comm, Int.add_mul_emod_self_right, Int.emod_eq_of_lt h0 h1]

theorem isLen_pred (a : Nat) : IsLen (T a - 1) a := by
  cases a with
  | zero => exact .inl ⟨rfl, rfl⟩
  | succ m =>
    have := T_pos m
    refine .inr ⟨by omega, ?_, by omega⟩
    simp only [Nat.add_sub_cancel, T]
    omega

set_option maxRecDepth 100000 in
set_option maxHeartbeats 4000000 in
theorem limbPowers_walk (p q : Int) (w : World) (hp1 : -9223372036854775808 ≤ p) (hp2 : p ≤ 9223372036854775807) (hq1 : -9223372036854775808 ≤ q) (hq2 : q ≤ 9223372036854775807) :
    Calls Try.prog 8 #[.int .i64 p, .int .i64 q] w fun e w' => e = .returned (.bool true) ∧ Below w.heap.size w w' := by
  go_enter Try.func8, Try.ntmps8
  go_wp2_with fail
  refine (place_any p 200 _ (by decide) (by decide) hp1 hp2).mono ?_
  rintro e w' ⟨rfl, rfl⟩
  have ha0 : 0 ≤ p % 200 := by omega
  have ha1 : p % 200 < 200 := by omega
  generalize p % 200 = A at *
  obtain ⟨a, rfl⟩ := Int.eq_ofNat_of_zero_le ha0
  go_wp2_with fail
  refine (place_any q 200 _ (by decide) (by decide) hq1 hq2).mono ?_
  rintro e w' ⟨rfl, rfl⟩
  have hb0 : 0 ≤ q % 200 := by omega
  have hb1 : q % 200 < 200 := by omega
  generalize q % 200 = C at *
  obtain ⟨b, rfl⟩ := Int.eq_ofNat_of_zero_le hb0
  have sL := sl_lit w 1 (by decide) (by decide)
  have b0 := (Below.refl w.heap.size w).alloc (Nat.le_refl _) (.cells #[.int .u32 1] 33)
  have B0 := b0
  have hV1 : V [1] = 1 := by decide
  have HV1 : Hid (V [1] = 1) := hV1
  clear hV1
  go_wp2_with fail
  refine (shl_any _ [1] _ _ sL (by simp)).mono ?_
  rintro e w1 ⟨v1, z1, rfl, s1, m1, x1, l1, b1, -⟩
  have X1 : Hid (V z1 = V [1] * T (upN (a : Int))) := x1
  clear x1
  have B1 := B0.trans (b1.mono B0.size)
  replace sL := sL.below b1
  go_wp2_with fail
  refine (shl_any _ [1] _ _ sL (by simp)).mono ?_
  rintro e w2 ⟨v2, z2, rfl, s2, m2, x2, l2, b2, -⟩
  have X2 : Hid (V z2 = V [1] * T (upN (b : Int))) := x2
  clear x2
  have B2 := B1.trans (b2.mono B1.size)
  replace sL := sL.below b2
  replace s1 := s1.below b2
  have Y1 : Hid (V z1 = T a) := by show V z1 = T a; rw [X1.out, HV1.out, upN_nat (by omega), Int.one_mul]
  have Y2 : Hid (V z2 = T b) := by show V z2 = T b; rw [X2.out, HV1.out, upN_nat (by omega), Int.one_mul]
  simp only [List.length_cons, List.length_nil] at l1 l2
  go_wp2_with fail
  refine (div_any _ _ z1 z2 _ s1 s2 (by omega) (by omega)).mono ?_
  rintro e w3 ⟨vq, vr, zq, zr, rfl, sq, sr, mq, mr, lq, lr, b3, xz, xn⟩
  have XZ : Hid _ := xz
  have XN : Hid _ := xn
  clear xz xn
  have B3 := B2.trans (b3.mono B2.size)
  replace sL := sL.below b3
  replace s1 := s1.below b3
  replace s2 := s2.below b3
  have hTb := T_pos b
  have hdu : Hid (V zq = T a / T b ∧ V zr = T a % T b) := by
    have h1 := XN.out (by rw [Y2.out]; omega)
    rw [Y1.out, Y2.out] at h1
    exact div_uniq hTb h1.1 (V_nonneg sr.ok) h1.2
  clear XZ XN
  go_wp2_with fail
  refine (shr_any _ z1 _ _ s1 (by omega) (by omega)).mono ?_
  rintro e w4 ⟨v4, z4, rfl, s4, m4, x4, l4, b4, -⟩
  have X4 : Hid (V z4 = V z1 / T (downN (b : Int))) := x4
  clear x4
  have B4 := B3.trans (b4.mono B3.size)
  replace sL := sL.below b4
  replace s1 := s1.below b4
  replace s2 := s2.below b4
  replace sq := sq.below b4
  replace sr := sr.below b4
  by_cases hab : a < b
  · have hab' : (a : Int) < (b : Int) := by omega
    have hTab : T a < T b := T_lt hab
    have hTa := T_pos a
    have eq1 : zq = [] := len_zero sq.ok mq (by rw [hdu.out.1]; exact Int.ediv_eq_zero_of_lt (by omega) hTab)
    subst eq1
    obtain ⟨pq, cq, rfl⟩ := sq.shape
    go_wp2_with fail
    refine (cmp_any _ _ zr z1 _ sr s1).mono ?_
    rintro e w5 ⟨rfl, b5⟩
    have B5 := B4.trans (b5.mono B4.size)
    replace sL := sL.below b5
    replace s1 := s1.below b5
    replace s2 := s2.below b5
    replace sq := sq.below b5
    replace sr := sr.below b5
    replace s4 := s4.below b5
    have e5 : sg (V zr) (V z1) = 0 := sg_eq (by rw [hdu.out.2, Y1.out]; exact Int.emod_eq_of_lt (by omega) hTab)
    rw [e5]
    clear e5
    go_wp2_with fail
    refine (mul_any _ _ z1 z2 _ s1 s2 (by omega) (by omega)).mono ?_
    rintro e w6 ⟨v6, z6, rfl, s6, m6, x6, l6, b6, -⟩
    have X6 : Hid (V z6 = V z1 * V z2) := x6
    clear x6
    have B6 := B5.trans (b6.mono B5.size)
    replace sL := sL.below b6
    replace s1 := s1.below b6
    replace s2 := s2.below b6
    replace sq := sq.below b6
    replace sr := sr.below b6
    replace s4 := s4.below b6
    go_wp2_with fail
    refine (shl_any _ [1] _ _ sL (by simp)).mono ?_
    rintro e w7 ⟨v7, z7, rfl, s7, m7, x7, l7, b7, -⟩
    have X7 : Hid (V z7 = V [1] * T (upN ((a : Int) + (b : Int)))) := x7
    clear x7
    have B7 := B6.trans (b7.mono B6.size)
    replace sL := sL.below b7
    replace s1 := s1.below b7
    replace s2 := s2.below b7
    replace sq := sq.below b7
    replace sr := sr.below b7
    replace s4 := s4.below b7
    replace s6 := s6.below b7
    go_wp2_with fail
    refine (cmp_any _ _ z6 z7 _ s6 s7).mono ?_
    rintro e w8 ⟨rfl, b8⟩
    have B8 := B7.trans (b8.mono B7.size)
    replace sL := sL.below b8
    replace s1 := s1.below b8
    replace s2 := s2.below b8
    replace sq := sq.below b8
    replace sr := sr.below b8
    replace s4 := s4.below b8
    replace s6 := s6.below b8
    replace s7 := s7.below b8
    have e8 : sg (V z6) (V z7) = 0 := sg_eq (by rw [X6.out, X7.out, Y1.out, Y2.out, HV1.out, show (a : Int) + (b : Int) = ((a + b : Nat) : Int) by omega, upN_nat (by omega), T_add, Int.one_mul])
    rw [e8]
    clear e8
    go_wp2_with fail
    refine (awake_any _).mono ?_
    rintro e w20 ⟨rfl, b20⟩
    have BF := B8.trans (b20.mono B8.size)
    go_wp2_with fail
    go_ret
    exact ⟨rfl, BF⟩
  · have hab' : ¬ (a : Int) < (b : Int) := by omega
    have hTab : T a = T (a - b) * T b := by rw [← T_add]; congr 1; omega
    have HTab : Hid _ := hTab
    clear hTab
    go_wp2_with fail
    refine (cmp_any _ _ zq z4 _ sq s4).mono ?_
    rintro e w5 ⟨rfl, b5⟩
    have B5 := B4.trans (b5.mono B4.size)
    replace sL := sL.below b5
    replace s1 := s1.below b5
    replace s2 := s2.below b5
    replace sq := sq.below b5
    replace sr := sr.below b5
    replace s4 := s4.below b5
    have e5 : sg (V zq) (V z4) = 0 := sg_eq (by rw [hdu.out.1, X4.out, Y1.out, downN_nat])
    rw [e5]
    clear e5
    have eq2 : zr = [] := len_zero sr.ok mr (by rw [hdu.out.2, HTab.out]; exact Int.mul_emod_left _ _)
    subst eq2
    obtain ⟨pr, cr, rfl⟩ := sr.shape
    go_wp2_with fail
    refine (mul_any _ _ z1 z2 _ s1 s2 (by omega) (by omega)).mono ?_
    rintro e w6 ⟨v6, z6, rfl, s6, m6, x6, l6, b6, -⟩
    have X6 : Hid (V z6 = V z1 * V z2) := x6
    clear x6
    have B6 := B5.trans (b6.mono B5.size)
    replace sL := sL.below b6
    replace s1 := s1.below b6
    replace s2 := s2.below b6
    replace sq := sq.below b6
    replace sr := sr.below b6
    replace s4 := s4.below b6
    go_wp2_with fail
    refine (shl_any _ [1] _ _ sL (by simp)).mono ?_
    rintro e w7 ⟨v7, z7, rfl, s7, m7, x7, l7, b7, -⟩
    have X7 : Hid (V z7 = V [1] * T (upN ((a : Int) + (b : Int)))) := x7
    clear x7
    have B7 := B6.trans (b7.mono B6.size)
    replace sL := sL.below b7
    replace s1 := s1.below b7
    replace s2 := s2.below b7
    replace sq := sq.below b7
    replace sr := sr.below b7
    replace s4 := s4.below b7
    replace s6 := s6.below b7
    go_wp2_with fail
    refine (cmp_any _ _ z6 z7 _ s6 s7).mono ?_
    rintro e w8 ⟨rfl, b8⟩
    have B8 := B7.trans (b8.mono B7.size)
    replace sL := sL.below b8
    replace s1 := s1.below b8
    replace s2 := s2.below b8
    replace sq := sq.below b8
    replace sr := sr.below b8
    replace s4 := s4.below b8
    replace s6 := s6.below b8
    replace s7 := s7.below b8
    have e8 : sg (V z6) (V z7) = 0 := sg_eq (by rw [X6.out, X7.out, Y1.out, Y2.out, HV1.out, show (a : Int) + (b : Int) = ((a + b : Nat) : Int) by omega, upN_nat (by omega), T_add, Int.one_mul])
    rw [e8]
    clear e8
    go_wp2_with fail
    refine (sub_any _ _ z1 [1] _ s1 sL (by omega) (by simp)).mono ?_
    rintro e w9 ⟨v9, z9, rfl, s9, m9, x9, l9, b9, -⟩
    have X9 : Hid (V z9 = subV (V z1) (V [1])) := x9
    clear x9
    have B9 := B8.trans (b9.mono B8.size)
    replace sL := sL.below b9
    replace s1 := s1.below b9
    replace s2 := s2.below b9
    replace sq := sq.below b9
    replace sr := sr.below b9
    replace s4 := s4.below b9
    replace s6 := s6.below b9
    replace s7 := s7.below b9
    go_wp2_with fail
    refine (len_any _ z9 _ s9 (by omega)).mono ?_
    rintro e w' ⟨l, rfl, rfl, hl, bl⟩
    have hT1 := T_pos a
    obtain rfl : l = a := hl.one (by rw [X9.out, Y1.out, HV1.out, subV_ge (by omega)]; exact isLen_pred a)
    clear hl bl hT1
    have hll : ((l : Int) == (l : Int)) = true := by simp
    go_wp2_with fail
    refine (awake_any _).mono ?_
    rintro e w20 ⟨rfl, b20⟩
    have BF := B9.trans (b20.mono B9.size)
    go_wp2_with fail
    go_ret
    exact ⟨rfl, BF⟩
end Go.Proofs.Ytedomcijnoekhaa
