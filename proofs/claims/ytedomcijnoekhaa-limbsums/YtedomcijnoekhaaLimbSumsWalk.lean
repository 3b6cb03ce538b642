/-
  The walk of the law LimbSums: for every three slices of uint32 it answers true, and turns nothing that was there.
-/
import Derived.Test.YtedomcijnoekhaaLaw
namespace Go.Proofs.Ytedomcijnoekhaa
open Go.RowKit
set_option linter.unusedVariables false

set_option maxHeartbeats 4000000 in
theorem limbSums_walk (va vb vc : Value) (a b c : List Int) (w : World) (ha : Sl w va a) (hb : Sl w vb b) (hc : Sl w vc c) :
    Calls Try.prog 5 #[va, vb, vc] w fun e w' => e = .returned (.bool true) ∧ Below w.heap.size w w' := by
  obtain ⟨pa, ca, rfl⟩ := ha.shape
  obtain ⟨pb, cb, rfl⟩ := hb.shape
  obtain ⟨pc, cc, rfl⟩ := hc.shape
  by_cases hf : a.length ≤ 30 ∧ b.length ≤ 30
  · by_cases hcl : c.length ≤ 30
    · have hcl' : ¬ (30 : Int) < (c.length : Int) := by omega
      obtain ⟨hla, hlb⟩ := hf
      go_enter Try.func5, Try.ntmps5
      go_wp2_with fail
      refine (few_yes pa pb _ _ ca cb _ hla hlb).mono ?_
      rintro e w' ⟨rfl, rfl⟩
      go_wp2_with fail
      refine (add_any _ _ a b _ ha hb (by omega) (by omega)).mono ?_
      rintro e w1 ⟨v1, z1, rfl, s1, m1, x1, l1, b1, -⟩
      have X1 : Hid (V z1 = V a + V b) := x1
      clear x1
      have B1 := b1
      replace ha := ha.below b1
      replace hb := hb.below b1
      replace hc := hc.below b1
      go_wp2_with fail
      refine (sub_any _ _ z1 b _ s1 hb (by omega) (by omega)).mono ?_
      rintro e w2 ⟨v2, z2, rfl, s2, m2, x2, l2, b2, -⟩
      have X2 : Hid (V z2 = subV (V z1) (V b)) := x2
      clear x2
      have B2 := B1.trans (b2.mono B1.size)
      replace ha := ha.below b2
      replace hb := hb.below b2
      replace hc := hc.below b2
      replace s1 := s1.below b2
      go_wp2_with fail
      refine (cmp_any _ _ z2 a _ s2 ha).mono ?_
      rintro e w3 ⟨rfl, b3⟩
      have B3 := B2.trans (b3.mono B2.size)
      replace ha := ha.below b3
      replace hb := hb.below b3
      replace hc := hc.below b3
      replace s1 := s1.below b3
      replace s2 := s2.below b3
      have e3 : sg (V z2) (V a) = 0 := sg_eq (by rw [X2.out, X1.out, subV_ge (by have := V_nonneg ha.ok; omega)]; omega)
      rw [e3]
      clear e3
      go_wp2_with fail
      refine (add_any _ _ b a _ hb ha (by omega) (by omega)).mono ?_
      rintro e w4 ⟨v4, z4, rfl, s4, m4, x4, l4, b4, -⟩
      have X4 : Hid (V z4 = V b + V a) := x4
      clear x4
      have B4 := B3.trans (b4.mono B3.size)
      replace ha := ha.below b4
      replace hb := hb.below b4
      replace hc := hc.below b4
      replace s1 := s1.below b4
      replace s2 := s2.below b4
      go_wp2_with fail
      refine (cmp_any _ _ z1 z4 _ s1 s4).mono ?_
      rintro e w5 ⟨rfl, b5⟩
      have B5 := B4.trans (b5.mono B4.size)
      replace ha := ha.below b5
      replace hb := hb.below b5
      replace hc := hc.below b5
      replace s1 := s1.below b5
      replace s2 := s2.below b5
      replace s4 := s4.below b5
      have e5 : sg (V z1) (V z4) = 0 := sg_eq (by rw [X1.out, X4.out, Int.add_comm])
      rw [e5]
      clear e5
      go_wp2_with fail
      refine (mul_any _ _ a b _ ha hb (by omega) (by omega)).mono ?_
      rintro e w6 ⟨v6, z6, rfl, s6, m6, x6, l6, b6, -⟩
      have X6 : Hid (V z6 = V a * V b) := x6
      clear x6
      have B6 := B5.trans (b6.mono B5.size)
      replace ha := ha.below b6
      replace hb := hb.below b6
      replace hc := hc.below b6
      replace s1 := s1.below b6
      replace s2 := s2.below b6
      replace s4 := s4.below b6
      go_wp2_with fail
      refine (mul_any _ _ b a _ hb ha (by omega) (by omega)).mono ?_
      rintro e w7 ⟨v7, z7, rfl, s7, m7, x7, l7, b7, -⟩
      have X7 : Hid (V z7 = V b * V a) := x7
      clear x7
      have B7 := B6.trans (b7.mono B6.size)
      replace ha := ha.below b7
      replace hb := hb.below b7
      replace hc := hc.below b7
      replace s1 := s1.below b7
      replace s2 := s2.below b7
      replace s4 := s4.below b7
      replace s6 := s6.below b7
      go_wp2_with fail
      refine (cmp_any _ _ z6 z7 _ s6 s7).mono ?_
      rintro e w8 ⟨rfl, b8⟩
      have B8 := B7.trans (b8.mono B7.size)
      replace ha := ha.below b8
      replace hb := hb.below b8
      replace hc := hc.below b8
      replace s1 := s1.below b8
      replace s2 := s2.below b8
      replace s4 := s4.below b8
      replace s6 := s6.below b8
      replace s7 := s7.below b8
      have e8 : sg (V z6) (V z7) = 0 := sg_eq (by rw [X6.out, X7.out, Int.mul_comm])
      rw [e8]
      clear e8
      go_wp2_with fail
      refine (mul_any _ _ c z1 _ hc s1 (by omega) (by omega)).mono ?_
      rintro e w9 ⟨v9, z9, rfl, s9, m9, x9, l9, b9, -⟩
      have X9 : Hid (V z9 = V c * V z1) := x9
      clear x9
      have B9 := B8.trans (b9.mono B8.size)
      replace ha := ha.below b9
      replace hb := hb.below b9
      replace hc := hc.below b9
      replace s1 := s1.below b9
      replace s2 := s2.below b9
      replace s4 := s4.below b9
      replace s6 := s6.below b9
      replace s7 := s7.below b9
      go_wp2_with fail
      refine (mul_any _ _ c a _ hc ha (by omega) (by omega)).mono ?_
      rintro e w10 ⟨v10, z10, rfl, s10, m10, x10, l10, b10, -⟩
      have X10 : Hid (V z10 = V c * V a) := x10
      clear x10
      have B10 := B9.trans (b10.mono B9.size)
      replace ha := ha.below b10
      replace hb := hb.below b10
      replace hc := hc.below b10
      replace s1 := s1.below b10
      replace s2 := s2.below b10
      replace s4 := s4.below b10
      replace s6 := s6.below b10
      replace s7 := s7.below b10
      replace s9 := s9.below b10
      go_wp2_with fail
      refine (mul_any _ _ c b _ hc hb (by omega) (by omega)).mono ?_
      rintro e w11 ⟨v11, z11, rfl, s11, m11, x11, l11, b11, -⟩
      have X11 : Hid (V z11 = V c * V b) := x11
      clear x11
      have B11 := B10.trans (b11.mono B10.size)
      replace ha := ha.below b11
      replace hb := hb.below b11
      replace hc := hc.below b11
      replace s1 := s1.below b11
      replace s2 := s2.below b11
      replace s4 := s4.below b11
      replace s6 := s6.below b11
      replace s7 := s7.below b11
      replace s9 := s9.below b11
      replace s10 := s10.below b11
      go_wp2_with fail
      refine (add_any _ _ z10 z11 _ s10 s11 (by omega) (by omega)).mono ?_
      rintro e w12 ⟨v12, z12, rfl, s12, m12, x12, l12, b12, -⟩
      have X12 : Hid (V z12 = V z10 + V z11) := x12
      clear x12
      have B12 := B11.trans (b12.mono B11.size)
      replace ha := ha.below b12
      replace hb := hb.below b12
      replace hc := hc.below b12
      replace s1 := s1.below b12
      replace s2 := s2.below b12
      replace s4 := s4.below b12
      replace s6 := s6.below b12
      replace s7 := s7.below b12
      replace s9 := s9.below b12
      replace s10 := s10.below b12
      replace s11 := s11.below b12
      go_wp2_with fail
      refine (cmp_any _ _ z9 z12 _ s9 s12).mono ?_
      rintro e w13 ⟨rfl, b13⟩
      have B13 := B12.trans (b13.mono B12.size)
      replace ha := ha.below b13
      replace hb := hb.below b13
      replace hc := hc.below b13
      replace s1 := s1.below b13
      replace s2 := s2.below b13
      replace s4 := s4.below b13
      replace s6 := s6.below b13
      replace s7 := s7.below b13
      replace s9 := s9.below b13
      replace s10 := s10.below b13
      replace s11 := s11.below b13
      replace s12 := s12.below b13
      have e13 : sg (V z9) (V z12) = 0 := sg_eq (by rw [X9.out, X12.out, X1.out, X10.out, X11.out, Int.mul_add])
      rw [e13]
      clear e13
      go_wp2_with fail
      refine (sub_any _ _ a a _ ha ha (by omega) (by omega)).mono ?_
      rintro e w14 ⟨v14, z14, rfl, s14, m14, x14, l14, b14, -⟩
      have X14 : Hid (V z14 = subV (V a) (V a)) := x14
      clear x14
      have B14 := B13.trans (b14.mono B13.size)
      replace ha := ha.below b14
      replace hb := hb.below b14
      replace hc := hc.below b14
      replace s1 := s1.below b14
      replace s2 := s2.below b14
      replace s4 := s4.below b14
      replace s6 := s6.below b14
      replace s7 := s7.below b14
      replace s9 := s9.below b14
      replace s10 := s10.below b14
      replace s11 := s11.below b14
      replace s12 := s12.below b14
      go_wp2_with fail
      refine (cmp_any _ _ z14 [] _ s14 (Sl.nil _)).mono ?_
      rintro e w15 ⟨rfl, b15⟩
      have B15 := B14.trans (b15.mono B14.size)
      replace ha := ha.below b15
      replace hb := hb.below b15
      replace hc := hc.below b15
      replace s1 := s1.below b15
      replace s2 := s2.below b15
      replace s4 := s4.below b15
      replace s6 := s6.below b15
      replace s7 := s7.below b15
      replace s9 := s9.below b15
      replace s10 := s10.below b15
      replace s11 := s11.below b15
      replace s12 := s12.below b15
      replace s14 := s14.below b15
      have e15 : sg (V z14) (V []) = 0 := sg_eq (by rw [X14.out, subV_le (Int.le_refl _)]; rfl)
      rw [e15]
      clear e15
      have sL := sl_lit w15 1 (by decide) (by decide)
      have b16 := (Below.refl w15.heap.size w15).alloc (Nat.le_refl _) (.cells #[.int .u32 1] 33)
      have B16 := B15.trans (b16.mono B15.size)
      replace ha := ha.below b16
      replace hb := hb.below b16
      replace hc := hc.below b16
      replace s1 := s1.below b16
      replace s2 := s2.below b16
      replace s4 := s4.below b16
      replace s6 := s6.below b16
      replace s7 := s7.below b16
      replace s9 := s9.below b16
      replace s10 := s10.below b16
      replace s11 := s11.below b16
      replace s12 := s12.below b16
      replace s14 := s14.below b16
      go_wp2_with fail
      refine (add_any _ _ a [1] _ ha sL (by omega) (by simp)).mono ?_
      rintro e w17 ⟨v17, z17, rfl, s17, m17, x17, l17, b17, -⟩
      have X17 : Hid (V z17 = V a + V [1]) := x17
      clear x17
      have B17 := B16.trans (b17.mono B16.size)
      replace ha := ha.below b17
      replace hb := hb.below b17
      replace hc := hc.below b17
      replace s1 := s1.below b17
      replace s2 := s2.below b17
      replace s4 := s4.below b17
      replace s6 := s6.below b17
      replace s7 := s7.below b17
      replace s9 := s9.below b17
      replace s10 := s10.below b17
      replace s11 := s11.below b17
      replace s12 := s12.below b17
      replace s14 := s14.below b17
      replace sL := sL.below b17
      go_wp2_with fail
      refine (sub_any _ _ a z17 _ ha s17 (by omega) (by simp at l17; omega)).mono ?_
      rintro e w18 ⟨v18, z18, rfl, s18, m18, x18, l18, b18, -⟩
      have X18 : Hid (V z18 = subV (V a) (V z17)) := x18
      clear x18
      have B18 := B17.trans (b18.mono B17.size)
      replace ha := ha.below b18
      replace hb := hb.below b18
      replace hc := hc.below b18
      replace s1 := s1.below b18
      replace s2 := s2.below b18
      replace s4 := s4.below b18
      replace s6 := s6.below b18
      replace s7 := s7.below b18
      replace s9 := s9.below b18
      replace s10 := s10.below b18
      replace s11 := s11.below b18
      replace s12 := s12.below b18
      replace s14 := s14.below b18
      replace sL := sL.below b18
      replace s17 := s17.below b18
      go_wp2_with fail
      refine (len_any _ z18 _ s18 (by omega)).mono ?_
      rintro e w' ⟨n, rfl, rfl, hlen, -⟩
      have hz : V z18 = 0 := by
        rw [X18.out, X17.out]
        exact subV_le (by simp [V]; omega)
      rw [hz] at hlen
      obtain rfl : n = 0 := hlen.one (.inl ⟨rfl, rfl⟩)
      clear hlen hz
      go_wp2_with fail
      refine (awake_any _).mono ?_
      rintro e w20 ⟨rfl, b20⟩
      have BF := B18.trans (b20.mono B18.size)
      go_wp2_with fail
      go_ret
      exact ⟨rfl, BF⟩
    · have hcl' : (30 : Int) < (c.length : Int) := by omega
      go_enter Try.func5, Try.ntmps5
      go_wp2_with fail
      refine (few_yes pa pb _ _ ca cb _ hf.1 hf.2).mono ?_
      rintro e w' ⟨rfl, rfl⟩
      go_wp2_with fail
      refine (awake_any _).mono ?_
      rintro e w20 ⟨rfl, b20⟩
      go_wp2_with fail
      go_ret
      exact ⟨rfl, b20⟩
  · go_enter Try.func5, Try.ntmps5
    go_wp2_with fail
    refine (few_no pa pb _ _ ca cb _ hf).mono ?_
    rintro e w' ⟨rfl, rfl⟩
    go_wp2_with fail
    refine (awake_any _).mono ?_
    rintro e w20 ⟨rfl, b20⟩
    go_wp2_with fail
    go_ret
    exact ⟨rfl, b20⟩
end Go.Proofs.Ytedomcijnoekhaa
