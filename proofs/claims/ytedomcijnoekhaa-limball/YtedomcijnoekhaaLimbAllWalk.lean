/-
  The walk of the law LimbAll: for every two slices of uint32 and every int it answers true, and turns nothing that was there.
-/
import Derived.Test.YtedomcijnoekhaaRefH
namespace Go.Proofs.Ytedomcijnoekhaa
open Go.RowKit
set_option linter.unusedVariables false

theorem div_same {x y q r s t : Int} (h1 : y = 0 → q = 0 ∧ r = 0) (h2 : y ≠ 0 → q * y + r = x ∧ r < y) (h3 : y = 0 → s = 0 ∧ t = 0) (h4 : y ≠ 0 → s * y + t = x ∧ t < y) (hy : 0 ≤ y) (hr : 0 ≤ r) (ht : 0 ≤ t) : s = q ∧ t = r := by
  by_cases e : y = 0
  · have a1 := h1 e
    have a2 := h3 e
    omega
  · have a1 := h2 e
    have a2 := h4 e
    have hyp : 0 < y := by omega
    have e1 : x / y = q := by rw [← a1.1, Int.add_comm, Int.add_mul_ediv_right _ _ (by omega), Int.ediv_eq_zero_of_lt hr a1.2]; omega
    have e2 : x / y = s := by rw [← a2.1, Int.add_comm, Int.add_mul_ediv_right _ _ (by omega), Int.ediv_eq_zero_of_lt ht a2.2]; omega
    have e3 : s = q := by omega
    subst e3
    exact ⟨rfl, by omega⟩

set_option maxRecDepth 100000 in
set_option maxHeartbeats 8000000 in
theorem limbAll_walk (va vb : Value) (a b : List Int) (n : Int) (w : World) (ha : Sl w va a) (hb : Sl w vb b) (hn1 : -9223372036854775808 ≤ n) (hn2 : n ≤ 9223372036854775807) :
    Calls Try.prog 3 #[va, vb, .int .i64 n] w fun e w' => e = .returned (.bool true) ∧ Below w.heap.size w w' := by
  obtain ⟨pa, ca, rfl⟩ := ha.shape
  obtain ⟨pb, cb, rfl⟩ := hb.shape
  by_cases hf : a.length ≤ 30 ∧ b.length ≤ 30
  · obtain ⟨hla, hlb⟩ := hf
    go_enter Try.func3, Try.ntmps3
    go_wp2_with fail
    refine (few_yes pa pb _ _ ca cb _ hla hlb).mono ?_
    rintro e w' ⟨rfl, rfl⟩
    go_wp2_with fail
    refine (limbs_any _ a _ ha (by omega)).mono ?_
    rintro e w1 ⟨vx, rfl, o1, b1⟩
    have hx := o1.sl ha.ok
    clear o1
    have B1 := b1
    replace ha := ha.below b1
    replace hb := hb.below b1
    go_wp2_with fail
    refine (limbs_any _ b _ hb (by omega)).mono ?_
    rintro e w2 ⟨vy, rfl, o2, b2⟩
    have hy := o2.sl hb.ok
    clear o2
    have B2 := B1.trans (b2.mono B1.size)
    replace ha := ha.below b2
    replace hb := hb.below b2
    replace hx := hx.below b2
    go_wp2_with fail
    refine (div_any _ _ a b _ hx hy (by omega) (by omega)).mono ?_
    rintro e w3 ⟨vd1, vd2, zd1, zd2, rfl, sd1, sd2, md1, md2, ld1, ld2, b3, xdz, xdn⟩
    have XdZ : Hid (V b = 0 → V zd1 = 0 ∧ V zd2 = 0) := xdz
    have XdN : Hid (V b ≠ 0 → V zd1 * V b + V zd2 = V a ∧ V zd2 < V b) := xdn
    clear xdz xdn
    have B3 := B2.trans (b3.mono B2.size)
    replace ha := ha.below b3
    replace hb := hb.below b3
    replace hx := hx.below b3
    replace hy := hy.below b3
    go_wp2_with fail
    refine (rdiv_any _ _ a b _ ha hb (by omega) (by omega)).mono ?_
    rintro e w4 ⟨vr1, vr2, zr1, zr2, rfl, sr1, sr2, mr1, mr2, lr1, lr2, b4, xrz, xrn⟩
    have XrZ : Hid (V b = 0 → V zr1 = 0 ∧ V zr2 = 0) := xrz
    have XrN : Hid (V b ≠ 0 → V zr1 * V b + V zr2 = V a ∧ V zr2 < V b) := xrn
    clear xrz xrn
    have B4 := B3.trans (b4.mono B3.size)
    replace ha := ha.below b4
    replace hb := hb.below b4
    replace hx := hx.below b4
    replace hy := hy.below b4
    replace sd1 := sd1.below b4
    replace sd2 := sd2.below b4
    go_wp2_with fail
    refine (norm_any _ a _ hx (by omega)).mono ?_
    intro e w5 hN
    obtain ⟨v5, z5, rfl, s5, m5, x5, l5, b5, -⟩ := hN.num (by omega)
    have X5 : Hid (V z5 = V a) := x5
    clear x5 hN
    have B5 := B4.trans (b5.mono B4.size)
    replace ha := ha.below b5
    replace hb := hb.below b5
    replace hx := hx.below b5
    replace hy := hy.below b5
    replace sd1 := sd1.below b5
    replace sd2 := sd2.below b5
    replace sr1 := sr1.below b5
    replace sr2 := sr2.below b5
    go_wp2_with fail
    refine (rnorm_any _ a _ ha (by omega)).mono ?_
    rintro e w6 ⟨v6, z6, rfl, s6, m6, x6, l6, b6, -⟩
    have X6 : Hid (V z6 = V a) := x6
    clear x6
    have B6 := B5.trans (b6.mono B5.size)
    replace ha := ha.below b6
    replace hb := hb.below b6
    replace hx := hx.below b6
    replace hy := hy.below b6
    replace sd1 := sd1.below b6
    replace sd2 := sd2.below b6
    replace sr1 := sr1.below b6
    replace sr2 := sr2.below b6
    replace s5 := s5.below b6
    have e7 : z6 = z5 := Nm_inj s6.ok s5.ok m6 m5 (by rw [X5.out, X6.out])
    subst e7
    go_wp2_with fail
    refine (same_yes _ _ z6 _ s5 s6).mono ?_
    rintro e w7 ⟨rfl, b7⟩
    have B7 := B6.trans (b7.mono B6.size)
    replace ha := ha.below b7
    replace hb := hb.below b7
    replace hx := hx.below b7
    replace hy := hy.below b7
    replace sd1 := sd1.below b7
    replace sd2 := sd2.below b7
    replace sr1 := sr1.below b7
    replace sr2 := sr2.below b7
    replace s5 := s5.below b7
    replace s6 := s6.below b7
    clear s5 s6 m5 m6
    go_wp2_with fail
    refine (cmp_any _ _ a b _ hx hy).mono ?_
    rintro e w8 ⟨rfl, b8⟩
    have B8 := B7.trans (b8.mono B7.size)
    replace ha := ha.below b8
    replace hb := hb.below b8
    replace hx := hx.below b8
    replace hy := hy.below b8
    replace sd1 := sd1.below b8
    replace sd2 := sd2.below b8
    replace sr1 := sr1.below b8
    replace sr2 := sr2.below b8
    go_wp2_with fail
    refine (rcmp_any _ _ a b _ ha hb (by omega) (by omega)).mono ?_
    rintro e w' ⟨rfl, hw⟩
    have hw' := hw.symm
    subst hw'
    clear hw
    generalize sg (V a) (V b) = K at *
    have hK : (K == K) = true := by simp
    go_wp2_with fail
    refine (add_any _ _ a b _ hx hy (by omega) (by omega)).mono ?_
    rintro e w9 ⟨v9, z9, rfl, s9, m9, x9, l9, b9, -⟩
    have X9 : Hid (V z9 = V a + V b) := x9
    clear x9
    have B9 := B8.trans (b9.mono B8.size)
    replace ha := ha.below b9
    replace hb := hb.below b9
    replace hx := hx.below b9
    replace hy := hy.below b9
    replace sd1 := sd1.below b9
    replace sd2 := sd2.below b9
    replace sr1 := sr1.below b9
    replace sr2 := sr2.below b9
    go_wp2_with fail
    refine (radd_any _ _ a b _ ha hb (by omega) (by omega)).mono ?_
    rintro e w10 ⟨v10, z10, rfl, s10, m10, x10, l10, b10, -⟩
    have X10 : Hid (V z10 = V a + V b) := x10
    clear x10
    have B10 := B9.trans (b10.mono B9.size)
    replace ha := ha.below b10
    replace hb := hb.below b10
    replace hx := hx.below b10
    replace hy := hy.below b10
    replace sd1 := sd1.below b10
    replace sd2 := sd2.below b10
    replace sr1 := sr1.below b10
    replace sr2 := sr2.below b10
    replace s9 := s9.below b10
    have e11 : z10 = z9 := Nm_inj s10.ok s9.ok m10 m9 (by rw [X9.out, X10.out])
    subst e11
    go_wp2_with fail
    refine (same_yes _ _ z10 _ s9 s10).mono ?_
    rintro e w11 ⟨rfl, b11⟩
    have B11 := B10.trans (b11.mono B10.size)
    replace ha := ha.below b11
    replace hb := hb.below b11
    replace hx := hx.below b11
    replace hy := hy.below b11
    replace sd1 := sd1.below b11
    replace sd2 := sd2.below b11
    replace sr1 := sr1.below b11
    replace sr2 := sr2.below b11
    replace s9 := s9.below b11
    replace s10 := s10.below b11
    clear s9 s10 m9 m10
    go_wp2_with fail
    refine (sub_any _ _ a b _ hx hy (by omega) (by omega)).mono ?_
    rintro e w12 ⟨v12, z12, rfl, s12, m12, x12, l12, b12, -⟩
    have X12 : Hid (V z12 = subV (V a) (V b)) := x12
    clear x12
    have B12 := B11.trans (b12.mono B11.size)
    replace ha := ha.below b12
    replace hb := hb.below b12
    replace hx := hx.below b12
    replace hy := hy.below b12
    replace sd1 := sd1.below b12
    replace sd2 := sd2.below b12
    replace sr1 := sr1.below b12
    replace sr2 := sr2.below b12
    go_wp2_with fail
    refine (rsub_any _ _ a b _ ha hb (by omega) (by omega)).mono ?_
    rintro e w13 ⟨v13, z13, rfl, s13, m13, x13, l13, b13, -⟩
    have X13 : Hid (V z13 = subV (V a) (V b)) := x13
    clear x13
    have B13 := B12.trans (b13.mono B12.size)
    replace ha := ha.below b13
    replace hb := hb.below b13
    replace hx := hx.below b13
    replace hy := hy.below b13
    replace sd1 := sd1.below b13
    replace sd2 := sd2.below b13
    replace sr1 := sr1.below b13
    replace sr2 := sr2.below b13
    replace s12 := s12.below b13
    have e14 : z13 = z12 := Nm_inj s13.ok s12.ok m13 m12 (by rw [X12.out, X13.out])
    subst e14
    go_wp2_with fail
    refine (same_yes _ _ z13 _ s12 s13).mono ?_
    rintro e w14 ⟨rfl, b14⟩
    have B14 := B13.trans (b14.mono B13.size)
    replace ha := ha.below b14
    replace hb := hb.below b14
    replace hx := hx.below b14
    replace hy := hy.below b14
    replace sd1 := sd1.below b14
    replace sd2 := sd2.below b14
    replace sr1 := sr1.below b14
    replace sr2 := sr2.below b14
    replace s12 := s12.below b14
    replace s13 := s13.below b14
    clear s12 s13 m12 m13
    go_wp2_with fail
    refine (mul_any _ _ a b _ hx hy (by omega) (by omega)).mono ?_
    rintro e w15 ⟨v15, z15, rfl, s15, m15, x15, l15, b15, -⟩
    have X15 : Hid (V z15 = V a * V b) := x15
    clear x15
    have B15 := B14.trans (b15.mono B14.size)
    replace ha := ha.below b15
    replace hb := hb.below b15
    replace hx := hx.below b15
    replace hy := hy.below b15
    replace sd1 := sd1.below b15
    replace sd2 := sd2.below b15
    replace sr1 := sr1.below b15
    replace sr2 := sr2.below b15
    go_wp2_with fail
    refine (rmul_any _ _ a b _ ha hb (by omega) (by omega)).mono ?_
    rintro e w16 ⟨v16, z16, rfl, s16, m16, x16, l16, b16, -⟩
    have X16 : Hid (V z16 = V a * V b) := x16
    clear x16
    have B16 := B15.trans (b16.mono B15.size)
    replace ha := ha.below b16
    replace hb := hb.below b16
    replace hx := hx.below b16
    replace hy := hy.below b16
    replace sd1 := sd1.below b16
    replace sd2 := sd2.below b16
    replace sr1 := sr1.below b16
    replace sr2 := sr2.below b16
    replace s15 := s15.below b16
    have e17 : z16 = z15 := Nm_inj s16.ok s15.ok m16 m15 (by rw [X15.out, X16.out])
    subst e17
    go_wp2_with fail
    refine (same_yes _ _ z16 _ s15 s16).mono ?_
    rintro e w17 ⟨rfl, b17⟩
    have B17 := B16.trans (b17.mono B16.size)
    replace ha := ha.below b17
    replace hb := hb.below b17
    replace hx := hx.below b17
    replace hy := hy.below b17
    replace sd1 := sd1.below b17
    replace sd2 := sd2.below b17
    replace sr1 := sr1.below b17
    replace sr2 := sr2.below b17
    replace s15 := s15.below b17
    replace s16 := s16.below b17
    clear s15 s16 m15 m16
    have HQ : Hid (V zr1 = V zd1 ∧ V zr2 = V zd2) := div_same XdZ.out XdN.out XrZ.out XrN.out (V_nonneg hb.ok) (V_nonneg sd2.ok) (V_nonneg sr2.ok)
    clear XdZ XdN XrZ XrN
    have e18 : zr1 = zd1 := Nm_inj sr1.ok sd1.ok mr1 md1 (HQ.out.1)
    subst e18
    go_wp2_with fail
    refine (same_yes _ _ zr1 _ sd1 sr1).mono ?_
    rintro e w18 ⟨rfl, b18⟩
    have B18 := B17.trans (b18.mono B17.size)
    replace ha := ha.below b18
    replace hb := hb.below b18
    replace hx := hx.below b18
    replace hy := hy.below b18
    replace sd1 := sd1.below b18
    replace sd2 := sd2.below b18
    replace sr1 := sr1.below b18
    replace sr2 := sr2.below b18
    clear sd1 sr1 md1 mr1
    have e19 : zr2 = zd2 := Nm_inj sr2.ok sd2.ok mr2 md2 (HQ.out.2)
    subst e19
    go_wp2_with fail
    refine (same_yes _ _ zr2 _ sd2 sr2).mono ?_
    rintro e w19 ⟨rfl, b19⟩
    have B19 := B18.trans (b19.mono B18.size)
    replace ha := ha.below b19
    replace hb := hb.below b19
    replace hx := hx.below b19
    replace hy := hy.below b19
    replace sd2 := sd2.below b19
    replace sr2 := sr2.below b19
    clear sd2 sr2 md2 mr2
    go_wp2_with fail
    refine (shl_any _ a n _ hx (by omega)).mono ?_
    rintro e w20 ⟨v20, z20, rfl, s20, m20, x20, l20, b20, -⟩
    have X20 : Hid (V z20 = V a * T (upN n)) := x20
    clear x20
    have B20 := B19.trans (b20.mono B19.size)
    replace ha := ha.below b20
    replace hb := hb.below b20
    replace hx := hx.below b20
    replace hy := hy.below b20
    go_wp2_with fail
    refine (rshl_any _ a n _ ha (by omega)).mono ?_
    rintro e w21 ⟨v21, z21, rfl, s21, m21, x21, l21, b21, -⟩
    have X21 : Hid (V z21 = V a * T (upN n)) := x21
    clear x21
    have B21 := B20.trans (b21.mono B20.size)
    replace ha := ha.below b21
    replace hb := hb.below b21
    replace hx := hx.below b21
    replace hy := hy.below b21
    replace s20 := s20.below b21
    have e22 : z21 = z20 := Nm_inj s21.ok s20.ok m21 m20 (by rw [X20.out, X21.out])
    subst e22
    go_wp2_with fail
    refine (same_yes _ _ z21 _ s20 s21).mono ?_
    rintro e w22 ⟨rfl, b22⟩
    have B22 := B21.trans (b22.mono B21.size)
    replace ha := ha.below b22
    replace hb := hb.below b22
    replace hx := hx.below b22
    replace hy := hy.below b22
    replace s20 := s20.below b22
    replace s21 := s21.below b22
    clear s20 s21 m20 m21
    go_wp2_with fail
    refine (shr_any _ a n _ hx (by omega) hn2).mono ?_
    rintro e w23 ⟨v23, z23, rfl, s23, m23, x23, l23, b23, -⟩
    have X23 : Hid (V z23 = V a / T (downN n)) := x23
    clear x23
    have B23 := B22.trans (b23.mono B22.size)
    replace ha := ha.below b23
    replace hb := hb.below b23
    replace hx := hx.below b23
    replace hy := hy.below b23
    go_wp2_with fail
    refine (rshr_any _ a n _ ha (by omega) hn2).mono ?_
    rintro e w24 ⟨v24, z24, rfl, s24, m24, x24, l24, b24, -⟩
    have X24 : Hid (V z24 = V a / T (downN n)) := x24
    clear x24
    have B24 := B23.trans (b24.mono B23.size)
    replace ha := ha.below b24
    replace hb := hb.below b24
    replace hx := hx.below b24
    replace hy := hy.below b24
    replace s23 := s23.below b24
    have e25 : z24 = z23 := Nm_inj s24.ok s23.ok m24 m23 (by rw [X23.out, X24.out])
    subst e25
    go_wp2_with fail
    refine (same_yes _ _ z24 _ s23 s24).mono ?_
    rintro e w25 ⟨rfl, b25⟩
    have B25 := B24.trans (b25.mono B24.size)
    replace ha := ha.below b25
    replace hb := hb.below b25
    replace hx := hx.below b25
    replace hy := hy.below b25
    replace s23 := s23.below b25
    replace s24 := s24.below b25
    clear s23 s24 m23 m24
    go_wp2_with fail
    refine (len_any _ a _ hx (by omega)).mono ?_
    rintro e w' ⟨p, rfl, rfl, hp, bp⟩
    have HP : Hid (IsLen (V a) p) := hp
    clear hp
    go_wp2_with fail
    refine (rlen_any _ a _ ha (by omega)).mono ?_
    rintro e w26 ⟨q, rfl, b26, hq, bq⟩
    obtain rfl : p = q := HP.out.one hq
    clear hq HP
    have B26 := B25.trans (b26.mono B25.size)
    replace ha := ha.below b26
    replace hb := hb.below b26
    replace hx := hx.below b26
    replace hy := hy.below b26
    have hpp : ((p : Int) == (p : Int)) = true := by simp
    go_wp2_with fail
    refine (same_yes _ _ a _ hx ha).mono ?_
    rintro e w27 ⟨rfl, b27⟩
    have B27 := B26.trans (b27.mono B26.size)
    replace ha := ha.below b27
    replace hb := hb.below b27
    replace hx := hx.below b27
    replace hy := hy.below b27
    go_wp2_with fail
    refine (same_yes _ _ b _ hy hb).mono ?_
    rintro e w28 ⟨rfl, b28⟩
    have B28 := B27.trans (b28.mono B27.size)
    replace ha := ha.below b28
    replace hb := hb.below b28
    replace hx := hx.below b28
    replace hy := hy.below b28
    go_wp2_with fail
    refine (awake_any _).mono ?_
    rintro e wz ⟨rfl, bz⟩
    have BF := B28.trans (bz.mono B28.size)
    go_wp2_with fail
    go_ret
    exact ⟨rfl, BF⟩
  · go_enter Try.func3, Try.ntmps3
    go_wp2_with fail
    refine (few_no pa pb _ _ ca cb _ hf).mono ?_
    rintro e w' ⟨rfl, rfl⟩
    go_wp2_with fail
    refine (awake_any _).mono ?_
    rintro e w20 ⟨rfl, b20⟩
    go_wp2_with fail
    go_ret
    exact ⟨rfl, b20⟩
end Go.Proofs.Ytedomcijnoekhaa
