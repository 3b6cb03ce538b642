/-
  The walk of the law LimbOrders: for every three slices of uint32 and every int it answers true, and turns nothing that was there.
-/
import Derived.Test.YtedomcijnoekhaaSame
import Derived.Test.YtedomcijnoekhaaShlShr
namespace Go.Proofs.Ytedomcijnoekhaa
open Go.RowKit
set_option linter.unusedVariables false

set_option maxRecDepth 100000 in
set_option maxHeartbeats 4000000 in
theorem limbOrders_walk (va vb vc : Value) (a b c : List Int) (n : Int) (w : World) (ha : Sl w va a) (hb : Sl w vb b) (hc : Sl w vc c) (hn1 : -9223372036854775808 ≤ n) (hn2 : n ≤ 9223372036854775807) :
    Calls Try.prog 7 #[va, vb, vc, .int .i64 n] w fun e w' => e = .returned (.bool true) ∧ Below w.heap.size w w' := by
  obtain ⟨pa, ca, rfl⟩ := ha.shape
  obtain ⟨pb, cb, rfl⟩ := hb.shape
  obtain ⟨pc, cc, rfl⟩ := hc.shape
  by_cases hf : a.length ≤ 30 ∧ b.length ≤ 30
  · by_cases hcl : c.length ≤ 30
    · have hcl' : ¬ (30 : Int) < (c.length : Int) := by omega
      obtain ⟨hla, hlb⟩ := hf
      go_enter Try.func7, Try.ntmps7
      go_wp2_with fail
      refine (few_yes pa pb _ _ ca cb _ hla hlb).mono ?_
      rintro e w' ⟨rfl, rfl⟩
      go_wp2_with fail
      refine (cmp_any _ _ a b _ ha hb).mono ?_
      rintro e w1 ⟨rfl, b1⟩
      have B1 := b1
      replace ha := ha.below b1
      replace hb := hb.below b1
      replace hc := hc.below b1
      have hKb := sg_bd (V a) (V b)
      obtain ⟨K, hK⟩ : ∃ K, K = sg (V a) (V b) := ⟨_, rfl⟩
      rw [← hK] at hKb ⊢
      have HK : Hid (K = sg (V a) (V b)) := hK
      clear hK
      have hK1 : (-K == -K) = true := by simp
      have hK2 : (K == K) = true := by simp
      go_wp2_with fail
      refine (limbs_any _ a _ ha (by omega)).mono ?_
      rintro e w2 ⟨v2, rfl, o2, b2⟩
      go_wp2_with fail
      refine (place_any n 5 _ (by decide) (by decide) hn1 hn2).mono ?_
      rintro e w' ⟨rfl, rfl⟩
      have hm0 : 0 ≤ n % 5 := by omega
      have hm1 : n % 5 < 5 := by omega
      generalize n % 5 = M at *
      obtain ⟨m, rfl⟩ := Int.eq_ofNat_of_zero_le hm0
      obtain ⟨v4, w4, hr4, s4, b4⟩ := appz_run w2 w1.heap.size v2 a m o2 ha.ok (by omega) (by omega) b2.size
      have b24 := b2.trans b4
      have l4 : (a ++ zer m).length ≤ 35 := by rw [List.length_append, zer_len]; omega
      obtain ⟨z4, hz4⟩ : ∃ z4, z4 = a ++ zer m := ⟨_, rfl⟩
      have X4 : Hid (V z4 = V a) := by
        show V z4 = V a
        rw [hz4, V_append, zer_V]; omega
      rw [← hz4] at s4 l4
      clear hz4 o2
      have B4 := B1.trans (b24.mono B1.size)
      replace ha := ha.below b24
      replace hb := hb.below b24
      replace hc := hc.below b24
      go_wp2_with (first | (at_builtin; refine wpList_appz rfl _ _ rfl v2 (m : Int) rfl rfl v4 w4 hr4 ?_) | fail)
      refine (cmp_any _ _ b a _ hb ha).mono ?_
      rintro e w5 ⟨rfl, b5⟩
      have B5 := B4.trans (b5.mono B4.size)
      replace ha := ha.below b5
      replace hb := hb.below b5
      replace hc := hc.below b5
      replace s4 := s4.below b5
      rw [sg_swap (V a) (V b), ← HK.out]
      clear hr4
      go_wp2_with fail
      refine (add_any _ _ a c _ ha hc (by omega) (by omega)).mono ?_
      rintro e w6 ⟨v6, z6, rfl, s6, m6, x6, l6, b6, -⟩
      have X6 : Hid (V z6 = V a + V c) := x6
      clear x6
      have B6 := B5.trans (b6.mono B5.size)
      replace ha := ha.below b6
      replace hb := hb.below b6
      replace hc := hc.below b6
      replace s4 := s4.below b6
      go_wp2_with fail
      refine (add_any _ _ b c _ hb hc (by omega) (by omega)).mono ?_
      rintro e w7 ⟨v7, z7, rfl, s7, m7, x7, l7, b7, -⟩
      have X7 : Hid (V z7 = V b + V c) := x7
      clear x7
      have B7 := B6.trans (b7.mono B6.size)
      replace ha := ha.below b7
      replace hb := hb.below b7
      replace hc := hc.below b7
      replace s4 := s4.below b7
      replace s6 := s6.below b7
      go_wp2_with fail
      refine (cmp_any _ _ z6 z7 _ s6 s7).mono ?_
      rintro e w8 ⟨rfl, b8⟩
      have B8 := B7.trans (b8.mono B7.size)
      replace ha := ha.below b8
      replace hb := hb.below b8
      replace hc := hc.below b8
      replace s4 := s4.below b8
      replace s6 := s6.below b8
      replace s7 := s7.below b8
      rw [show sg (V z6) (V z7) = K from by rw [X6.out, X7.out, sg_add]; exact HK.out.symm]
      go_wp2_with fail
      refine (cmp_any _ _ z4 a _ s4 ha).mono ?_
      rintro e w9 ⟨rfl, b9⟩
      have B9 := B8.trans (b9.mono B8.size)
      replace ha := ha.below b9
      replace hb := hb.below b9
      replace hc := hc.below b9
      replace s4 := s4.below b9
      replace s6 := s6.below b9
      replace s7 := s7.below b9
      have e9 : sg (V z4) (V a) = 0 := sg_eq (X4.out)
      rw [e9]
      clear e9
      go_wp2_with fail
      refine (norm_any _ z4 _ s4 (by omega)).mono ?_
      intro e w10 hN
      obtain ⟨v10, z10, rfl, s10, m10, x10, l10, b10, -⟩ := hN.num (by omega)
      have X10 : Hid (V z10 = V z4) := x10
      clear x10 hN
      have B10 := B9.trans (b10.mono B9.size)
      replace ha := ha.below b10
      replace hb := hb.below b10
      replace hc := hc.below b10
      replace s4 := s4.below b10
      replace s6 := s6.below b10
      replace s7 := s7.below b10
      go_wp2_with fail
      refine (norm_any _ a _ ha (by omega)).mono ?_
      intro e w11 hN
      obtain ⟨v11, z11, rfl, s11, m11, x11, l11, b11, -⟩ := hN.num (by omega)
      have X11 : Hid (V z11 = V a) := x11
      clear x11 hN
      have B11 := B10.trans (b11.mono B10.size)
      replace ha := ha.below b11
      replace hb := hb.below b11
      replace hc := hc.below b11
      replace s4 := s4.below b11
      replace s6 := s6.below b11
      replace s7 := s7.below b11
      replace s10 := s10.below b11
      have e12 : z11 = z10 := Nm_inj s11.ok s10.ok m11 m10 (by rw [X10.out, X11.out, X4.out])
      subst e12
      go_wp2_with fail
      refine (same_yes _ _ z11 _ s10 s11).mono ?_
      rintro e w12 ⟨rfl, b12⟩
      have B12 := B11.trans (b12.mono B11.size)
      replace ha := ha.below b12
      replace hb := hb.below b12
      replace hc := hc.below b12
      replace s4 := s4.below b12
      replace s6 := s6.below b12
      replace s7 := s7.below b12
      replace s10 := s10.below b12
      replace s11 := s11.below b12
      go_wp2_with fail
      refine (add_any _ _ z4 b _ s4 hb (by omega) (by omega)).mono ?_
      rintro e w13 ⟨v13, z13, rfl, s13, m13, x13, l13, b13, -⟩
      have X13 : Hid (V z13 = V z4 + V b) := x13
      clear x13
      have B13 := B12.trans (b13.mono B12.size)
      replace ha := ha.below b13
      replace hb := hb.below b13
      replace hc := hc.below b13
      replace s4 := s4.below b13
      replace s6 := s6.below b13
      replace s7 := s7.below b13
      replace s10 := s10.below b13
      replace s11 := s11.below b13
      go_wp2_with fail
      refine (add_any _ _ a b _ ha hb (by omega) (by omega)).mono ?_
      rintro e w14 ⟨v14, z14, rfl, s14, m14, x14, l14, b14, -⟩
      have X14 : Hid (V z14 = V a + V b) := x14
      clear x14
      have B14 := B13.trans (b14.mono B13.size)
      replace ha := ha.below b14
      replace hb := hb.below b14
      replace hc := hc.below b14
      replace s4 := s4.below b14
      replace s6 := s6.below b14
      replace s7 := s7.below b14
      replace s10 := s10.below b14
      replace s11 := s11.below b14
      replace s13 := s13.below b14
      have e15 : z14 = z13 := Nm_inj s14.ok s13.ok m14 m13 (by rw [X13.out, X14.out, X4.out])
      subst e15
      go_wp2_with fail
      refine (same_yes _ _ z14 _ s13 s14).mono ?_
      rintro e w15 ⟨rfl, b15⟩
      have B15 := B14.trans (b15.mono B14.size)
      replace ha := ha.below b15
      replace hb := hb.below b15
      replace hc := hc.below b15
      replace s4 := s4.below b15
      replace s6 := s6.below b15
      replace s7 := s7.below b15
      replace s10 := s10.below b15
      replace s11 := s11.below b15
      replace s13 := s13.below b15
      replace s14 := s14.below b15
      go_wp2_with fail
      refine (len_any _ z4 _ s4 (by omega)).mono ?_
      rintro e w' ⟨p, rfl, rfl, hp, bp⟩
      go_wp2_with fail
      refine (len_any _ a _ ha (by omega)).mono ?_
      rintro e w' ⟨q, rfl, rfl, hq, bq⟩
      rw [X4.out] at hp
      obtain rfl : p = q := hp.one hq
      clear hp hq
      have hpq : ((p : Int) == (p : Int)) = true := by simp
      go_wp2_with fail
      refine (awake_any _).mono ?_
      rintro e w20 ⟨rfl, b20⟩
      have BF := B15.trans (b20.mono B15.size)
      go_wp2_with fail
      go_ret
      exact ⟨rfl, BF⟩
    · have hcl' : (30 : Int) < (c.length : Int) := by omega
      go_enter Try.func7, Try.ntmps7
      go_wp2_with fail
      refine (few_yes pa pb _ _ ca cb _ hf.1 hf.2).mono ?_
      rintro e w' ⟨rfl, rfl⟩
      go_wp2_with fail
      refine (awake_any _).mono ?_
      rintro e w20 ⟨rfl, b20⟩
      go_wp2_with fail
      go_ret
      exact ⟨rfl, b20⟩
  · go_enter Try.func7, Try.ntmps7
    go_wp2_with fail
    refine (few_no pa pb _ _ ca cb _ hf).mono ?_
    rintro e w' ⟨rfl, rfl⟩
    go_wp2_with fail
    refine (awake_any _).mono ?_
    rintro e w20 ⟨rfl, b20⟩
    go_wp2_with fail
    go_ret
    exact ⟨rfl, b20⟩
end Go.Proofs.Ytedomcijnoekhaa
