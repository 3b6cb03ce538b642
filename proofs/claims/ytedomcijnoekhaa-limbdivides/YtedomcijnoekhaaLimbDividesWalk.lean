/-
  The walk of the law LimbDivides: for every two slices of uint32 it answers true, and turns nothing that was there.
-/
import Derived.Test.YtedomcijnoekhaaLaw
import Derived.Test.YtedomcijnoekhaaDiv
namespace Go.Proofs.Ytedomcijnoekhaa
open Go.RowKit
set_option linter.unusedVariables false

set_option maxRecDepth 100000 in
set_option maxHeartbeats 4000000 in
theorem limbDivides_walk (va vb : Value) (a b : List Int) (w : World) (ha : Sl w va a) (hb : Sl w vb b) :
    Calls Try.prog 4 #[va, vb] w fun e w' => e = .returned (.bool true) ∧ Below w.heap.size w w' := by
  obtain ⟨pa, ca, rfl⟩ := ha.shape
  obtain ⟨pb, cb, rfl⟩ := hb.shape
  by_cases hf : a.length ≤ 30 ∧ b.length ≤ 30
  · obtain ⟨hla, hlb⟩ := hf
    go_enter Try.func4, Try.ntmps4
    go_wp2_with fail
    refine (few_yes pa pb _ _ ca cb _ hla hlb).mono ?_
    rintro e w' ⟨rfl, rfl⟩
    go_wp2_with fail
    refine (div_any _ _ a b _ ha hb (by omega) (by omega)).mono ?_
    rintro e w1 ⟨vq, vr, zq, zr, rfl, sq, sr, mq, mr, lq, lr, b1, xz, xn⟩
    have XZ : Hid _ := xz
    have XN : Hid _ := xn
    clear xz xn
    have B1 := b1
    replace ha := ha.below b1
    replace hb := hb.below b1
    go_wp2_with fail
    refine (len_any _ b _ hb (by omega)).mono ?_
    rintro e w' ⟨l, rfl, rfl, hl, bl⟩
    have HL : Hid (IsLen (V b) l) := hl
    clear hl
    by_cases hl0 : l = 0
    · subst hl0
      have hz := XZ.out (isLen_zero HL.out)
      have eq1 : zq = [] := len_zero sq.ok mq hz.1
      have eq2 : zr = [] := len_zero sr.ok mr hz.2
      subst eq1
      subst eq2
      obtain ⟨pq, cq, rfl⟩ := sq.shape
      obtain ⟨pr, cr, rfl⟩ := sr.shape
      clear hz
      go_wp2_with fail
      refine (awake_any _).mono ?_
      rintro e w20 ⟨rfl, b20⟩
      have BF := B1.trans (b20.mono B1.size)
      go_wp2_with fail
      go_ret
      exact ⟨rfl, BF⟩
    · have hl1 : ((l : Int) == 0) = false := beq_eq_false_iff_ne.2 (by omega)
      have hbn : V b ≠ 0 := by
        intro e
        have h1 := HL.out
        rw [e] at h1
        exact hl0 (h1.one (.inl ⟨rfl, rfl⟩))
      have XD : Hid _ := XN.out hbn
      clear hbn
      go_wp2_with fail
      refine (mul_any _ _ zq b _ sq hb (by omega) (by omega)).mono ?_
      rintro e w2 ⟨v2, z2, rfl, s2, m2, x2, l2, b2, -⟩
      have X2 : Hid (V z2 = V zq * V b) := x2
      clear x2
      have B2 := B1.trans (b2.mono B1.size)
      replace ha := ha.below b2
      replace hb := hb.below b2
      replace sq := sq.below b2
      replace sr := sr.below b2
      go_wp2_with fail
      refine (add_any _ _ z2 zr _ s2 sr (by omega) (by omega)).mono ?_
      rintro e w3 ⟨v3, z3, rfl, s3, m3, x3, l3, b3, -⟩
      have X3 : Hid (V z3 = V z2 + V zr) := x3
      clear x3
      have B3 := B2.trans (b3.mono B2.size)
      replace ha := ha.below b3
      replace hb := hb.below b3
      replace sq := sq.below b3
      replace sr := sr.below b3
      replace s2 := s2.below b3
      go_wp2_with fail
      refine (cmp_any _ _ z3 a _ s3 ha).mono ?_
      rintro e w4 ⟨rfl, b4⟩
      have B4 := B3.trans (b4.mono B3.size)
      replace ha := ha.below b4
      replace hb := hb.below b4
      replace sq := sq.below b4
      replace sr := sr.below b4
      replace s2 := s2.below b4
      replace s3 := s3.below b4
      have e4 : sg (V z3) (V a) = 0 := sg_eq (by rw [X3.out, X2.out]; exact XD.out.1)
      rw [e4]
      clear e4
      go_wp2_with fail
      refine (cmp_any _ _ zr b _ sr hb).mono ?_
      rintro e w5 ⟨rfl, b5⟩
      have B5 := B4.trans (b5.mono B4.size)
      replace ha := ha.below b5
      replace hb := hb.below b5
      replace sq := sq.below b5
      replace sr := sr.below b5
      replace s2 := s2.below b5
      replace s3 := s3.below b5
      rw [sg_lt XD.out.2]
      go_wp2_with fail
      refine (awake_any _).mono ?_
      rintro e w20 ⟨rfl, b20⟩
      have BF := B5.trans (b20.mono B5.size)
      go_wp2_with fail
      go_ret
      exact ⟨rfl, BF⟩
  · go_enter Try.func4, Try.ntmps4
    go_wp2_with fail
    refine (few_no pa pb _ _ ca cb _ hf).mono ?_
    rintro e w' ⟨rfl, rfl⟩
    go_wp2_with fail
    refine (awake_any _).mono ?_
    rintro e w20 ⟨rfl, b20⟩
    go_wp2_with fail
    go_ret
    exact ⟨rfl, b20⟩
end Go.Proofs.Ytedomcijnoekhaa
