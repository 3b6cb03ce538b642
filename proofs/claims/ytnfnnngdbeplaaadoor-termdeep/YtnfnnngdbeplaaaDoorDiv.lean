
/-
  limb.Div: the quotient, cut, and what is left; 0, 0, if the divisor is 0.
-/
import Derived.Test.YtnfnnngdbeplaaaDoorDivide
namespace Go.Proofs.YtnfnnngdbeplaaaDoor
open Go.RowKit
set_option linter.unusedVariables false

def DivPost (w : World) (x y : Int) (l : Nat) (e : Ending) (w' : World) : Prop :=
  ∃ v1 v2 z1 z2, e = .returned (.tuple #[v1, v2]) ∧ Sl w' v1 z1 ∧ Sl w' v2 z2 ∧ Nm z1 ∧ Nm z2 ∧ z1.length ≤ l ∧ z2.length ≤ l ∧ Below w.heap.size w w' ∧ (y = 0 → V z1 = 0 ∧ V z2 = 0) ∧ (y ≠ 0 → V z1 * y + V z2 = x ∧ V z2 < y)

/-- The same, and the quotient lies in new memory. -/
def DivPostN (w : World) (x y : Int) (l : Nat) (e : Ending) (w' : World) : Prop :=
  ∃ v1 v2 z1 z2, e = .returned (.tuple #[v1, v2]) ∧ Sl w' v1 z1 ∧ Sl w' v2 z2 ∧ Nm z1 ∧ Nm z2 ∧ z1.length ≤ l ∧ z2.length ≤ l ∧ Below w.heap.size w w' ∧ (y = 0 → V z1 = 0 ∧ V z2 = 0) ∧ (y ≠ 0 → V z1 * y + V z2 = x ∧ V z2 < y) ∧ (∀ k, v1.ownBlock = some k → w.heap.size ≤ k)

theorem raise_small (va : Value) (a : List Int) (z : Int) (p : Nat) (w : World) (hz : z = (p : Int)) (ha : Sl w va a) (hla : a.length ≤ 1000000) (hp : p < 32) :
    Calls Tryd.prog 107 #[va, .int .i64 z] w fun e w' => RaisePost w (V a * T p) (a.length + 1) e w' := by
  subst hz
  have h := raise_any va a p 0 p w ha hla (by omega) hp (by omega)
  rw [Nat.zero_add] at h
  exact h

theorem len_le_of {Y : List Int} {n : Nat} (hY : Ok Y) (hn : Nm Y) (h : V Y < B n) : Y.length ≤ n := by
  rcases Nat.lt_or_ge n Y.length with h1 | h1
  · have h2 := V_ge hY hn (by omega)
    have h3 := B_mono (show n ≤ Y.length - 1 by omega)
    omega
  · exact h1

theorem lift_lt {C : List Int} (hC : Ok C) (h0 : 0 < C.length) (hne : C.getD (C.length - 1) 0 ≠ 0) (p m : Nat) (hm : IsLen (C.getD (C.length - 1) 0) m) (hp : p + m = 32) : V C * T p < B C.length := by
  have h := isLen_V hC h0 hm hne
  rcases h with ⟨_, h2⟩ | ⟨h1, h2, h3⟩
  · have e : m = 0 := by omega
    subst e
    rcases hm with ⟨h, _⟩ | ⟨h, _⟩
    · exact absurd h hne
    · omega
  · have e := Int.mul_lt_mul_of_pos_right h3 (T_pos p)
    rw [← T_add, show (C.length - 1) * 32 + m + p = 32 * C.length by omega, T_32] at e
    exact e

theorem div_room (A C Y : List Int) (p : Nat) (hA : Ok A) (hC : Ok C) (hnC : Nm C) (h0 : 0 < C.length) (hCA : C.length ≤ A.length) (hYC : Y.length ≤ C.length) (hY : V Y = V C * T p) : V A * T p < V Y * B (A.length + 1 - Y.length) := by
  have h1 := V_lt hA
  have h2 := V_ge hC hnC h0
  have h3 := T_pos p
  have h4 := B_mono (show A.length + 1 - C.length ≤ A.length + 1 - Y.length by omega)
  have h5 : B (C.length - 1) * B (A.length + 1 - C.length) = B A.length := by rw [← B_add]; congr 1; omega
  have h6 : B (C.length - 1) * B (A.length + 1 - C.length) ≤ V C * B (A.length + 1 - Y.length) := Int.mul_le_mul h2 h4 (Int.le_of_lt (B_pos _)) (V_nonneg hC)
  have h7 := Int.mul_lt_mul_of_pos_right (show V A < V C * B (A.length + 1 - Y.length) by omega) h3
  rw [hY, Int.mul_assoc, Int.mul_comm (T p), ← Int.mul_assoc]
  exact h7

theorem div_fin (x y t l q : Int) (ht : 0 < t) (hl : 0 ≤ l) (h1 : l + y * t * q = x * t) (h2 : l < y * t) : q * y + l / t = x ∧ l / t < y := by
  have e : l = (x - y * q) * t := by
    rw [Int.sub_mul, ← h1, Int.mul_assoc y t q, Int.mul_comm t q, ← Int.mul_assoc]; omega
  have e2 : l / t = x - y * q := by rw [e]; exact Int.mul_ediv_cancel _ (by omega)
  refine ⟨by rw [e2, Int.mul_comm]; omega, ?_⟩
  exact Int.ediv_lt_of_lt_mul ht h2

set_option maxRecDepth 100000 in
set_option maxHeartbeats 4000000 in
theorem div_new (va vb : Value) (a b : List Int) (w : World) (ha : Sl w va a) (hb : Sl w vb b) (hla : a.length ≤ 100000) (hlb : b.length ≤ 100000) :
    Calls Tryd.prog 100 #[va, vb] w fun e w' => DivPostN w (V a) (V b) (a.length + 1) e w' := by
  obtain ⟨aa, acap, rfl⟩ := ha.shape
  obtain ⟨ba, bcap, rfl⟩ := hb.shape
  go_enter Tryd.func100, Tryd.ntmps100
  go_wp2_with fail
  refine (trim_any _ b _ hb).mono ?_
  rintro e w' ⟨rfl, v2, n2, rfl, hn2, hs2, hnm2, hv2, -, -, hk2⟩
  have H2 : Hid (V (b.take n2) = V b) := hv2
  have hl2 : (b.take n2).length ≤ b.length := by simp; omega
  clear hv2
  generalize b.take n2 = C at *
  obtain ⟨p2, c2, rfl⟩ := hs2.shape
  by_cases h0 : C.length = 0
  · have hb0 : ((C.length : Int) == 0) = true := beq_iff_eq.2 (by omega)
    have HF : Hid (V b = 0) := by
      show V b = 0
      rw [← H2.out, List.eq_nil_of_length_eq_zero h0]; rfl
    go_wp2_with fail
    go_ret2
    exact ⟨_, _, [], [], rfl, Sl.nil _, Sl.nil _, Nm_nil, Nm_nil, Nat.zero_le _, Nat.zero_le _, Below.refl _ _, fun _ => ⟨rfl, rfl⟩, fun h => absurd HF.out h, fun k hk => by cases hk⟩
  · have hb0 : ((C.length : Int) == 0) = false := beq_eq_false_iff_ne.2 (by omega)
    have hCpos : 0 < V C := by
      have h1 := V_ge hs2.ok hnm2 (by omega)
      have h2 := B_pos (C.length - 1)
      omega
    go_wp2_with fail
    refine (cmp_any _ _ a C _ ha hs2).mono ?_
    rintro e w1 ⟨rfl, b1⟩
    replace ha := ha.below b1
    replace hs2 := hs2.below b1
    by_cases hlt : V a < V C
    · rw [sg_lt hlt]
      have HLT : Hid _ := hlt
      clear hlt
      go_wp2_with fail
      refine (norm_any _ a _ ha (by omega)).mono ?_
      intro e w3 hN
      obtain ⟨v3, z3, rfl, s3, m3, x3, l3, b3, -⟩ := hN.num (by omega)
      have X3 : Hid _ := x3
      have BF := b1.trans (b3.mono b1.size)
      clear x3 hN
      go_wp2_with fail
      go_ret2
      exact ⟨_, _, [], z3, rfl, Sl.nil _, s3, Nm_nil, m3, Nat.zero_le _, by omega, BF, fun h => by rw [← H2.out] at h; omega, fun _ => ⟨by simp [V, X3.out], by rw [X3.out, ← H2.out]; exact HLT.out⟩, fun k hk => by cases hk⟩
    · have hsg : 0 ≤ sg (V a) (V C) := by
        rcases Int.lt_trichotomy (V a) (V C) with h | h | h
        · exact absurd h hlt
        · rw [h, sg_self]; omega
        · rw [sg_gt h]; omega
      have HGE : Hid (V C ≤ V a) := by show V C ≤ V a; omega
      generalize sg (V a) (V C) = s at *
      clear hlt
      obtain ⟨bb, off, rfl, hcell⟩ := hs2.at (C.length - 1) (by omega)
      have hx := hs2.ok.getD (C.length - 1)
      have hne := hnm2 (by omega)
      have hu := isLen_u32 _ hx.1 hx.2
      have hbit : 0 < Lib.bitLen (C.getD (C.length - 1) 0).toNat := by
        rcases hu.1 with ⟨h, _⟩ | ⟨h, _⟩
        · exact absurd h hne
        · exact h
      obtain ⟨p, hp⟩ : ∃ p, p = 32 - Lib.bitLen (C.getD (C.length - 1) 0).toNat := ⟨_, rfl⟩
      have hlift := lift_lt hs2.ok (by omega) hne p _ hu.1 (by omega)
      have hp32 : p < 32 := by omega
      have hpz : 32 - (Lib.bitLen (C.getD (C.length - 1) 0).toNat : Int) = (p : Int) := by omega
      have HL : Hid _ := hlift
      clear hlift hu hbit hp hne
      generalize C.getD (C.length - 1) 0 = t at *
      have hi1 : ((C.length : Int) - 1).toNat = C.length - 1 := by omega
      have hi2 : (0 : Int) ≤ (C.length : Int) - 1 := by omega
      go_wp2_with fail
      refine (lz32_any t _ hx.1 (by omega)).mono ?_
      rintro e w' ⟨rfl, rfl⟩
      rw [hpz]
      clear hpz hcell hx hi1 hi2
      go_wp2_with fail
      refine (trim_any _ a _ ha).mono ?_
      rintro e w' ⟨rfl, v4, n4, rfl, hn4, hs4, hnm4, hv4, -, -, hk4⟩
      have H4 : Hid (V (a.take n4) = V a) := hv4
      have hl4 : (a.take n4).length ≤ a.length := by simp; omega
      clear hv4
      generalize a.take n4 = A at *
      obtain ⟨p4, c4, rfl⟩ := hs4.shape
      have hCA : C.length ≤ A.length := by
        rcases Nat.lt_or_ge A.length C.length with h | h
        · have h1 := lt_of_V hs4.ok hs2.ok hnm2 h
          have h2 := HGE.out
          rw [← H4.out] at h2
          omega
        · exact h
      go_wp2_with fail
      refine (raise_small _ A (p : Int) p _ rfl hs4 (by omega) hp32).mono ?_
      rintro e w5 ⟨gl, L0, rfl, hL0l, hL0ok, hrowL, hL0V, b5, hgl⟩
      replace hs2 := hs2.below b5
      have HL0 : Hid _ := hL0V
      have B5 := b1.trans (b5.mono b1.size)
      clear hL0V
      go_wp2_with fail
      refine (raise_at _ C (p : Int) p _ rfl hs2 (by omega) (by omega)).mono ?_
      rintro e w6 ⟨v6, Z6, rfl, hs6, hV6, hl6, b6, hg6⟩
      have HV6 : Hid _ := hV6
      have hrowL6 := hrowL.below b6 hrowL.lt
      have B6 := B5.trans (b6.mono B5.size)
      have hgl5 := hrowL.lt
      clear hV6 hrowL
      go_wp2_with fail
      refine (trim_any _ Z6 _ hs6).mono ?_
      rintro e w' ⟨rfl, v7, n7, rfl, hn7, hs7, hnm7, hv7, -, ho7, -⟩
      have HY : Hid (V (Z6.take n7) = V C * T p) := hv7.trans HV6.out
      have hl7 : (Z6.take n7).length ≤ Z6.length := by simp; omega
      clear hv7
      generalize Z6.take n7 = Y at *
      have hown : v7.ownBlock ≠ some gl := by
        intro e
        rcases ho7 with h | ⟨h, _⟩
        · rw [e] at h; cases h
        · rw [e] at h
          have := hg6 _ h.symm
          omega
      have hYC : Y.length ≤ C.length := len_le_of hs7.ok hnm7 (by rw [HY.out]; exact HL.out)
      have hYpos : 0 < Y.length := by
        rcases Nat.eq_zero_or_pos Y.length with h | h
        · have h1 := HY.out
          rw [List.eq_nil_of_length_eq_zero h] at h1
          have h2 := Int.mul_pos hCpos (T_pos p)
          simp only [V] at h1
          omega
        · exact h
      have hYtop : 0 < Y.getD (Y.length - 1) 0 := by
        have h1 := hnm7 hYpos
        have h2 := hs7.ok.getD (Y.length - 1)
        omega
      have hroom := div_room A C Y p hs4.ok hs2.ok hnm2 (by omega) hCA hYC HY.out
      rw [← HL0.out] at hroom
      have HROOM : Hid _ := hroom
      clear hroom ho7 hg6 hl7 hn7 HV6 hs6
      go_wp2_with fail
      refine (divide_any gl (A.length + 1) L0 _ Y _ hrowL6 hL0ok hL0l hs7 hown hYpos (by omega) (by omega) hYtop HROOM.out).mono ?_
      rintro e w8 ⟨gq, L, Q, rfl, hLl, hQl, hLok, hQok, hrowL8, hrowQ8, hgrw8, hgq, hU8, hlt8⟩
      rw [HL0.out, HY.out, H4.out, H2.out] at hU8
      rw [HY.out, H2.out] at hlt8
      have HFIN : Hid _ := div_fin (V a) (V b) (T p) (V L) (V Q) (T_pos p) (V_nonneg hLok) hU8 hlt8
      have B8 := B6.trans (hgrw8.below (B := w.heap.size) (by have := b1.size; omega) B6.size)
      have hslQ := hrowQ8.all hQok (by omega)
      have hslL := hrowL8.all hLok (by omega)
      rw [hQl] at hslQ
      rw [hLl] at hslL
      have hQl' : Q.length ≤ a.length + 1 := by omega
      have hLl' : L.length ≤ a.length + 1 := by omega
      clear hU8 hlt8 hrowQ8 hrowL8 hgrw8 HROOM hrowL6 hs7 HL HL0 HY
      go_wp2_with fail
      refine (trim_any _ Q _ hslQ).mono ?_
      rintro e w' ⟨rfl, v9, n9, rfl, hn9, hs9, hnm9, hv9, -, ho9, -⟩
      have HO9 : Hid (∀ k, v9.ownBlock = some k → w.heap.size ≤ k) := by
        intro k hk
        rcases ho9 with h | ⟨h, _⟩
        · rw [hk] at h; cases h
        · rw [hk] at h
          simp [Value.ownBlock] at h
          have := B6.size
          omega
      clear ho9
      have H9 : Hid (V (Q.take n9) = V Q) := hv9
      have hl9 : (Q.take n9).length ≤ Q.length := by simp; omega
      clear hv9
      generalize Q.take n9 = Q' at *
      go_wp2_with fail
      refine (trim_any _ L _ hslL).mono ?_
      rintro e w' ⟨rfl, v10, n10, rfl, hn10, hs10, hnm10, hv10, -, -, -⟩
      have H10 : Hid (V (L.take n10) = V L) := hv10
      have hl10 : (L.take n10).length ≤ L.length := by simp; omega
      clear hv10
      generalize L.take n10 = L' at *
      go_wp2_with fail
      refine (lower_at _ L' (p : Int) p _ rfl hs10 (by omega) (by omega)).mono ?_
      rintro e w11 ⟨v11, Z11, rfl, hs11, hV11, hl11, b11, -⟩
      have H11 : Hid _ := hV11
      replace hs9 := hs9.below b11
      have B11 := B8.trans (b11.mono B8.size)
      clear hV11
      go_wp2_with fail
      refine (trim_any _ Z11 _ hs11).mono ?_
      rintro e w' ⟨rfl, v12, n12, rfl, hn12, hs12, hnm12, hv12, -, -, -⟩
      have H12 : Hid (V (Z11.take n12) = V L / T p) := by
        show V (Z11.take n12) = V L / T p
        rw [hv12, H11.out, H10.out]
      have hl12 : (Z11.take n12).length ≤ Z11.length := by simp; omega
      clear hv12
      generalize Z11.take n12 = R at *
      go_wp2_with fail
      go_ret2
      refine ⟨_, _, Q', R, rfl, hs9, hs12, hnm9, hnm12, by omega, by omega, B11, fun h => ?_, fun _ => ?_, HO9.out⟩
      · rw [← H2.out] at h; omega
      · rw [H9.out, H12.out]; exact HFIN.out

theorem div_any (va vb : Value) (a b : List Int) (w : World) (ha : Sl w va a) (hb : Sl w vb b) (hla : a.length ≤ 100000) (hlb : b.length ≤ 100000) :
    Calls Tryd.prog 100 #[va, vb] w fun e w' => DivPost w (V a) (V b) (a.length + 1) e w' := by
  refine (div_new va vb a b w ha hb hla hlb).mono ?_
  rintro e w' ⟨v1, v2, z1, z2, h1, h2, h3, h4, h5, h6, h7, h8, h9, h10, -⟩
  exact ⟨v1, v2, z1, z2, h1, h2, h3, h4, h5, h6, h7, h8, h9, h10⟩
end Go.Proofs.YtnfnnngdbeplaaaDoor
