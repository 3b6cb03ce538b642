/-
  The document's own answers of layer 1 (relictref01): Len.
-/
import Derived.Test.YtedomcijnoekhaaRefD
namespace Go.Proofs.Ytedomcijnoekhaa
open Go.RowKit
set_option linter.unusedVariables false

theorem and_one (y : Int) (h0 : 0 ≤ y) (h1 : y < 4294967296) : bits .and .u32 y 1 = y % 2 := by
  rw [u32_and y 1 h0 h1 (by decide) (by decide)]
  obtain ⟨Y, rfl⟩ := Int.eq_ofNat_of_zero_le h0
  simp [Nat.and_one_is_mod]

theorem shr_bd (x : Int) (p : Nat) (h0 : 0 ≤ x) (h1 : x < 4294967296) : 0 ≤ x / T p ∧ x / T p < 4294967296 :=
  ⟨Int.ediv_nonneg h0 (Int.le_of_lt (T_pos p)), Int.lt_of_le_of_lt (Int.ediv_le_self _ h0) h1⟩

/-- A bit of a number is a bit of its limb. -/
theorem bit_V (A : List Int) (hA : Ok A) (q p : Nat) (hp : p < 32) : (V A / T (32 * q + p)) % 2 = (A.getD q 0 / T p) % 2 := by
  by_cases hq : q < A.length
  · have h5 := V_split A q (by omega)
    have h6 := V_lt (hA.take q)
    rw [show (A.take q).length = q by simp; omega] at h6
    have h7 : V A / B q = V (A.drop q) := by
      rw [h5, Int.mul_comm, Int.add_mul_ediv_right _ _ (by have := B_pos q; omega), Int.ediv_eq_zero_of_lt (V_nonneg (hA.take q)) h6]; omega
    rw [T_add, T_32, ← Int.ediv_ediv_of_nonneg (Int.le_of_lt (B_pos q)), h7, V_drop A q hq]
    have e : 4294967296 * V (A.drop (q + 1)) = (2 * (T (31 - p) * V (A.drop (q + 1)))) * T p := by
      rw [← T_split (show p ≤ 32 by omega), show 32 - p = (31 - p) + 1 by omega]
      simp only [T]
      rw [Int.mul_assoc, Int.mul_comm (T p), ← Int.mul_assoc, Int.mul_assoc 2]
    rw [e, Int.add_mul_ediv_right _ _ (by have := T_pos p; omega)]
    omega
  · rw [lower_none A q p hA (by omega)]
    have : A.getD q 0 = 0 := by simp [List.getD, hq]
    rw [this, Int.zero_ediv]

theorem half_or (x : Int) (m : Nat) (h0 : 0 ≤ x) (h1 : x < T (m + 1)) : x / T m = 0 ∨ x / T m = 1 := by
  have hT := T_pos m
  have a1 := Int.ediv_nonneg h0 (Int.le_of_lt hT)
  have a2 : x / T m < 2 := Int.ediv_lt_of_lt_mul hT (by simpa [T] using h1)
  omega

def LenPost2 (w : World) (x : Int) (l : Nat) (e : Ending) (w' : World) : Prop := ∃ n : Nat, e = .returned (.int .i64 n) ∧ Below w.heap.size w w' ∧ IsLen x n ∧ n ≤ 32 * l

set_option maxRecDepth 100000 in
set_option maxHeartbeats 2000000 in
theorem rlen_any (va : Value) (a : List Int) (w : World) (ha : Sl w va a) (hla : a.length ≤ 100000) :
    Calls Try.prog 30 #[va] w fun e w' => LenPost2 w (V a) a.length e w' := by
  obtain ⟨pa, ca, rfl⟩ := ha.shape
  go_enter Try.func30, Try.ntmps30
  go_wp2_with fail
  refine (rnorm_any _ a _ ha (by omega)).mono ?_
  rintro e w1 ⟨v1, A, rfl, s1, m1, x1, l1, b1, -⟩
  have X1 : Hid _ := x1
  obtain ⟨p1, c1, rfl⟩ := s1.shape
  have hstart : Hid (V A < T (32 * A.length)) := by
    show V A < T (32 * A.length)
    rw [T_32]; exact V_lt s1.ok
  clear x1
  go_wp2_with fail
  go_loop [4] (fun s => ∃ k : Nat, k ≤ 32 * A.length ∧ s = .int .i64 k ∧ Hid (V A < T k)) (fun s => (intOf s).toNat)
  case atStart => exact ⟨32 * A.length, Nat.le_refl _, by go_num, hstart⟩
  case round =>
    obtain ⟨k, hk, rfl, HK⟩ := hrel
    cases k with
    | zero =>
      have HF : Hid (V a = 0) := by
        show V a = 0
        have h1 := HK.out
        have h2 := V_nonneg s1.ok
        simp only [T] at h1
        rw [← X1.out]; omega
      go_wp2_with fail
      go_ret
      exact ⟨0, rfl, b1, .inl ⟨HF.out, rfl⟩, Nat.zero_le _⟩
    | succ m =>
      obtain ⟨q, hq⟩ : ∃ q, q = m / 32 := ⟨_, rfl⟩
      obtain ⟨p, hp⟩ : ∃ p, p = m % 32 := ⟨_, rfl⟩
      have hq' : (m : Int) / 32 = (q : Int) := by omega
      have hp' : (m : Int) % 32 = (p : Int) := by omega
      have hp32 : p < 32 := by omega
      have HM : Hid (m = 32 * q + p) := by show m = 32 * q + p; omega
      have hqA : q < A.length := by omega
      clear hq hp
      obtain ⟨b, off, rfl, hc⟩ := s1.at q hqA
      have hx := s1.ok.getD q
      have HB := bit_V A s1.ok q p hp32
      rw [← HM.out] at HB
      have HB' : Hid _ := HB
      clear HB
      generalize A.getD q 0 = x at *
      have hsb := shr_bd x p hx.1 hx.2
      have hand := and_one (x / T p) hsb.1 hsb.2
      obtain ⟨r, hr⟩ : ∃ r, r = x / T p % 2 := ⟨_, rfl⟩
      rw [← hr] at hand HB'
      rw [T_pow] at hand hsb
      have hr2 : r = 0 ∨ r = 1 := by omega
      clear hr
      have hh := half_or (V A) m (V_nonneg s1.ok) HK.out
      have HH : Hid _ := hh
      have hqA' : (q : Int) < (A.length : Int) := by omega
      clear hh
      rcases hr2 with rfl | rfl
      · have HN : Hid (V A < T m) := by
          show V A < T m
          have h1 := HB'.out
          rcases HH.out with h2 | h2
          · have e := Int.lt_ediv_add_one_mul_self (V A) (T_pos m)
            rw [h2] at e; omega
          · rw [h2] at h1; omega
        go_wp2_with fail
        go_round
        case rel => exact ⟨m, by omega, by go_num, HN⟩
        case measure => simp [intOf]
      · have HN : Hid (IsLen (V a) (m + 1)) := by
          have h1 := HB'.out
          rw [← X1.out]
          refine .inr ⟨by omega, ?_, HK.out⟩
          rw [show m + 1 - 1 = m by omega]
          rcases HH.out with h2 | h2
          · rw [h2] at h1; omega
          · have e := Int.ediv_mul_le (V A) (show T m ≠ 0 by have := T_pos m; omega)
            rw [h2] at e; omega
        go_wp2_with fail
        go_ret
        exact ⟨m + 1, by go_num, b1, HN.out, by omega⟩

theorem or_low (p : Nat) (hp : p ≤ 32) (x y : Int) (hx0 : 0 ≤ x) (hx1 : x < 4294967296) (hy0 : 0 ≤ y) (hy1 : y < T p) : bits .or .u32 y (x * 2 ^ p % 4294967296) = y + x * T p % 4294967296 := by
  obtain ⟨X, rfl⟩ := Int.eq_ofNat_of_zero_le hx0
  obtain ⟨Y, rfl⟩ := Int.eq_ofNat_of_zero_le hy0
  rw [T_nat] at hy1
  have hy2 : Y < 2 ^ p := by omega
  have hp2 : (2 : Nat) ^ p ≤ 2 ^ 32 := Nat.pow_le_pow_right (by decide) hp
  have hp3 : (2 : Nat) ^ 32 = 4294967296 := by decide
  have e1 : ((X : Int) * 2 ^ p % 4294967296) = ((X * 2 ^ p % 4294967296 : Nat) : Int) := by simp
  have h1 : X * 2 ^ p % 4294967296 < 4294967296 := Nat.mod_lt _ (by decide)
  rw [e1, u32_or_nat _ _ (by omega) h1, mod_mul p hp, Nat.or_comm, or_nat p _ _ hy2, ← mod_mul p hp, T_nat]
  simp
  omega

theorem or_zero (y : Int) (h0 : 0 ≤ y) (h1 : y < 4294967296) : bits .or .u32 0 y = y := by
  rw [u32_or 0 y (by decide) (by decide) h0 h1]
  obtain ⟨Y, rfl⟩ := Int.eq_ofNat_of_zero_le h0
  simp

end Go.Proofs.Ytedomcijnoekhaa
