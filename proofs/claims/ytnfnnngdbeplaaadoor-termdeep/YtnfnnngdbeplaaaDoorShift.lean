
/-
  Plain facts on shifts and or of numbers of 32 and 64 bits; the mathematics of shifting a number by limbs.
-/
import Derived.Test.YtnfnnngdbeplaaaDoorLen
namespace Go.Proofs.YtnfnnngdbeplaaaDoor
open Go.RowKit
set_option linter.unusedVariables false

theorem T_pow (p : Nat) : T p = (2 : Int) ^ p := by
  induction p with
  | zero => rfl
  | succ p ih => simp only [T]; rw [ih, Int.pow_succ, Int.mul_comm]

theorem T_nat (p : Nat) : T p = ((2 ^ p : Nat) : Int) := by rw [T_pow]; simp

theorem T_split {p : Nat} (hp : p ≤ 32) : T (32 - p) * T p = 4294967296 := by
  rw [← T_add, show 32 - p + p = 32 by omega]; rfl

/-- or of a multiple of 2^i and what is below 2^i is the sum. -/
theorem or_nat (i a c : Nat) (h : c < 2 ^ i) : (2 ^ i * a) ||| c = 2 ^ i * a + c := (Nat.two_pow_add_eq_or_of_lt h a).symm

theorem mod_mul (p : Nat) (hp : p ≤ 32) (x : Nat) : x * 2 ^ p % 4294967296 = 2 ^ p * (x % 2 ^ (32 - p)) := by
  have e : (4294967296 : Nat) = 2 ^ p * 2 ^ (32 - p) := by rw [← Nat.pow_add, show p + (32 - p) = 32 by omega]
  rw [e, Nat.mul_comm x, Nat.mul_mod_mul_left]

theorem div_mul (p : Nat) (hp : p ≤ 32) (y : Nat) : y / 2 ^ (32 - p) = y * 2 ^ p / 4294967296 := by
  have e : (4294967296 : Nat) = 2 ^ (32 - p) * 2 ^ p := by rw [← Nat.pow_add, show 32 - p + p = 32 by omega]
  rw [e, Nat.mul_div_mul_right _ _ (Nat.two_pow_pos p)]

theorem div_lt (p : Nat) (hp : p ≤ 32) (y : Nat) (hy : y < 4294967296) : y / 2 ^ (32 - p) < 2 ^ p := by
  rw [Nat.div_lt_iff_lt_mul (Nat.two_pow_pos _), ← Nat.pow_add, show p + (32 - p) = 32 by omega]
  exact hy

theorem or_up (p : Nat) (hp : p ≤ 32) (x y : Int) (hx0 : 0 ≤ x) (hx1 : x < 4294967296) (hy0 : 0 ≤ y) (hy1 : y < 4294967296) :
    bits .or .u32 (x * 2 ^ p % 4294967296) (y / 2 ^ (32 - p)) = x * T p % 4294967296 + y * T p / 4294967296 := by
  obtain ⟨X, rfl⟩ := Int.eq_ofNat_of_zero_le hx0
  obtain ⟨Y, rfl⟩ := Int.eq_ofNat_of_zero_le hy0
  have e1 : ((X : Int) * 2 ^ p % 4294967296) = ((X * 2 ^ p % 4294967296 : Nat) : Int) := by simp
  have e2 : ((Y : Int) / 2 ^ (32 - p)) = ((Y / 2 ^ (32 - p) : Nat) : Int) := by simp
  have h1 : X * 2 ^ p % 4294967296 < 4294967296 := Nat.mod_lt _ (by decide)
  have h2 : Y / 2 ^ (32 - p) < 4294967296 := Nat.lt_of_le_of_lt (Nat.div_le_self _ _) (by omega)
  rw [e1, e2, u32_or_nat _ _ h1 h2, mod_mul p hp, or_nat p _ _ (div_lt p hp Y (by omega)), ← mod_mul p hp, div_mul p hp, T_nat]
  simp

/-- The same the other way round: down by p, with what comes in from above. -/
theorem or_down (p : Nat) (hp : p ≤ 32) (x y : Int) (hx0 : 0 ≤ x) (hx1 : x < 4294967296) (hy0 : 0 ≤ y) (hy1 : y < 4294967296) :
    bits .or .u32 (x / 2 ^ p) (y * 2 ^ (32 - p) % 4294967296) = x / T p + y % T p * T (32 - p) := by
  obtain ⟨X, rfl⟩ := Int.eq_ofNat_of_zero_le hx0
  obtain ⟨Y, rfl⟩ := Int.eq_ofNat_of_zero_le hy0
  have e1 : ((Y : Int) * 2 ^ (32 - p) % 4294967296) = ((Y * 2 ^ (32 - p) % 4294967296 : Nat) : Int) := by simp
  have e2 : ((X : Int) / 2 ^ p) = ((X / 2 ^ p : Nat) : Int) := by simp
  have h1 : Y * 2 ^ (32 - p) % 4294967296 < 4294967296 := Nat.mod_lt _ (by decide)
  have h2 : X / 2 ^ p < 4294967296 := Nat.lt_of_le_of_lt (Nat.div_le_self _ _) (by omega)
  have h3 := div_lt (32 - p) (by omega) X (by omega)
  have h5 := mod_mul (32 - p) (by omega) Y
  rw [show 32 - (32 - p) = p by omega] at h3 h5
  rw [e1, e2, u32_or_nat _ _ h2 h1, h5, Nat.or_comm, or_nat (32 - p) _ _ h3, T_nat, T_nat]
  simp
  rw [Int.mul_comm, Int.add_comm]

theorem down_bd (p : Nat) (hp : p ≤ 32) (x y : Int) (hx0 : 0 ≤ x) (hx1 : x < 4294967296) (hy0 : 0 ≤ y) : 0 ≤ x / T p + y % T p * T (32 - p) ∧ x / T p + y % T p * T (32 - p) < 4294967296 := by
  have hT := T_pos p
  have hT' := T_pos (32 - p)
  have hs := T_split hp
  have h1 : 0 ≤ x / T p := Int.ediv_nonneg hx0 (by omega)
  have h2 : x / T p < T (32 - p) := Int.ediv_lt_of_lt_mul hT (by rw [hs]; exact hx1)
  have h3 := Int.emod_nonneg y (show T p ≠ 0 by omega)
  have h4 := Int.emod_lt_of_pos y hT
  have h5 : (y % T p + 1) * T (32 - p) ≤ T p * T (32 - p) := Int.mul_le_mul_of_nonneg_right (by omega) (by omega)
  have h6 := Int.mul_nonneg h3 (Int.le_of_lt hT')
  rw [Int.add_mul, Int.mul_comm (T p), hs] at h5
  omega

/-- One round of lower. -/
theorem lower_step (Z0 Z : List Int) (k p : Nat) (x y r : Int) (hp : p ≤ 32) (hk : k < Z.length) (hx : x = Z0.getD k 0) (hy : y = Z0.getD (k + 1) 0)
    (hV : V (Z.take k) * T p + r = V (Z0.take k) + B k * (x % T p)) :
    V ((Z.set k (x / T p + y % T p * T (32 - p))).take (k + 1)) * T p + r = V (Z0.take (k + 1)) + B (k + 1) * (y % T p) := by
  rw [take_set_succ _ _ _ hk, V_take_next Z0, ← hx, Int.add_mul]
  have e1 : (x / T p + y % T p * T (32 - p)) * T p = x - x % T p + 4294967296 * (y % T p) := by
    rw [Int.add_mul, Int.mul_assoc, T_split hp]
    have := Int.mul_ediv_add_emod x (T p)
    rw [Int.mul_comm (T p)] at this
    omega
  rw [Int.mul_assoc, e1, Int.mul_add, Int.mul_sub]
  simp only [B]
  rw [← Int.mul_assoc (B k) 4294967296, Int.mul_comm (B k) 4294967296]
  omega

theorem lower_end (a Z0 Z : List Int) (q p : Nat) (x r : Int) (ha : Ok a) (hp : p ≤ 32) (hq : q < a.length) (hl : Z.length = a.length - q) (hZ0 : Z0 = a.drop q) (hx : x = Z0.getD (Z.length - 1) 0) (hr0 : 0 ≤ r) (hr1 : r < T p)
    (hV : V (Z.take (Z.length - 1)) * T p + r = V (Z0.take (Z.length - 1)) + B (Z.length - 1) * (x % T p)) :
    V (Z.set (Z.length - 1) (x / T p)) = V a / T (32 * q + p) := by
  have hT := T_pos p
  have hm : Z.length - 1 + 1 = Z.length := by omega
  have h1 := take_set_succ Z (Z.length - 1) (x / T p) (by omega)
  rw [hm, List.take_of_length_le (by simp)] at h1
  have h2 := V_take_next Z0 (Z.length - 1)
  rw [hm, ← hx, List.take_of_length_le (by rw [hZ0]; simp; omega)] at h2
  have h3 : V (Z.set (Z.length - 1) (x / T p)) * T p + r = V Z0 := by
    rw [h1, h2, Int.add_mul, Int.mul_assoc]
    have := Int.mul_ediv_add_emod x (T p)
    rw [Int.mul_comm (T p)] at this
    have e := congrArg (B (Z.length - 1) * ·) this
    simp only [Int.mul_add] at e
    omega
  have h4 : V Z0 / T p = V (Z.set (Z.length - 1) (x / T p)) := by
    rw [← h3, Int.add_comm, Int.add_mul_ediv_right _ _ (by omega), Int.ediv_eq_zero_of_lt hr0 hr1]; omega
  have h5 := V_split a q (by omega)
  have h6 := V_lt (ha.take q)
  rw [show (a.take q).length = q by simp; omega] at h6
  have h7 : V a / B q = V Z0 := by
    rw [h5, hZ0, Int.mul_comm, Int.add_mul_ediv_right _ _ (by have := B_pos q; omega), Int.ediv_eq_zero_of_lt (V_nonneg (ha.take q)) h6]; omega
  rw [T_add, T_32, ← Int.ediv_ediv_of_nonneg (Int.le_of_lt (B_pos q)), h7, h4]

theorem lower_none (a : List Int) (q p : Nat) (ha : Ok a) (hq : a.length ≤ q) : V a / T (32 * q + p) = 0 := by
  have h1 := V_lt ha
  have h2 := B_mono hq
  have h3 := T_mono (show 32 * q ≤ 32 * q + p by omega)
  rw [T_32] at h3
  exact Int.ediv_eq_zero_of_lt (V_nonneg ha) (by omega)

theorem part_bd (p : Nat) (hp : p ≤ 32) (x y : Int) (hx0 : 0 ≤ x) (hy0 : 0 ≤ y) (hy1 : y < 4294967296) : 0 ≤ x * T p % 4294967296 + y * T p / 4294967296 ∧ x * T p % 4294967296 + y * T p / 4294967296 < 4294967296 := by
  obtain ⟨X, rfl⟩ := Int.eq_ofNat_of_zero_le hx0
  obtain ⟨Y, rfl⟩ := Int.eq_ofNat_of_zero_le hy0
  have h1 := div_lt p hp Y (by omega)
  have h2 := mod_mul p hp X
  have h3 : X % 2 ^ (32 - p) + 1 ≤ 2 ^ (32 - p) := Nat.mod_lt _ (Nat.two_pow_pos _)
  have h4 := Nat.mul_le_mul_left (2 ^ p) h3
  have e : 2 ^ p * 2 ^ (32 - p) = (4294967296 : Nat) := by rw [← Nat.pow_add, show p + (32 - p) = 32 by omega]
  rw [e, Nat.mul_add, Nat.mul_one, ← h2] at h4
  rw [div_mul p hp] at h1
  rw [T_nat]
  have k1 : (X : Int) * ((2 ^ p : Nat) : Int) % 4294967296 = ((X * 2 ^ p % 4294967296 : Nat) : Int) := by simp
  have k2 : (Y : Int) * ((2 ^ p : Nat) : Int) / 4294967296 = ((Y * 2 ^ p / 4294967296 : Nat) : Int) := by simp
  rw [k1, k2]
  omega

/-- One round of raise: place k, from the top down. -/
theorem raise_step (Z0 Z : List Int) (k p : Nat) (x y : Int) (hk0 : 0 < k) (hk : k < Z.length) (hl : Z.length = Z0.length) (hx : x = Z0.getD k 0) (hy : y = Z0.getD (k - 1) 0)
    (hV : V (Z.drop (k + 1)) = V (Z0.drop (k + 1)) * T p + (x * T p) / 4294967296) :
    V ((Z.set k (x * T p % 4294967296 + y * T p / 4294967296)).drop (k - 1 + 1)) = V (Z0.drop (k - 1 + 1)) * T p + (y * T p) / 4294967296 := by
  rw [show k - 1 + 1 = k by omega, V_drop _ k (by simp; omega), V_drop Z0 k (by omega), ← hx, List.drop_set_of_lt (by omega), hV]
  have e : (Z.set k (x * T p % 4294967296 + y * T p / 4294967296)).getD k 0 = x * T p % 4294967296 + y * T p / 4294967296 := by simp [List.getD, hk]
  rw [e, Int.add_mul, Int.mul_assoc]
  omega

theorem raise_end (Z0 Z a : List Int) (q p : Nat) (x : Int) (hq : q < Z.length) (hl : Z.length = Z0.length) (hx : x = Z0.getD q 0) (hZ0 : Z0 = over (zer (q + a.length + 1)) q a) (hs : ∀ j, j ≤ q → Z.getD j 0 = Z0.getD j 0)
    (hV : V (Z.drop (q + 1)) = V (Z0.drop (q + 1)) * T p + (x * T p) / 4294967296) : V (Z.set q (x * T p % 4294967296)) = V a * T (32 * q + p) := by
  have s1 := V_split (Z.set q (x * T p % 4294967296)) q (by simp; omega)
  rw [V_drop _ q (by simp; omega), List.drop_set_of_lt (by omega), hV, List.take_set_of_le (by omega)] at s1
  have e : (Z.set q (x * T p % 4294967296)).getD q 0 = x * T p % 4294967296 := by simp [List.getD, hq]
  have e2 : V (Z.take q) = 0 := by
    apply V_zeros
    intro i hi
    have hi : i < q := by rw [List.length_take] at hi; omega
    have h1 := hs i (by omega)
    have h2 : (Z.take q).getD i 0 = Z.getD i 0 := by simp [List.getD, hi]
    have h3 : Z0.getD i 0 = 0 := by
      rw [hZ0]
      have := zer_at (q + a.length + 1) i
      simp only [over, List.getD_eq_getElem?_getD] at this ⊢
      rw [List.getElem?_append_left (by rw [List.length_take, zer_len]; omega), List.getElem?_take_of_lt hi]
      exact this
    rw [h2, h1, h3]
  have e3 : V (Z0.drop q) = V a := by
    rw [hZ0]
    simp only [over]
    rw [List.drop_append, List.drop_take, show q - q = 0 by omega, List.take_zero, List.nil_append, List.length_take, zer_len, show q - min q (q + a.length + 1) = 0 by omega, List.drop_zero, V_append]
    have : V ((zer (q + a.length + 1)).drop (q + a.length)) = 0 := by
      simp only [zer, List.drop_replicate]
      exact V_rep _
    rw [this]; omega
  have e4 := V_drop Z0 q (by omega)
  rw [e3, ← hx] at e4
  rw [s1, e, e2, T_add, T_32, e4]
  have e5 : x * T p % 4294967296 + 4294967296 * (V (Z0.drop (q + 1)) * T p + x * T p / 4294967296) = (x + 4294967296 * V (Z0.drop (q + 1))) * T p := by
    rw [Int.add_mul, Int.mul_assoc]; omega
  rw [e5, Int.zero_add, ← Int.mul_assoc, Int.mul_comm (B q), Int.mul_assoc]
end Go.Proofs.YtnfnnngdbeplaaaDoor
