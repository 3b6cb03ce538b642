import Derived.Test.YtbmondbicnfcpaaDoorZLimbA
import Derived.RegionTactic
import Derived.BigRegion
/-
  Plain facts on shifts and or of numbers of 32 and 64 bits; the mathematics of shifting a number by limbs.
-/
namespace Go.Proofs.YtbmondbicnfcpaaDoor
open Go.RowKit
set_option linter.unusedVariables false

theorem T_pow (p : Nat) : T p = (2 : Int) ^ p := by
  induction p with
  | zero => rfl
  | succ p ih => simp only [T]; rw [ih, Int.pow_succ, Int.mul_comm]

theorem T_nat (p : Nat) : T p = ((2 ^ p : Nat) : Int) := by rw [T_pow]; simp

theorem T_split {p : Nat} (hp : p ≤ 32) : T (32 - p) * T p = 4294967296 := by
  rw [← T_add, show 32 - p + p = 32 by omega]; rfl

/-- or of a multiple of 2^i and what is below 2^i is the sum. -/
theorem or_nat (i a c : Nat) (h : c < 2 ^ i) : (2 ^ i * a) ||| c = 2 ^ i * a + c := (Nat.two_pow_add_eq_or_of_lt h a).symm

theorem mod_mul (p : Nat) (hp : p ≤ 32) (x : Nat) : x * 2 ^ p % 4294967296 = 2 ^ p * (x % 2 ^ (32 - p)) := by
  have e : (4294967296 : Nat) = 2 ^ p * 2 ^ (32 - p) := by rw [← Nat.pow_add, show p + (32 - p) = 32 by omega]
  rw [e, Nat.mul_comm x, Nat.mul_mod_mul_left]

theorem div_mul (p : Nat) (hp : p ≤ 32) (y : Nat) : y / 2 ^ (32 - p) = y * 2 ^ p / 4294967296 := by
  have e : (4294967296 : Nat) = 2 ^ (32 - p) * 2 ^ p := by rw [← Nat.pow_add, show 32 - p + p = 32 by omega]
  rw [e, Nat.mul_div_mul_right _ _ (Nat.two_pow_pos p)]

theorem div_lt (p : Nat) (hp : p ≤ 32) (y : Nat) (hy : y < 4294967296) : y / 2 ^ (32 - p) < 2 ^ p := by
  rw [Nat.div_lt_iff_lt_mul (Nat.two_pow_pos _), ← Nat.pow_add, show p + (32 - p) = 32 by omega]
  exact hy

theorem or_up (p : Nat) (hp : p ≤ 32) (x y : Int) (hx0 : 0 ≤ x) (hx1 : x < 4294967296) (hy0 : 0 ≤ y) (hy1 : y < 4294967296) :
    bits .or .u32 (x * 2 ^ p % 4294967296) (y / 2 ^ (32 - p)) = x * T p % 4294967296 + y * T p / 4294967296 := by
  obtain ⟨X, rfl⟩ := Int.eq_ofNat_of_zero_le hx0
  obtain ⟨Y, rfl⟩ := Int.eq_ofNat_of_zero_le hy0
  have e1 : ((X : Int) * 2 ^ p % 4294967296) = ((X * 2 ^ p % 4294967296 : Nat) : Int) := by simp
  have e2 : ((Y : Int) / 2 ^ (32 - p)) = ((Y / 2 ^ (32 - p) : Nat) : Int) := by simp
  have h1 : X * 2 ^ p % 4294967296 < 4294967296 := Nat.mod_lt _ (by decide)
  have h2 : Y / 2 ^ (32 - p) < 4294967296 := Nat.lt_of_le_of_lt (Nat.div_le_self _ _) (by omega)
  rw [e1, e2, u32_or_nat _ _ h1 h2, mod_mul p hp, or_nat p _ _ (div_lt p hp Y (by omega)), ← mod_mul p hp, div_mul p hp, T_nat]
  simp

/-- The same the other way round: down by p, with what comes in from above. -/
theorem or_down (p : Nat) (hp : p ≤ 32) (x y : Int) (hx0 : 0 ≤ x) (hx1 : x < 4294967296) (hy0 : 0 ≤ y) (hy1 : y < 4294967296) :
    bits .or .u32 (x / 2 ^ p) (y * 2 ^ (32 - p) % 4294967296) = x / T p + y % T p * T (32 - p) := by
  obtain ⟨X, rfl⟩ := Int.eq_ofNat_of_zero_le hx0
  obtain ⟨Y, rfl⟩ := Int.eq_ofNat_of_zero_le hy0
  have e1 : ((Y : Int) * 2 ^ (32 - p) % 4294967296) = ((Y * 2 ^ (32 - p) % 4294967296 : Nat) : Int) := by simp
  have e2 : ((X : Int) / 2 ^ p) = ((X / 2 ^ p : Nat) : Int) := by simp
  have h1 : Y * 2 ^ (32 - p) % 4294967296 < 4294967296 := Nat.mod_lt _ (by decide)
  have h2 : X / 2 ^ p < 4294967296 := Nat.lt_of_le_of_lt (Nat.div_le_self _ _) (by omega)
  have h3 := div_lt (32 - p) (by omega) X (by omega)
  have h5 := mod_mul (32 - p) (by omega) Y
  rw [show 32 - (32 - p) = p by omega] at h3 h5
  rw [e1, e2, u32_or_nat _ _ h2 h1, h5, Nat.or_comm, or_nat (32 - p) _ _ h3, T_nat, T_nat]
  simp
  rw [Int.mul_comm, Int.add_comm]

theorem down_bd (p : Nat) (hp : p ≤ 32) (x y : Int) (hx0 : 0 ≤ x) (hx1 : x < 4294967296) (hy0 : 0 ≤ y) : 0 ≤ x / T p + y % T p * T (32 - p) ∧ x / T p + y % T p * T (32 - p) < 4294967296 := by
  have hT := T_pos p
  have hT' := T_pos (32 - p)
  have hs := T_split hp
  have h1 : 0 ≤ x / T p := Int.ediv_nonneg hx0 (by omega)
  have h2 : x / T p < T (32 - p) := Int.ediv_lt_of_lt_mul hT (by rw [hs]; exact hx1)
  have h3 := Int.emod_nonneg y (show T p ≠ 0 by omega)
  have h4 := Int.emod_lt_of_pos y hT
  have h5 : (y % T p + 1) * T (32 - p) ≤ T p * T (32 - p) := Int.mul_le_mul_of_nonneg_right (by omega) (by omega)
  have h6 := Int.mul_nonneg h3 (Int.le_of_lt hT')
  rw [Int.add_mul, Int.mul_comm (T p), hs] at h5
  omega

/-- One round of lower. -/
theorem lower_step (Z0 Z : List Int) (k p : Nat) (x y r : Int) (hp : p ≤ 32) (hk : k < Z.length) (hx : x = Z0.getD k 0) (hy : y = Z0.getD (k + 1) 0)
    (hV : V (Z.take k) * T p + r = V (Z0.take k) + B k * (x % T p)) :
    V ((Z.set k (x / T p + y % T p * T (32 - p))).take (k + 1)) * T p + r = V (Z0.take (k + 1)) + B (k + 1) * (y % T p) := by
  rw [take_set_succ _ _ _ hk, V_take_next Z0, ← hx, Int.add_mul]
  have e1 : (x / T p + y % T p * T (32 - p)) * T p = x - x % T p + 4294967296 * (y % T p) := by
    rw [Int.add_mul, Int.mul_assoc, T_split hp]
    have := Int.mul_ediv_add_emod x (T p)
    rw [Int.mul_comm (T p)] at this
    omega
  rw [Int.mul_assoc, e1, Int.mul_add, Int.mul_sub]
  simp only [B]
  rw [← Int.mul_assoc (B k) 4294967296, Int.mul_comm (B k) 4294967296]
  omega

theorem lower_end (a Z0 Z : List Int) (q p : Nat) (x r : Int) (ha : Ok a) (hp : p ≤ 32) (hq : q < a.length) (hl : Z.length = a.length - q) (hZ0 : Z0 = a.drop q) (hx : x = Z0.getD (Z.length - 1) 0) (hr0 : 0 ≤ r) (hr1 : r < T p)
    (hV : V (Z.take (Z.length - 1)) * T p + r = V (Z0.take (Z.length - 1)) + B (Z.length - 1) * (x % T p)) :
    V (Z.set (Z.length - 1) (x / T p)) = V a / T (32 * q + p) := by
  have hT := T_pos p
  have hm : Z.length - 1 + 1 = Z.length := by omega
  have h1 := take_set_succ Z (Z.length - 1) (x / T p) (by omega)
  rw [hm, List.take_of_length_le (by simp)] at h1
  have h2 := V_take_next Z0 (Z.length - 1)
  rw [hm, ← hx, List.take_of_length_le (by rw [hZ0]; simp; omega)] at h2
  have h3 : V (Z.set (Z.length - 1) (x / T p)) * T p + r = V Z0 := by
    rw [h1, h2, Int.add_mul, Int.mul_assoc]
    have := Int.mul_ediv_add_emod x (T p)
    rw [Int.mul_comm (T p)] at this
    have e := congrArg (B (Z.length - 1) * ·) this
    simp only [Int.mul_add] at e
    omega
  have h4 : V Z0 / T p = V (Z.set (Z.length - 1) (x / T p)) := by
    rw [← h3, Int.add_comm, Int.add_mul_ediv_right _ _ (by omega), Int.ediv_eq_zero_of_lt hr0 hr1]; omega
  have h5 := V_split a q (by omega)
  have h6 := V_lt (ha.take q)
  rw [show (a.take q).length = q by simp; omega] at h6
  have h7 : V a / B q = V Z0 := by
    rw [h5, hZ0, Int.mul_comm, Int.add_mul_ediv_right _ _ (by have := B_pos q; omega), Int.ediv_eq_zero_of_lt (V_nonneg (ha.take q)) h6]; omega
  rw [T_add, T_32, ← Int.ediv_ediv_of_nonneg (Int.le_of_lt (B_pos q)), h7, h4]

theorem lower_none (a : List Int) (q p : Nat) (ha : Ok a) (hq : a.length ≤ q) : V a / T (32 * q + p) = 0 := by
  have h1 := V_lt ha
  have h2 := B_mono hq
  have h3 := T_mono (show 32 * q ≤ 32 * q + p by omega)
  rw [T_32] at h3
  exact Int.ediv_eq_zero_of_lt (V_nonneg ha) (by omega)

theorem part_bd (p : Nat) (hp : p ≤ 32) (x y : Int) (hx0 : 0 ≤ x) (hy0 : 0 ≤ y) (hy1 : y < 4294967296) : 0 ≤ x * T p % 4294967296 + y * T p / 4294967296 ∧ x * T p % 4294967296 + y * T p / 4294967296 < 4294967296 := by
  obtain ⟨X, rfl⟩ := Int.eq_ofNat_of_zero_le hx0
  obtain ⟨Y, rfl⟩ := Int.eq_ofNat_of_zero_le hy0
  have h1 := div_lt p hp Y (by omega)
  have h2 := mod_mul p hp X
  have h3 : X % 2 ^ (32 - p) + 1 ≤ 2 ^ (32 - p) := Nat.mod_lt _ (Nat.two_pow_pos _)
  have h4 := Nat.mul_le_mul_left (2 ^ p) h3
  have e : 2 ^ p * 2 ^ (32 - p) = (4294967296 : Nat) := by rw [← Nat.pow_add, show p + (32 - p) = 32 by omega]
  rw [e, Nat.mul_add, Nat.mul_one, ← h2] at h4
  rw [div_mul p hp] at h1
  rw [T_nat]
  have k1 : (X : Int) * ((2 ^ p : Nat) : Int) % 4294967296 = ((X * 2 ^ p % 4294967296 : Nat) : Int) := by simp
  have k2 : (Y : Int) * ((2 ^ p : Nat) : Int) / 4294967296 = ((Y * 2 ^ p / 4294967296 : Nat) : Int) := by simp
  rw [k1, k2]
  omega

/-- One round of raise: place k, from the top down. -/
theorem raise_step (Z0 Z : List Int) (k p : Nat) (x y : Int) (hk0 : 0 < k) (hk : k < Z.length) (hl : Z.length = Z0.length) (hx : x = Z0.getD k 0) (hy : y = Z0.getD (k - 1) 0)
    (hV : V (Z.drop (k + 1)) = V (Z0.drop (k + 1)) * T p + (x * T p) / 4294967296) :
    V ((Z.set k (x * T p % 4294967296 + y * T p / 4294967296)).drop (k - 1 + 1)) = V (Z0.drop (k - 1 + 1)) * T p + (y * T p) / 4294967296 := by
  rw [show k - 1 + 1 = k by omega, V_drop _ k (by simp; omega), V_drop Z0 k (by omega), ← hx, List.drop_set_of_lt (by omega), hV]
  have e : (Z.set k (x * T p % 4294967296 + y * T p / 4294967296)).getD k 0 = x * T p % 4294967296 + y * T p / 4294967296 := by simp [List.getD, hk]
  rw [e, Int.add_mul, Int.mul_assoc]
  omega

theorem raise_end (Z0 Z a : List Int) (q p : Nat) (x : Int) (hq : q < Z.length) (hl : Z.length = Z0.length) (hx : x = Z0.getD q 0) (hZ0 : Z0 = over (zer (q + a.length + 1)) q a) (hs : ∀ j, j ≤ q → Z.getD j 0 = Z0.getD j 0)
    (hV : V (Z.drop (q + 1)) = V (Z0.drop (q + 1)) * T p + (x * T p) / 4294967296) : V (Z.set q (x * T p % 4294967296)) = V a * T (32 * q + p) := by
  have s1 := V_split (Z.set q (x * T p % 4294967296)) q (by simp; omega)
  rw [V_drop _ q (by simp; omega), List.drop_set_of_lt (by omega), hV, List.take_set_of_le (by omega)] at s1
  have e : (Z.set q (x * T p % 4294967296)).getD q 0 = x * T p % 4294967296 := by simp [List.getD, hq]
  have e2 : V (Z.take q) = 0 := by
    apply V_zeros
    intro i hi
    have hi : i < q := by rw [List.length_take] at hi; omega
    have h1 := hs i (by omega)
    have h2 : (Z.take q).getD i 0 = Z.getD i 0 := by simp [List.getD, hi]
    have h3 : Z0.getD i 0 = 0 := by
      rw [hZ0]
      have := zer_at (q + a.length + 1) i
      simp only [over, List.getD_eq_getElem?_getD] at this ⊢
      rw [List.getElem?_append_left (by rw [List.length_take, zer_len]; omega), List.getElem?_take_of_lt hi]
      exact this
    rw [h2, h1, h3]
  have e3 : V (Z0.drop q) = V a := by
    rw [hZ0]
    simp only [over]
    rw [List.drop_append, List.drop_take, show q - q = 0 by omega, List.take_zero, List.nil_append, List.length_take, zer_len, show q - min q (q + a.length + 1) = 0 by omega, List.drop_zero, V_append]
    have : V ((zer (q + a.length + 1)).drop (q + a.length)) = 0 := by
      simp only [zer, List.drop_replicate]
      exact V_rep _
    rw [this]; omega
  have e4 := V_drop Z0 q (by omega)
  rw [e3, ← hx] at e4
  rw [s1, e, e2, T_add, T_32, e4]
  have e5 : x * T p % 4294967296 + 4294967296 * (V (Z0.drop (q + 1)) * T p + x * T p / 4294967296) = (x + 4294967296 * V (Z0.drop (q + 1))) * T p := by
    rw [Int.add_mul, Int.mul_assoc]; omega
  rw [e5, Int.zero_add, ← Int.mul_assoc, Int.mul_comm (B q), Int.mul_assoc]
end Go.Proofs.YtbmondbicnfcpaaDoor

/-
  limb.raise: new memory with a number times 2^n in it.
-/
namespace Go.Proofs.YtbmondbicnfcpaaDoor
open Go.RowKit
set_option linter.unusedVariables false

theorem raise_start (Z0 a : List Int) (q p : Nat) (hl : Z0.length = q + a.length + 1) (hZ0 : Z0 = over (zer (q + a.length + 1)) q a) :
    V (Z0.drop (q + a.length + 1)) = V (Z0.drop (q + a.length + 1)) * T p + (Z0.getD (q + a.length) 0 * T p) / 4294967296 := by
  have e1 : Z0.drop (q + a.length + 1) = [] := List.drop_eq_nil_of_le (by omega)
  have e2 : Z0.getD (q + a.length) 0 = 0 := by
    rw [hZ0]
    have := zer_at (q + a.length + 1) (q + a.length)
    simp only [over, List.getD_eq_getElem?_getD] at this ⊢
    rw [List.getElem?_append_right (by rw [List.length_take]; omega), List.getElem?_append_right (by rw [List.length_take, zer_len]; omega), List.getElem?_drop]
    rw [List.length_take, zer_len, show q + a.length + (q + a.length - min q (q + a.length + 1) - a.length) = q + a.length by omega]
    exact this
  rw [e1, e2]
  simp [V]

def RaisePost (w : World) (x : Int) (m : Nat) (e : Ending) (w' : World) : Prop :=
  ∃ g Z, e = .returned (.slice (some ⟨g, 0, none⟩) m m) ∧ Z.length = m ∧ Ok Z ∧ Row w' g Z ∧ V Z = x ∧ Below w.heap.size w w' ∧ w.heap.size ≤ g

set_option maxHeartbeats 2000000 in
theorem raise_any (va : Value) (a : List Int) (n q p : Nat) (w : World) (ha : Sl w va a) (hla : a.length ≤ 1000000) (hn : n = 32 * q + p) (hp : p < 32) (hq : q ≤ 1000) :
    Calls Tryd.prog 138 #[va, .int .i64 n] w fun e w' => RaisePost w (V a * T n) (q + a.length + 1) e w' := by
  obtain ⟨aa, acap, rfl⟩ := ha.shape
  have h1 : (n : Int) / 32 = (q : Int) := by omega
  have h2 : (n : Int) % 32 = (p : Int) := by omega
  have hn0 : n ≤ 40000 := by omega
  have HN : Hid _ := hn
  clear hn
  go_enter Tryd.func138, Tryd.ntmps138
  go_wp2_with (first | (at_make; refine wpList_make_u32 rfl _ _ rfl _ _ (q + a.length + 1) rfl rfl (by omega) (by omega) (by omega) ?_; intro w1 hrow1 hbel1; obtain ⟨w2, hcr, hrow2, hbut2⟩ := copy_run w1 w.heap.size q (q + a.length + 1 - q) (q + a.length + 1 - q) aa a.length acap _ a hrow1 (ha.below hbel1) (by rw [zer_len]; omega) (by omega)) | fail)
  have hZ0l : (over (zer (q + a.length + 1)) q a).length = q + a.length + 1 := by rw [over_len, zer_len]; rw [zer_len]; omega
  have hZ0ok : Ok (over (zer (q + a.length + 1)) q a) := over_ok (zer_ok _) ha.ok q
  have hbel2 := hbel1.trans (hbut2.below (Nat.le_refl _))
  obtain ⟨Z0, hZ0⟩ : ∃ Z0, Z0 = over (zer (q + a.length + 1)) q a := ⟨_, rfl⟩
  rw [← hZ0] at hrow2 hZ0l hZ0ok
  have HZ0 : Hid _ := hZ0
  clear hZ0 hcr hrow1 hbut2 hbel1
  go_loopw [8] (fun i wr => ∃ (k : Nat) (Z : List Int), q ≤ k ∧ k ≤ q + a.length ∧ i = .int .i64 k ∧ Z.length = q + a.length + 1 ∧ Ok Z ∧ Row wr w.heap.size Z ∧ Below w.heap.size w wr ∧
      (∀ j, j ≤ k → Z.getD j 0 = Z0.getD j 0) ∧ V (Z.drop (k + 1)) = V (Z0.drop (k + 1)) * T p + (Z0.getD k 0 * T p) / 4294967296) (fun i _ => (intOf i).toNat - q)
  case atStart => exact ⟨q + a.length, Z0, by omega, by omega, by go_num, hZ0l, hZ0ok, hrow2, hbel2, fun _ _ => rfl, raise_start Z0 a q p hZ0l HZ0.out⟩
  case round =>
    obtain ⟨k, Z, hk1, hk2, rfl, hZl, hZok, hrow, hbel, hsame, hV⟩ := hrel
    by_cases hkq : q < k
    · have c1 := hrow.cell k (by omega)
      have c2 := hrow.cell (k - 1) (by omega)
      have f1 := hrow.frozen k
      have b1 := hZok.getD k
      have b2 := hZok.getD (k - 1)
      obtain ⟨x, hx⟩ : ∃ x, x = Z.getD k 0 := ⟨_, rfl⟩
      obtain ⟨y, hy⟩ : ∃ y, y = Z.getD (k - 1) 0 := ⟨_, rfl⟩
      rw [← hx] at c1 b1
      rw [← hy] at c2 b2
      have hi1 : ((k : Int) - 1).toNat = k - 1 := by omega
      have hi2 : (0 : Int) ≤ (k : Int) - 1 := by omega
      have hi3 : (k : Int) - 1 < (q : Int) + (a.length : Int) + 1 := by omega
      have hi4 : (k : Int) < (q : Int) + (a.length : Int) + 1 := by omega
      have HX : Hid _ := hx
      have HY : Hid _ := hy
      have HS : Hid _ := hsame
      have HV : Hid _ := hV
      clear hx hy hsame hV
      go_wp2_with fail
      go_region
      rw [or_up p (by omega) x y b1.1 b1.2 b2.1 b2.2]
      have hz := part_bd p (by omega) x y b1.1 b2.1 b2.2
      have HST : Hid _ := raise_step Z0 Z k p x y (by omega) (by omega) (by omega) (HX.out.trans (HS.out k (Nat.le_refl _))) (HY.out.trans (HS.out (k - 1) (by omega))) (by rw [HX.out, HS.out k (Nat.le_refl _)]; exact HV.out)
      have hrow' := hrow.set k (x * T p % 4294967296 + y * T p / 4294967296)
      have hbel' := hbel.setCell (p := ⟨w.heap.size, k, none⟩) (Nat.le_refl _) (.int .u32 (x * T p % 4294967296 + y * T p / 4294967296))
      have HS' : Hid (∀ j, j ≤ k - 1 → (Z.set k (x * T p % 4294967296 + y * T p / 4294967296)).getD j 0 = Z0.getD j 0) := by
        intro j hj
        rw [← HS.out j (by omega)]
        simp only [List.getD_eq_getElem?_getD]
        rw [List.getElem?_set_ne (by omega)]
      have HY' : Hid (y = Z0.getD (k - 1) 0) := HY.out.trans (HS.out (k - 1) (by omega))
      generalize x * T p % 4294967296 + y * T p / 4294967296 = z at *
      clear hrow hbel c1 c2 f1 HX HY HS HV
      have hw2 : (wr.setCell { block := w.heap.size, off := k } (Value.int IntKind.u32 z)).drew = (wr.setCell { block := w.heap.size, off := k } (Value.int IntKind.u32 z)).drew := rfl
      have hrow2' : Row (wr.setCell { block := w.heap.size, off := k } (Value.int IntKind.u32 z)).drew w.heap.size (Z.set k z) := hrow'
      have hbel2' := hbel'.drew
      clear hrow' hbel' hw2
      generalize (wr.setCell { block := w.heap.size, off := k } (Value.int IntKind.u32 z)).drew = w5 at *
      go_wp2_with fail
      go_roundw
      case rel => exact ⟨k - 1, Z.set k z, by omega, by omega, by go_num, by simpa using hZl, hZok.set k hz.1 hz.2, hrow2', hbel2', HS'.out, by rw [← HY'.out]; exact HST.out⟩
      case measure => simp [intOf]; omega
    · obtain rfl : k = q := by omega
      have c1 := hrow.cell k (by omega)
      have f1 := hrow.frozen k
      have b1 := hZok.getD k
      obtain ⟨x, hx⟩ : ∃ x, x = Z.getD k 0 := ⟨_, rfl⟩
      rw [← hx] at c1 b1
      have HX : Hid (x = Z0.getD k 0) := hx.trans (hsame k (Nat.le_refl _))
      have HF : Hid _ := raise_end Z0 Z a k p x (by omega) (by omega) HX.out HZ0.out hsame (by rw [HX.out]; exact hV)
      have hi4 : (k : Int) < (k : Int) + (a.length : Int) + 1 := by omega
      clear hx hsame hV
      have hrow' := hrow.set k (x * T p % 4294967296)
      have hbel' := hbel.setCell (p := ⟨w.heap.size, k, none⟩) (Nat.le_refl _) (.int .u32 (x * T p % 4294967296))
      have hzok := hZok.set k (z := x * T p % 4294967296) (by omega) (by omega)
      rw [T_pow] at hrow' hbel' hzok HF
      clear hrow2 hbel2
      go_wp2_with fail
      go_ret
      refine ⟨w.heap.size, _, rfl, by simpa using hZl, hzok, hrow', ?_, hbel', Nat.le_refl _⟩
      rw [HN.out]
      exact HF.out
end Go.Proofs.YtbmondbicnfcpaaDoor

/-
  limb.lower: new memory with a number by 2^n in it, cut.
-/
namespace Go.Proofs.YtbmondbicnfcpaaDoor
open Go.RowKit
set_option linter.unusedVariables false

def LowerPost (w : World) (x : Int) (l : Nat) (e : Ending) (w' : World) : Prop :=
  Below w.heap.size w w' ∧ ((e = .returned (.slice none 0 0) ∧ x = 0) ∨
    ∃ g Z, e = .returned (.slice (some ⟨g, 0, none⟩) Z.length Z.length) ∧ 0 < Z.length ∧ Z.length ≤ l ∧ Ok Z ∧ Row w' g Z ∧ V Z = x ∧ w.heap.size ≤ g)

set_option maxHeartbeats 2000000 in
theorem lower_any (va : Value) (a : List Int) (n q p : Nat) (w : World) (ha : Sl w va a) (hla : a.length ≤ 1000000) (hn : n = 32 * q + p) (hp : p < 32) (hn1 : n ≤ 9223372036854775807) :
    Calls Tryd.prog 140 #[va, .int .i64 n] w fun e w' => LowerPost w (V a / T n) a.length e w' := by
  obtain ⟨aa, acap, rfl⟩ := ha.shape
  have h1 : (n : Int) / 32 = (q : Int) := by omega
  have h2 : (n : Int) % 32 = (p : Int) := by omega
  have hq1 : q ≤ 9223372036854775807 := by omega
  have HN : Hid _ := hn
  clear hn
  by_cases hq : a.length ≤ q
  · have hge : (a.length : Int) ≤ (q : Int) := by omega
    go_enter Tryd.func140, Tryd.ntmps140
    go_wp2_with fail
    go_ret
    exact ⟨Below.refl _ _, .inl ⟨rfl, by rw [HN.out]; exact lower_none a q p ha.ok hq⟩⟩
  · have hge : ¬ (a.length : Int) ≤ (q : Int) := by omega
    obtain ⟨b, off, rfl, hcell⟩ := ha.at q (by omega)
    clear hcell
    have hqc : q < acap := by have := ha.len; omega
    have hcut := ha.cut (q := q) (by omega)
    go_enter Tryd.func140, Tryd.ntmps140
    go_wp2_with (first | (at_make; refine wpList_make_u32 rfl _ _ rfl _ _ (a.length - q) rfl rfl (by omega) (by omega) (by omega) ?_; intro w1 hrow1 hbel1; obtain ⟨w2, hcr, hrow2, hbut2⟩ := copy_run w1 w.heap.size 0 (a.length - q) (a.length - q) (some ⟨b, off + q, none⟩) (a.length - q) (acap - q) _ (a.drop q) hrow1 (hcut.below hbel1) (by rw [zer_len]; simp) (by simp); rw [show (((a.drop q).length : Nat) : Int) = (a.length : Int) - (q : Int) by simp; omega] at hcr) | fail)
    have hbel2 := hbel1.trans (hbut2.below (Nat.le_refl _))
    have hZ0l : (a.drop q).length = a.length - q := by simp
    have hZ0ok : Ok (a.drop q) := ha.ok.drop q
    rw [show zer (a.length - q) = zer (a.drop q).length by rw [hZ0l], over_full] at hrow2
    obtain ⟨Z0, hZ0⟩ : ∃ Z0, Z0 = a.drop q := ⟨_, rfl⟩
    rw [← hZ0] at hrow2 hZ0l hZ0ok
    have HZ0 : Hid _ := hZ0
    have hT := T_pos p
    clear hZ0 hcr hrow1 hbut2 hbel1 hcut
    obtain ⟨r, hr⟩ : ∃ r, r = Z0.getD 0 0 % T p := ⟨_, rfl⟩
    have hr0 := Int.emod_nonneg (Z0.getD 0 0) (show T p ≠ 0 by omega)
    have hr1 := Int.emod_lt_of_pos (Z0.getD 0 0) hT
    rw [← hr] at hr0 hr1
    have HR : Hid _ := hr
    clear hr
    go_loopw [32] (fun i wr => ∃ (k : Nat) (Z : List Int), k ≤ a.length - q - 1 ∧ i = .int .i64 k ∧ Z.length = a.length - q ∧ Ok Z ∧ Row wr w.heap.size Z ∧ Below w.heap.size w wr ∧
      (∀ j, k ≤ j → Z.getD j 0 = Z0.getD j 0) ∧ V (Z.take k) * T p + r = V (Z0.take k) + B k * (Z0.getD k 0 % T p)) (fun i _ => a.length - (intOf i).toNat)
    case atStart => exact ⟨0, Z0, by omega, rfl, hZ0l, hZ0ok, hrow2, hbel2, fun _ _ => rfl, by rw [← HR.out]; simp [V, B]⟩
    case round =>
      obtain ⟨k, Z, hk1, rfl, hZl, hZok, hrow, hbel, hsame, hV⟩ := hrel
      clear hrow2 hbel2
      by_cases hkq : k < a.length - q - 1
      · have c1 := hrow.cell k (by omega)
        have c2 := hrow.cell (k + 1) (by omega)
        have f1 := hrow.frozen k
        have b1 := hZok.getD k
        have b2 := hZok.getD (k + 1)
        obtain ⟨x, hx⟩ : ∃ x, x = Z.getD k 0 := ⟨_, rfl⟩
        obtain ⟨y, hy⟩ : ∃ y, y = Z.getD (k + 1) 0 := ⟨_, rfl⟩
        rw [← hx] at c1 b1
        rw [← hy] at c2 b2
        have HX : Hid _ := hx.trans (hsame k (Nat.le_refl _))
        have HY : Hid _ := hy.trans (hsame (k + 1) (by omega))
        have HS : Hid _ := hsame
        have HV : Hid _ := hV
        have HR2 : Hid _ := HR
        clear hx hy hsame hV
        go_wp2_with fail
        go_region
        rw [or_down p (by omega) x y b1.1 b1.2 b2.1 b2.2]
        have hz := down_bd p (by omega) x y b1.1 b1.2 b2.1
        have HST : Hid _ := lower_step Z0 Z k p x y r (by omega) (by omega) HX.out HY.out (by rw [HX.out]; exact HV.out)
        have hrow' := hrow.set k (x / T p + y % T p * T (32 - p))
        have hbel' := hbel.setCell (p := ⟨w.heap.size, k, none⟩) (Nat.le_refl _) (.int .u32 (x / T p + y % T p * T (32 - p)))
        have HS' : Hid _ := set_same Z Z0 k (x / T p + y % T p * T (32 - p)) HS.out
        generalize x / T p + y % T p * T (32 - p) = z at *
        clear hrow hbel c1 c2 f1 HX HS HV
        have hrow2' : Row (wr.setCell { block := w.heap.size, off := k } (Value.int IntKind.u32 z)).drew w.heap.size (Z.set k z) := hrow'
        have hbel2' := hbel'.drew
        clear hrow' hbel'
        generalize (wr.setCell { block := w.heap.size, off := k } (Value.int IntKind.u32 z)).drew = w5 at *
        go_wp2_with fail
        go_roundw
        case rel => exact ⟨k + 1, Z.set k z, by omega, by go_num, by simpa using hZl, hZok.set k hz.1 hz.2, hrow2', hbel2', HS'.out, by rw [← HY.out]; exact HST.out⟩
        case measure => simp [intOf]; omega
      · obtain rfl : k = a.length - q - 1 := by omega
        have c1 := hrow.cell (a.length - q - 1) (by omega)
        have f1 := hrow.frozen (a.length - q - 1)
        have b1 := hZok.getD (a.length - q - 1)
        obtain ⟨x, hx⟩ : ∃ x, x = Z.getD (a.length - q - 1) 0 := ⟨_, rfl⟩
        rw [← hx] at c1 b1
        have HX : Hid (x = Z0.getD (a.length - q - 1) 0) := hx.trans (hsame _ (Nat.le_refl _))
        have HF : Hid (V (Z.set (a.length - q - 1) (x / T p)) = V a / T (32 * q + p)) := by
          show V (Z.set (a.length - q - 1) (x / T p)) = V a / T (32 * q + p)
          rw [← hZl]
          rw [← hZl] at hV
          exact lower_end a Z0 Z q p x r ha.ok (by omega) (by omega) hZl HZ0.out (by rw [hZl]; exact HX.out) hr0 hr1 (by rw [HX.out, ← hZl]; exact hV)
        clear hx hsame hV
        have hzb : 0 ≤ x / T p ∧ x / T p < 4294967296 := ⟨Int.ediv_nonneg b1.1 (by omega), Int.lt_of_le_of_lt (Int.ediv_le_self _ b1.1) b1.2⟩
        have hrow' := hrow.set (a.length - q - 1) (x / T p)
        have hbel' := hbel.setCell (p := ⟨w.heap.size, a.length - q - 1, none⟩) (Nat.le_refl _) (.int .u32 (x / T p))
        have hzok := hZok.set (a.length - q - 1) hzb.1 hzb.2
        have hlen' : (Z.set (a.length - q - 1) (x / T p)).length = a.length - q := by simpa using hZl
        rw [T_pow p] at hrow' hbel' hzok hlen'
        have HF' : Hid (V (Z.set (a.length - q - 1) (x / 2 ^ p)) = V a / T (32 * q + p)) := by rw [← T_pow p]; exact HF.out
        have hi1 : ((a.length - q : Nat) : Int) - 1 = ((a.length - q - 1 : Nat) : Int) := by omega
        clear HF hzb
        go_wp2_with fail
        go_ret
        refine ⟨hbel', .inr ⟨w.heap.size, Z.set (a.length - q - 1) (x / 2 ^ p), ?_, by omega, by omega, hzok, hrow', by rw [HN.out]; exact HF'.out, Nat.le_refl _⟩⟩
        rw [hlen']
        rfl
end Go.Proofs.YtbmondbicnfcpaaDoor

/-
  limb.Shl, limb.Shr: a number times 2^n (n cut to from 0 to 4096), by 2^n, cut (n below 0 as 0).
-/
namespace Go.Proofs.YtbmondbicnfcpaaDoor
open Go.RowKit
set_option linter.unusedVariables false

/-- n as Shl takes it. -/
def upN (n : Int) : Nat := (min (max n 0) 4096).toNat
/-- n as Shr takes it. -/
def downN (n : Int) : Nat := (max n 0).toNat

theorem upN_neg {n : Int} (h : n < 0) : upN n = 0 := by unfold upN; omega
theorem upN_mid {n : Int} (h : 0 ≤ n) (h2 : n ≤ 4096) : upN n = n.toNat := by unfold upN; omega
theorem upN_big {n : Int} (h : 4096 < n) : upN n = 4096 := by unfold upN; omega

/-- A slice is answered, in new memory or nil: its number is x. -/
def MidPost (w : World) (x : Int) (l : Nat) (e : Ending) (w2 : World) : Prop :=
  ∃ v Z, e = .returned v ∧ Sl w2 v Z ∧ V Z = x ∧ Z.length ≤ l ∧ Below w.heap.size w w2 ∧ (∀ k, v.ownBlock = some k → w.heap.size ≤ k)

theorem RaisePost.mid {w w2 : World} {x : Int} {l m : Nat} {e : Ending} (h : RaisePost w x m e w2) (hm : m ≤ l) (hl : l ≤ 2000000) : MidPost w x l e w2 := by
  obtain ⟨g, Z, rfl, h1, h2, h3, h4, h5, h6⟩ := h
  have := h3.all h2 (by omega)
  rw [h1] at this
  exact ⟨_, Z, rfl, this, h4, by omega, h5, fun k hk => by simp [Value.ownBlock] at hk; omega⟩

theorem LowerPost.mid {w w2 : World} {x : Int} {l : Nat} {e : Ending} (h : LowerPost w x l e w2) (hl : l ≤ 1000000) : MidPost w x l e w2 := by
  obtain ⟨hb, h⟩ := h
  rcases h with ⟨rfl, rfl⟩ | ⟨g, Z, rfl, h0, h1, h2, h3, h4, h5⟩
  · exact ⟨_, [], rfl, Sl.nil _, rfl, Nat.zero_le _, hb, fun k hk => by simp [Value.ownBlock] at hk⟩
  · exact ⟨_, Z, rfl, h3.all h2 (by omega), h4, h1, hb, fun k hk => by simp [Value.ownBlock] at hk; omega⟩

/-- 'return trim(x)', x in new memory, or nil. -/
theorem TrimPost.numOf {w w3 : World} {x : Int} {l : Nat} {v : Value} {X' : List Int} {e : Ending} {w' : World} (h : TrimPost w3 v X' e w') (hbel : Below w.heap.size w w3) (hg : ∀ k, v.ownBlock = some k → w.heap.size ≤ k) (hx : V X' = x) (hl : X'.length ≤ l) :
    NumPost w x l e w' := by
  obtain ⟨rfl, v5, n5, rfl, hn5, hs5, hnm5, hv5, _, ho5, _⟩ := h
  refine ⟨v5, _, rfl, hs5, hnm5, hv5.trans hx, by simp; omega, hbel, fun k hk => ?_⟩
  rcases ho5 with h | ⟨h, _⟩
  · rw [hk] at h; cases h
  · rw [hk] at h; exact hg k h.symm

theorem raise_at (va : Value) (a : List Int) (z : Int) (n : Nat) (w : World) (hz : z = (n : Int)) (ha : Sl w va a) (hla : a.length ≤ 1000000) (hn : n ≤ 4096) :
    Calls Tryd.prog 138 #[va, .int .i64 z] w fun e w' => MidPost w (V a * T n) (a.length + 129) e w' := by
  subst hz
  exact (raise_any va a n (n / 32) (n % 32) w ha hla (by omega) (by omega) (by omega)).mono fun e w' h => h.mid (by omega) (by omega)

theorem lower_at (va : Value) (a : List Int) (z : Int) (n : Nat) (w : World) (hz : z = (n : Int)) (ha : Sl w va a) (hla : a.length ≤ 1000000) (hn : n ≤ 9223372036854775807) :
    Calls Tryd.prog 140 #[va, .int .i64 z] w fun e w' => MidPost w (V a / T n) a.length e w' := by
  subst hz
  exact (lower_any va a n (n / 32) (n % 32) w ha hla (by omega) (by omega) hn).mono fun e w' h => h.mid hla

set_option maxHeartbeats 1000000 in
theorem shl_any (va : Value) (a : List Int) (n : Int) (w : World) (ha : Sl w va a) (hla : a.length ≤ 900000) :
    Calls Tryd.prog 102 #[va, .int .i64 n] w fun e w' => NumPost w (V a * T (upN n)) (a.length + 129) e w' := by
  obtain ⟨aa, acap, rfl⟩ := ha.shape
  go_enter Tryd.func102, Tryd.ntmps102
  go_wp2_with fail
  refine (trim_any _ a _ ha).mono ?_
  rintro e w' ⟨rfl, v1, n1, rfl, hn1, hs1, hnm1, hv1, -, -, hk1⟩
  have H1 : Hid (V (a.take n1) = V a) := hv1
  have hl1 : (a.take n1).length ≤ a.length := by simp; omega
  clear hv1
  generalize a.take n1 = A at *
  obtain ⟨p1, c1, rfl⟩ := hs1.shape
  by_cases h0 : A.length = 0
  · have hb : ((A.length : Int) == 0) = true := beq_iff_eq.2 (by omega)
    have HF : Hid (V a = 0) := by
      show V a = 0
      rw [← H1.out, List.eq_nil_of_length_eq_zero h0]; rfl
    go_wp2_with fail
    go_ret
    exact ⟨_, [], rfl, Sl.nil _, Nm_nil, by rw [HF.out]; simp [V], Nat.zero_le _, Below.refl _ _, fun k hk => by simp [Value.ownBlock] at hk⟩
  · have hb : ((A.length : Int) == 0) = false := beq_eq_false_iff_ne.2 (by omega)
    have hu : upN n ≤ 4096 := by unfold upN; omega
    rcases (show n < 0 ∨ (0 ≤ n ∧ n ≤ 4096) ∨ 4096 < n by omega) with hc | ⟨hc, hc2⟩ | hc
    · go_wp2_with fail
      refine (raise_at _ A 0 (upN n) _ (by rw [upN_neg hc]; rfl) hs1 (by omega) hu).mono ?_
      rintro e w2 ⟨v2, Z, rfl, hsl, hV, hZl, hbel, hg⟩
      have HF : Hid (V Z = V a * T (upN n)) := by
        show V Z = V a * T (upN n)
        rw [hV, H1.out]
      have hZl' : Z.length ≤ a.length + 129 := by omega
      clear hV hZl
      go_wp2_with fail
      refine (trim_any _ Z _ hsl).mono ?_
      intro e w' hT
      obtain ⟨v, rfl, FIN⟩ := (hT.numOf hbel hg HF.out hZl').ends
      clear hT
      go_wp2_with fail
      go_ret
      exact FIN.out
    · go_wp2_with fail
      refine (raise_at _ A n (upN n) _ (by rw [upN_mid hc hc2]; omega) hs1 (by omega) hu).mono ?_
      rintro e w2 ⟨v2, Z, rfl, hsl, hV, hZl, hbel, hg⟩
      have HF : Hid (V Z = V a * T (upN n)) := by
        show V Z = V a * T (upN n)
        rw [hV, H1.out]
      have hZl' : Z.length ≤ a.length + 129 := by omega
      clear hV hZl
      go_wp2_with fail
      refine (trim_any _ Z _ hsl).mono ?_
      intro e w' hT
      obtain ⟨v, rfl, FIN⟩ := (hT.numOf hbel hg HF.out hZl').ends
      clear hT
      go_wp2_with fail
      go_ret
      exact FIN.out
    · go_wp2_with fail
      refine (raise_at _ A 4096 (upN n) _ (by rw [upN_big hc]; rfl) hs1 (by omega) hu).mono ?_
      rintro e w2 ⟨v2, Z, rfl, hsl, hV, hZl, hbel, hg⟩
      have HF : Hid (V Z = V a * T (upN n)) := by
        show V Z = V a * T (upN n)
        rw [hV, H1.out]
      have hZl' : Z.length ≤ a.length + 129 := by omega
      clear hV hZl
      go_wp2_with fail
      refine (trim_any _ Z _ hsl).mono ?_
      intro e w' hT
      obtain ⟨v, rfl, FIN⟩ := (hT.numOf hbel hg HF.out hZl').ends
      clear hT
      go_wp2_with fail
      go_ret
      exact FIN.out

theorem downN_neg {n : Int} (h : n < 0) : downN n = 0 := by unfold downN; omega
theorem downN_mid {n : Int} (h : 0 ≤ n) : downN n = n.toNat := by unfold downN; omega

set_option maxHeartbeats 1000000 in
theorem shr_any (va : Value) (a : List Int) (n : Int) (w : World) (ha : Sl w va a) (hla : a.length ≤ 900000) (hn : n ≤ 9223372036854775807) :
    Calls Tryd.prog 104 #[va, .int .i64 n] w fun e w' => NumPost w (V a / T (downN n)) a.length e w' := by
  obtain ⟨aa, acap, rfl⟩ := ha.shape
  go_enter Tryd.func104, Tryd.ntmps104
  go_wp2_with fail
  refine (trim_any _ a _ ha).mono ?_
  rintro e w' ⟨rfl, v1, n1, rfl, hn1, hs1, hnm1, hv1, -, -, hk1⟩
  have H1 : Hid (V (a.take n1) = V a) := hv1
  have hl1 : (a.take n1).length ≤ a.length := by simp; omega
  clear hv1
  generalize a.take n1 = A at *
  obtain ⟨p1, c1, rfl⟩ := hs1.shape
  have hu : downN n ≤ 9223372036854775807 := by unfold downN; omega
  rcases (show n < 0 ∨ 0 ≤ n by omega) with hc | hc
  · go_wp2_with fail
    refine (lower_at _ A 0 (downN n) _ (by rw [downN_neg hc]; rfl) hs1 (by omega) hu).mono ?_
    rintro e w2 ⟨v2, Z, rfl, hsl, hV, hZl, hbel, hg⟩
    have HF : Hid (V Z = V a / T (downN n)) := by
      show V Z = V a / T (downN n)
      rw [hV, H1.out]
    have hZl' : Z.length ≤ a.length := by omega
    clear hV hZl
    go_wp2_with fail
    refine (trim_any _ Z _ hsl).mono ?_
    intro e w' hT
    obtain ⟨v, rfl, FIN⟩ := (hT.numOf hbel hg HF.out hZl').ends
    clear hT
    go_wp2_with fail
    go_ret
    exact FIN.out
  · go_wp2_with fail
    refine (lower_at _ A n (downN n) _ (by rw [downN_mid hc]; omega) hs1 (by omega) hu).mono ?_
    rintro e w2 ⟨v2, Z, rfl, hsl, hV, hZl, hbel, hg⟩
    have HF : Hid (V Z = V a / T (downN n)) := by
      show V Z = V a / T (downN n)
      rw [hV, H1.out]
    have hZl' : Z.length ≤ a.length := by omega
    clear hV hZl
    go_wp2_with fail
    refine (trim_any _ Z _ hsl).mono ?_
    intro e w' hT
    obtain ⟨v, rfl, FIN⟩ := (hT.numOf hbel hg HF.out hZl').ends
    clear hT
    go_wp2_with fail
    go_ret
    exact FIN.out

theorem tmod_place (v m : Int) (hm : 0 < m) : (v.tmod m < 0 → v.tmod m + m = v % m) ∧ (¬ v.tmod m < 0 → v.tmod m = v % m) ∧ -m < v.tmod m := by
  have h1 := Int.emod_nonneg v (show m ≠ 0 by omega)
  have h2 := Int.emod_lt_of_pos v hm
  have h3 := Int.tmod_eq_emod (a := v) (b := m)
  by_cases hc : 0 ≤ v ∨ m ∣ v
  · rw [if_pos hc] at h3
    omega
  · rw [if_neg hc] at h3
    have h5 : v % m ≠ 0 := fun e => hc (.inr (Int.dvd_of_emod_eq_zero e))
    omega

theorem upN_nat {k : Nat} (h : k ≤ 4096) : upN (k : Int) = k := by unfold upN; omega
theorem downN_nat (k : Nat) : downN (k : Int) = k := by unfold downN; omega

theorem isLen_up {x : Int} {l : Nat} (k : Nat) (h : IsLen x l) (h0 : 0 < l) : IsLen (x * T k) (l + k) := by
  rcases h with ⟨_, h2⟩ | ⟨h1, h2, h3⟩
  · omega
  · have hT := T_pos k
    refine .inr ⟨by omega, ?_, ?_⟩
    · rw [show l + k - 1 = (l - 1) + k by omega, T_add]
      exact Int.mul_le_mul_of_nonneg_right h2 (by omega)
    · rw [T_add]
      exact Int.mul_lt_mul_of_pos_right h3 hT

theorem isLen_zero {x : Int} (h : IsLen x 0) : x = 0 := by
  rcases h with ⟨h1, _⟩ | ⟨h1, _⟩
  · exact h1
  · omega

theorem isLen_top {x : Int} {l : Nat} (h : IsLen x l) : x / T l = 0 := by
  rcases h with ⟨h1, h2⟩ | ⟨h1, h2, h3⟩
  · rw [h1]; simp
  · exact Int.ediv_eq_zero_of_lt (by have := T_pos (l - 1); omega) h3

theorem isLen_one {x : Int} {l : Nat} (h : IsLen x l) (h0 : 0 < l) : x / T (l - 1) = 1 := by
  rcases h with ⟨_, h2⟩ | ⟨h1, h2, h3⟩
  · omega
  · have hT := T_pos (l - 1)
    obtain ⟨m, rfl⟩ : ∃ m, l = m + 1 := ⟨l - 1, by omega⟩
    simp only [Nat.add_sub_cancel, T] at h2 h3 hT ⊢
    have e : x = (x - T m) + 1 * T m := by omega
    rw [e, Int.add_mul_ediv_right _ _ (by omega), Int.ediv_eq_zero_of_lt (by omega) (by omega)]
    omega
end Go.Proofs.YtbmondbicnfcpaaDoor
