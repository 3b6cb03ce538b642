
/-
  math/bits.Len32, LeadingZeros32 and limb.Len: how many bits a number has.
-/
import Derived.Test.YtnfnnngdbeplaaaDoorMul
import Derived.Test.YtnfnnngdbeplaaaDoorBits
namespace Go.Proofs.YtnfnnngdbeplaaaDoor
open Go.RowKit
set_option linter.unusedVariables false

/-- 2 to the n. -/
def T : Nat → Int
  | 0 => 1
  | n + 1 => 2 * T n

theorem T_pos (n : Nat) : 0 < T n := by
  induction n with
  | zero => decide
  | succ n ih => simp only [T]; omega
theorem T_add (m n : Nat) : T (m + n) = T m * T n := by
  induction m with
  | zero => simp [T]
  | succ m ih => rw [Nat.succ_add]; simp only [T]; rw [ih, Int.mul_assoc]
theorem T_mono {m n : Nat} (h : m ≤ n) : T m ≤ T n := by
  induction n with
  | zero => obtain rfl : m = 0 := by omega
            exact Int.le_refl _
  | succ n ih =>
    by_cases e : m = n + 1
    · subst e; exact Int.le_refl _
    · have h1 := ih (by omega)
      have h2 := T_pos n
      simp only [T]; omega
theorem T_32 (n : Nat) : T (32 * n) = B n := by
  induction n with
  | zero => rfl
  | succ n ih => rw [show 32 * (n + 1) = 32 + 32 * n by omega, T_add, ih]; rfl

/-- n is how many bits x has. -/
def IsLen (x : Int) (n : Nat) : Prop := (x = 0 ∧ n = 0) ∨ (0 < n ∧ T (n - 1) ≤ x ∧ x < T n)

theorem IsLen.one {x : Int} {m n : Nat} (h : IsLen x m) (k : IsLen x n) : m = n := by
  rcases h with ⟨h1, h2⟩ | ⟨h1, h2, h3⟩ <;> rcases k with ⟨k1, k2⟩ | ⟨k1, k2, k3⟩
  · omega
  · have := T_pos (n - 1); omega
  · have := T_pos (m - 1); omega
  · rcases Nat.lt_trichotomy m n with h | h | h
    · have := T_mono (show m ≤ n - 1 by omega); omega
    · exact h
    · have := T_mono (show n ≤ m - 1 by omega); omega

theorem isLen_bit : ∀ (f x : Nat), x < 2 ^ f → f ≤ 64 → IsLen (x : Int) (Lib.bitLen x)
  | 0, x, h, _ => by
    obtain rfl : x = 0 := by omega
    exact .inl ⟨rfl, rfl⟩
  | f + 1, x, h, hf => by
    by_cases h0 : x = 0
    · subst h0; exact .inl ⟨rfl, rfl⟩
    · have hlt : x < 2 ^ 64 := Nat.lt_of_lt_of_le h (Nat.pow_le_pow_right (by decide) hf)
      rw [Lib.bitLen_half x h0 hlt]
      have ih := isLen_bit f (x / 2) (by rw [Nat.pow_succ] at h; omega) (by omega)
      refine .inr ⟨by omega, ?_⟩
      rw [show 1 + Lib.bitLen (x / 2) - 1 = Lib.bitLen (x / 2) by omega, show 1 + Lib.bitLen (x / 2) = Lib.bitLen (x / 2) + 1 by omega]
      rcases ih with ⟨h1, h2⟩ | ⟨h1, h2, h3⟩
      · rw [h2]; simp only [T]; omega
      · obtain ⟨n, hn⟩ : ∃ n, Lib.bitLen (x / 2) = n + 1 := ⟨Lib.bitLen (x / 2) - 1, by omega⟩
        rw [hn] at h2 h3 ⊢
        simp only [Nat.add_sub_cancel, T] at h2 h3 ⊢
        omega

theorem isLen_V {A : List Int} (ha : Ok A) (hn : 0 < A.length) {m : Nat} (ht : IsLen (A.getD (A.length - 1) 0) m) (hne : A.getD (A.length - 1) 0 ≠ 0) : IsLen (V A) ((A.length - 1) * 32 + m) := by
  rcases ht with ⟨h1, h2⟩ | ⟨h1, h2, h3⟩
  · exact absurd h1 hne
  · have s1 := V_split A (A.length - 1) (by omega)
    have s2 := V_drop A (A.length - 1) (by omega)
    have hz : A.drop (A.length - 1 + 1) = [] := by apply List.drop_eq_nil_of_le; omega
    rw [hz] at s2
    simp only [V, Int.mul_zero, Int.add_zero] at s2
    rw [s2] at s1
    have l1 := V_lt (ha.take (A.length - 1))
    have k1 : (A.take (A.length - 1)).length = A.length - 1 := by simp
    rw [k1] at l1
    have n1 := V_nonneg (ha.take (A.length - 1))
    have hB := B_pos (A.length - 1)
    generalize A.getD (A.length - 1) 0 = t at *
    refine .inr ⟨by omega, ?_, ?_⟩
    · rw [show (A.length - 1) * 32 + m - 1 = 32 * (A.length - 1) + (m - 1) by omega, T_add, T_32]
      have := Int.mul_le_mul_of_nonneg_left h2 (Int.le_of_lt hB)
      omega
    · rw [show (A.length - 1) * 32 + m = 32 * (A.length - 1) + m by omega, T_add, T_32]
      have := Int.mul_le_mul_of_nonneg_left (show t + 1 ≤ T m by omega) (Int.le_of_lt hB)
      rw [Int.mul_add, Int.mul_one] at this
      omega

theorem isLen_u32 (t : Int) (h0 : 0 ≤ t) (h1 : t < 4294967296) : IsLen t (Lib.bitLen t.toNat) ∧ Lib.bitLen t.toNat ≤ 32 := by
  have hp : (2 : Nat) ^ 32 = 4294967296 := by decide
  have ht : t.toNat < 2 ^ 32 := by rw [hp]; omega
  have h := isLen_bit 32 t.toNat ht (by omega)
  rw [Int.toNat_of_nonneg h0] at h
  exact ⟨h, Lib.bitLen_le _ 32 (by omega) ht⟩

def LenPost (w : World) (x : Int) (l : Nat) (e : Ending) (w' : World) : Prop := ∃ n : Nat, e = .returned (.int .i64 n) ∧ w = w' ∧ IsLen x n ∧ n ≤ 32 * l

set_option maxHeartbeats 1000000 in
theorem len_any (va : Value) (a : List Int) (w : World) (ha : Sl w va a) (hla : a.length ≤ 1000000) :
    Calls Tryd.prog 87 #[va] w fun e w' => LenPost w (V a) a.length e w' := by
  obtain ⟨aa, acap, rfl⟩ := ha.shape
  go_enter Tryd.func87, Tryd.ntmps87
  go_wp2_with fail
  refine (trim_any _ a _ ha).mono ?_
  rintro e w' ⟨rfl, v1, n1, rfl, hn1, hs1, hnm1, hv1, -, -, hk1⟩
  have H1 : Hid (V a = V (a.take n1)) := hv1.symm
  have hl1 : (a.take n1).length ≤ a.length := by simp; omega
  have hl2 : (a.take n1).length ≤ 1000000 := by omega
  clear hv1
  generalize a.take n1 = A at *
  obtain ⟨p1, c1, rfl⟩ := hs1.shape
  by_cases h0 : A.length = 0
  · have hb : ((A.length : Int) == 0) = true := beq_iff_eq.2 (by omega)
    have HF : Hid (V a = 0) := by
      show V a = 0
      rw [H1.out, List.eq_nil_of_length_eq_zero h0]; rfl
    go_wp2_with fail
    go_ret
    exact ⟨0, rfl, rfl, .inl ⟨HF.out, rfl⟩, Nat.zero_le _⟩
  · have hb : ((A.length : Int) == 0) = false := beq_eq_false_iff_ne.2 (by omega)
    obtain ⟨b, off, rfl, hcell⟩ := hs1.at (A.length - 1) (by omega)
    have hx := hs1.ok.getD (A.length - 1)
    have hne := hnm1 (by omega)
    have hu := isLen_u32 _ hx.1 hx.2
    have HL := isLen_V hs1.ok (show 0 < A.length by omega) hu.1 hne
    have hbl := hu.2
    clear hu
    rw [← H1.out] at HL
    have HL' : Hid _ := HL
    clear HL hne hnm1 H1
    generalize A.getD (A.length - 1) 0 = t at *
    have hpos : (0 : Int) ≤ (A.length : Int) - 1 := by omega
    have hi : ((A.length : Int) - 1).toNat = A.length - 1 := by omega
    go_wp2_with fail
    refine (len32_any t _ hx.1 (by omega)).mono ?_
    rintro e w' ⟨rfl, hw⟩
    subst hw
    go_wp2_with fail
    go_ret
    refine ⟨(A.length - 1) * 32 + Lib.bitLen t.toNat, ?_, rfl, HL'.out, by omega⟩
    refine congrArg Ending.returned (congrArg (Value.int IntKind.i64) ?_)
    omega
end Go.Proofs.YtnfnnngdbeplaaaDoor
