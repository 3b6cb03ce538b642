
/-
  Plain mathematics: and, or, exclusive or of numbers by limbs, each spread into n limbs with its sign's bits above, put together limb by limb, and gathered again.
-/
import Derived.Test.YtnfnnngdbeplaaaDoorNumSpread
namespace Go.Proofs.YtnfnnngdbeplaaaDoor
open Go.RowKit
set_option linter.unusedVariables false

/-- and, or, exclusive or of two limbs, as the machine has it. -/
def lb (op x y : Int) : Int := if op = 6 then bits .and .u32 x y else if op = 7 then bits .or .u32 x y else bits .xor .u32 x y

theorem lb_spec (op x y : Int) (h0 : 0 ≤ x) (h1 : x < 4294967296) (h2 : 0 ≤ y) (h3 : y < 4294967296) : 0 ≤ lb op x y ∧ lb op x y < 4294967296 ∧ ∀ j, bt (lb op x y) j = fop op (bt x j) (bt y j) := by
  obtain ⟨X, rfl⟩ := Int.eq_ofNat_of_zero_le h0
  obtain ⟨Y, rfl⟩ := Int.eq_ofNat_of_zero_le h2
  have hp : (2 : Nat) ^ 32 = 4294967296 := by decide
  have hX : X < 2 ^ 32 := by omega
  have hY : Y < 2 ^ 32 := by omega
  unfold lb fop
  by_cases h6 : op = 6
  · simp only [if_pos h6]
    rw [u32_and_nat X Y (by omega) (by omega)]
    have := Nat.and_lt_two_pow X hY
    refine ⟨by omega, by omega, fun j => ?_⟩
    rw [bt_nat, bt_nat, bt_nat, Nat.testBit_and]
  · by_cases h7 : op = 7
    · simp only [if_neg h6, if_pos h7]
      rw [u32_or_nat X Y (by omega) (by omega)]
      have := Nat.or_lt_two_pow hX hY
      refine ⟨by omega, by omega, fun j => ?_⟩
      rw [bt_nat, bt_nat, bt_nat, Nat.testBit_or]
    · simp only [if_neg h6, if_neg h7]
      rw [u32_xor_nat X Y (by omega) (by omega)]
      have := Nat.xor_lt_two_pow hX hY
      refine ⟨by omega, by omega, fun j => ?_⟩
      rw [bt_nat, bt_nat, bt_nat, Nat.testBit_xor]

theorem fop_ff (op : Int) : fop op false false = false := by
  unfold fop; split
  · rfl
  · split <;> rfl

theorem bt_limbs {op : Int} {A C O : List Int} (hA : Ok A) (hC : Ok C) (hO : Ok O) (ha : A.length = O.length) (hc : C.length = O.length) (h : ∀ i, i < O.length → O.getD i 0 = lb op (A.getD i 0) (C.getD i 0)) (i : Nat) :
    bt (V O) i = fop op (bt (V A) i) (bt (V C) i) := by
  obtain ⟨k, j, hj, rfl⟩ : ∃ k j, j < 32 ∧ i = 32 * k + j := ⟨i / 32, i % 32, by omega, by omega⟩
  rw [bt_V O hO k j hj, bt_V A hA k j hj, bt_V C hC k j hj]
  by_cases hk : k < O.length
  · rw [h k hk]
    have a := hA.getD k
    have c := hC.getD k
    exact (lb_spec op _ _ a.1 a.2 c.1 c.2).2.2 j
  · have e : ∀ L : List Int, L.length = O.length → L.getD k 0 = 0 := fun L hL => by simp [List.getD, show L.length ≤ k by omega]
    rw [e O rfl, e A ha, e C hc, bt_of_zero, fop_ff]

/-- A number spread. -/
theorem bt_spread {x v : Int} {n : Nat} (hv : v = if x < 0 then x + B n else x) (i : Nat) (hi : i < 32 * n) : bt v i = bt x i := by
  rw [← bt_mod (32 * n) v i hi, ← bt_mod (32 * n) x i hi]
  congr 1
  rw [hv, T_32]
  split
  · rw [Int.add_emod_right]
  · rfl

theorem bits_gather {op x y : Int} {n : Nat} {A C O : List Int} (hn : O.length = n + 1) (hA : Ok A) (hC : Ok C) (hO : Ok O) (ha : A.length = O.length) (hc : C.length = O.length)
    (h : ∀ i, i < O.length → O.getD i 0 = lb op (A.getD i 0) (C.getD i 0)) (va : V A = if x < 0 then x + B (n + 1) else x) (vc : V C = if y < 0 then y + B (n + 1) else y)
    (hx1 : -(B n) ≤ x) (hx2 : x < B n) (hy1 : -(B n) ≤ y) (hy2 : y < B n) (i : Nat) :
    bt (if O.getD (O.length - 1) 0 = 0 then V O else V O - B O.length) i = fop op (bt x i) (bt y i) := by
  have hlim := bt_limbs hA hC hO ha hc h
  have h0 := V_nonneg hO
  have hlt := V_lt hO
  rw [hn] at hlt ⊢
  rw [Nat.add_sub_cancel]
  have hB : B (n + 1) = T (32 * (n + 1)) := (T_32 _).symm
  have hsx : ∀ i, 32 * n ≤ i → bt x i = decide (x < 0) := bt_sign (32 * n) x (by rw [T_32]; exact hx1) (by rw [T_32]; exact hx2)
  have hsy : ∀ i, 32 * n ≤ i → bt y i = decide (y < 0) := bt_sign (32 * n) y (by rw [T_32]; exact hy1) (by rw [T_32]; exact hy2)
  by_cases hi : i < 32 * (n + 1)
  · rw [← bt_spread va i hi, ← bt_spread vc i hi, ← hlim i]
    split
    · rfl
    · rw [← bt_mod (32 * (n + 1)) _ i hi, ← bt_mod (32 * (n + 1)) (V O) i hi, ← hB, Int.sub_emod_right]
  · rw [hsx i (by omega), hsy i (by omega)]
    -- the limb at the top has one bit through and through
    have htop : ∀ j, j < 32 → bt (O.getD n 0) j = fop op (decide (x < 0)) (decide (y < 0)) := by
      intro j hj
      rw [← bt_V O hO n j hj, hlim, bt_spread va _ (by omega), bt_spread vc _ (by omega), hsx _ (by omega), hsy _ (by omega)]
    have ho := hO.getD n
    have e32 : T 32 = 4294967296 := by decide +kernel
    rw [bt_sign (32 * (n + 1)) _ (by rw [← hB]; split <;> omega) (by rw [← hB]; split <;> omega) i (by omega)]
    cases hf : fop op (decide (x < 0)) (decide (y < 0))
    · have : O.getD n 0 = 0 := by
        refine bt_all (fun j => ?_)
        rw [bt_of_zero]
        by_cases hj : j < 32
        · rw [htop j hj, hf]
        · rw [bt_sign 32 (O.getD n 0) (by omega) (by omega) j (by omega)]
          exact decide_eq_false (by omega)
      rw [if_pos this]
      simp; omega
    · have : O.getD n 0 ≠ 0 := by
        intro e
        have := htop 0 (by decide)
        rw [e, bt_of_zero, hf] at this
        cases this
      rw [if_neg this]
      simp; omega

theorem T384 : T 384 = B 12 := T_32 12
end Go.Proofs.YtnfnnngdbeplaaaDoor
