
/-
  Plain mathematics of decimal digits: dg n are the signs of n's digits, the lowest first; decL x is the text of an integer.
-/
import Derived.Test.YtnfnnngdbeplaaaDoorNumOp
import Derived.Laws.BytesArg
import Derived.Laws.OwnMore
import Derived.Maps.AppendAt
namespace Go.Proofs.YtnfnnngdbeplaaaDoor
open Go.RowKit
set_option linter.unusedVariables false

/-- The signs of a number's digits, the lowest first. -/
def dgN : Nat → Nat → List Int
  | 0, n => [48 + (n : Int)]
  | k + 1, n => if n < 10 then [48 + (n : Int)] else (48 + ((n % 10 : Nat) : Int)) :: dgN k (n / 10)

theorem dgN_eq : ∀ (k j n : Nat), n ≤ k → n ≤ j → dgN k n = dgN j n := by
  intro k
  induction k with
  | zero => intro j n h _; cases j with
    | zero => rfl
    | succ j => have e : n < 10 := by omega
                simp only [dgN, if_pos e]
  | succ k ih => intro j n h hj; cases j with
    | zero => have e : n < 10 := by omega
              simp only [dgN, if_pos e]
    | succ j => by_cases e : n < 10
                · simp only [dgN, if_pos e]
                · simp only [dgN, if_neg e]; rw [ih j (n / 10) (by omega) (by omega)]

/-- The signs of a number's digits, the lowest first. -/
def dg (n : Nat) : List Int := dgN n n

theorem dg_small {n : Nat} (h : n < 10) : dg n = [48 + (n : Int)] := by
  unfold dg; cases n with
  | zero => rfl
  | succ n => simp only [dgN, if_pos h]
theorem dg_big {n : Nat} (h : ¬ n < 10) : dg n = (48 + ((n % 10 : Nat) : Int)) :: dg (n / 10) := by
  unfold dg; cases n with
  | zero => omega
  | succ n => simp only [dgN, if_neg h]; rw [dgN_eq n ((n + 1) / 10) _ (by omega) (by omega)]

theorem dg_ok : ∀ (k n : Nat), n ≤ k → ∀ z ∈ dg n, 48 ≤ z ∧ z ≤ 57 := by
  intro k
  induction k with
  | zero =>
    intro n hn z hz
    rw [dg_small (by omega)] at hz
    simp at hz; omega
  | succ k ih =>
    intro n hn z hz
    by_cases h : n < 10
    · rw [dg_small h] at hz
      simp at hz; omega
    · rw [dg_big h] at hz
      rcases List.mem_cons.1 hz with e | e
      · omega
      · exact ih (n / 10) (by omega) z e

theorem dg_len : ∀ (k n : Nat), n < 10 ^ k → 0 < k → 0 < (dg n).length ∧ (dg n).length ≤ k := by
  intro k
  induction k with
  | zero => intro n _ h; omega
  | succ k ih =>
    intro n hn _
    by_cases h : n < 10
    · rw [dg_small h]; simp
    · rw [dg_big h]
      have hk : 0 < k := by
        refine Nat.pos_of_ne_zero fun e => ?_
        subst e
        simp at hn; omega
      have := ih (n / 10) (by rw [Nat.pow_succ] at hn; omega) hk
      simp; omega

/-- The text of an integer: the signs of its digits, behind a minus, if it is below 0. -/
def decL (x : Int) : List Int := if x < 0 then 45 :: (dg x.natAbs).reverse else (dg x.natAbs).reverse

/-- The number of signs of digits, the lowest first. -/
def undg : List Int → Int
  | [] => 0
  | z :: t => (z - 48) + 10 * undg t

theorem undg_dg : ∀ (k n : Nat), n ≤ k → undg (dg n) = (n : Int) := by
  intro k
  induction k with
  | zero =>
    intro n hn
    rw [dg_small (by omega)]
    simp [undg]; omega
  | succ k ih =>
    intro n hn
    by_cases h : n < 10
    · rw [dg_small h]; simp [undg]; omega
    · rw [dg_big h]
      simp only [undg]
      rw [ih (n / 10) (by omega)]
      omega

theorem dg_inj {m n : Nat} (h : dg m = dg n) : m = n := by
  have h1 := undg_dg m m (Nat.le_refl _)
  have h2 := undg_dg n n (Nat.le_refl _)
  rw [h, h2] at h1
  omega

theorem B12_dec : B 12 < 10 ^ 116 := by decide +kernel
end Go.Proofs.YtnfnnngdbeplaaaDoor
