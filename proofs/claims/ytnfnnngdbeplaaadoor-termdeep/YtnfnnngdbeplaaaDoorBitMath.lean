
/-
  Plain mathematics of bits of integers (below 0 with all bits 1 above): nothing of the program in it. bt x i is bit i of x; bz f n x y puts two together bit by bit, n + 1 bits and the sign.
-/
import Derived.Test.YtnfnnngdbeplaaaDoorLen
namespace Go.Proofs.YtnfnnngdbeplaaaDoor
open Go.RowKit
set_option linter.unusedVariables false

/-- Bit i of x. -/
def bt (x : Int) (i : Nat) : Bool := decide (x / T i % 2 = 1)

theorem bt_zero (x : Int) : bt x 0 = decide (x % 2 = 1) := by simp [bt, T]
theorem bt_succ (x : Int) (i : Nat) : bt x (i + 1) = bt (x / 2) i := by
  unfold bt
  have e : x / T (i + 1) = x / 2 / T i := by rw [Int.ediv_ediv_of_nonneg (by decide)]; rfl
  rw [e]
theorem bt_of_zero (i : Nat) : bt 0 i = false := by simp [bt]
theorem bt_neg_one (i : Nat) : bt (-1) i = true := by
  induction i with
  | zero => decide
  | succ i ih => rw [bt_succ]; exact ih
theorem bt_not (x : Int) (i : Nat) : bt (-1 - x) i = !bt x i := by
  induction i generalizing x with
  | zero =>
    simp only [bt_zero]
    by_cases h : x % 2 = 1
    · simp [h]; omega
    · simp [h]; omega
  | succ i ih =>
    rw [bt_succ, bt_succ, ← ih]
    congr 1
    omega

theorem bt_ext : ∀ (n : Nat) (x y : Int), -(T n) ≤ x → x < T n → -(T n) ≤ y → y < T n → (∀ i, bt x i = bt y i) → x = y
  | 0, x, y, h1, h2, h3, h4, h => by
    have e := h 0
    simp only [bt_zero, T] at *
    have : (x % 2 = 1) ↔ (y % 2 = 1) := by simpa using e
    omega
  | n + 1, x, y, h1, h2, h3, h4, h => by
    simp only [T] at h1 h2 h3 h4
    have e := h 0
    simp only [bt_zero] at e
    have e' : (x % 2 = 1) ↔ (y % 2 = 1) := by simpa using e
    have := bt_ext n (x / 2) (y / 2) (by omega) (by omega) (by omega) (by omega) (fun i => by rw [← bt_succ, ← bt_succ]; exact h (i + 1))
    omega

theorem T_big (x : Int) : ∃ n, -(T n) ≤ x ∧ x < T n := by
  refine ⟨x.natAbs, ?_⟩
  have : ∀ k : Nat, (k : Int) < T k := by
    intro k
    induction k with
    | zero => decide
    | succ k ih => simp only [T]; omega
  have := this x.natAbs
  omega

theorem bt_all {x y : Int} (h : ∀ i, bt x i = bt y i) : x = y := by
  obtain ⟨m, h1, h2⟩ := T_big x
  obtain ⟨n, h3, h4⟩ := T_big y
  have h5 := T_mono (Nat.le_max_left m n)
  have h6 := T_mono (Nat.le_max_right m n)
  exact bt_ext (max m n) x y (by omega) (by omega) (by omega) (by omega) h

/-- Beyond its bits a number has its sign. -/
theorem bt_sign : ∀ (n : Nat) (x : Int), -(T n) ≤ x → x < T n → ∀ i, n ≤ i → bt x i = decide (x < 0)
  | 0, x, h1, h2, i, _ => by
    simp only [T] at h1 h2
    have : x = 0 ∨ x = -1 := by omega
    rcases this with rfl | rfl
    · rw [bt_of_zero]; rfl
    · rw [bt_neg_one]; rfl
  | n + 1, x, h1, h2, i, hi => by
    simp only [T] at h1 h2
    obtain ⟨j, rfl⟩ : ∃ j, i = j + 1 := ⟨i - 1, by omega⟩
    rw [bt_succ, bt_sign n (x / 2) (by omega) (by omega) j (by omega)]
    congr 1
    apply propext
    omega

/-- Two numbers put together bit by bit. -/
def bz (f : Bool → Bool → Bool) : Nat → Int → Int → Int
  | 0, x, y => if f (bt x 0) (bt y 0) = true then -1 else 0
  | n + 1, x, y => 2 * bz f n (x / 2) (y / 2) + (if f (bt x 0) (bt y 0) = true then 1 else 0)

theorem bz_range (f : Bool → Bool → Bool) : ∀ (n : Nat) (x y : Int), -(T n) ≤ bz f n x y ∧ bz f n x y < T n
  | 0, x, y => by simp only [bz, T]; split <;> omega
  | n + 1, x, y => by
    have := bz_range f n (x / 2) (y / 2)
    simp only [bz, T]; split <;> omega

theorem bz_bt (f : Bool → Bool → Bool) : ∀ (n : Nat) (x y : Int), -(T n) ≤ x → x < T n → -(T n) ≤ y → y < T n → ∀ i, bt (bz f n x y) i = f (bt x i) (bt y i)
  | 0, x, y, h1, h2, h3, h4, i => by
    have hx : bt x i = bt x 0 := by rw [bt_sign 0 x h1 h2 i (by omega), bt_sign 0 x h1 h2 0 (by omega)]
    have hy : bt y i = bt y 0 := by rw [bt_sign 0 y h3 h4 i (by omega), bt_sign 0 y h3 h4 0 (by omega)]
    rw [hx, hy]
    simp only [bz]
    split
    · rename_i h; rw [h, bt_neg_one]
    · rename_i h; rw [bt_of_zero]; simpa using h
  | n + 1, x, y, h1, h2, h3, h4, i => by
    simp only [T] at h1 h2 h3 h4
    have ih := bz_bt f n (x / 2) (y / 2) (by omega) (by omega) (by omega) (by omega)
    cases i with
    | zero =>
      rw [bt_zero]
      simp only [bz]
      split
      · rename_i h; rw [h]; simp
      · rename_i h; have : f (bt x 0) (bt y 0) = false := by simpa using h
        rw [this]; simp
    | succ i =>
      rw [bt_succ, bt_succ x, bt_succ y, ← ih i]
      congr 1
      simp only [bz]
      split <;> omega

/-- One that has those bits is that number. -/
theorem bz_one (f : Bool → Bool → Bool) (n : Nat) {x y z : Int} (h1 : -(T n) ≤ x) (h2 : x < T n) (h3 : -(T n) ≤ y) (h4 : y < T n) (h : ∀ i, bt z i = f (bt x i) (bt y i)) : z = bz f n x y :=
  bt_all (fun i => by rw [h i, bz_bt f n x y h1 h2 h3 h4])

/-- And, or, exclusive or. -/
def fop (op : Int) (p q : Bool) : Bool := if op = 6 then p && q else if op = 7 then p || q else p != q

theorem and_or : ∀ (n : Nat) (x y : Int), -(T n) ≤ x → x < T n → -(T n) ≤ y → y < T n → bz (fop 6) n x y + bz (fop 7) n x y = x + y
  | 0, x, y, h1, h2, h3, h4 => by
    simp only [T] at h1 h2 h3 h4
    have hx : x = 0 ∨ x = -1 := by omega
    have hy : y = 0 ∨ y = -1 := by omega
    rcases hx with rfl | rfl <;> rcases hy with rfl | rfl <;> decide
  | n + 1, x, y, h1, h2, h3, h4 => by
    simp only [T] at h1 h2 h3 h4
    have ih := and_or n (x / 2) (y / 2) (by omega) (by omega) (by omega) (by omega)
    simp only [bz, bt_zero, fop]
    by_cases hx : x % 2 = 1 <;> by_cases hy : y % 2 = 1 <;> simp [hx, hy] <;> omega

theorem or_and : ∀ (n : Nat) (x y : Int), -(T n) ≤ x → x < T n → -(T n) ≤ y → y < T n → bz (fop 7) n x y - bz (fop 6) n x y = bz (fop 8) n x y
  | 0, x, y, h1, h2, h3, h4 => by
    simp only [T] at h1 h2 h3 h4
    have hx : x = 0 ∨ x = -1 := by omega
    have hy : y = 0 ∨ y = -1 := by omega
    rcases hx with rfl | rfl <;> rcases hy with rfl | rfl <;> decide
  | n + 1, x, y, h1, h2, h3, h4 => by
    simp only [T] at h1 h2 h3 h4
    have ih := or_and n (x / 2) (y / 2) (by omega) (by omega) (by omega) (by omega)
    simp only [bz, bt_zero, fop] at ih ⊢
    by_cases hx : x % 2 = 1 <;> by_cases hy : y % 2 = 1 <;> simp [hx, hy] <;> omega

/-- Bits below hang on what is left alone. -/
theorem bt_mod : ∀ (n : Nat) (x : Int) (i : Nat), i < n → bt (x % T n) i = bt x i
  | 0, x, i, h => by omega
  | n + 1, x, i, h => by
    have hT := T_pos n
    have e2 : x % (2 * T n) % 2 = x % 2 := by rw [Int.emod_emod_of_dvd]; exact ⟨T n, rfl⟩
    cases i with
    | zero =>
      have e3 : x % T (n + 1) % 2 = x % 2 := e2
      rw [bt_zero, bt_zero, e3]
    | succ i =>
      rw [bt_succ, bt_succ, ← bt_mod n (x / 2) i (by omega)]
      congr 1
      simp only [T]
      rw [Int.emod_def x (2 * T n), Int.emod_def (x / 2) (T n), ← Int.ediv_ediv_of_nonneg (by decide), Int.mul_assoc]
      omega

theorem bt_nat (a i : Nat) : bt (a : Int) i = a.testBit i := by
  rw [Nat.testBit_eq_decide_div_mod_eq]
  unfold bt
  have : T i = ((2 ^ i : Nat) : Int) := by
    induction i with
    | zero => rfl
    | succ i ih => simp only [T]; rw [ih, Nat.pow_succ]; simp; omega
  rw [this]
  congr 1
  apply propext
  omega

/-- A list's bits are its limbs'. -/
theorem bt_V : ∀ (L : List Int), Ok L → ∀ (k j : Nat), j < 32 → bt (V L) (32 * k + j) = bt (L.getD k 0) j
  | [], _, k, j, _ => by simp [V, bt_of_zero]
  | z :: t, h, 0, j, hj => by
    have hz := h.cons.1
    simp only [V]
    rw [show 32 * 0 + j = j by omega, ← bt_mod 32 _ j hj]
    have e : T 32 = 4294967296 := by decide +kernel
    rw [e]
    congr 1
    simp
    omega
  | z :: t, h, k + 1, j, hj => by
    have hz := h.cons.1
    have ih := bt_V t h.cons.2 k j hj
    rw [show (z :: t).getD (k + 1) 0 = t.getD k 0 by simp, ← ih]
    unfold bt
    rw [show 32 * (k + 1) + j = 32 + (32 * k + j) by omega, T_add, ← Int.ediv_ediv_of_nonneg (Int.le_of_lt (T_pos 32))]
    have e : T 32 = 4294967296 := by decide +kernel
    have e2 : V (z :: t) / T 32 = V t := by rw [e]; simp only [V]; omega
    rw [e2]
end Go.Proofs.YtnfnnngdbeplaaaDoor
