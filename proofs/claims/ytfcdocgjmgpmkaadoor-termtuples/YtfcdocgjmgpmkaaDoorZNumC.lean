import Derived.Test.YtfcdocgjmgpmkaaDoorZLimbA
import Derived.Test.YtfcdocgjmgpmkaaDoorZNumB

/-
  Plain mathematics of bits of integers (below 0 with all bits 1 above): nothing of the program in it. bt x i is bit i of x; bz f n x y puts two together bit by bit, n + 1 bits and the sign.
-/
namespace Go.Proofs.YtfcdocgjmgpmkaaDoor
open Go.RowKit
set_option linter.unusedVariables false

/-- Bit i of x. -/
def bt (x : Int) (i : Nat) : Bool := decide (x / T i % 2 = 1)

theorem bt_zero (x : Int) : bt x 0 = decide (x % 2 = 1) := by simp [bt, T]
theorem bt_succ (x : Int) (i : Nat) : bt x (i + 1) = bt (x / 2) i := by
  unfold bt
  have e : x / T (i + 1) = x / 2 / T i := by rw [Int.ediv_ediv_of_nonneg (by decide)]; rfl
  rw [e]
theorem bt_of_zero (i : Nat) : bt 0 i = false := by simp [bt]
theorem bt_neg_one (i : Nat) : bt (-1) i = true := by
  induction i with
  | zero => decide
  | succ i ih => rw [bt_succ]; exact ih
theorem bt_not (x : Int) (i : Nat) : bt (-1 - x) i = !bt x i := by
  induction i generalizing x with
  | zero =>
    simp only [bt_zero]
    by_cases h : x % 2 = 1
    · simp [h]; omega
    · simp [h]; omega
  | succ i ih =>
    rw [bt_succ, bt_succ, ← ih]
    congr 1
    omega

theorem bt_ext : ∀ (n : Nat) (x y : Int), -(T n) ≤ x → x < T n → -(T n) ≤ y → y < T n → (∀ i, bt x i = bt y i) → x = y
  | 0, x, y, h1, h2, h3, h4, h => by
    have e := h 0
    simp only [bt_zero, T] at *
    have : (x % 2 = 1) ↔ (y % 2 = 1) := by simpa using e
    omega
  | n + 1, x, y, h1, h2, h3, h4, h => by
    simp only [T] at h1 h2 h3 h4
    have e := h 0
    simp only [bt_zero] at e
    have e' : (x % 2 = 1) ↔ (y % 2 = 1) := by simpa using e
    have := bt_ext n (x / 2) (y / 2) (by omega) (by omega) (by omega) (by omega) (fun i => by rw [← bt_succ, ← bt_succ]; exact h (i + 1))
    omega

theorem T_big (x : Int) : ∃ n, -(T n) ≤ x ∧ x < T n := by
  refine ⟨x.natAbs, ?_⟩
  have : ∀ k : Nat, (k : Int) < T k := by
    intro k
    induction k with
    | zero => decide
    | succ k ih => simp only [T]; omega
  have := this x.natAbs
  omega

theorem bt_all {x y : Int} (h : ∀ i, bt x i = bt y i) : x = y := by
  obtain ⟨m, h1, h2⟩ := T_big x
  obtain ⟨n, h3, h4⟩ := T_big y
  have h5 := T_mono (Nat.le_max_left m n)
  have h6 := T_mono (Nat.le_max_right m n)
  exact bt_ext (max m n) x y (by omega) (by omega) (by omega) (by omega) h

/-- Beyond its bits a number has its sign. -/
theorem bt_sign : ∀ (n : Nat) (x : Int), -(T n) ≤ x → x < T n → ∀ i, n ≤ i → bt x i = decide (x < 0)
  | 0, x, h1, h2, i, _ => by
    simp only [T] at h1 h2
    have : x = 0 ∨ x = -1 := by omega
    rcases this with rfl | rfl
    · rw [bt_of_zero]; rfl
    · rw [bt_neg_one]; rfl
  | n + 1, x, h1, h2, i, hi => by
    simp only [T] at h1 h2
    obtain ⟨j, rfl⟩ : ∃ j, i = j + 1 := ⟨i - 1, by omega⟩
    rw [bt_succ, bt_sign n (x / 2) (by omega) (by omega) j (by omega)]
    congr 1
    apply propext
    omega

/-- Two numbers put together bit by bit. -/
def bz (f : Bool → Bool → Bool) : Nat → Int → Int → Int
  | 0, x, y => if f (bt x 0) (bt y 0) = true then -1 else 0
  | n + 1, x, y => 2 * bz f n (x / 2) (y / 2) + (if f (bt x 0) (bt y 0) = true then 1 else 0)

theorem bz_range (f : Bool → Bool → Bool) : ∀ (n : Nat) (x y : Int), -(T n) ≤ bz f n x y ∧ bz f n x y < T n
  | 0, x, y => by simp only [bz, T]; split <;> omega
  | n + 1, x, y => by
    have := bz_range f n (x / 2) (y / 2)
    simp only [bz, T]; split <;> omega

theorem bz_bt (f : Bool → Bool → Bool) : ∀ (n : Nat) (x y : Int), -(T n) ≤ x → x < T n → -(T n) ≤ y → y < T n → ∀ i, bt (bz f n x y) i = f (bt x i) (bt y i)
  | 0, x, y, h1, h2, h3, h4, i => by
    have hx : bt x i = bt x 0 := by rw [bt_sign 0 x h1 h2 i (by omega), bt_sign 0 x h1 h2 0 (by omega)]
    have hy : bt y i = bt y 0 := by rw [bt_sign 0 y h3 h4 i (by omega), bt_sign 0 y h3 h4 0 (by omega)]
    rw [hx, hy]
    simp only [bz]
    split
    · rename_i h; rw [h, bt_neg_one]
    · rename_i h; rw [bt_of_zero]; simpa using h
  | n + 1, x, y, h1, h2, h3, h4, i => by
    simp only [T] at h1 h2 h3 h4
    have ih := bz_bt f n (x / 2) (y / 2) (by omega) (by omega) (by omega) (by omega)
    cases i with
    | zero =>
      rw [bt_zero]
      simp only [bz]
      split
      · rename_i h; rw [h]; simp
      · rename_i h; have : f (bt x 0) (bt y 0) = false := by simpa using h
        rw [this]; simp
    | succ i =>
      rw [bt_succ, bt_succ x, bt_succ y, ← ih i]
      congr 1
      simp only [bz]
      split <;> omega

/-- One that has those bits is that number. -/
theorem bz_one (f : Bool → Bool → Bool) (n : Nat) {x y z : Int} (h1 : -(T n) ≤ x) (h2 : x < T n) (h3 : -(T n) ≤ y) (h4 : y < T n) (h : ∀ i, bt z i = f (bt x i) (bt y i)) : z = bz f n x y :=
  bt_all (fun i => by rw [h i, bz_bt f n x y h1 h2 h3 h4])

/-- And, or, exclusive or. -/
def fop (op : Int) (p q : Bool) : Bool := if op = 6 then p && q else if op = 7 then p || q else p != q

theorem and_or : ∀ (n : Nat) (x y : Int), -(T n) ≤ x → x < T n → -(T n) ≤ y → y < T n → bz (fop 6) n x y + bz (fop 7) n x y = x + y
  | 0, x, y, h1, h2, h3, h4 => by
    simp only [T] at h1 h2 h3 h4
    have hx : x = 0 ∨ x = -1 := by omega
    have hy : y = 0 ∨ y = -1 := by omega
    rcases hx with rfl | rfl <;> rcases hy with rfl | rfl <;> decide
  | n + 1, x, y, h1, h2, h3, h4 => by
    simp only [T] at h1 h2 h3 h4
    have ih := and_or n (x / 2) (y / 2) (by omega) (by omega) (by omega) (by omega)
    simp only [bz, bt_zero, fop]
    by_cases hx : x % 2 = 1 <;> by_cases hy : y % 2 = 1 <;> simp [hx, hy] <;> omega

theorem or_and : ∀ (n : Nat) (x y : Int), -(T n) ≤ x → x < T n → -(T n) ≤ y → y < T n → bz (fop 7) n x y - bz (fop 6) n x y = bz (fop 8) n x y
  | 0, x, y, h1, h2, h3, h4 => by
    simp only [T] at h1 h2 h3 h4
    have hx : x = 0 ∨ x = -1 := by omega
    have hy : y = 0 ∨ y = -1 := by omega
    rcases hx with rfl | rfl <;> rcases hy with rfl | rfl <;> decide
  | n + 1, x, y, h1, h2, h3, h4 => by
    simp only [T] at h1 h2 h3 h4
    have ih := or_and n (x / 2) (y / 2) (by omega) (by omega) (by omega) (by omega)
    simp only [bz, bt_zero, fop] at ih ⊢
    by_cases hx : x % 2 = 1 <;> by_cases hy : y % 2 = 1 <;> simp [hx, hy] <;> omega

/-- Bits below hang on what is left alone. -/
theorem bt_mod : ∀ (n : Nat) (x : Int) (i : Nat), i < n → bt (x % T n) i = bt x i
  | 0, x, i, h => by omega
  | n + 1, x, i, h => by
    have hT := T_pos n
    have e2 : x % (2 * T n) % 2 = x % 2 := by rw [Int.emod_emod_of_dvd]; exact ⟨T n, rfl⟩
    cases i with
    | zero =>
      have e3 : x % T (n + 1) % 2 = x % 2 := e2
      rw [bt_zero, bt_zero, e3]
    | succ i =>
      rw [bt_succ, bt_succ, ← bt_mod n (x / 2) i (by omega)]
      congr 1
      simp only [T]
      rw [Int.emod_def x (2 * T n), Int.emod_def (x / 2) (T n), ← Int.ediv_ediv_of_nonneg (by decide), Int.mul_assoc]
      omega

theorem bt_nat (a i : Nat) : bt (a : Int) i = a.testBit i := by
  rw [Nat.testBit_eq_decide_div_mod_eq]
  unfold bt
  have : T i = ((2 ^ i : Nat) : Int) := by
    induction i with
    | zero => rfl
    | succ i ih => simp only [T]; rw [ih, Nat.pow_succ]; simp; omega
  rw [this]
  congr 1
  apply propext
  omega

/-- A list's bits are its limbs'. -/
theorem bt_V : ∀ (L : List Int), Ok L → ∀ (k j : Nat), j < 32 → bt (V L) (32 * k + j) = bt (L.getD k 0) j
  | [], _, k, j, _ => by simp [V, bt_of_zero]
  | z :: t, h, 0, j, hj => by
    have hz := h.cons.1
    simp only [V]
    rw [show 32 * 0 + j = j by omega, ← bt_mod 32 _ j hj]
    have e : T 32 = 4294967296 := by decide +kernel
    rw [e]
    congr 1
    simp
    omega
  | z :: t, h, k + 1, j, hj => by
    have hz := h.cons.1
    have ih := bt_V t h.cons.2 k j hj
    rw [show (z :: t).getD (k + 1) 0 = t.getD k 0 by simp, ← ih]
    unfold bt
    rw [show 32 * (k + 1) + j = 32 + (32 * k + j) by omega, T_add, ← Int.ediv_ediv_of_nonneg (Int.le_of_lt (T_pos 32))]
    have e : T 32 = 4294967296 := by decide +kernel
    have e2 : V (z :: t) / T 32 = V t := by rw [e]; simp only [V]; omega
    rw [e2]
end Go.Proofs.YtfcdocgjmgpmkaaDoor


/-
  num.oneLess, num.oneMore, num.turned.
-/
namespace Go.Proofs.YtfcdocgjmgpmkaaDoor
open Go.RowKit
set_option linter.unusedVariables false

/-- Each bit turned. -/
def TurnPost (w : World) (a : List Int) (e : Ending) (w' : World) : Prop :=
  ∃ g Z, e = .returned (.slice (some ⟨g, 0, none⟩) a.length a.length) ∧ Row w' g Z ∧ Ok Z ∧ Z.length = a.length ∧ (∀ i, i < a.length → Z.getD i 0 = 4294967295 - a.getD i 0) ∧ Below w.heap.size w w' ∧ w.heap.size ≤ g

theorem V_turned {a Z : List Int} (hl : Z.length = a.length) (h : ∀ i, i < a.length → Z.getD i 0 = 4294967295 - a.getD i 0) : V Z = B a.length - 1 - V a := by
  induction a generalizing Z with
  | nil =>
    cases Z with
    | nil => rfl
    | cons z t => simp at hl
  | cons x t ih =>
    cases Z with
    | nil => simp at hl
    | cons z u =>
      have h0 := h 0 (by simp)
      have := ih (Z := u) (by simpa using hl) (fun i hi => by have := h (i + 1) (by simpa using hi); simpa using this)
      simp at h0
      simp only [V, List.length_cons, B, this]
      omega

theorem not_nat (x : Nat) (h : x < 4294967296) : 4294967295 ^^^ x = 4294967295 - x := by
  have hp : (2 : Nat) ^ 32 = 4294967296 := by decide
  apply Nat.eq_of_testBit_eq
  intro i
  rw [Nat.testBit_xor, show (4294967295 : Nat) = 2 ^ 32 - 1 by decide, show 2 ^ 32 - 1 - x = 2 ^ 32 - (x + 1) by omega, Nat.testBit_two_pow_sub_one, Nat.testBit_two_pow_sub_succ (by omega)]
  by_cases hi : i < 32
  · simp [hi]
  · have : x.testBit i = false := Nat.testBit_lt_two_pow (Nat.lt_of_lt_of_le (show x < 2 ^ 32 by omega) (Nat.pow_le_pow_right (by decide) (by omega)))
    simp [hi, this]

theorem not_u32 (x : Int) (h0 : 0 ≤ x) (h1 : x < 4294967296) : bits BinOp.xor IntKind.u32 (if IntKind.u32.signed = true then -1 else IntKind.u32.max) x = 4294967295 - x := by
  have e : (if IntKind.u32.signed = true then -1 else IntKind.u32.max) = 4294967295 := by decide
  rw [e]
  obtain ⟨X, rfl⟩ := Int.eq_ofNat_of_zero_le h0
  rw [show (4294967295 : Int) = ((4294967295 : Nat) : Int) from rfl, u32_xor_nat _ _ (by decide) (by omega), not_nat X (by omega)]
  omega

end Go.Proofs.YtfcdocgjmgpmkaaDoor


/-
  num.spread: the bits of a number that may be, in n limbs, one more than it has at least; num.gather: the number of which these are the bits.
-/
namespace Go.Proofs.YtfcdocgjmgpmkaaDoor
open Go.RowKit
set_option linter.unusedVariables false

/-- n limbs in new memory: x, or 2^(32 n) more, if it is below 0. -/
def SpPost (w : World) (n : Nat) (x : Int) (e : Ending) (w' : World) : Prop :=
  ∃ g L, e = .returned (.slice (some ⟨g, 0, none⟩) n n) ∧ Row w' g L ∧ Ok L ∧ L.length = n ∧ V L = (if x < 0 then x + B n else x) ∧ Below w.heap.size w w' ∧ w.heap.size ≤ g

theorem V_over (n : Nat) (A : List Int) (h : A.length ≤ n) : V (over (zer n) 0 A) = V A := by
  simp only [over, List.take_zero, List.nil_append]
  rw [V_append]
  have : (zer n).drop (0 + A.length) = zer (n - A.length) := by simp [zer]
  rw [this, zer_V]; omega

end Go.Proofs.YtfcdocgjmgpmkaaDoor


/-
  Plain mathematics: and, or, exclusive or of numbers by limbs, each spread into n limbs with its sign's bits above, put together limb by limb, and gathered again.
-/
namespace Go.Proofs.YtfcdocgjmgpmkaaDoor
open Go.RowKit
set_option linter.unusedVariables false

/-- and, or, exclusive or of two limbs, as the machine has it. -/
def lb (op x y : Int) : Int := if op = 6 then bits .and .u32 x y else if op = 7 then bits .or .u32 x y else bits .xor .u32 x y

theorem lb_spec (op x y : Int) (h0 : 0 ≤ x) (h1 : x < 4294967296) (h2 : 0 ≤ y) (h3 : y < 4294967296) : 0 ≤ lb op x y ∧ lb op x y < 4294967296 ∧ ∀ j, bt (lb op x y) j = fop op (bt x j) (bt y j) := by
  obtain ⟨X, rfl⟩ := Int.eq_ofNat_of_zero_le h0
  obtain ⟨Y, rfl⟩ := Int.eq_ofNat_of_zero_le h2
  have hp : (2 : Nat) ^ 32 = 4294967296 := by decide
  have hX : X < 2 ^ 32 := by omega
  have hY : Y < 2 ^ 32 := by omega
  unfold lb fop
  by_cases h6 : op = 6
  · simp only [if_pos h6]
    rw [u32_and_nat X Y (by omega) (by omega)]
    have := Nat.and_lt_two_pow X hY
    refine ⟨by omega, by omega, fun j => ?_⟩
    rw [bt_nat, bt_nat, bt_nat, Nat.testBit_and]
  · by_cases h7 : op = 7
    · simp only [if_neg h6, if_pos h7]
      rw [u32_or_nat X Y (by omega) (by omega)]
      have := Nat.or_lt_two_pow hX hY
      refine ⟨by omega, by omega, fun j => ?_⟩
      rw [bt_nat, bt_nat, bt_nat, Nat.testBit_or]
    · simp only [if_neg h6, if_neg h7]
      rw [u32_xor_nat X Y (by omega) (by omega)]
      have := Nat.xor_lt_two_pow hX hY
      refine ⟨by omega, by omega, fun j => ?_⟩
      rw [bt_nat, bt_nat, bt_nat, Nat.testBit_xor]

theorem fop_ff (op : Int) : fop op false false = false := by
  unfold fop; split
  · rfl
  · split <;> rfl

theorem bt_limbs {op : Int} {A C O : List Int} (hA : Ok A) (hC : Ok C) (hO : Ok O) (ha : A.length = O.length) (hc : C.length = O.length) (h : ∀ i, i < O.length → O.getD i 0 = lb op (A.getD i 0) (C.getD i 0)) (i : Nat) :
    bt (V O) i = fop op (bt (V A) i) (bt (V C) i) := by
  obtain ⟨k, j, hj, rfl⟩ : ∃ k j, j < 32 ∧ i = 32 * k + j := ⟨i / 32, i % 32, by omega, by omega⟩
  rw [bt_V O hO k j hj, bt_V A hA k j hj, bt_V C hC k j hj]
  by_cases hk : k < O.length
  · rw [h k hk]
    have a := hA.getD k
    have c := hC.getD k
    exact (lb_spec op _ _ a.1 a.2 c.1 c.2).2.2 j
  · have e : ∀ L : List Int, L.length = O.length → L.getD k 0 = 0 := fun L hL => by simp [List.getD, show L.length ≤ k by omega]
    rw [e O rfl, e A ha, e C hc, bt_of_zero, fop_ff]

/-- A number spread. -/
theorem bt_spread {x v : Int} {n : Nat} (hv : v = if x < 0 then x + B n else x) (i : Nat) (hi : i < 32 * n) : bt v i = bt x i := by
  rw [← bt_mod (32 * n) v i hi, ← bt_mod (32 * n) x i hi]
  congr 1
  rw [hv, T_32]
  split
  · rw [Int.add_emod_right]
  · rfl

theorem bits_gather {op x y : Int} {n : Nat} {A C O : List Int} (hn : O.length = n + 1) (hA : Ok A) (hC : Ok C) (hO : Ok O) (ha : A.length = O.length) (hc : C.length = O.length)
    (h : ∀ i, i < O.length → O.getD i 0 = lb op (A.getD i 0) (C.getD i 0)) (va : V A = if x < 0 then x + B (n + 1) else x) (vc : V C = if y < 0 then y + B (n + 1) else y)
    (hx1 : -(B n) ≤ x) (hx2 : x < B n) (hy1 : -(B n) ≤ y) (hy2 : y < B n) (i : Nat) :
    bt (if O.getD (O.length - 1) 0 = 0 then V O else V O - B O.length) i = fop op (bt x i) (bt y i) := by
  have hlim := bt_limbs hA hC hO ha hc h
  have h0 := V_nonneg hO
  have hlt := V_lt hO
  rw [hn] at hlt ⊢
  rw [Nat.add_sub_cancel]
  have hB : B (n + 1) = T (32 * (n + 1)) := (T_32 _).symm
  have hsx : ∀ i, 32 * n ≤ i → bt x i = decide (x < 0) := bt_sign (32 * n) x (by rw [T_32]; exact hx1) (by rw [T_32]; exact hx2)
  have hsy : ∀ i, 32 * n ≤ i → bt y i = decide (y < 0) := bt_sign (32 * n) y (by rw [T_32]; exact hy1) (by rw [T_32]; exact hy2)
  by_cases hi : i < 32 * (n + 1)
  · rw [← bt_spread va i hi, ← bt_spread vc i hi, ← hlim i]
    split
    · rfl
    · rw [← bt_mod (32 * (n + 1)) _ i hi, ← bt_mod (32 * (n + 1)) (V O) i hi, ← hB, Int.sub_emod_right]
  · rw [hsx i (by omega), hsy i (by omega)]
    -- the limb at the top has one bit through and through
    have htop : ∀ j, j < 32 → bt (O.getD n 0) j = fop op (decide (x < 0)) (decide (y < 0)) := by
      intro j hj
      rw [← bt_V O hO n j hj, hlim, bt_spread va _ (by omega), bt_spread vc _ (by omega), hsx _ (by omega), hsy _ (by omega)]
    have ho := hO.getD n
    have e32 : T 32 = 4294967296 := by decide +kernel
    rw [bt_sign (32 * (n + 1)) _ (by rw [← hB]; split <;> omega) (by rw [← hB]; split <;> omega) i (by omega)]
    cases hf : fop op (decide (x < 0)) (decide (y < 0))
    · have : O.getD n 0 = 0 := by
        refine bt_all (fun j => ?_)
        rw [bt_of_zero]
        by_cases hj : j < 32
        · rw [htop j hj, hf]
        · rw [bt_sign 32 (O.getD n 0) (by omega) (by omega) j (by omega)]
          exact decide_eq_false (by omega)
      rw [if_pos this]
      simp; omega
    · have : O.getD n 0 ≠ 0 := by
        intro e
        have := htop 0 (by decide)
        rw [e, bt_of_zero, hf] at this
        cases this
      rw [if_neg this]
      simp; omega

theorem T384 : T 384 = B 12 := T_32 12
end Go.Proofs.YtfcdocgjmgpmkaaDoor


/-
  num.bitwise: and, or, exclusive or of two numbers that may be.
-/
namespace Go.Proofs.YtfcdocgjmgpmkaaDoor
open Go.RowKit
set_option linter.unusedVariables false

/-- Bit by bit. -/
def bitS (op x y : Int) : Int := bz (fop op) 384 x y

theorem getD_set_ne' (Z : List Int) (k j : Nat) (y : Int) (h : j ≠ k) : (Z.set k y).getD j 0 = Z.getD j 0 := by
  simp only [List.getD_eq_getElem?_getD]
  rw [List.getElem?_set_ne (by omega)]
theorem getD_set_eq' (Z : List Int) (k : Nat) (y : Int) (h : k < Z.length) : (Z.set k y).getD k 0 = y := by
  simp [List.getD, h]

/-- What the loop has done: limbs below k are put together, those above are as they were. -/
def BwRel (op : Int) (A C O : List Int) (k : Nat) : Prop := O.length = A.length ∧ Ok O ∧ (∀ j, j < k → O.getD j 0 = lb op (A.getD j 0) (C.getD j 0)) ∧ ∀ j, k ≤ j → O.getD j 0 = A.getD j 0

theorem BwRel.step {op : Int} {A C O : List Int} {k : Nat} (h : BwRel op A C O k) (hA : Ok A) (hC : Ok C) (hk : k < A.length) {z : Int} (hz : z = lb op (A.getD k 0) (C.getD k 0)) : BwRel op A C (O.set k z) (k + 1) := by
  obtain ⟨h1, h2, h3, h4⟩ := h
  have a := hA.getD k
  have c := hC.getD k
  have hb := lb_spec op _ _ a.1 a.2 c.1 c.2
  rw [← hz] at hb
  refine ⟨by simpa using h1, h2.set k hb.1 hb.2.1, fun j hj => ?_, fun j hj => ?_⟩
  · by_cases e : j = k
    · subst e; rw [getD_set_eq' _ _ _ (by omega), hz]
    · rw [getD_set_ne' _ _ _ _ e]; exact h3 j (by omega)
  · rw [getD_set_ne' _ _ _ _ (by omega)]; exact h4 j (by omega)

end Go.Proofs.YtfcdocgjmgpmkaaDoor


/-
  num.steps, num.shift: a number times 2^y, or by 2^-y, rounded down.
-/
namespace Go.Proofs.YtfcdocgjmgpmkaaDoor
open Go.RowKit
set_option linter.unusedVariables false

/-- How far a shift goes. -/
def farS (y : Int) : Int := min (y.natAbs : Int) 10000

/-- A shift, up or down. -/
def shS (x y : Int) : Int := if 0 ≤ y then x * T (upN (farS y)) else x / T (downN (farS y))

theorem floor_neg {A t : Int} (ht : 0 < t) : -((A - 1) / t + 1) = -A / t := by
  have h1 := Int.emod_add_mul_ediv (A - 1) t
  have h2 := Int.emod_nonneg (A - 1) (show t ≠ 0 by omega)
  have h3 := Int.emod_lt_of_pos (A - 1) ht
  have e : t * -((A - 1) / t + 1) = -(t * ((A - 1) / t)) - t := by rw [Int.mul_neg, Int.mul_add, Int.mul_one]; omega
  exact ((Int.ediv_emod_unique ht (r := t - 1 - (A - 1) % t) (q := -((A - 1) / t + 1))).2 ⟨by rw [e]; omega, by omega, by omega⟩).1.symm

end Go.Proofs.YtfcdocgjmgpmkaaDoor


/-
  num.Op: two numbers put together.
-/
namespace Go.Proofs.YtfcdocgjmgpmkaaDoor
open Go.RowKit
set_option linter.unusedVariables false
attribute [local go_sem ↓] Go.wp_at_zero Go.wp_at_succ

/-- What Op answers: the number, if it has room, and there is one. -/
def opS (op x y : Int) : Option Int :=
  if op = 1 then fitS (x + y) else if op = 2 then fitS (x - y) else if op = 3 then fitS (x * y) else if op = 4 ∨ op = 5 then divS op x y
  else if op = 6 ∨ op = 7 ∨ op = 8 then fitS (bitS op x y) else if op = 9 then fitS (shS x y) else if op = 10 then fitS (shS x (-y)) else none

theorem opS_1 (x y : Int) : opS 1 x y = fitS (x + y) := by simp [opS]
theorem opS_2 (x y : Int) : opS 2 x y = fitS (x - y) := by simp [opS]
theorem opS_3 (x y : Int) : opS 3 x y = fitS (x * y) := by simp [opS]
theorem opS_4 (x y : Int) : opS 4 x y = divS 4 x y := by simp [opS]
theorem opS_5 (x y : Int) : opS 5 x y = divS 5 x y := by simp [opS]
theorem opS_6 (x y : Int) : opS 6 x y = fitS (bitS 6 x y) := by simp [opS]
theorem opS_7 (x y : Int) : opS 7 x y = fitS (bitS 7 x y) := by simp [opS]
theorem opS_8 (x y : Int) : opS 8 x y = fitS (bitS 8 x y) := by simp [opS]
theorem opS_9 (x y : Int) : opS 9 x y = fitS (shS x y) := by simp [opS]
theorem opS_10 (x y : Int) : opS 10 x y = fitS (shS x (-y)) := by simp [opS]

/-- Behind the beginning: two boxes hold numbers that may be, the third is the result's. -/
def Three (w : World) (g : Nat) (x y : Int) (wc : World) : Prop := Two w g x y wc ∧ Bx wc (g + 1 + 1) false (.slice none 0 0)

end Go.Proofs.YtfcdocgjmgpmkaaDoor
