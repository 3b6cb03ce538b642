import Derived.Test.YtbmondbicnfcpaaDoorZLimbA
import Derived.Test.YtbmondbicnfcpaaDoorZNumB
/-
  Plain mathematics of bits of integers (below 0 with all bits 1 above): nothing of the program in it. bt x i is bit i of x; bz f n x y puts two together bit by bit, n + 1 bits and the sign.
-/
namespace Go.Proofs.YtbmondbicnfcpaaDoor
open Go.RowKit
set_option linter.unusedVariables false

/-- Bit i of x. -/
def bt (x : Int) (i : Nat) : Bool := decide (x / T i % 2 = 1)

theorem bt_zero (x : Int) : bt x 0 = decide (x % 2 = 1) := by simp [bt, T]
theorem bt_succ (x : Int) (i : Nat) : bt x (i + 1) = bt (x / 2) i := by
  unfold bt
  have e : x / T (i + 1) = x / 2 / T i := by rw [Int.ediv_ediv_of_nonneg (by decide)]; rfl
  rw [e]
theorem bt_of_zero (i : Nat) : bt 0 i = false := by simp [bt]
theorem bt_neg_one (i : Nat) : bt (-1) i = true := by
  induction i with
  | zero => decide
  | succ i ih => rw [bt_succ]; exact ih
theorem bt_not (x : Int) (i : Nat) : bt (-1 - x) i = !bt x i := by
  induction i generalizing x with
  | zero =>
    simp only [bt_zero]
    by_cases h : x % 2 = 1
    · simp [h]; omega
    · simp [h]; omega
  | succ i ih =>
    rw [bt_succ, bt_succ, ← ih]
    congr 1
    omega

theorem bt_ext : ∀ (n : Nat) (x y : Int), -(T n) ≤ x → x < T n → -(T n) ≤ y → y < T n → (∀ i, bt x i = bt y i) → x = y
  | 0, x, y, h1, h2, h3, h4, h => by
    have e := h 0
    simp only [bt_zero, T] at *
    have : (x % 2 = 1) ↔ (y % 2 = 1) := by simpa using e
    omega
  | n + 1, x, y, h1, h2, h3, h4, h => by
    simp only [T] at h1 h2 h3 h4
    have e := h 0
    simp only [bt_zero] at e
    have e' : (x % 2 = 1) ↔ (y % 2 = 1) := by simpa using e
    have := bt_ext n (x / 2) (y / 2) (by omega) (by omega) (by omega) (by omega) (fun i => by rw [← bt_succ, ← bt_succ]; exact h (i + 1))
    omega

theorem T_big (x : Int) : ∃ n, -(T n) ≤ x ∧ x < T n := by
  refine ⟨x.natAbs, ?_⟩
  have : ∀ k : Nat, (k : Int) < T k := by
    intro k
    induction k with
    | zero => decide
    | succ k ih => simp only [T]; omega
  have := this x.natAbs
  omega

theorem bt_all {x y : Int} (h : ∀ i, bt x i = bt y i) : x = y := by
  obtain ⟨m, h1, h2⟩ := T_big x
  obtain ⟨n, h3, h4⟩ := T_big y
  have h5 := T_mono (Nat.le_max_left m n)
  have h6 := T_mono (Nat.le_max_right m n)
  exact bt_ext (max m n) x y (by omega) (by omega) (by omega) (by omega) h

/-- Beyond its bits a number has its sign. -/
theorem bt_sign : ∀ (n : Nat) (x : Int), -(T n) ≤ x → x < T n → ∀ i, n ≤ i → bt x i = decide (x < 0)
  | 0, x, h1, h2, i, _ => by
    simp only [T] at h1 h2
    have : x = 0 ∨ x = -1 := by omega
    rcases this with rfl | rfl
    · rw [bt_of_zero]; rfl
    · rw [bt_neg_one]; rfl
  | n + 1, x, h1, h2, i, hi => by
    simp only [T] at h1 h2
    obtain ⟨j, rfl⟩ : ∃ j, i = j + 1 := ⟨i - 1, by omega⟩
    rw [bt_succ, bt_sign n (x / 2) (by omega) (by omega) j (by omega)]
    congr 1
    apply propext
    omega

/-- Two numbers put together bit by bit. -/
def bz (f : Bool → Bool → Bool) : Nat → Int → Int → Int
  | 0, x, y => if f (bt x 0) (bt y 0) = true then -1 else 0
  | n + 1, x, y => 2 * bz f n (x / 2) (y / 2) + (if f (bt x 0) (bt y 0) = true then 1 else 0)

theorem bz_range (f : Bool → Bool → Bool) : ∀ (n : Nat) (x y : Int), -(T n) ≤ bz f n x y ∧ bz f n x y < T n
  | 0, x, y => by simp only [bz, T]; split <;> omega
  | n + 1, x, y => by
    have := bz_range f n (x / 2) (y / 2)
    simp only [bz, T]; split <;> omega

theorem bz_bt (f : Bool → Bool → Bool) : ∀ (n : Nat) (x y : Int), -(T n) ≤ x → x < T n → -(T n) ≤ y → y < T n → ∀ i, bt (bz f n x y) i = f (bt x i) (bt y i)
  | 0, x, y, h1, h2, h3, h4, i => by
    have hx : bt x i = bt x 0 := by rw [bt_sign 0 x h1 h2 i (by omega), bt_sign 0 x h1 h2 0 (by omega)]
    have hy : bt y i = bt y 0 := by rw [bt_sign 0 y h3 h4 i (by omega), bt_sign 0 y h3 h4 0 (by omega)]
    rw [hx, hy]
    simp only [bz]
    split
    · rename_i h; rw [h, bt_neg_one]
    · rename_i h; rw [bt_of_zero]; simpa using h
  | n + 1, x, y, h1, h2, h3, h4, i => by
    simp only [T] at h1 h2 h3 h4
    have ih := bz_bt f n (x / 2) (y / 2) (by omega) (by omega) (by omega) (by omega)
    cases i with
    | zero =>
      rw [bt_zero]
      simp only [bz]
      split
      · rename_i h; rw [h]; simp
      · rename_i h; have : f (bt x 0) (bt y 0) = false := by simpa using h
        rw [this]; simp
    | succ i =>
      rw [bt_succ, bt_succ x, bt_succ y, ← ih i]
      congr 1
      simp only [bz]
      split <;> omega

/-- One that has those bits is that number. -/
theorem bz_one (f : Bool → Bool → Bool) (n : Nat) {x y z : Int} (h1 : -(T n) ≤ x) (h2 : x < T n) (h3 : -(T n) ≤ y) (h4 : y < T n) (h : ∀ i, bt z i = f (bt x i) (bt y i)) : z = bz f n x y :=
  bt_all (fun i => by rw [h i, bz_bt f n x y h1 h2 h3 h4])

/-- And, or, exclusive or. -/
def fop (op : Int) (p q : Bool) : Bool := if op = 6 then p && q else if op = 7 then p || q else p != q

theorem and_or : ∀ (n : Nat) (x y : Int), -(T n) ≤ x → x < T n → -(T n) ≤ y → y < T n → bz (fop 6) n x y + bz (fop 7) n x y = x + y
  | 0, x, y, h1, h2, h3, h4 => by
    simp only [T] at h1 h2 h3 h4
    have hx : x = 0 ∨ x = -1 := by omega
    have hy : y = 0 ∨ y = -1 := by omega
    rcases hx with rfl | rfl <;> rcases hy with rfl | rfl <;> decide
  | n + 1, x, y, h1, h2, h3, h4 => by
    simp only [T] at h1 h2 h3 h4
    have ih := and_or n (x / 2) (y / 2) (by omega) (by omega) (by omega) (by omega)
    simp only [bz, bt_zero, fop]
    by_cases hx : x % 2 = 1 <;> by_cases hy : y % 2 = 1 <;> simp [hx, hy] <;> omega

theorem or_and : ∀ (n : Nat) (x y : Int), -(T n) ≤ x → x < T n → -(T n) ≤ y → y < T n → bz (fop 7) n x y - bz (fop 6) n x y = bz (fop 8) n x y
  | 0, x, y, h1, h2, h3, h4 => by
    simp only [T] at h1 h2 h3 h4
    have hx : x = 0 ∨ x = -1 := by omega
    have hy : y = 0 ∨ y = -1 := by omega
    rcases hx with rfl | rfl <;> rcases hy with rfl | rfl <;> decide
  | n + 1, x, y, h1, h2, h3, h4 => by
    simp only [T] at h1 h2 h3 h4
    have ih := or_and n (x / 2) (y / 2) (by omega) (by omega) (by omega) (by omega)
    simp only [bz, bt_zero, fop] at ih ⊢
    by_cases hx : x % 2 = 1 <;> by_cases hy : y % 2 = 1 <;> simp [hx, hy] <;> omega

/-- Bits below hang on what is left alone. -/
theorem bt_mod : ∀ (n : Nat) (x : Int) (i : Nat), i < n → bt (x % T n) i = bt x i
  | 0, x, i, h => by omega
  | n + 1, x, i, h => by
    have hT := T_pos n
    have e2 : x % (2 * T n) % 2 = x % 2 := by rw [Int.emod_emod_of_dvd]; exact ⟨T n, rfl⟩
    cases i with
    | zero =>
      have e3 : x % T (n + 1) % 2 = x % 2 := e2
      rw [bt_zero, bt_zero, e3]
    | succ i =>
      rw [bt_succ, bt_succ, ← bt_mod n (x / 2) i (by omega)]
      congr 1
      simp only [T]
      rw [Int.emod_def x (2 * T n), Int.emod_def (x / 2) (T n), ← Int.ediv_ediv_of_nonneg (by decide), Int.mul_assoc]
      omega

theorem bt_nat (a i : Nat) : bt (a : Int) i = a.testBit i := by
  rw [Nat.testBit_eq_decide_div_mod_eq]
  unfold bt
  have : T i = ((2 ^ i : Nat) : Int) := by
    induction i with
    | zero => rfl
    | succ i ih => simp only [T]; rw [ih, Nat.pow_succ]; simp; omega
  rw [this]
  congr 1
  apply propext
  omega

/-- A list's bits are its limbs'. -/
theorem bt_V : ∀ (L : List Int), Ok L → ∀ (k j : Nat), j < 32 → bt (V L) (32 * k + j) = bt (L.getD k 0) j
  | [], _, k, j, _ => by simp [V, bt_of_zero]
  | z :: t, h, 0, j, hj => by
    have hz := h.cons.1
    simp only [V]
    rw [show 32 * 0 + j = j by omega, ← bt_mod 32 _ j hj]
    have e : T 32 = 4294967296 := by decide +kernel
    rw [e]
    congr 1
    simp
    omega
  | z :: t, h, k + 1, j, hj => by
    have hz := h.cons.1
    have ih := bt_V t h.cons.2 k j hj
    rw [show (z :: t).getD (k + 1) 0 = t.getD k 0 by simp, ← ih]
    unfold bt
    rw [show 32 * (k + 1) + j = 32 + (32 * k + j) by omega, T_add, ← Int.ediv_ediv_of_nonneg (Int.le_of_lt (T_pos 32))]
    have e : T 32 = 4294967296 := by decide +kernel
    have e2 : V (z :: t) / T 32 = V t := by rw [e]; simp only [V]; omega
    rw [e2]
end Go.Proofs.YtbmondbicnfcpaaDoor

/-
  num.oneLess, num.oneMore, num.turned.
-/
namespace Go.Proofs.YtbmondbicnfcpaaDoor
open Go.RowKit
set_option linter.unusedVariables false

set_option maxHeartbeats 1000000 in
theorem oneMore_any (va : Value) (a : List Int) (w : World) (ha : Sl w va a) (hla : a.length ≤ 1000) : Calls Tryd.prog 103 #[va] w fun e w' => NumPost w (V a + 1) (a.length + 2) e w' := by
  obtain ⟨p, c, rfl⟩ := ha.shape
  have sl := sl_lit w 1 (by decide) (by decide)
  have hb := (Below.refl w.heap.size w).alloc (Nat.le_refl _) (.cells #[.int .u32 1] 59)
  go_enter Tryd.func103, Tryd.ntmps103
  go_wp2_with fail
  refine (add_any _ _ a [1] _ (ha.below hb) sl (by omega) (by simp)).mono ?_
  rintro e w1 ⟨v1, z1, rfl, s1, m1, x1, l1, b1, k1⟩
  go_wp2_with fail
  go_ret
  exact ⟨v1, z1, rfl, s1, m1, x1, l1, hb.trans (b1.mono hb.size), fun k hk => Nat.le_trans hb.size (k1 k hk)⟩

set_option maxHeartbeats 1000000 in
theorem oneLess_any (va : Value) (a : List Int) (w : World) (ha : Sl w va a) (hla : a.length ≤ 1000) : Calls Tryd.prog 105 #[va] w fun e w' => NumPost w (subV (V a) 1) a.length e w' := by
  obtain ⟨p, c, rfl⟩ := ha.shape
  have sl := sl_lit w 1 (by decide) (by decide)
  have hb := (Below.refl w.heap.size w).alloc (Nat.le_refl _) (.cells #[.int .u32 1] 59)
  go_enter Tryd.func105, Tryd.ntmps105
  go_wp2_with fail
  refine (sub_any _ _ a [1] _ (ha.below hb) sl (by omega) (by simp)).mono ?_
  rintro e w1 ⟨v1, z1, rfl, s1, m1, x1, l1, b1, k1⟩
  go_wp2_with fail
  go_ret
  exact ⟨v1, z1, rfl, s1, m1, x1, l1, hb.trans (b1.mono hb.size), fun k hk => Nat.le_trans hb.size (k1 k hk)⟩

/-- Each bit turned. -/
def TurnPost (w : World) (a : List Int) (e : Ending) (w' : World) : Prop :=
  ∃ g Z, e = .returned (.slice (some ⟨g, 0, none⟩) a.length a.length) ∧ Row w' g Z ∧ Ok Z ∧ Z.length = a.length ∧ (∀ i, i < a.length → Z.getD i 0 = 4294967295 - a.getD i 0) ∧ Below w.heap.size w w' ∧ w.heap.size ≤ g

theorem V_turned {a Z : List Int} (hl : Z.length = a.length) (h : ∀ i, i < a.length → Z.getD i 0 = 4294967295 - a.getD i 0) : V Z = B a.length - 1 - V a := by
  induction a generalizing Z with
  | nil =>
    cases Z with
    | nil => rfl
    | cons z t => simp at hl
  | cons x t ih =>
    cases Z with
    | nil => simp at hl
    | cons z u =>
      have h0 := h 0 (by simp)
      have := ih (Z := u) (by simpa using hl) (fun i hi => by have := h (i + 1) (by simpa using hi); simpa using this)
      simp at h0
      simp only [V, List.length_cons, B, this]
      omega

theorem not_nat (x : Nat) (h : x < 4294967296) : 4294967295 ^^^ x = 4294967295 - x := by
  have hp : (2 : Nat) ^ 32 = 4294967296 := by decide
  apply Nat.eq_of_testBit_eq
  intro i
  rw [Nat.testBit_xor, show (4294967295 : Nat) = 2 ^ 32 - 1 by decide, show 2 ^ 32 - 1 - x = 2 ^ 32 - (x + 1) by omega, Nat.testBit_two_pow_sub_one, Nat.testBit_two_pow_sub_succ (by omega)]
  by_cases hi : i < 32
  · simp [hi]
  · have : x.testBit i = false := Nat.testBit_lt_two_pow (Nat.lt_of_lt_of_le (show x < 2 ^ 32 by omega) (Nat.pow_le_pow_right (by decide) (by omega)))
    simp [hi, this]

theorem not_u32 (x : Int) (h0 : 0 ≤ x) (h1 : x < 4294967296) : bits BinOp.xor IntKind.u32 (if IntKind.u32.signed = true then -1 else IntKind.u32.max) x = 4294967295 - x := by
  have e : (if IntKind.u32.signed = true then -1 else IntKind.u32.max) = 4294967295 := by decide
  rw [e]
  obtain ⟨X, rfl⟩ := Int.eq_ofNat_of_zero_le h0
  rw [show (4294967295 : Int) = ((4294967295 : Nat) : Int) from rfl, u32_xor_nat _ _ (by decide) (by omega), not_nat X (by omega)]
  omega

set_option maxHeartbeats 2000000 in
theorem turned_any (va : Value) (a : List Int) (w : World) (ha : Sl w va a) (hla : a.length ≤ 1000) : Calls Tryd.prog 141 #[va] w fun e w' => TurnPost w a e w' := by
  obtain ⟨p, c, rfl⟩ := ha.shape
  go_enter Tryd.func141, Tryd.ntmps141
  go_wp2_with (first | (at_make; refine wpList_make_u32 rfl _ _ rfl _ _ a.length rfl rfl (by omega) (by omega) (by omega) ?_; intro w1 hrow1 hbel1) | fail)
  go_loopw [11] (fun i wr => ∃ (k : Nat) (Z : List Int), k ≤ a.length ∧ i = .int .i64 k ∧ Z.length = a.length ∧ Ok Z ∧ Row wr w.heap.size Z ∧ Below w.heap.size w wr ∧ ∀ j, j < k → Z.getD j 0 = 4294967295 - a.getD j 0) (fun i _ => a.length - (intOf i).toNat)
  case atStart => exact ⟨0, zer a.length, by omega, rfl, zer_len _, zer_ok _, hrow1, hbel1, fun j hj => by omega⟩
  case round =>
    obtain ⟨k, Z, hk, rfl, hZl, hZok, hrow, hbel, hz⟩ := hrel
    by_cases hkl : k < a.length
    · obtain ⟨b, off, rfl, hc⟩ := (ha.below hbel).at k hkl
      have hx := ha.ok.getD k
      have hc1 := hrow.cell k (by omega)
      have hf1 := hrow.frozen k
      obtain ⟨x, hxx⟩ : ∃ x, x = a.getD k 0 := ⟨_, rfl⟩
      rw [← hxx] at hc hx
      obtain ⟨y, hy⟩ : ∃ y, y = 4294967295 - x := ⟨_, rfl⟩
      have ho := not_u32 x hx.1 hx.2
      rw [← hy] at ho
      have HX : Hid (y = 4294967295 - a.getD k 0) := by rw [← hxx]; exact hy
      have hy0 : 0 ≤ y := by omega
      have hy1 : y < 4294967296 := by omega
      have HZ : Hid _ := hz
      clear hxx hz hy
      have hkl' : (k : Int) < (a.length : Int) := by omega
      go_wp2_with fail
      go_roundw
      case rel =>
        refine ⟨k + 1, Z.set k y, by omega, by go_num, by simpa using hZl, hZok.set k hy0 hy1, hrow.set k y, hbel.setCell (p := ⟨w.heap.size, k, none⟩) (Nat.le_refl _) _, fun j hj => ?_⟩
        by_cases e : j = k
        · subst e
          rw [← HX.out]
          simp [List.getD, show j < Z.length by omega]
        · rw [← HZ.out j (by omega)]
          simp only [List.getD_eq_getElem?_getD]
          rw [List.getElem?_set_ne (by omega)]
      case measure => simp [intOf]; omega
    · obtain rfl : k = a.length := by omega
      have HZ : Hid _ := hz
      clear hz
      go_wp2_with fail
      go_ret
      exact ⟨w.heap.size, Z, rfl, hrow, hZok, hZl, HZ.out, hbel, Nat.le_refl _⟩
end Go.Proofs.YtbmondbicnfcpaaDoor

/-
  num.spread: the bits of a number that may be, in n limbs, one more than it has at least; num.gather: the number of which these are the bits.
-/
namespace Go.Proofs.YtbmondbicnfcpaaDoor
open Go.RowKit
set_option linter.unusedVariables false

/-- n limbs in new memory: x, or 2^(32 n) more, if it is below 0. -/
def SpPost (w : World) (n : Nat) (x : Int) (e : Ending) (w' : World) : Prop :=
  ∃ g L, e = .returned (.slice (some ⟨g, 0, none⟩) n n) ∧ Row w' g L ∧ Ok L ∧ L.length = n ∧ V L = (if x < 0 then x + B n else x) ∧ Below w.heap.size w w' ∧ w.heap.size ≤ g

theorem V_over (n : Nat) (A : List Int) (h : A.length ≤ n) : V (over (zer n) 0 A) = V A := by
  simp only [over, List.take_zero, List.nil_append]
  rw [V_append]
  have : (zer n).drop (0 + A.length) = zer (n - A.length) := by simp [zer]
  rw [this, zer_V]; omega

set_option maxHeartbeats 4000000 in
theorem spread_any (n1 : Bool) (s : Value) (z1 : List Int) (n : Nat) (k x : Int) (w : World) (t1 : Sl w s z1) (hg1 : Good n1 z1) (hx : Z n1 (V z1) = x) (hlt : z1.length < n) (hn : n ≤ 1000) (hk : k = (n : Int)) :
    Calls Tryd.prog 99 #[.agg #[.bool n1, s], .int .i64 k] w fun e w' => SpPost w n x e w' := by
  subst hk
  obtain ⟨p1, c1, rfl⟩ := t1.shape
  have hb0 := (Below.refl w.heap.size w).alloc (Nat.le_refl _) (.cells #[.bool n1, .slice p1 z1.length c1] 26)
  have x0 := Bx.new w n1 p1 z1.length c1
  have t1' := t1.below hb0
  have hs := Z_pos hg1 t1.ok
  have HX : Hid (Z n1 (V z1) = x) := hx
  have ok1 := t1.ok
  clear hg1 hx t1
  cases n1
  · have HP : Hid (0 ≤ x) := by rw [← HX.out]; exact hs.2 rfl
    clear hs
    go_enter Tryd.func99, Tryd.ntmps99
    go_wp2_with (first | (at_make; refine wpList_make_u32 rfl _ _ rfl _ _ n rfl rfl (by omega) (by omega) (by omega) ?_; intro w1 hrow1 hbel1; rw [World.size_alloc] at hrow1; obtain ⟨w2, hcr, hrow2, hbut2⟩ := copy_run w1 (w.heap.size + 1) 0 n n p1 z1.length c1 _ z1 hrow1 (t1'.below hbel1) (by rw [zer_len]; omega) (by omega); obtain ⟨i0, i1, -⟩ := (x0.under hbel1).facts) | fail)
    go_ret
    have hB := (hb0.trans (hbel1.mono hb0.size)).trans (hbut2.below (show w.heap.size ≤ w.heap.size + 1 by omega))
    have e : V (over (zer n) 0 z1) = if x < 0 then x + B n else x := by
      rw [if_neg (by have := HP.out; omega), V_over n z1 (by omega), ← HX.out]; rfl
    refine ⟨w.heap.size + 1, _, ?_, hrow2, over_ok (zer_ok _) ok1 0, by rw [over_len, zer_len]; rw [zer_len]; omega, e, hB, by omega⟩
    simp
  · have HP : Hid (x < 0) := by rw [← HX.out]; exact hs.1 rfl
    clear hs
    go_enter Tryd.func99, Tryd.ntmps99
    go_wp2_with (first | (at_make; refine wpList_make_u32 rfl _ _ rfl _ _ n rfl rfl (by omega) (by omega) (by omega) ?_; intro w1 hrow1 hbel1; rw [World.size_alloc] at hrow1; obtain ⟨i0, i1, -⟩ := (x0.under hbel1).facts) | fail)
    refine (oneLess_any _ z1 _ (t1'.below hbel1) (by omega)).mono ?_
    rintro e w2 ⟨v2, z2, rfl, s2, m2, v2', l2, b2, -⟩
    have hrow2 := hrow1.below b2 hrow1.lt
    obtain ⟨p2, c2, rfl⟩ := s2.shape
    obtain ⟨w3, hcr, hrow3, hbut3⟩ := copy_run w2 (w.heap.size + 1) 0 n n p2 z2.length c2 _ z2 hrow2 s2 (by rw [zer_len]; omega) (by omega)
    have hB := ((hb0.trans (hbel1.mono hb0.size)).trans (b2.mono (by have := hbel1.size; have := hb0.size; omega))).trans (hbut3.below (show w.heap.size ≤ w.heap.size + 1 by omega))
    have HV : Hid (V (over (zer n) 0 z2) = -x - 1) := by
      show V (over (zer n) 0 z2) = -x - 1
      have h1 := HX.out
      have h2 := HP.out
      simp only [Z, if_true] at h1
      rw [V_over n z2 (by omega), v2', subV, if_pos (by omega)]
      omega
    have ok3 := over_ok (zer_ok n) s2.ok 0
    have len3 : (over (zer n) 0 z2).length = n := by rw [over_len, zer_len]; rw [zer_len]; omega
    generalize over (zer n) 0 z2 = Y at *
    have sY := hrow3.all ok3 (by omega)
    rw [len3] at sY
    clear hrow1 hrow2 b2 hbut3 v2' m2 s2 hbel1 i0 i1
    go_wp2_with fail
    refine (turned_any _ Y _ sY (by omega)).mono ?_
    rintro e w4 ⟨g, L, rfl, hrow4, ok4, len4, hz4, hb4, hg4⟩
    have HL := V_turned len4 hz4
    rw [len3] at HL len4
    rw [HV.out] at HL
    have HL' : Hid (V L = if x < 0 then x + B n else x) := by
      show V L = _
      rw [if_pos HP.out, HL]; omega
    clear hz4 HL
    rw [len3]
    go_wp2_with fail
    go_ret
    exact ⟨g, L, rfl, hrow4, ok4, len4, HL'.out, hB.trans (hb4.mono hB.size), Nat.le_trans hB.size hg4⟩

set_option maxHeartbeats 4000000 in
theorem gather_any (va : Value) (L : List Int) (w : World) (ha : Sl w va L) (h0 : 0 < L.length) (hn : L.length ≤ 1000) :
    Calls Tryd.prog 100 #[va] w fun e w' => RawPost w (if L.getD (L.length - 1) 0 = 0 then V L else V L - B L.length) e w' := by
  obtain ⟨p, c, rfl⟩ := ha.shape
  have hb0 := (Below.refl w.heap.size w).alloc (Nat.le_refl _) (.cells #[.bool false, .slice none 0 0] 26)
  have x0 := Bx.new w false none 0 0
  have t1 := ha.below hb0
  obtain ⟨b, off, rfl, hc⟩ := t1.at (L.length - 1) (by omega)
  have hi1 : ((L.length : Int) - 1).toNat = L.length - 1 := by omega
  have hi2 : (0 : Int) ≤ (L.length : Int) - 1 := by omega
  have hi3 : (L.length : Int) - 1 < (L.length : Int) := by omega
  have hlt := V_lt ha.ok
  clear ha
  by_cases ht : L.getD (L.length - 1) 0 = 0
  · rw [if_pos ht]
    rw [ht] at hc
    clear ht hlt
    go_enter Tryd.func100, Tryd.ntmps100
    go_wp2_with fail
    refine (norm_any _ L _ t1 (by omega)).mono ?_
    intro e w1 h1
    obtain ⟨v1, z1, rfl, s1, m1, v1', l1, b1, -⟩ := h1.num (by omega)
    have hbw := hb0.trans (b1.mono hb0.size)
    have u1 := x0.under b1
    have HV : Hid (V z1 = V L) := v1'
    clear h1 v1' b1 x0 hb0 t1 hc
    go_wp2_with fail
    refine (signed_any _ _ z1 _ s1).mono ?_
    rintro e w2 ⟨s2, rfl, t2, b2⟩
    obtain ⟨p2, c2, rfl⟩ := t2.shape
    replace u1 := u1.under b2
    replace hbw := hbw.trans (b2.mono hbw.size)
    obtain ⟨d0, d1, g0, g1, l1⟩ := u1.facts
    go_wp2_with fail
    refine bodyPost_ret (results_box1 rfl _ _ w.heap.size _ _ rfl u1.set) rfl ?_
    exact raw_end (neg := false) hbw u1 (Nat.le_refl _) t2 m1 HV.out
  · rw [if_neg ht]
    have hx := t1.ok.getD (L.length - 1)
    generalize L.getD (L.length - 1) 0 = t at *
    have hb : (t == 0) = false := beq_eq_false_iff_ne.2 ht
    clear ht
    have HLT : Hid _ := hlt
    clear hlt
    go_enter Tryd.func100, Tryd.ntmps100
    go_wp2_with fail
    refine (turned_any _ L _ t1 (by omega)).mono ?_
    rintro e w1 ⟨g, Y, rfl, hrow1, ok1, len1, hz1, hb1, hg1⟩
    have HL : Hid _ := V_turned len1 hz1
    have sY := hrow1.all ok1 (by omega)
    rw [len1] at sY
    have hbw := hb0.trans (hb1.mono hb0.size)
    have u1 := x0.under hb1
    clear hz1 hrow1 hg1 hb1 x0 hb0 t1 hc
    go_wp2_with fail
    refine (oneMore_any _ Y _ sY (by omega)).mono ?_
    rintro e w2 ⟨v2, z2, rfl, s2, m2, v2', l2, b2, -⟩
    have HV : Hid (Z true (V z2) = V L - B L.length) := by
      show Z true (V z2) = _
      simp only [Z, if_true]
      rw [v2', HL.out]; omega
    replace u1 := u1.under b2
    replace hbw := hbw.trans (b2.mono hbw.size)
    clear v2' b2 HL
    go_wp2_with fail
    refine (signed_any _ _ z2 _ s2).mono ?_
    rintro e w3 ⟨s3, rfl, t3, b3⟩
    obtain ⟨p3, c3, rfl⟩ := t3.shape
    replace u1 := u1.under b3
    replace hbw := hbw.trans (b3.mono hbw.size)
    obtain ⟨d0, d1, g0, g1, l1⟩ := u1.facts
    go_wp2_with fail
    refine bodyPost_ret (results_box1 rfl _ _ w.heap.size _ _ rfl u1.set) rfl ?_
    exact raw_end (neg := true) hbw u1 (Nat.le_refl _) t3 m2 HV.out
end Go.Proofs.YtbmondbicnfcpaaDoor

/-
  Plain mathematics: and, or, exclusive or of numbers by limbs, each spread into n limbs with its sign's bits above, put together limb by limb, and gathered again.
-/
namespace Go.Proofs.YtbmondbicnfcpaaDoor
open Go.RowKit
set_option linter.unusedVariables false

/-- and, or, exclusive or of two limbs, as the machine has it. -/
def lb (op x y : Int) : Int := if op = 6 then bits .and .u32 x y else if op = 7 then bits .or .u32 x y else bits .xor .u32 x y

theorem lb_spec (op x y : Int) (h0 : 0 ≤ x) (h1 : x < 4294967296) (h2 : 0 ≤ y) (h3 : y < 4294967296) : 0 ≤ lb op x y ∧ lb op x y < 4294967296 ∧ ∀ j, bt (lb op x y) j = fop op (bt x j) (bt y j) := by
  obtain ⟨X, rfl⟩ := Int.eq_ofNat_of_zero_le h0
  obtain ⟨Y, rfl⟩ := Int.eq_ofNat_of_zero_le h2
  have hp : (2 : Nat) ^ 32 = 4294967296 := by decide
  have hX : X < 2 ^ 32 := by omega
  have hY : Y < 2 ^ 32 := by omega
  unfold lb fop
  by_cases h6 : op = 6
  · simp only [if_pos h6]
    rw [u32_and_nat X Y (by omega) (by omega)]
    have := Nat.and_lt_two_pow X hY
    refine ⟨by omega, by omega, fun j => ?_⟩
    rw [bt_nat, bt_nat, bt_nat, Nat.testBit_and]
  · by_cases h7 : op = 7
    · simp only [if_neg h6, if_pos h7]
      rw [u32_or_nat X Y (by omega) (by omega)]
      have := Nat.or_lt_two_pow hX hY
      refine ⟨by omega, by omega, fun j => ?_⟩
      rw [bt_nat, bt_nat, bt_nat, Nat.testBit_or]
    · simp only [if_neg h6, if_neg h7]
      rw [u32_xor_nat X Y (by omega) (by omega)]
      have := Nat.xor_lt_two_pow hX hY
      refine ⟨by omega, by omega, fun j => ?_⟩
      rw [bt_nat, bt_nat, bt_nat, Nat.testBit_xor]

theorem fop_ff (op : Int) : fop op false false = false := by
  unfold fop; split
  · rfl
  · split <;> rfl

theorem bt_limbs {op : Int} {A C O : List Int} (hA : Ok A) (hC : Ok C) (hO : Ok O) (ha : A.length = O.length) (hc : C.length = O.length) (h : ∀ i, i < O.length → O.getD i 0 = lb op (A.getD i 0) (C.getD i 0)) (i : Nat) :
    bt (V O) i = fop op (bt (V A) i) (bt (V C) i) := by
  obtain ⟨k, j, hj, rfl⟩ : ∃ k j, j < 32 ∧ i = 32 * k + j := ⟨i / 32, i % 32, by omega, by omega⟩
  rw [bt_V O hO k j hj, bt_V A hA k j hj, bt_V C hC k j hj]
  by_cases hk : k < O.length
  · rw [h k hk]
    have a := hA.getD k
    have c := hC.getD k
    exact (lb_spec op _ _ a.1 a.2 c.1 c.2).2.2 j
  · have e : ∀ L : List Int, L.length = O.length → L.getD k 0 = 0 := fun L hL => by simp [List.getD, show L.length ≤ k by omega]
    rw [e O rfl, e A ha, e C hc, bt_of_zero, fop_ff]

/-- A number spread. -/
theorem bt_spread {x v : Int} {n : Nat} (hv : v = if x < 0 then x + B n else x) (i : Nat) (hi : i < 32 * n) : bt v i = bt x i := by
  rw [← bt_mod (32 * n) v i hi, ← bt_mod (32 * n) x i hi]
  congr 1
  rw [hv, T_32]
  split
  · rw [Int.add_emod_right]
  · rfl

theorem bits_gather {op x y : Int} {n : Nat} {A C O : List Int} (hn : O.length = n + 1) (hA : Ok A) (hC : Ok C) (hO : Ok O) (ha : A.length = O.length) (hc : C.length = O.length)
    (h : ∀ i, i < O.length → O.getD i 0 = lb op (A.getD i 0) (C.getD i 0)) (va : V A = if x < 0 then x + B (n + 1) else x) (vc : V C = if y < 0 then y + B (n + 1) else y)
    (hx1 : -(B n) ≤ x) (hx2 : x < B n) (hy1 : -(B n) ≤ y) (hy2 : y < B n) (i : Nat) :
    bt (if O.getD (O.length - 1) 0 = 0 then V O else V O - B O.length) i = fop op (bt x i) (bt y i) := by
  have hlim := bt_limbs hA hC hO ha hc h
  have h0 := V_nonneg hO
  have hlt := V_lt hO
  rw [hn] at hlt ⊢
  rw [Nat.add_sub_cancel]
  have hB : B (n + 1) = T (32 * (n + 1)) := (T_32 _).symm
  have hsx : ∀ i, 32 * n ≤ i → bt x i = decide (x < 0) := bt_sign (32 * n) x (by rw [T_32]; exact hx1) (by rw [T_32]; exact hx2)
  have hsy : ∀ i, 32 * n ≤ i → bt y i = decide (y < 0) := bt_sign (32 * n) y (by rw [T_32]; exact hy1) (by rw [T_32]; exact hy2)
  by_cases hi : i < 32 * (n + 1)
  · rw [← bt_spread va i hi, ← bt_spread vc i hi, ← hlim i]
    split
    · rfl
    · rw [← bt_mod (32 * (n + 1)) _ i hi, ← bt_mod (32 * (n + 1)) (V O) i hi, ← hB, Int.sub_emod_right]
  · rw [hsx i (by omega), hsy i (by omega)]
    -- the limb at the top has one bit through and through
    have htop : ∀ j, j < 32 → bt (O.getD n 0) j = fop op (decide (x < 0)) (decide (y < 0)) := by
      intro j hj
      rw [← bt_V O hO n j hj, hlim, bt_spread va _ (by omega), bt_spread vc _ (by omega), hsx _ (by omega), hsy _ (by omega)]
    have ho := hO.getD n
    have e32 : T 32 = 4294967296 := by decide +kernel
    rw [bt_sign (32 * (n + 1)) _ (by rw [← hB]; split <;> omega) (by rw [← hB]; split <;> omega) i (by omega)]
    cases hf : fop op (decide (x < 0)) (decide (y < 0))
    · have : O.getD n 0 = 0 := by
        refine bt_all (fun j => ?_)
        rw [bt_of_zero]
        by_cases hj : j < 32
        · rw [htop j hj, hf]
        · rw [bt_sign 32 (O.getD n 0) (by omega) (by omega) j (by omega)]
          exact decide_eq_false (by omega)
      rw [if_pos this]
      simp; omega
    · have : O.getD n 0 ≠ 0 := by
        intro e
        have := htop 0 (by decide)
        rw [e, bt_of_zero, hf] at this
        cases this
      rw [if_neg this]
      simp; omega

theorem T384 : T 384 = B 12 := T_32 12
end Go.Proofs.YtbmondbicnfcpaaDoor

/-
  num.bitwise: and, or, exclusive or of two numbers that may be.
-/
namespace Go.Proofs.YtbmondbicnfcpaaDoor
open Go.RowKit
set_option linter.unusedVariables false

/-- Bit by bit. -/
def bitS (op x y : Int) : Int := bz (fop op) 384 x y

theorem getD_set_ne' (Z : List Int) (k j : Nat) (y : Int) (h : j ≠ k) : (Z.set k y).getD j 0 = Z.getD j 0 := by
  simp only [List.getD_eq_getElem?_getD]
  rw [List.getElem?_set_ne (by omega)]
theorem getD_set_eq' (Z : List Int) (k : Nat) (y : Int) (h : k < Z.length) : (Z.set k y).getD k 0 = y := by
  simp [List.getD, h]

/-- What the loop has done: limbs below k are put together, those above are as they were. -/
def BwRel (op : Int) (A C O : List Int) (k : Nat) : Prop := O.length = A.length ∧ Ok O ∧ (∀ j, j < k → O.getD j 0 = lb op (A.getD j 0) (C.getD j 0)) ∧ ∀ j, k ≤ j → O.getD j 0 = A.getD j 0

theorem BwRel.step {op : Int} {A C O : List Int} {k : Nat} (h : BwRel op A C O k) (hA : Ok A) (hC : Ok C) (hk : k < A.length) {z : Int} (hz : z = lb op (A.getD k 0) (C.getD k 0)) : BwRel op A C (O.set k z) (k + 1) := by
  obtain ⟨h1, h2, h3, h4⟩ := h
  have a := hA.getD k
  have c := hC.getD k
  have hb := lb_spec op _ _ a.1 a.2 c.1 c.2
  rw [← hz] at hb
  refine ⟨by simpa using h1, h2.set k hb.1 hb.2.1, fun j hj => ?_, fun j hj => ?_⟩
  · by_cases e : j = k
    · subst e; rw [getD_set_eq' _ _ _ (by omega), hz]
    · rw [getD_set_ne' _ _ _ _ e]; exact h3 j (by omega)
  · rw [getD_set_ne' _ _ _ _ (by omega)]; exact h4 j (by omega)

set_option maxHeartbeats 8000000 in
theorem bitwise_any (op : Int) (va vb : Value) (x y : Int) (w : World) (ha : IsN w va x) (hb : IsN w vb y) : Calls Tryd.prog 56 #[.int .i64 op, va, vb] w fun e w' => RawPost w (bitS op x y) e w' := by
  obtain ⟨n1, p1, z1, c1, rfl, t1, hg1, hx⟩ := ha.open
  obtain ⟨n2, p2, z2, c2, rfl, t2, hg2, hy⟩ := hb.open
  obtain ⟨hB, u1, u2, u3⟩ := boxes2 w n1 n2 p1 p2 z1.length c1 z2.length c2
  have l1 : z1.length ≤ 12 := hg1.1
  have l2 : z2.length ≤ 12 := hg2.1
  clear ha hb
  replace t1 := t1.below hB
  replace t2 := t2.below hB
  obtain ⟨m, hm⟩ : ∃ m : Nat, m = max z1.length z2.length := ⟨_, rfl⟩
  have hM : (if z1.length < z2.length then (z2.length : Int) else (z1.length : Int)) = (m : Int) := by split <;> omega
  have hm1 : z1.length ≤ m := by omega
  have hm2 : z2.length ≤ m := by omega
  have hm3 : m ≤ 12 := by omega
  clear hm
  go_enter Tryd.func56, Tryd.ntmps56
  go_wp2_with fail
  generalize ((w.alloc (.cells #[.bool n1, .slice p1 z1.length c1] 26)).alloc (.cells #[.bool n2, .slice p2 z2.length c2] 26)).alloc (.cells #[.bool false, .slice none 0 0] 26) = w0 at *
  go_region_held3 (fun w' => (w'.cell? ⟨w.heap.size, 0, none⟩ = some (.bool n1) ∧ w'.cell? ⟨w.heap.size, 1, none⟩ = some (.slice p1 z1.length c1)) ∧ w'.cell? ⟨w.heap.size + 1, 0, none⟩ = some (.bool n2) ∧ w'.cell? ⟨w.heap.size + 1, 1, none⟩ = some (.slice p2 z2.length c2))
    (first | exact ⟨u1.held ((Below.refl _ _).drew), u2.held ((Below.refl _ _).drew)⟩ | exact ⟨u1.held hk4, u2.held hk4⟩ | exact ⟨u1.held hk3, u2.held hk3⟩)
    (first
      | (go_at_call_of 99 (Value.slice p1 z1.length c1); refine (spread_any n1 _ z1 (m + 1) _ x _ ?_ hg1 hx ?_ ?_ ?_).mono ?_; exact t1.below ((Below.refl _ _).drew); omega; omega; omega; rintro e w3 ⟨g3, A, rfl, row3, ok3, len3, v3, b3, hg3⟩; have hk3 : Below w0.heap.size w0 w3 := (Below.refl _ _).drew.trans b3)
      | (go_at_call_of 99 (Value.slice p2 z2.length c2); refine (spread_any n2 _ z2 (m + 1) _ y _ ?_ hg2 hy ?_ ?_ ?_).mono ?_; exact t2.below hk3; omega; omega; omega; rintro e w4 ⟨g4, C, rfl, row4, ok4, len4, v4, b4, hg4⟩; have hk4 : Below w0.heap.size w0 w4 := hk3.trans (b4.mono hk3.size)))
  have b34 := row3.lt
  have b40 := u3.lt
  have hb3 := b3.size
  have hg3' : w0.heap.size ≤ g3 := hg3
  have row3' := row3.below b4 row3.lt
  have u3' := u3.under hk4
  have hBw := hB.trans (hk4.mono hB.size)
  have hx12 : Hid ((-(B m) ≤ x ∧ x < B m) ∧ (-(B m) ≤ y ∧ y < B m)) := by
    have a1 := V_lt t1.ok; have a2 := V_lt t2.ok; have a3 := B_mono hm1; have a4 := B_mono hm2
    have a5 := V_nonneg t1.ok; have a6 := V_nonneg t2.ok; have a7 := B_pos m
    show (_ ∧ _) ∧ _ ∧ _
    rw [← hx, ← hy]
    cases n1 <;> cases n2 <;> simp [Z] <;> omega
  have HB : Hid ((-(B 12) ≤ x ∧ x < B 12) ∧ (-(B 12) ≤ y ∧ y < B 12)) := by
    have a := hx12.out; have b := B_mono hm3
    exact ⟨⟨by omega, by omega⟩, by omega, by omega⟩
  have g34 : g3 < g4 := by omega
  have V3 : Hid _ := v3
  have V4 : Hid _ := v4
  clear hg1 hg2 hx hy hk3 hk4 b3 b4 row3 u1 u2 u3 t1 t2 v3 v4 hb3 hB hM
  go_wp2_with fail
  go_loopw [28] (fun i wr => ∃ (k : Nat) (O : List Int), k ≤ m + 1 ∧ i = .int .i64 k ∧ BwRel op A C O k ∧ Row wr g3 O ∧ Row wr g4 C ∧ Bx wr (w.heap.size + 1 + 1) false (.slice none 0 0) ∧ Below w.heap.size w wr) (fun i _ => m + 1 - (intOf i).toNat)
  case atStart => exact ⟨0, A, by omega, rfl, ⟨rfl, ok3, fun j hj => by omega, fun j _ => rfl⟩, row3', row4, u3', hBw⟩
  case round =>
    obtain ⟨k, O, hk, rfl, hR, hrA, hrC, hux, hbel⟩ := hrel
    by_cases hkl : k < m + 1
    · have hcA := hrA.cell k (by rw [hR.1]; omega)
      have hcC := hrC.cell k (by omega)
      have hfA := hrA.frozen k
      rw [hR.2.2.2 k (Nat.le_refl _)] at hcA
      have ba := ok3.getD k
      have bc := ok4.getD k
      have hkl' : (k : Int) < (m : Int) + 1 := by omega
      obtain ⟨z, hz⟩ : ∃ z, z = lb op (A.getD k 0) (C.getD k 0) := ⟨_, rfl⟩
      have HZ : Hid _ := hz
      obtain ⟨a, ha⟩ : ∃ a, a = A.getD k 0 := ⟨_, rfl⟩
      obtain ⟨c, hc⟩ : ∃ c, c = C.getD k 0 := ⟨_, rfl⟩
      rw [← ha] at hcA ba hz
      rw [← hc] at hcC bc hz
      have hzb := lb_spec op a c ba.1 ba.2 bc.1 bc.2
      have HLB : Hid (z = lb op a c) := hz
      rw [← hz] at hzb
      have hz0 := hzb.1
      have hz1 := hzb.2.1
      have HR : Hid (BwRel op A C O k) := hR
      have hbut := (But.refl g3 wr).setCell k (.int .u32 z)
      clear hz ha hc hzb hR
      by_cases h6 : op = 6
      · have h6' : (op == 6) = true := beq_iff_eq.2 h6
        have ho : bits BinOp.and IntKind.u32 a c = lb op a c := by unfold lb; rw [if_pos h6]
        rw [← HLB.out] at ho
        go_wp2_with fail
        go_roundw
        case rel => exact ⟨k + 1, O.set k z, by omega, by go_num, BwRel.step HR.out ok3 ok4 (by omega) HZ.out, hrA.set k z, hbut.row hrC (by omega), hux.other hbut (by omega), hbel.trans (hbut.below (by omega))⟩
        case measure => simp [intOf]; omega
      · have h6' : (op == 6) = false := beq_eq_false_iff_ne.2 h6
        by_cases h7 : op = 7
        · have h7' : (op == 7) = true := beq_iff_eq.2 h7
          have ho : bits BinOp.or IntKind.u32 a c = lb op a c := by unfold lb; rw [if_neg h6, if_pos h7]
          rw [← HLB.out] at ho
          go_wp2_with fail
          go_roundw
          case rel => exact ⟨k + 1, O.set k z, by omega, by go_num, BwRel.step HR.out ok3 ok4 (by omega) HZ.out, hrA.set k z, hbut.row hrC (by omega), hux.other hbut (by omega), hbel.trans (hbut.below (by omega))⟩
          case measure => simp [intOf]; omega
        · have h7' : (op == 7) = false := beq_eq_false_iff_ne.2 h7
          have ho : bits BinOp.xor IntKind.u32 a c = lb op a c := by unfold lb; rw [if_neg h6, if_neg h7]
          rw [← HLB.out] at ho
          go_wp2_with fail
          go_roundw
          case rel => exact ⟨k + 1, O.set k z, by omega, by go_num, BwRel.step HR.out ok3 ok4 (by omega) HZ.out, hrA.set k z, hbut.row hrC (by omega), hux.other hbut (by omega), hbel.trans (hbut.below (by omega))⟩
          case measure => simp [intOf]; omega
    · obtain rfl : k = m + 1 := by omega
      have HR : Hid (BwRel op A C O (m + 1)) := hR
      have okO := hR.2.1
      have lenO : O.length = m + 1 := by rw [hR.1]; exact len3
      have sO := hrA.all okO (by omega)
      rw [lenO] at sO
      clear hR row3' row4 hBw
      go_wp2_with fail
      refine (gather_any _ O _ sO (by omega) (by omega)).mono ?_
      rintro e w5 ⟨ng, zg, sg5, rfl, tg, mg, hzg, bg⟩
      obtain ⟨pg, cg, rfl⟩ := tg.shape
      have ux := hux.under bg
      have HF : Hid (Z ng (V zg) = bitS op x y) := by
        show Z ng (V zg) = bz (fop op) 384 x y
        rw [hzg]
        have hr := HR.out
        have hx := hx12.out
        have hb := HB.out
        refine bz_one (fop op) 384 (by rw [T384]; exact hb.1.1) (by rw [T384]; exact hb.1.2) (by rw [T384]; exact hb.2.1) (by rw [T384]; exact hb.2.2) ?_
        exact bits_gather lenO ok3 ok4 okO (by omega) (by omega) (fun i hi => hr.2.2.1 i (by omega)) V3.out V4.out hx.1.1 hx.1.2 hx.2.1 hx.2.2
      have hbw := hbel.trans (bg.mono hbel.size)
      clear hzg bg HR hux hbel sO hrA hrC
      obtain ⟨d0, d1, g0, g1, l5⟩ := ux.facts
      go_wp2_with fail
      refine bodyPost_ret (results_box1 rfl _ _ (w.heap.size + 1 + 1) _ _ rfl ux.set) rfl ?_
      exact raw_end (neg := ng) hbw ux (by omega) tg mg HF.out
end Go.Proofs.YtbmondbicnfcpaaDoor

/-
  num.steps, num.shift: a number times 2^y, or by 2^-y, rounded down.
-/
namespace Go.Proofs.YtbmondbicnfcpaaDoor
open Go.RowKit
set_option linter.unusedVariables false

/-- How far a shift goes. -/
def farS (y : Int) : Int := min (y.natAbs : Int) 10000

set_option maxHeartbeats 2000000 in
theorem steps_any (va : Value) (y : Int) (w : World) (ha : IsN w va y) : Calls Tryd.prog 101 #[va] w fun e w' => e = .returned (.int .i64 (farS y)) ∧ Below w.heap.size w w' := by
  obtain ⟨n1, p1, z1, c1, rfl, t1, hg1, hy⟩ := ha.open
  have hb0 := (Below.refl w.heap.size w).alloc (Nat.le_refl _) (.cells #[.bool n1, .slice p1 z1.length c1] 26)
  have x0 := Bx.new w n1 p1 z1.length c1
  have t1' := t1.below hb0
  have hv := abs_Z n1 t1.ok
  rw [hy] at hv
  have HV : Hid ((y.natAbs : Int) = V z1) := hv
  have hnm := hg1.2.1
  have hl1 := hg1.1
  clear ha hg1 hy t1 hv
  go_enter Tryd.func101, Tryd.ntmps101
  go_wp2_with fail
  refine (signed_any false _ z1 _ t1').mono ?_
  intro e w1 h1
  obtain ⟨v1, rfl, i1, b1⟩ := h1.isN hnm hl1
  have hbw := hb0.trans (b1.mono hb0.size)
  clear h1 b1 hb0 x0 t1'
  obtain ⟨n2, p2, z2, c2, rfl, t2, hg2, hx2⟩ := i1.open
  have n1' := i1.nx
  go_wp2_with fail
  refine (int_any _ _ _ n1').mono ?_
  rintro e w2 ⟨rfl, b2⟩
  have hbw2 := hbw.trans (b2.mono hbw.size)
  have h0 := V_nonneg t2.ok
  have HV2 : Hid (Z false (V z1) = (y.natAbs : Int)) := HV.out.symm
  rw [HV2.out]
  clear n1' b2 hx2 hg2 t2 i1
  obtain ⟨k, hk⟩ : ∃ k : Int, k = (y.natAbs : Int) := ⟨_, rfl⟩
  have hk0 : 0 ≤ k := by omega
  have HF : Hid (farS y = min k 10000) := by rw [hk]; rfl
  rw [← hk]
  clear hk
  by_cases hb : k ≤ 9223372036854775807
  · have hi : intS k = some k := by unfold intS; rw [if_pos (by omega)]
    rw [hi]
    obtain ⟨f, hf⟩ : ∃ f, f = min k 10000 := ⟨_, rfl⟩
    have hm : (if 10000 < k then 10000 else k) = f := by split <;> omega
    rw [← hf] at HF
    clear hf
    clear hi
    go_wp2_with fail
    go_ret
    exact ⟨by rw [HF.out]; rfl, hbw2⟩
  · have hi : intS k = none := by unfold intS; rw [if_neg (by omega)]
    rw [hi]
    have HF2 : Hid (farS y = 10000) := by show farS y = 10000; rw [HF.out]; omega
    clear hi
    go_wp2_with fail
    go_ret
    exact ⟨by rw [HF2.out]; rfl, hbw2⟩
/-- A shift, up or down. -/
def shS (x y : Int) : Int := if 0 ≤ y then x * T (upN (farS y)) else x / T (downN (farS y))

theorem floor_neg {A t : Int} (ht : 0 < t) : -((A - 1) / t + 1) = -A / t := by
  have h1 := Int.emod_add_mul_ediv (A - 1) t
  have h2 := Int.emod_nonneg (A - 1) (show t ≠ 0 by omega)
  have h3 := Int.emod_lt_of_pos (A - 1) ht
  have e : t * -((A - 1) / t + 1) = -(t * ((A - 1) / t)) - t := by rw [Int.mul_neg, Int.mul_add, Int.mul_one]; omega
  exact ((Int.ediv_emod_unique ht (r := t - 1 - (A - 1) % t) (q := -((A - 1) / t + 1))).2 ⟨by rw [e]; omega, by omega, by omega⟩).1.symm

set_option maxHeartbeats 8000000 in
theorem shift_any (va vb : Value) (x y : Int) (w : World) (ha : IsN w va x) (hb : IsN w vb y) : Calls Tryd.prog 57 #[va, vb] w fun e w' => RawPost w (shS x y) e w' := by
  obtain ⟨n1, p1, z1, c1, rfl, t1, hg1, hx⟩ := ha.open
  have hb0 := hb
  obtain ⟨n2, p2, z2, c2, rfl, t2, hg2, hy⟩ := hb.open
  obtain ⟨hB, u1, u2, u3⟩ := boxes2 w n1 n2 p1 p2 z1.length c1 z2.length c2
  have l1 : z1.length ≤ 12 := hg1.1
  have sx := Z_pos hg1 t1.ok
  have sy := Z_pos hg2 t2.ok
  rw [hx] at sx
  rw [hy] at sy
  have HX : Hid (Z n1 (V z1) = x) := hx
  clear ha hb hx hy hg1 hg2 t2
  replace t1 := t1.below hB
  replace hb0 := hb0.below hB
  obtain ⟨k, hk⟩ : ∃ k, k = farS y := ⟨_, rfl⟩
  have hk0 : 0 ≤ k := by rw [hk]; unfold farS; omega
  have hk1 : k ≤ 10000 := by rw [hk]; unfold farS; omega
  have HS : Hid (shS x y = if 0 ≤ y then x * T (upN k) else x / T (downN k)) := by rw [hk]; rfl
  go_enter Tryd.func57, Tryd.ntmps57
  go_wp2_with fail
  refine (steps_any _ y _ hb0).mono ?_
  rintro e w0 ⟨rfl, b0⟩
  rw [← hk]
  clear hk hb0
  replace t1 := t1.below b0
  replace u1 := u1.under b0
  replace u2 := u2.under b0
  replace u3 := u3.under b0
  replace hB := hB.trans (b0.mono hB.size)
  clear b0
  obtain ⟨i0, i1, -⟩ := u1.facts
  obtain ⟨j0, j1, -⟩ := u2.facts
  cases n2
  · have hF : Hid (shS x y = x * T (upN k)) := by rw [HS.out, if_pos (sy.2 rfl)]; rfl
    clear sx sy HS
    go_wp2_with fail
    go_region_held3 (fun w' => w'.cell? ⟨w.heap.size, 0, none⟩ = some (.bool n1) ∧ w'.cell? ⟨w.heap.size, 1, none⟩ = some (.slice p1 z1.length c1))
      (first | exact u1.held ((Below.refl _ _).drew) | exact u1.held (by assumption) | exact u1.held3 b4' (by omega))
      (first
        | (go_at_call 102; refine (shl_any _ z1 k _ ?_ ?_).mono ?_; exact t1.below ((Below.refl _ _).drew); omega; rintro e w3 ⟨v3, z3, rfl, s3, m3, x3, l3, b3, -⟩; have b3' : Below w0.heap.size w0 w3 := (Below.refl _ _).drew.trans b3)
        | (go_at_call 53; refine (signed_any _ _ z3 _ ?_).mono ?_; exact s3; rintro e w4 ⟨s4, rfl, t4, b4⟩; have b4' : Below w0.heap.size w0 w4 := b3'.trans (b4.mono b3'.size); obtain ⟨c40, c41, f40, f41, l4⟩ := (u3.under b4').facts; obtain ⟨p4, c4, rfl⟩ := t4.shape))
    go_wp2_with fail
    refine bodyPost_ret (results_box1 rfl _ _ (w.heap.size + 1 + 1) _ _ rfl ((u3.under b4').set)) rfl ?_
    refine raw_end (neg := n1) (hB.trans (b4'.mono hB.size)) (u3.under b4') (by omega) t4 m3 ?_
    rw [hF.out, x3, ← HX.out]
    cases n1 <;> simp [Z, Int.neg_mul]
  · have hF : Hid (shS x y = x / T (downN k)) := by rw [HS.out, if_neg (by have := sy.1 rfl; omega)]; rfl
    clear HS sy
    cases n1
    · clear sx
      go_wp2_with fail
      refine (shr_any _ z1 k _ t1 (by omega) (by omega)).mono ?_
      rintro e w3 ⟨v3, z3, rfl, s3, m3, x3, l3, b3, -⟩
      have X3 : Hid _ := x3
      clear x3
      go_wp2_with fail
      refine (signed_any _ _ z3 _ s3).mono ?_
      rintro e w4 ⟨s4, rfl, t4, b4⟩
      obtain ⟨p4, c4, rfl⟩ := t4.shape
      have b4' := b3.trans (b4.mono b3.size)
      obtain ⟨c40, c41, f40, f41, l4⟩ := (u3.under b4').facts
      go_wp2_with fail
      refine bodyPost_ret (results_box1 rfl _ _ (w.heap.size + 1 + 1) _ _ rfl ((u3.under b4').set)) rfl ?_
      refine raw_end (neg := false) (hB.trans (b4'.mono hB.size)) (u3.under b4') (by omega) t4 m3 ?_
      rw [hF.out, X3.out, ← HX.out]
      rfl
    · have HN : Hid (x < 0) := sx.1 rfl
      clear sx
      go_wp2_with fail
      refine (oneLess_any _ z1 _ t1 (by omega)).mono ?_
      rintro e w2 ⟨v2, z2', rfl, s2, m2, x2, l2, b2, -⟩
      have X2 : Hid _ := x2
      clear x2
      go_wp2_with fail
      refine (shr_any _ z2' k _ s2 (by omega) (by omega)).mono ?_
      rintro e w3 ⟨v3, z3, rfl, s3, m3, x3, l3, b3, -⟩
      have X3 : Hid _ := x3
      clear x3
      go_wp2_with fail
      refine (oneMore_any _ z3 _ s3 (by omega)).mono ?_
      rintro e w5 ⟨v5, z5, rfl, s5, m5, x5, l5, b5, -⟩
      have X5 : Hid _ := x5
      clear x5
      go_wp2_with fail
      refine (signed_any _ _ z5 _ s5).mono ?_
      rintro e w4 ⟨s4, rfl, t4, b4⟩
      obtain ⟨p4, c4, rfl⟩ := t4.shape
      have b23 := b2.trans (b3.mono b2.size)
      have b25 := b23.trans (b5.mono b23.size)
      have b4' := b25.trans (b4.mono b25.size)
      obtain ⟨c40, c41, f40, f41, l4⟩ := (u3.under b4').facts
      go_wp2_with fail
      refine bodyPost_ret (results_box1 rfl _ _ (w.heap.size + 1 + 1) _ _ rfl ((u3.under b4').set)) rfl ?_
      refine raw_end (neg := true) (hB.trans (b4'.mono hB.size)) (u3.under b4') (by omega) t4 m5 ?_
      have h1 := HX.out
      have h2 := HN.out
      simp only [Z, if_true] at h1 ⊢
      rw [hF.out, X5.out, X3.out, X2.out, subV, if_pos (by omega), floor_neg (T_pos _), h1]
end Go.Proofs.YtbmondbicnfcpaaDoor

/-
  num.Op: two numbers put together.
-/
namespace Go.Proofs.YtbmondbicnfcpaaDoor
open Go.RowKit
set_option linter.unusedVariables false
attribute [local go_sem ↓] Go.wp_at_zero Go.wp_at_succ

/-- What Op answers: the number, if it has room, and there is one. -/
def opS (op x y : Int) : Option Int :=
  if op = 1 then fitS (x + y) else if op = 2 then fitS (x - y) else if op = 3 then fitS (x * y) else if op = 4 ∨ op = 5 then divS op x y
  else if op = 6 ∨ op = 7 ∨ op = 8 then fitS (bitS op x y) else if op = 9 then fitS (shS x y) else if op = 10 then fitS (shS x (-y)) else none

theorem opS_1 (x y : Int) : opS 1 x y = fitS (x + y) := by simp [opS]
theorem opS_2 (x y : Int) : opS 2 x y = fitS (x - y) := by simp [opS]
theorem opS_3 (x y : Int) : opS 3 x y = fitS (x * y) := by simp [opS]
theorem opS_4 (x y : Int) : opS 4 x y = divS 4 x y := by simp [opS]
theorem opS_5 (x y : Int) : opS 5 x y = divS 5 x y := by simp [opS]
theorem opS_6 (x y : Int) : opS 6 x y = fitS (bitS 6 x y) := by simp [opS]
theorem opS_7 (x y : Int) : opS 7 x y = fitS (bitS 7 x y) := by simp [opS]
theorem opS_8 (x y : Int) : opS 8 x y = fitS (bitS 8 x y) := by simp [opS]
theorem opS_9 (x y : Int) : opS 9 x y = fitS (shS x y) := by simp [opS]
theorem opS_10 (x y : Int) : opS 10 x y = fitS (shS x (-y)) := by simp [opS]

/-- Behind the beginning: two boxes hold numbers that may be, the third is the result's. -/
def Three (w : World) (g : Nat) (x y : Int) (wc : World) : Prop := Two w g x y wc ∧ Bx wc (g + 1 + 1) false (.slice none 0 0)

set_option maxHeartbeats 8000000 in
set_option maxRecDepth 100000 in
theorem op_any (op : Int) (va vb : Value) (x y : Int) (w : World) (ha : Nx w va x) (hb : Nx w vb y) : Calls Tryd.prog 25 #[.int .i64 op, va, vb] w fun e w' => OpPost w (opS op x y) e w' := by
  obtain ⟨rr, hrr⟩ : ∃ rr, rr = opS op x y := ⟨_, rfl⟩
  rw [← hrr]
  have HRR : Hid (rr = opS op x y) := hrr
  clear hrr
  have ha0 := ha
  have hb0 := hb
  obtain ⟨na, za, ⟨sa, rfl, hsa⟩, -⟩ := ha
  obtain ⟨nb, zb, ⟨sb, rfl, hsb⟩, -⟩ := hb
  obtain ⟨pa, ca, rfl⟩ := hsa.shape
  obtain ⟨pb, cb, rfl⟩ := hsb.shape
  obtain ⟨hB0, xa, xb, xr⟩ := boxes2 w na nb pa pb za.length ca zb.length cb
  clear hsa hsb
  go_enter Tryd.func25, Tryd.ntmps25
  go_wp2_with fail
  replace ha0 := ha0.below hB0
  replace hb0 := hb0.below hB0
  generalize hw0 : ((w.alloc (.cells #[.bool na, .slice pa za.length ca] 26)).alloc (.cells #[.bool nb, .slice pb zb.length cb] 26)).alloc (.cells #[.bool false, .slice none 0 0] 26) = w0 at *
  clear hw0
  obtain ⟨i0, i1, -⟩ := xa.facts
  obtain ⟨j0, j1, -⟩ := xb.facts
  go_cut [] from 8 (fun wc => Three w w.heap.size x y wc)
  case first =>
    go_region_with (first
      | (go_at_call_of 50 (Value.slice pa za.length ca); refine (taken_any _ x _ ?_).mono ?_; exact ha0.below ((Below.refl _ _).drew); rintro e w1 ⟨v1, rfl, ⟨n1, z1, ⟨s1, rfl, t1⟩, hg1, hx1⟩, hb1⟩; have hB1 : Below w0.heap.size w0 w1 := (Below.refl _ _).drew.trans hb1; obtain ⟨c10, c11, f10, f11, l1⟩ := (xb.under hB1).facts)
      | (go_at_call_of 50 (Value.slice pb zb.length cb); refine (taken_any _ y _ ?_).mono ?_; exact hb0.below hB1; rintro e w2 ⟨v2, rfl, ⟨n2, z2, ⟨s2, rfl, t2⟩, hg2, hx2⟩, hb2⟩; have hB2 : Below w0.heap.size w0 w2 := hB1.trans (hb2.mono hB1.size); obtain ⟨p1, c1, rfl⟩ := t1.shape; obtain ⟨p2, c2, rfl⟩ := t2.shape; obtain ⟨d20, d21, g20, g21, l2⟩ := (xa.under hB2).facts; obtain ⟨c20, c21, f20, f21, l3⟩ := (xb.under hB2).facts))
    all_goals
      go_wp2_with fail
      go_meet
      case rel => exact ⟨Two.mk (xa.under hB2) (xb.under hB2) (t1.below hb2) t2 hg1 hg2 hx1 hx2 (hB0.trans (hB2.mono hB0.size)) (Nat.le_refl _), ((xr.under hB2).other (setBx_but _ _ _ _) (by omega)).other (setBx_but _ _ _ _) (by omega)⟩
  case rest =>
    obtain ⟨⟨n1, p1, c1, z1, n2, p2, c2, z2, u1, u2, t1, t2, hg1, hg2, hx, hy, hB⟩, u3⟩ := hcut
    clear ha0 hb0 xa xb xr hB0 i0 i1 j0 j1
    have iA : IsN wc (.agg #[.bool n1, .slice p1 z1.length c1]) x := ⟨n1, z1, ⟨_, rfl, t1⟩, hg1, hx⟩
    have iB : IsN wc (.agg #[.bool n2, .slice p2 z2.length c2]) y := ⟨n2, z2, ⟨_, rfl, t2⟩, hg2, hy⟩
    obtain ⟨i0, i1, ia, ib, ic⟩ := u1.facts
    obtain ⟨j0, j1, ja, jb, jc⟩ := u2.facts
    obtain ⟨k0, k1, ka, kb, kc⟩ := u3.facts
    by_cases h1 : op = 1
    · as_aux_lemma =>
        subst h1
        have HO : Hid (rr = fitS (x + y)) := HRR.out.trans (opS_1 x y)
        go_wp2_with fail
        refine (sum_any _ _ x y _ iA iB).mono ?_
        rintro e w1 ⟨ng, zg, s1, rfl, tg, mg, hz, b1⟩
        obtain ⟨pg, cg, rfl⟩ := tg.shape
        go_wp2_with fail
        refine (fit_signed ng _ zg _ tg mg).mono ?_
        rw [hz]
        rintro e w9 ⟨v9, rfl, i9, b9⟩
        obtain ⟨n9, p9, z9, c9, rfl, t9, hg9, hx9⟩ := i9.open
        have b99 := b1.trans (b9.mono b1.size)
        have u9 := u3.under b99
        have hB9 := hB.trans (b99.mono hB.size)
        have HG : Hid (Good n9 z9) := hg9
        rw [← HO.out] at hx9
        rw [← HO.out]
        have HX : Hid (Z n9 (V z9) = rr.getD 0) := hx9
        clear hg9 hx9 i9
        obtain ⟨m0, m1, ma, mb, mc⟩ := u9.facts
        go_wp2_with fail
        refine bodyPost_ret (results_box2 rfl _ _ (w.heap.size + 1 + 1) _ _ rfl u9.set) rfl ?_
        exact ⟨_, rfl, ⟨n9, z9, ⟨_, rfl, t9.box u9 (setBx_but _ _ _ _)⟩, HG.out, HX.out⟩, hB9.trans ((setBx_but _ _ _ _).below (by omega))⟩
    by_cases h2 : op = 2
    · as_aux_lemma =>
        subst h2
        have HO : Hid (rr = fitS (x + -y)) := HRR.out.trans (by rw [opS_2, Int.sub_eq_add_neg])
        go_wp2_with fail
        refine (neg_any _ y _ iB.nx).mono ?_
        rintro e w5 ⟨v5, rfl, i5, b5⟩
        obtain ⟨n5, p5, z5, c5, rfl, t5, hg5, hx5⟩ := i5.open
        have q1 := u1.under b5
        have q2 := u2.under b5
        have q3 := u3.under b5
        have iA5 := iA.below b5
        have hB5 := hB.trans (b5.mono hB.size)
        have HG5 : Hid (Good n5 z5) := hg5
        have HX5 : Hid (Z n5 (V z5) = -y) := hx5
        clear u1 u2 u3 iA iB hB b5 i0 i1 ia ib ic j0 j1 ja jb jc k0 k1 ka kb kc t1 t2 hg1 hg2 hx hy i5 hg5 hx5
        obtain ⟨i0, i1, ia, ib, ic⟩ := q1.facts
        obtain ⟨j0, j1, ja, jb, jc⟩ := q2.facts
        go_wp2_with fail
        simp only [setBx_eq]
        have hbut := setBx_but w5 (w.heap.size + 1) n5 (.slice p5 z5.length c5)
        have u1 := q1.other hbut (by omega)
        have u2 := q2.set (neg' := n5) (p := p5) (n := z5.length) (c := c5)
        have u3 := q3.other hbut (by omega)
        have iA := iA5.box q2 hbut
        have iB : IsN (setBx w5 (w.heap.size + 1) n5 (.slice p5 z5.length c5)) (.agg #[.bool n5, .slice p5 z5.length c5]) (-y) := ⟨n5, z5, ⟨_, rfl, t5.box q2 hbut⟩, HG5.out, HX5.out⟩
        have hB := hB5.trans (hbut.below (show w.heap.size ≤ w.heap.size + 1 by omega))
        clear q1 q2 q3 iA5 hB5 hbut HG5 HX5 t5 i0 i1 ia ib ic j0 j1 ja jb jc
        generalize setBx w5 (w.heap.size + 1) n5 (.slice p5 z5.length c5) = wd at *
        obtain ⟨i0, i1, ia, ib, ic⟩ := u1.facts
        obtain ⟨j0, j1, ja, jb, jc⟩ := u2.facts
        obtain ⟨k0, k1, ka, kb, kc⟩ := u3.facts
        go_wp2_with fail
        refine (sum_any _ _ x (-y) _ iA iB).mono ?_
        rintro e w1 ⟨ng, zg, s1, rfl, tg, mg, hz, b1⟩
        obtain ⟨pg, cg, rfl⟩ := tg.shape
        go_wp2_with fail
        refine (fit_signed ng _ zg _ tg mg).mono ?_
        rw [hz]
        rintro e w9 ⟨v9, rfl, i9, b9⟩
        obtain ⟨n9, p9, z9, c9, rfl, t9, hg9, hx9⟩ := i9.open
        have b99 := b1.trans (b9.mono b1.size)
        have u9 := u3.under b99
        have hB9 := hB.trans (b99.mono hB.size)
        have HG : Hid (Good n9 z9) := hg9
        rw [← HO.out] at hx9
        rw [← HO.out]
        have HX : Hid (Z n9 (V z9) = rr.getD 0) := hx9
        clear hg9 hx9 i9
        obtain ⟨m0, m1, ma, mb, mc⟩ := u9.facts
        go_wp2_with fail
        refine bodyPost_ret (results_box2 rfl _ _ (w.heap.size + 1 + 1) _ _ rfl u9.set) rfl ?_
        exact ⟨_, rfl, ⟨n9, z9, ⟨_, rfl, t9.box u9 (setBx_but _ _ _ _)⟩, HG.out, HX.out⟩, hB9.trans ((setBx_but _ _ _ _).below (by omega))⟩
    by_cases h3 : op = 3
    · as_aux_lemma =>
        subst h3
        have HO : Hid (rr = fitS (x * y)) := HRR.out.trans (opS_3 x y)
        have l1 : z1.length ≤ 12 := hg1.1
        have l2 : z2.length ≤ 12 := hg2.1
        have HX1 : Hid (Z n1 (V z1) = x) := hx
        have HY1 : Hid (Z n2 (V z2) = y) := hy
        clear hx hy hg1 hg2 iA iB
        go_wp2_with fail
        go_region_held3 (fun w' => (w'.cell? ⟨w.heap.size, 0, none⟩ = some (.bool n1) ∧ w'.cell? ⟨w.heap.size, 1, none⟩ = some (.slice p1 z1.length c1)) ∧ w'.cell? ⟨w.heap.size + 1, 0, none⟩ = some (.bool n2) ∧ w'.cell? ⟨w.heap.size + 1, 1, none⟩ = some (.slice p2 z2.length c2))
          (first | exact ⟨u1.held ((Below.refl _ _).drew), u2.held ((Below.refl _ _).drew)⟩ | exact ⟨u1.held hk5, u2.held hk5⟩ | exact ⟨u1.held hk4, u2.held hk4⟩ | exact ⟨u1.held hk3, u2.held hk3⟩ | exact ⟨u1.held3 hk5 (by omega), u2.held3 hk5 (by omega)⟩)
          (first
            | (go_at_call 54; refine (mul_any _ _ z1 z2 _ ?_ ?_ ?_ ?_).mono ?_; exact t1.below ((Below.refl _ _).drew); exact t2.below ((Below.refl _ _).drew); omega; omega; rintro e w3 ⟨v3, z3, rfl, s3, m3, x3, l3, b3, -⟩; have X3 : Hid (V z3 = V z1 * V z2) := x3; clear x3; have hk3 : Below wc.heap.size wc w3 := (Below.refl _ _).drew.trans b3)
            | (go_at_call 53; refine (signed_any _ _ z3 _ ?_).mono ?_; exact s3; rintro e w4 ⟨s4, rfl, t4, b4⟩; have hk4 : Below wc.heap.size wc w4 := hk3.trans (b4.mono hk3.size); obtain ⟨p4, c4, rfl⟩ := t4.shape)
            | (go_at_call 51; refine (fit_signed (n1 != n2) _ z3 _ ?_ ?_).mono ?_; exact t4; exact m3; rintro e w5 ⟨v5, rfl, i5, b5⟩; have hk5 : Below wc.heap.size wc w5 := hk4.trans (b5.mono hk4.size); obtain ⟨n9, p9, z9, c9, rfl, t9, hg9, hx9⟩ := i5.open; obtain ⟨m0, m1, ma, mb, mc⟩ := (u3.under hk5).facts))
        have e : fitS (Z (n1 != n2) (V z3)) = fitS (x * y) := by
          rw [X3.out, ← HX1.out, ← HY1.out]
          cases n1 <;> cases n2 <;> simp [Z, Int.neg_mul, Int.mul_neg]
        rw [e, ← HO.out] at hx9
        rw [e, ← HO.out]
        have hB9 := hB.trans (hk5.mono hB.size)
        have u9 := u3.under hk5
        go_wp2_with fail
        refine bodyPost_ret (results_box2 rfl _ _ (w.heap.size + 1 + 1) _ _ rfl u9.set) rfl ?_
        exact ⟨_, rfl, ⟨n9, z9, ⟨_, rfl, t9.box u9 (setBx_but _ _ _ _)⟩, hg9, hx9⟩, hB9.trans ((setBx_but _ _ _ _).below (by omega))⟩
    by_cases h4 : op = 4
    · as_aux_lemma =>
        subst h4
        have HO : Hid (rr = divS 4 x y) := HRR.out.trans (opS_4 x y)
        go_wp2_with fail
        refine (ndivide_any 4 _ _ x y _ iA iB).mono ?_
        rintro e w9 ⟨v9, rfl, i9, b9⟩
        obtain ⟨n9, p9, z9, c9, rfl, t9, hg9, hx9⟩ := i9.open
        have b99 := b9
        have u9 := u3.under b99
        have hB9 := hB.trans (b99.mono hB.size)
        have HG : Hid (Good n9 z9) := hg9
        rw [← HO.out] at hx9
        rw [← HO.out]
        have HX : Hid (Z n9 (V z9) = rr.getD 0) := hx9
        clear hg9 hx9 i9
        obtain ⟨m0, m1, ma, mb, mc⟩ := u9.facts
        go_wp2_with fail
        refine bodyPost_ret (results_box2 rfl _ _ (w.heap.size + 1 + 1) _ _ rfl u9.set) rfl ?_
        exact ⟨_, rfl, ⟨n9, z9, ⟨_, rfl, t9.box u9 (setBx_but _ _ _ _)⟩, HG.out, HX.out⟩, hB9.trans ((setBx_but _ _ _ _).below (by omega))⟩
    by_cases h5 : op = 5
    · as_aux_lemma =>
        subst h5
        have HO : Hid (rr = divS 5 x y) := HRR.out.trans (opS_5 x y)
        go_wp2_with fail
        refine (ndivide_any 5 _ _ x y _ iA iB).mono ?_
        rintro e w9 ⟨v9, rfl, i9, b9⟩
        obtain ⟨n9, p9, z9, c9, rfl, t9, hg9, hx9⟩ := i9.open
        have b99 := b9
        have u9 := u3.under b99
        have hB9 := hB.trans (b99.mono hB.size)
        have HG : Hid (Good n9 z9) := hg9
        rw [← HO.out] at hx9
        rw [← HO.out]
        have HX : Hid (Z n9 (V z9) = rr.getD 0) := hx9
        clear hg9 hx9 i9
        obtain ⟨m0, m1, ma, mb, mc⟩ := u9.facts
        go_wp2_with fail
        refine bodyPost_ret (results_box2 rfl _ _ (w.heap.size + 1 + 1) _ _ rfl u9.set) rfl ?_
        exact ⟨_, rfl, ⟨n9, z9, ⟨_, rfl, t9.box u9 (setBx_but _ _ _ _)⟩, HG.out, HX.out⟩, hB9.trans ((setBx_but _ _ _ _).below (by omega))⟩
    by_cases h6 : op = 6
    · as_aux_lemma =>
        subst h6
        have HO : Hid (rr = fitS (bitS 6 x y)) := HRR.out.trans (opS_6 x y)
        go_wp2_with fail
        refine (bitwise_any 6 _ _ x y _ iA iB).mono ?_
        rintro e w1 ⟨ng, zg, s1, rfl, tg, mg, hz, b1⟩
        obtain ⟨pg, cg, rfl⟩ := tg.shape
        go_wp2_with fail
        refine (fit_signed ng _ zg _ tg mg).mono ?_
        rw [hz]
        rintro e w9 ⟨v9, rfl, i9, b9⟩
        obtain ⟨n9, p9, z9, c9, rfl, t9, hg9, hx9⟩ := i9.open
        have b99 := b1.trans (b9.mono b1.size)
        have u9 := u3.under b99
        have hB9 := hB.trans (b99.mono hB.size)
        have HG : Hid (Good n9 z9) := hg9
        rw [← HO.out] at hx9
        rw [← HO.out]
        have HX : Hid (Z n9 (V z9) = rr.getD 0) := hx9
        clear hg9 hx9 i9
        obtain ⟨m0, m1, ma, mb, mc⟩ := u9.facts
        go_wp2_with fail
        refine bodyPost_ret (results_box2 rfl _ _ (w.heap.size + 1 + 1) _ _ rfl u9.set) rfl ?_
        exact ⟨_, rfl, ⟨n9, z9, ⟨_, rfl, t9.box u9 (setBx_but _ _ _ _)⟩, HG.out, HX.out⟩, hB9.trans ((setBx_but _ _ _ _).below (by omega))⟩
    by_cases h7 : op = 7
    · as_aux_lemma =>
        subst h7
        have HO : Hid (rr = fitS (bitS 7 x y)) := HRR.out.trans (opS_7 x y)
        go_wp2_with fail
        refine (bitwise_any 7 _ _ x y _ iA iB).mono ?_
        rintro e w1 ⟨ng, zg, s1, rfl, tg, mg, hz, b1⟩
        obtain ⟨pg, cg, rfl⟩ := tg.shape
        go_wp2_with fail
        refine (fit_signed ng _ zg _ tg mg).mono ?_
        rw [hz]
        rintro e w9 ⟨v9, rfl, i9, b9⟩
        obtain ⟨n9, p9, z9, c9, rfl, t9, hg9, hx9⟩ := i9.open
        have b99 := b1.trans (b9.mono b1.size)
        have u9 := u3.under b99
        have hB9 := hB.trans (b99.mono hB.size)
        have HG : Hid (Good n9 z9) := hg9
        rw [← HO.out] at hx9
        rw [← HO.out]
        have HX : Hid (Z n9 (V z9) = rr.getD 0) := hx9
        clear hg9 hx9 i9
        obtain ⟨m0, m1, ma, mb, mc⟩ := u9.facts
        go_wp2_with fail
        refine bodyPost_ret (results_box2 rfl _ _ (w.heap.size + 1 + 1) _ _ rfl u9.set) rfl ?_
        exact ⟨_, rfl, ⟨n9, z9, ⟨_, rfl, t9.box u9 (setBx_but _ _ _ _)⟩, HG.out, HX.out⟩, hB9.trans ((setBx_but _ _ _ _).below (by omega))⟩
    by_cases h8 : op = 8
    · as_aux_lemma =>
        subst h8
        have HO : Hid (rr = fitS (bitS 8 x y)) := HRR.out.trans (opS_8 x y)
        go_wp2_with fail
        refine (bitwise_any 8 _ _ x y _ iA iB).mono ?_
        rintro e w1 ⟨ng, zg, s1, rfl, tg, mg, hz, b1⟩
        obtain ⟨pg, cg, rfl⟩ := tg.shape
        go_wp2_with fail
        refine (fit_signed ng _ zg _ tg mg).mono ?_
        rw [hz]
        rintro e w9 ⟨v9, rfl, i9, b9⟩
        obtain ⟨n9, p9, z9, c9, rfl, t9, hg9, hx9⟩ := i9.open
        have b99 := b1.trans (b9.mono b1.size)
        have u9 := u3.under b99
        have hB9 := hB.trans (b99.mono hB.size)
        have HG : Hid (Good n9 z9) := hg9
        rw [← HO.out] at hx9
        rw [← HO.out]
        have HX : Hid (Z n9 (V z9) = rr.getD 0) := hx9
        clear hg9 hx9 i9
        obtain ⟨m0, m1, ma, mb, mc⟩ := u9.facts
        go_wp2_with fail
        refine bodyPost_ret (results_box2 rfl _ _ (w.heap.size + 1 + 1) _ _ rfl u9.set) rfl ?_
        exact ⟨_, rfl, ⟨n9, z9, ⟨_, rfl, t9.box u9 (setBx_but _ _ _ _)⟩, HG.out, HX.out⟩, hB9.trans ((setBx_but _ _ _ _).below (by omega))⟩
    by_cases h9 : op = 9
    · as_aux_lemma =>
        subst h9
        have HO : Hid (rr = fitS (shS x y)) := HRR.out.trans (opS_9 x y)
        go_wp2_with fail
        refine (shift_any _ _ x y _ iA iB).mono ?_
        rintro e w1 ⟨ng, zg, s1, rfl, tg, mg, hz, b1⟩
        obtain ⟨pg, cg, rfl⟩ := tg.shape
        go_wp2_with fail
        refine (fit_signed ng _ zg _ tg mg).mono ?_
        rw [hz]
        rintro e w9 ⟨v9, rfl, i9, b9⟩
        obtain ⟨n9, p9, z9, c9, rfl, t9, hg9, hx9⟩ := i9.open
        have b99 := b1.trans (b9.mono b1.size)
        have u9 := u3.under b99
        have hB9 := hB.trans (b99.mono hB.size)
        have HG : Hid (Good n9 z9) := hg9
        rw [← HO.out] at hx9
        rw [← HO.out]
        have HX : Hid (Z n9 (V z9) = rr.getD 0) := hx9
        clear hg9 hx9 i9
        obtain ⟨m0, m1, ma, mb, mc⟩ := u9.facts
        go_wp2_with fail
        refine bodyPost_ret (results_box2 rfl _ _ (w.heap.size + 1 + 1) _ _ rfl u9.set) rfl ?_
        exact ⟨_, rfl, ⟨n9, z9, ⟨_, rfl, t9.box u9 (setBx_but _ _ _ _)⟩, HG.out, HX.out⟩, hB9.trans ((setBx_but _ _ _ _).below (by omega))⟩
    by_cases h10 : op = 10
    · as_aux_lemma =>
        subst h10
        have HO : Hid (rr = fitS (shS x (-y))) := HRR.out.trans (opS_10 x y)
        go_wp2_with fail
        refine (neg_any _ y _ iB.nx).mono ?_
        rintro e w5 ⟨v5, rfl, i5, b5⟩
        obtain ⟨n5, p5, z5, c5, rfl, t5, hg5, hx5⟩ := i5.open
        have q1 := u1.under b5
        have q2 := u2.under b5
        have q3 := u3.under b5
        have iA5 := iA.below b5
        have hB5 := hB.trans (b5.mono hB.size)
        have HG5 : Hid (Good n5 z5) := hg5
        have HX5 : Hid (Z n5 (V z5) = -y) := hx5
        clear u1 u2 u3 iA iB hB b5 i0 i1 ia ib ic j0 j1 ja jb jc k0 k1 ka kb kc t1 t2 hg1 hg2 hx hy i5 hg5 hx5
        obtain ⟨i0, i1, ia, ib, ic⟩ := q1.facts
        obtain ⟨j0, j1, ja, jb, jc⟩ := q2.facts
        go_wp2_with fail
        simp only [setBx_eq]
        have hbut := setBx_but w5 (w.heap.size + 1) n5 (.slice p5 z5.length c5)
        have u1 := q1.other hbut (by omega)
        have u2 := q2.set (neg' := n5) (p := p5) (n := z5.length) (c := c5)
        have u3 := q3.other hbut (by omega)
        have iA := iA5.box q2 hbut
        have iB : IsN (setBx w5 (w.heap.size + 1) n5 (.slice p5 z5.length c5)) (.agg #[.bool n5, .slice p5 z5.length c5]) (-y) := ⟨n5, z5, ⟨_, rfl, t5.box q2 hbut⟩, HG5.out, HX5.out⟩
        have hB := hB5.trans (hbut.below (show w.heap.size ≤ w.heap.size + 1 by omega))
        clear q1 q2 q3 iA5 hB5 hbut HG5 HX5 t5 i0 i1 ia ib ic j0 j1 ja jb jc
        generalize setBx w5 (w.heap.size + 1) n5 (.slice p5 z5.length c5) = wd at *
        obtain ⟨i0, i1, ia, ib, ic⟩ := u1.facts
        obtain ⟨j0, j1, ja, jb, jc⟩ := u2.facts
        obtain ⟨k0, k1, ka, kb, kc⟩ := u3.facts
        go_wp2_with fail
        refine (shift_any _ _ x (-y) _ iA iB).mono ?_
        rintro e w1 ⟨ng, zg, s1, rfl, tg, mg, hz, b1⟩
        obtain ⟨pg, cg, rfl⟩ := tg.shape
        go_wp2_with fail
        refine (fit_signed ng _ zg _ tg mg).mono ?_
        rw [hz]
        rintro e w9 ⟨v9, rfl, i9, b9⟩
        obtain ⟨n9, p9, z9, c9, rfl, t9, hg9, hx9⟩ := i9.open
        have b99 := b1.trans (b9.mono b1.size)
        have u9 := u3.under b99
        have hB9 := hB.trans (b99.mono hB.size)
        have HG : Hid (Good n9 z9) := hg9
        rw [← HO.out] at hx9
        rw [← HO.out]
        have HX : Hid (Z n9 (V z9) = rr.getD 0) := hx9
        clear hg9 hx9 i9
        obtain ⟨m0, m1, ma, mb, mc⟩ := u9.facts
        go_wp2_with fail
        refine bodyPost_ret (results_box2 rfl _ _ (w.heap.size + 1 + 1) _ _ rfl u9.set) rfl ?_
        exact ⟨_, rfl, ⟨n9, z9, ⟨_, rfl, t9.box u9 (setBx_but _ _ _ _)⟩, HG.out, HX.out⟩, hB9.trans ((setBx_but _ _ _ _).below (by omega))⟩
    have h1' : (op == 1) = false := beq_eq_false_iff_ne.2 h1
    have h2' : (op == 2) = false := beq_eq_false_iff_ne.2 h2
    have h3' : (op == 3) = false := beq_eq_false_iff_ne.2 h3
    have h4' : (op == 4) = false := beq_eq_false_iff_ne.2 h4
    have h5' : (op == 5) = false := beq_eq_false_iff_ne.2 h5
    have h6' : (op == 6) = false := beq_eq_false_iff_ne.2 h6
    have h7' : (op == 7) = false := beq_eq_false_iff_ne.2 h7
    have h8' : (op == 8) = false := beq_eq_false_iff_ne.2 h8
    have h9' : (op == 9) = false := beq_eq_false_iff_ne.2 h9
    have h10' : (op == 10) = false := beq_eq_false_iff_ne.2 h10
    have HO : Hid (rr = none) := by
      show rr = none
      rw [HRR.out]
      simp [opS, h1, h2, h3, h4, h5, h6, h7, h8, h9, h10]
    clear h1 h2 h3 h4 h5 h6 h7 h8 h9 h10
    go_wp2_with fail
    refine bodyPost_ret (results_box2 rfl _ _ (w.heap.size + 1 + 1) _ _ rfl u3.set) rfl ?_
    rw [HO.out]
    exact ⟨_, rfl, IsN.zero _, hB.trans ((setBx_but wc (w.heap.size + 1 + 1) false _).below (by omega))⟩
end Go.Proofs.YtbmondbicnfcpaaDoor
