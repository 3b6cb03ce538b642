/-
  Plain mathematics for the law NumInts: and, or, exclusive or of int are those of numbers; the answers of Op over small integers.
-/
import Derived.Test.YtnfkaddjikimdaaNumRefC
namespace Go.Proofs.Ytnfkaddjikimdaa
open Go.RowKit
set_option linter.unusedVariables false

theorem T64 : T 64 = 18446744073709551616 := by decide
theorem T63 : T 63 = 9223372036854775808 := by decide

theorem bt_ofInt (x : Int) (i : Nat) (hi : i < 64) : (BitVec.ofInt 64 x).toNat.testBit i = bt x i := by
  rw [← bt_nat, ← bt_mod 64 x i hi, BitVec.toNat_ofInt]
  congr 1
  rw [T64]
  have : (0 : Int) ≤ x % 18446744073709551616 := Int.emod_nonneg _ (by decide)
  show (((x % ((2 ^ 64 : Nat) : Int)).toNat : Nat) : Int) = _
  rw [show (((2 : Nat) ^ 64 : Nat) : Int) = 18446744073709551616 by decide]
  omega

theorem i64_bits (f : Bool → Bool → Bool) (N : Nat) (x y : Int) (hx0 : -9223372036854775808 ≤ x) (hx1 : x ≤ 9223372036854775807) (hy0 : -9223372036854775808 ≤ y) (hy1 : y ≤ 9223372036854775807)
    (hN : N < 18446744073709551616) (h : ∀ i, i < 64 → N.testBit i = f (bt x i) (bt y i)) : IntKind.i64.wrap (N : Int) = bz f 384 x y := by
  have hm := T_mono (show 63 ≤ 384 by omega)
  rw [T63] at hm
  obtain ⟨r, hr⟩ : ∃ r, r = IntKind.i64.wrap (N : Int) := ⟨_, rfl⟩
  rw [← hr]
  rw [IntKind.wrap_i64] at hr
  have hlow : ∀ i, i < 64 → bt r i = f (bt x i) (bt y i) := fun i hi => by
    rw [← h i hi, ← bt_nat, ← bt_mod 64 r i hi]
    congr 1
    rw [T64]; omega
  refine bz_one f 384 (by omega) (by omega) (by omega) (by omega) (fun i => ?_)
  by_cases hi : i < 64
  · exact hlow i hi
  · have e := hlow 63 (by omega)
    rw [bt_sign 63 r (by rw [T63]; omega) (by rw [T63]; omega) 63 (by omega), bt_sign 63 x (by rw [T63]; omega) (by rw [T63]; omega) 63 (by omega), bt_sign 63 y (by rw [T63]; omega) (by rw [T63]; omega) 63 (by omega)] at e
    rw [bt_sign 63 r (by rw [T63]; omega) (by rw [T63]; omega) i (by omega), bt_sign 63 x (by rw [T63]; omega) (by rw [T63]; omega) i (by omega), bt_sign 63 y (by rw [T63]; omega) (by rw [T63]; omega) i (by omega)]
    exact e

theorem i64_and (x y : Int) (hx0 : -9223372036854775808 ≤ x) (hx1 : x ≤ 9223372036854775807) (hy0 : -9223372036854775808 ≤ y) (hy1 : y ≤ 9223372036854775807) : bits .and .i64 x y = bitS 6 x y := by
  refine i64_bits (fop 6) _ x y hx0 hx1 hy0 hy1 ?_ ?_
  · exact (BitVec.ofInt 64 x &&& BitVec.ofInt 64 y).isLt
  · intro i hi
    show (BitVec.ofInt 64 x &&& BitVec.ofInt 64 y).toNat.testBit i = _
    rw [BitVec.toNat_and, Nat.testBit_and, bt_ofInt x i hi, bt_ofInt y i hi]
    simp [fop]
theorem i64_or (x y : Int) (hx0 : -9223372036854775808 ≤ x) (hx1 : x ≤ 9223372036854775807) (hy0 : -9223372036854775808 ≤ y) (hy1 : y ≤ 9223372036854775807) : bits .or .i64 x y = bitS 7 x y := by
  refine i64_bits (fop 7) _ x y hx0 hx1 hy0 hy1 ?_ ?_
  · exact (BitVec.ofInt 64 x ||| BitVec.ofInt 64 y).isLt
  · intro i hi
    show (BitVec.ofInt 64 x ||| BitVec.ofInt 64 y).toNat.testBit i = _
    rw [BitVec.toNat_or, Nat.testBit_or, bt_ofInt x i hi, bt_ofInt y i hi]
    simp [fop]
theorem i64_xor (x y : Int) (hx0 : -9223372036854775808 ≤ x) (hx1 : x ≤ 9223372036854775807) (hy0 : -9223372036854775808 ≤ y) (hy1 : y ≤ 9223372036854775807) : bits .xor .i64 x y = bitS 8 x y := by
  refine i64_bits (fop 8) _ x y hx0 hx1 hy0 hy1 ?_ ?_
  · exact (BitVec.ofInt 64 x ^^^ BitVec.ofInt 64 y).isLt
  · intro i hi
    show (BitVec.ofInt 64 x ^^^ BitVec.ofInt 64 y).toNat.testBit i = _
    rw [BitVec.toNat_xor, Nat.testBit_xor, bt_ofInt x i hi, bt_ofInt y i hi]
    simp [fop]

/-- What Op answers over small integers, and Int of it. -/
def smallS (op x y : Int) : Int := if op = 1 then x + y else if op = 2 then x - y else if op = 3 then x * y else if op = 4 then x.tdiv y else if op = 5 then x.tmod y else bitS op x y

theorem bitS_small (op : Int) {x y : Int} (h0 : -2147483648 ≤ x) (h1 : x < 2147483648) (h2 : -2147483648 ≤ y) (h3 : y < 2147483648) : -2147483648 ≤ bitS op x y ∧ bitS op x y < 2147483648 := by
  have e : T 31 = 2147483648 := by decide
  have hm := T_mono (show 31 ≤ 384 by omega)
  rw [e] at hm
  have hb := bz_bt (fop op) 31 x y (by rw [e]; omega) (by rw [e]; omega) (by rw [e]; omega) (by rw [e]; omega)
  have e2 : bz (fop op) 31 x y = bitS op x y := bz_one (fop op) 384 (by omega) (by omega) (by omega) (by omega) hb
  have hr := bz_range (fop op) 31 x y
  rw [e2, e] at hr
  exact hr

theorem fit_int {z : Int} (h0 : -9223372036854775808 ≤ z) (h1 : z ≤ 9223372036854775807) : fitS z = some z ∧ intS z = some z := by
  have hb : (9223372036854775808 : Int) < B 12 := by decide
  refine ⟨?_, ?_⟩
  · unfold fitS; rw [if_pos (by omega)]
  · unfold intS; rw [if_pos ⟨h0, h1⟩]

theorem mul_small {x y : Int} (h0 : -2147483648 ≤ x) (h1 : x < 2147483648) (h2 : -2147483648 ≤ y) (h3 : y < 2147483648) : -4611686018427387904 ≤ x * y ∧ x * y ≤ 4611686018427387904 := by
  have hx : x.natAbs ≤ 2147483648 := by omega
  have hy : y.natAbs ≤ 2147483648 := by omega
  have h := Nat.mul_le_mul hx hy
  rw [← Int.natAbs_mul] at h
  omega

set_option maxHeartbeats 1000000 in
theorem place_wide (v m : Int) (w : World) (hm : 0 < m) (hm2 : m ≤ 1099511627776) (hv1 : -9223372036854775808 ≤ v) (hv2 : v ≤ 9223372036854775807) :
    Calls Try.prog 31 #[.int .i64 v, .int .i64 m] w fun e w' => e = .returned (.int .i64 (v % m)) ∧ w = w' := by
  obtain ⟨t1, t2, t3⟩ := tmod_place v m hm
  have T1 : Hid _ := t1
  have T2 : Hid _ := t2
  clear t1 t2
  by_cases h : v.tmod m < 0
  · go_enter Try.func31, Try.ntmps31
    go_wp2_with fail
    go_ret
    exact ⟨congrArg Ending.returned (congrArg (Value.int IntKind.i64) (T1.out h)), rfl⟩
  · go_enter Try.func31, Try.ntmps31
    go_wp2_with fail
    go_ret
    exact ⟨congrArg Ending.returned (congrArg (Value.int IntKind.i64) (T2.out h)), rfl⟩

theorem opS_small (op : Int) {x y : Int} (hop : op = 1 ∨ op = 2 ∨ op = 3 ∨ op = 6 ∨ op = 7 ∨ op = 8 ∨ ((op = 4 ∨ op = 5) ∧ y ≠ 0)) (h0 : -2147483648 ≤ x) (h1 : x < 2147483648) (h2 : -2147483648 ≤ y) (h3 : y < 2147483648) :
    opS op x y = some (smallS op x y) ∧ intS (smallS op x y) = some (smallS op x y) := by
  have hmul := mul_small h0 h1 h2 h3
  have key : ∀ z, -9223372036854775808 ≤ z → z ≤ 9223372036854775807 → opS op x y = fitS z → smallS op x y = z → opS op x y = some (smallS op x y) ∧ intS (smallS op x y) = some (smallS op x y) := fun z a b e1 e2 => by
    rw [e1, e2]; exact fit_int a b
  rcases hop with rfl | rfl | rfl | rfl | rfl | rfl | ⟨rfl | rfl, hy⟩
  · exact key (x + y) (by omega) (by omega) (opS_1 x y) (by simp [smallS])
  · exact key (x - y) (by omega) (by omega) (opS_2 x y) (by simp [smallS])
  · exact key (x * y) (by omega) (by omega) (opS_3 x y) (by simp [smallS])
  · have := bitS_small 6 h0 h1 h2 h3
    exact key (bitS 6 x y) (by omega) (by omega) (opS_6 x y) (by simp [smallS])
  · have := bitS_small 7 h0 h1 h2 h3
    exact key (bitS 7 x y) (by omega) (by omega) (opS_7 x y) (by simp [smallS])
  · have := bitS_small 8 h0 h1 h2 h3
    exact key (bitS 8 x y) (by omega) (by omega) (opS_8 x y) (by simp [smallS])
  · have b : (x.tdiv y).natAbs ≤ x.natAbs := by rw [Int.natAbs_tdiv]; exact Nat.div_le_self _ _
    exact key (x.tdiv y) (by omega) (by omega) (by rw [opS_4, (fit_int (z := x.tdiv y) (by omega) (by omega)).1]; unfold divS; rw [if_neg hy]; simp) (by simp [smallS])
  · have b : (x.tmod y).natAbs < y.natAbs := by rw [Int.natAbs_tmod]; exact Nat.mod_lt _ (by omega)
    exact key (x.tmod y) (by omega) (by omega) (by rw [opS_5, (fit_int (z := x.tmod y) (by omega) (by omega)).1]; unfold divS; rw [if_neg hy]; simp) (by simp [smallS])

theorem up_small {x k : Int} (h0 : -2147483648 ≤ x) (h1 : x < 2147483648) (hk0 : 0 ≤ k) (hk1 : k < 30) : opS 9 x k = some (x * T k.toNat) ∧ intS (x * T k.toNat) = some (x * T k.toNat) ∧ -9223372036854775808 ≤ x * T k.toNat ∧ x * T k.toNat ≤ 9223372036854775807 := by
  have hT := T_pos k.toNat
  have hm := T_mono (show k.toNat ≤ 30 by omega)
  rw [show T 30 = 1073741824 by decide] at hm
  have hb := mul_small h0 h1 (show -2147483648 ≤ T k.toNat by omega) (by omega)
  have e : shS x k = x * T k.toNat := by
    unfold shS
    rw [if_pos hk0, show upN (farS k) = k.toNat by unfold upN farS; omega]
  rw [opS_9, e]
  have := fit_int (z := x * T k.toNat) (by omega) (by omega)
  exact ⟨this.1, this.2, by omega, by omega⟩
theorem down_small {x k : Int} (h0 : -2147483648 ≤ x) (h1 : x < 2147483648) (hk0 : 0 ≤ k) (hk1 : k < 30) : opS 10 x k = some (x / T k.toNat) ∧ intS (x / T k.toNat) = some (x / T k.toNat) := by
  have hT := T_pos k.toNat
  have hb : -2147483648 ≤ x / T k.toNat ∧ x / T k.toNat < 2147483648 := by
    constructor
    · exact (Int.le_ediv_iff_mul_le hT).2 (by
        have := Int.mul_le_mul_of_nonneg_left (show 1 ≤ T k.toNat by omega) (show (0 : Int) ≤ 2147483648 by decide)
        omega)
    · exact Int.ediv_lt_of_lt_mul hT (by
        have := Int.mul_le_mul_of_nonneg_left (show 1 ≤ T k.toNat by omega) (show (0 : Int) ≤ 2147483648 by decide)
        omega)
  have e : shS x (-k) = x / T k.toNat := by
    unfold shS
    by_cases h : k = 0
    · subst h
      rw [if_pos (by decide), show upN (farS (-0)) = 0 by decide]
      simp [T]
    · rw [if_neg (by omega), show downN (farS (-k)) = k.toNat by unfold downN farS; omega]
  rw [opS_10, e]
  exact fit_int (z := x / T k.toNat) (by omega) (by omega)
end Go.Proofs.Ytnfkaddjikimdaa
