/-
  The document's own answers of layer 1 (relictref01): Shl.
-/
import Derived.Test.YtedomcijnoekhaaRefE
namespace Go.Proofs.Ytedomcijnoekhaa
open Go.RowKit
set_option linter.unusedVariables false

theorem low_bd (p : Nat) (hp : p ≤ 32) (x y : Int) (hx0 : 0 ≤ x) (hy0 : 0 ≤ y) (hy1 : y < T p) : 0 ≤ y + x * T p % 4294967296 ∧ y + x * T p % 4294967296 < 4294967296 := by
  obtain ⟨X, rfl⟩ := Int.eq_ofNat_of_zero_le hx0
  have h2 := mod_mul p hp X
  have h3 : X % 2 ^ (32 - p) + 1 ≤ 2 ^ (32 - p) := Nat.mod_lt _ (Nat.two_pow_pos _)
  have h4 := Nat.mul_le_mul_left (2 ^ p) h3
  have e : 2 ^ p * 2 ^ (32 - p) = (4294967296 : Nat) := by rw [← Nat.pow_add, show p + (32 - p) = 32 by omega]
  rw [e, Nat.mul_add, Nat.mul_one, ← h2] at h4
  rw [T_nat] at hy1 ⊢
  have k1 : (X : Int) * ((2 ^ p : Nat) : Int) % 4294967296 = ((X * 2 ^ p % 4294967296 : Nat) : Int) := by simp
  rw [k1]
  omega

theorem high_bd (p : Nat) (x : Int) (hx0 : 0 ≤ x) (hx1 : x < 4294967296) : 0 ≤ x * T p / 4294967296 ∧ x * T p / 4294967296 < T p := by
  have h1 := Int.mul_nonneg hx0 (Int.le_of_lt (T_pos p))
  refine ⟨Int.ediv_nonneg h1 (by decide), Int.ediv_lt_of_lt_mul (by decide) ?_⟩
  rw [Int.mul_comm (T p)]
  exact Int.mul_lt_mul_of_pos_right hx1 (T_pos p)

theorem rshl_step (Z a : List Int) (i q p n : Nat) (x y : Int) (hi : i + q + 1 < Z.length) (hx : x = a.getD i 0) (hy : y = Z.getD (i + q) 0) (h0 : Z.getD (i + q + 1) 0 = 0) (hn : n = 32 * q + p) (h : V Z = V (a.take i) * T n) :
    V ((Z.set (i + q) (y + x * T p % 4294967296)).set (i + q + 1) (x * T p / 4294967296)) = V (a.take (i + 1)) * T n := by
  have e1 : (Z.set (i + q) (y + x * T p % 4294967296)).getD (i + q + 1) 0 = 0 := by
    refine Eq.trans ?_ h0
    simp only [List.getD_eq_getElem?_getD]
    rw [List.getElem?_set_ne (by omega)]
  rw [V_set _ _ _ (by simp; omega), V_set _ _ _ (by omega), e1, ← hy, V_take_next, ← hx, h, Int.add_mul, hn, T_add, T_32]
  have e2 : y + x * T p % 4294967296 - y = x * T p % 4294967296 := by omega
  rw [e2, Int.sub_zero]
  have e3 : B (i + q + 1) * (x * T p / 4294967296) = B (i + q) * (4294967296 * (x * T p / 4294967296)) := by
    simp only [B]; rw [Int.mul_comm 4294967296 (B (i + q)), Int.mul_assoc]
  rw [e3, Int.add_assoc, ← Int.mul_add]
  have e4 : x * T p % 4294967296 + 4294967296 * (x * T p / 4294967296) = x * T p := by omega
  rw [e4, B_add]
  congr 1
  rw [Int.mul_assoc, Int.mul_assoc]
  congr 1
  rw [Int.mul_left_comm]

set_option maxRecDepth 100000 in
set_option maxHeartbeats 4000000 in
theorem rshl_core (va : Value) (a : List Int) (n q p : Nat) (w : World) (ha : Sl w va a) (hla : a.length ≤ 100000) (hn : n = 32 * q + p) (hp : p < 32) (hq : q ≤ 128) (N : Int) (hN : upN N = n) :
    Calls Try.prog 26 #[va, .int .i64 N] w fun e w' => NumPost w (V a * T n) (a.length + 129) e w' := by
  obtain ⟨pa, ca, rfl⟩ := ha.shape
  have h1 : (n : Int) / 32 = (q : Int) := by omega
  have h2 : (n : Int) % 32 = (p : Int) := by omega
  have HNN : Hid _ := hn
  have hn0 : n ≤ 4127 := by omega
  obtain ⟨M, hM⟩ : ∃ M, (if N < 0 then 0 else N) = M := ⟨_, rfl⟩
  have hmin : (if 4096 < M then 4096 else M) = (n : Int) := by
    rw [← hM, ← hN]
    unfold upN
    split <;> split <;> omega
  clear hn hN
  go_enter Try.func26, Try.ntmps26
  go_wp2_with (first | (at_make; refine wpList_make_u32 rfl _ _ rfl _ _ (a.length + q + 1) rfl rfl (by omega) (by omega) (by omega) ?_; intro w1 hrow1 hbel1) | fail)
  go_loopw [7] (fun s wr => ∃ (i : Nat) (Z : List Int), i ≤ a.length ∧ s = .int .i64 i ∧ Z.length = a.length + q + 1 ∧ Ok Z ∧ Row wr w.heap.size Z ∧ Below w.heap.size w wr ∧
      Hid (V Z = V (a.take i) * T n) ∧ Hid (∀ j, i + q < j → Z.getD j 0 = 0) ∧ Hid (Z.getD (i + q) 0 < T p)) (fun s _ => a.length - (intOf s).toNat)
  case atStart => exact ⟨0, zer (a.length + q + 1), by omega, rfl, zer_len _, zer_ok _, hrow1, hbel1, by show _ = _; simp [zer_V, V], fun j _ => zer_at _ _, by show _ < _; rw [zer_at]; exact T_pos p⟩
  case round =>
    obtain ⟨i, Z, hk, rfl, hZl, hZok, hrow, hbel, HV, HZ, HY⟩ := hrel
    clear hrow1 hbel1
    by_cases hil : i < a.length
    · obtain ⟨b, off, rfl, hc⟩ := (ha.below hbel).at i hil
      have hx := ha.ok.getD i
      have c1 := hrow.cell (i + q) (by omega)
      have c2 := hrow.cell (i + q + 1) (by omega)
      have f1 := hrow.frozen (i + q)
      have f2 := hrow.frozen (i + q + 1)
      have hy := hZok.getD (i + q)
      rw [HZ.out (i + q + 1) (by omega)] at c2
      obtain ⟨x, hxe⟩ : ∃ x, x = a.getD i 0 := ⟨_, rfl⟩
      obtain ⟨y, hye⟩ : ∃ y, y = Z.getD (i + q) 0 := ⟨_, rfl⟩
      have hyT : y < T p := by rw [hye]; exact HY.out
      rw [← hxe] at hc hx
      rw [← hye] at c1 hy
      have HXE : Hid _ := hxe
      have HYE : Hid _ := hye
      have hor1 := or_low p (by omega) x y hx.1 hx.2 hy.1 hyT
      clear hxe hye hyT
      have hv0 : 0 ≤ x * 2 ^ p := Int.mul_nonneg hx.1 (Int.pow_nonneg (by decide))
      have hv1 : x * 2 ^ p ≤ 18446744073709551615 := by
        rw [← T_pow]
        have h3 := T_mono (show p ≤ 31 by omega)
        have h4 := Int.mul_le_mul (show x ≤ 4294967295 by omega) h3 (Int.le_of_lt (T_pos p)) (by omega)
        have h5 : T 31 = 2147483648 := by decide
        rw [h5] at h4
        omega
      have hi1 : (i : Int) + (q : Int) < (a.length : Int) + (q : Int) + 1 := by omega
      go_wp2_with fail
      have hb1 := low_bd p (by omega) x y hx.1 hy.1 (by rw [HYE.out]; exact HY.out)
      have hb2 := high_bd p x hx.1 hx.2
      have hTp := T_mono (show p ≤ 32 by omega)
      have hT32 : T 32 = 4294967296 := by decide
      rw [← T_pow p, or_zero (x * T p / 4294967296) hb2.1 (by omega)]
      have HST := rshl_step Z a i q p n x y (by omega) HXE.out HYE.out (HZ.out _ (by omega)) HNN.out HV.out
      go_roundw
      case rel =>
        refine ⟨i + 1, (Z.set (i + q) (y + x * T p % 4294967296)).set (i + q + 1) (x * T p / 4294967296), by omega, by go_num, by simpa using hZl, (hZok.set _ hb1.1 hb1.2).set _ hb2.1 (by omega), (hrow.set _ _).set _ _, (hbel.setCell (Nat.le_refl _) _).setCell (Nat.le_refl _) _, HST, ?_, ?_⟩
        · intro j hj
          refine Eq.trans ?_ (HZ.out j (by omega))
          simp only [List.getD_eq_getElem?_getD]
          rw [List.getElem?_set_ne (by omega), List.getElem?_set_ne (by omega)]
        · show _ < _
          rw [show i + 1 + q = i + q + 1 by omega]
          simp only [List.getD_eq_getElem?_getD]
          rw [List.getElem?_set_self (by simp; omega)]
          exact hb2.2
      case measure => simp [intOf]; omega
    · obtain rfl : i = a.length := by omega
      have HF : Hid (V Z = V a * T n) := by
        show V Z = V a * T n
        rw [HV.out, List.take_length]
      have hsl := hrow.all hZok (by omega)
      rw [hZl] at hsl
      clear hrow HV HZ
      go_wp2_with fail
      refine (rnorm_any _ Z _ hsl (by omega)).mono ?_
      rintro e w5 ⟨v5, z5, rfl, s5, m5, x5, l5, b5, g5⟩
      have FIN : Hid (NumPost w (V a * T n) (a.length + 129) (.returned v5) w5) := ⟨v5, z5, rfl, s5, m5, x5.trans HF.out, by omega, hbel.trans (b5.mono hbel.size), fun k hk => Nat.le_trans hbel.size (g5 k hk)⟩
      clear x5
      go_wp2_with fail
      go_ret
      exact FIN.out

theorem rshl_any (va : Value) (a : List Int) (n : Int) (w : World) (ha : Sl w va a) (hla : a.length ≤ 100000) :
    Calls Try.prog 26 #[va, .int .i64 n] w fun e w' => NumPost w (V a * T (upN n)) (a.length + 129) e w' :=
  rshl_core va a (upN n) (upN n / 32) (upN n % 32) w ha hla (by omega) (by omega) (by unfold upN; omega) n rfl
end Go.Proofs.Ytedomcijnoekhaa
