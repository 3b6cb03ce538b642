/-
  The document's own answers of layer 1 (relictref01): Shr.
-/
import Derived.Test.YtedomcijnoekhaaRefF
namespace Go.Proofs.Ytedomcijnoekhaa
open Go.RowKit
set_option linter.unusedVariables false

theorem or_above (x1 x0 : Int) (h1 : 0 ≤ x1) (h2 : x1 < 4294967296) (h3 : 0 ≤ x0) (h4 : x0 < 4294967296) : bits .or .u64 x0 (x1 * 4294967296) = x1 * 4294967296 + x0 := by
  obtain ⟨X, rfl⟩ := Int.eq_ofNat_of_zero_le h1
  obtain ⟨Y, rfl⟩ := Int.eq_ofNat_of_zero_le h3
  have e : ((X : Int) * 4294967296) = ((2 ^ 32 * X : Nat) : Int) := by simp; omega
  have hp : (2 : Nat) ^ 32 = 4294967296 := by decide
  rw [e, u64_or_nat _ _ (by omega) (by omega), Nat.or_comm, or_nat 32 X Y (by omega)]
  simp

/-- Two limbs, shifted down, cut to one. -/
theorem two_down (x y : Int) (p : Nat) (hp : p < 32) (hx0 : 0 ≤ x) (hx1 : x < 4294967296) (hy0 : 0 ≤ y) : ((y * 4294967296 + x) / T p) % 4294967296 = x / T p + y % T p * T (32 - p) := by
  have hT := T_pos p
  have e : y * 4294967296 + x = x + (y * T (32 - p)) * T p := by rw [Int.mul_assoc, T_split (by omega)]; omega
  rw [e, Int.add_mul_ediv_right _ _ (by omega)]
  have e2 : y * T (32 - p) = y % T p * T (32 - p) + 4294967296 * (y / T p) := by
    have := Int.mul_ediv_add_emod y (T p)
    rw [← T_split (show p ≤ 32 by omega), Int.mul_assoc, Int.mul_comm (T (32 - p)), ← Int.add_mul]
    congr 1
    omega
  have hb := down_bd p (by omega) x y hx0 hx1 hy0
  rw [e2]
  omega

theorem rshr_step (Z0 L : List Int) (k p : Nat) (x y r : Int) (hp : p ≤ 32) (hl : L.length = k) (hx : x = Z0.getD k 0) (hy : y = Z0.getD (k + 1) 0)
    (hV : V L * T p + r = V (Z0.take k) + B k * (x % T p)) : V (L ++ [x / T p + y % T p * T (32 - p)]) * T p + r = V (Z0.take (k + 1)) + B (k + 1) * (y % T p) := by
  have h := lower_step Z0 (L ++ [0]) k p x y r hp (by simp; omega) hx hy (by
    rw [List.take_append_of_le_length (by omega), List.take_of_length_le (by omega)]; exact hV)
  have e : ((L ++ [0]).set k (x / T p + y % T p * T (32 - p))).take (k + 1) = L ++ [x / T p + y % T p * T (32 - p)] := by
    rw [List.set_append_right _ _ (by omega), show k - L.length = 0 by omega]
    exact List.take_of_length_le (by simp; omega)
  rw [e] at h
  exact h

theorem rshr_fin (a Z0 L : List Int) (q p : Nat) (r : Int) (ha : Ok a) (hq : q ≤ a.length) (hl : L.length = Z0.length) (hZ0 : Z0 = a.drop q) (hr0 : 0 ≤ r) (hr1 : r < T p)
    (hV : V L * T p + r = V (Z0.take L.length) + B L.length * (Z0.getD L.length 0 % T p)) : V L = V a / T (32 * q + p) := by
  have e1 : Z0.getD L.length 0 = 0 := by simp [List.getD, hl]
  rw [e1, Int.zero_emod, Int.mul_zero, Int.add_zero, List.take_of_length_le (by omega)] at hV
  have h4 : V Z0 / T p = V L := by
    rw [← hV, Int.add_comm, Int.add_mul_ediv_right _ _ (by have := T_pos p; omega), Int.ediv_eq_zero_of_lt hr0 hr1]; omega
  have h5 := V_split a q hq
  have h6 := V_lt (ha.take q)
  rw [show (a.take q).length = q by simp; omega] at h6
  have h7 : V a / B q = V Z0 := by
    rw [h5, hZ0, Int.mul_comm, Int.add_mul_ediv_right _ _ (by have := B_pos q; omega), Int.ediv_eq_zero_of_lt (V_nonneg (ha.take q)) h6]; omega
  rw [T_add, T_32, ← Int.ediv_ediv_of_nonneg (Int.le_of_lt (B_pos q)), h7, h4]

set_option maxRecDepth 100000 in
set_option maxHeartbeats 4000000 in
theorem rshr_core (va : Value) (a : List Int) (n q p : Nat) (w : World) (ha : Sl w va a) (hla : a.length ≤ 100000) (hn : n = 32 * q + p) (hp : p < 32) (hnb : n ≤ 9223372036854775807) (N : Int) (hN : downN N = n) :
    Calls Try.prog 28 #[va, .int .i64 N] w fun e w' => NumPost w (V a / T n) a.length e w' := by
  obtain ⟨i0, hi, hz0, hz1, hz2⟩ := info_parts Try.infoU32
  obtain ⟨pa, ca, rfl⟩ := ha.shape
  have h1 : (n : Int) / 32 = (q : Int) := by omega
  have h2 : (n : Int) % 32 = (p : Int) := by omega
  have hqb : q ≤ 9223372036854775807 := by omega
  have HNN : Hid _ := hn
  have hM : (if N < 0 then 0 else N) = (n : Int) := by
    rw [← hN]
    unfold downN
    split <;> omega
  clear hn hN
  obtain ⟨Z0, hZ0⟩ : ∃ Z0, Z0 = a.drop q := ⟨_, rfl⟩
  have HZ0 : Hid _ := hZ0
  have hT := T_pos p
  obtain ⟨r, hr⟩ : ∃ r, r = Z0.getD 0 0 % T p := ⟨_, rfl⟩
  have hr0 := Int.emod_nonneg (Z0.getD 0 0) (show T p ≠ 0 by omega)
  have hr1 := Int.emod_lt_of_pos (Z0.getD 0 0) hT
  rw [← hr] at hr0 hr1
  have HR : Hid _ := hr
  clear hr hZ0
  go_enter Try.func28, Try.ntmps28
  go_wp2_with fail
  go_loopw [6, 7] (fun l s wr => ∃ (k : Nat) (L : List Int), (k = 0 ∨ q + k ≤ a.length) ∧ s = .int .i64 ((q : Int) + (k : Int)) ∧ Hid (L.length = k) ∧ Ok L ∧ Owns wr w.heap.size l L ∧ Below w.heap.size w wr ∧
      Hid (V L * T p + r = V (Z0.take k) + B k * (Z0.getD k 0 % T p))) (fun _ s _ => a.length - (intOf s).toNat)
  case atStart => exact ⟨0, [], .inl rfl, by go_num, rfl, Ok.nil, World.ownsRow_nil _ _ _ _, Below.refl _ _, by show _ = _; rw [← HR.out]; simp [V, B]⟩
  case round =>
    obtain ⟨k, L, hk, rfl, HL, hLok, hown, hbel, HV⟩ := hrel
    have hsa := ha.below hbel
    by_cases hkn : q + k < a.length
    · have hkn' : (q : Int) + (k : Int) < (a.length : Int) := by omega
      have hxa := ha.ok.getD (q + k)
      have hxb := ha.ok.getD (q + k + 1)
      have E1 : Z0.getD k 0 = a.getD (q + k) 0 := by rw [HZ0.out]; simp [List.getD]
      have E2 : Z0.getD (k + 1) 0 = a.getD (q + k + 1) 0 := by rw [HZ0.out]; simp [List.getD, Nat.add_assoc]
      have HST : Hid (V (L ++ [a.getD (q + k) 0 / T p + a.getD (q + k + 1) 0 % T p * T (32 - p)]) * T p + r = V (Z0.take (k + 1)) + B (k + 1) * (a.getD (q + k + 1) 0 % T p)) := rshr_step Z0 L k p _ _ r (by omega) HL.out E1.symm E2.symm (by rw [← E1]; exact HV.out)
      have HE2 : Hid (Z0.getD (k + 1) 0 = a.getD (q + k + 1) 0) := E2
      clear E1 E2
      have CA : Hid (∀ w, Sl w (.slice pa a.length ca) a → Calls Try.prog 39 #[.slice pa a.length ca, .int .i64 ((q : Int) + (k : Int))] w fun e w' => e = .returned (.int .u64 (a.getD (q + k) 0)) ∧ w' = w) := fun w h => at_any _ a _ (q + k) w (by omega) h (by omega)
      have CB : Hid (∀ w, Sl w (.slice pa a.length ca) a → Calls Try.prog 39 #[.slice pa a.length ca, .int .i64 ((q : Int) + (k : Int) + 1)] w fun e w' => e = .returned (.int .u64 (a.getD (q + k + 1) 0)) ∧ w' = w) := fun w h => at_any _ a _ (q + k + 1) w (by omega) h (by omega)
      generalize a.getD (q + k) 0 = x at *
      generalize a.getD (q + k + 1) 0 = y at *
      have hLk : L.length ≤ 100000 := by have := HL.out; omega
      have hor := or_above y x hxb.1 hxb.2 hxa.1 hxa.2
      obtain ⟨D, hD⟩ : ∃ D, D = y * 4294967296 + x := ⟨_, rfl⟩
      rw [← hD] at hor
      have hD0 : 0 ≤ D := by omega
      have hD1 : D ≤ 18446744073709551615 := by omega
      have HTD := two_down x y p hp hxa.1 hxa.2 hxb.1
      rw [← hD, T_pow p] at HTD
      have hbd := down_bd p (by omega) x y hxa.1 hxa.2 hxb.1
      rw [T_pow p] at hbd HST
      generalize x / 2 ^ p + y % 2 ^ p * T (32 - p) = z at *
      clear hD
      have hdd : 0 ≤ D / 2 ^ p := Int.ediv_nonneg hD0 (Int.pow_nonneg (by decide))
      have hdd2 : D / 2 ^ p ≤ 18446744073709551615 := Int.le_trans (Int.ediv_le_self _ hD0) hD1
      go_wp2_with fail
      refine (CA.out _ hsa).mono ?_
      rintro e w' ⟨rfl, hw⟩
      subst hw
      go_wp2_with fail
      refine (CB.out _ hsa).mono ?_
      rintro e w' ⟨rfl, hw⟩
      subst hw
      have hbsz := hbel.size
      go_wp2_with (first | (at_builtin; refine wpList_append_own _ rfl _ _ 22 rfl w.heap.size 33 i0 (.int .u32 0) 1 4 Try.underlying22 hi hz0 hz1 hz2 rfl (by decide) _ _ _ rfl (World.ownsRow.alloc hown _) ⟨_, 0, none⟩ 1 1 [.int .u32 z] rfl rfl (cell_one_new _ _ _) (fun u hu => by simp at hu; subst hu; rfl) (by simp only [maxLen]; omega) (by omega) (by simp; omega) ?_; intro v' w1 hown1 hgr1 _; have hO := owns_snoc (a := L) (z := z) hown1 rfl rfl; have hB1 := (hbel.alloc hbsz (.cells #[.int .u32 z] 33)).grown hgr1 (by simp; omega) (fun k hk => (World.ownsRow.lt hown k hk).1); clear hown1 hgr1 hown) | fail)
      go_roundw
      case rel => exact ⟨k + 1, L ++ [z], .inr (by omega), by go_num, by show _ = _; simp; exact HL.out, hLok.snoc hbd.1 hbd.2, hO, hB1, by rw [HE2.out, T_pow p]; exact HST⟩
      case measure => simp [intOf]; omega
    · have hkn' : ¬ (q : Int) + (k : Int) < (a.length : Int) := by omega
      have HF : Hid (V L = V a / T n) := by
        show V L = V a / T n
        rw [HNN.out]
        by_cases hq : q ≤ a.length
        · exact rshr_fin a Z0 L q p r ha.ok hq (by rw [HL.out, HZ0.out]; simp; omega) HZ0.out hr0 hr1 (by rw [HL.out]; exact HV.out)
        · have hk0 : k = 0 := by omega
          rw [List.eq_nil_of_length_eq_zero (HL.out.trans hk0), lower_none a q p ha.ok (by omega)]; rfl
      have hLk : L.length ≤ a.length := by have := HL.out; omega
      have hsl := hown.sl hLok
      clear HV hown
      go_wp2_with fail
      refine (rnorm_any _ L _ hsl (by omega)).mono ?_
      rintro e w5 ⟨v5, z5, rfl, s5, m5, x5, l5, b5, g5⟩
      have FIN : Hid (NumPost w (V a / T n) a.length (.returned v5) w5) := ⟨v5, z5, rfl, s5, m5, x5.trans HF.out, by omega, hbel.trans (b5.mono hbel.size), fun k hk => Nat.le_trans hbel.size (g5 k hk)⟩
      clear x5
      go_wp2_with fail
      go_ret
      exact FIN.out

theorem rshr_any (va : Value) (a : List Int) (n : Int) (w : World) (ha : Sl w va a) (hla : a.length ≤ 100000) (hn : n ≤ 9223372036854775807) :
    Calls Try.prog 28 #[va, .int .i64 n] w fun e w' => NumPost w (V a / T (downN n)) a.length e w' :=
  rshr_core va a (downN n) (downN n / 32) (downN n % 32) w ha hla (by omega) (by omega) (by unfold downN; omega) n rfl
end Go.Proofs.Ytedomcijnoekhaa
