
/-
  ext: what begins where something that was put stands.
-/
import Derived.Test.YtbmondbicnfcpaaDoorZExtN
namespace Go.Proofs.YtbmondbicnfcpaaDoor
open Go.RowKit
set_option linter.unusedVariables false
set_option linter.unusedSimpArgs false

/-- What begins where a first byte, what says how many, and the other bytes stand. -/
theorem bgn_at {l rest W D : List UInt8} {b : UInt8} {p n d c : Nat} {s : Sh} (hs : shF b.toNat = some s) (hl : l.drop p = b :: (W ++ (D ++ rest))) (hw : W.length = s.w) (hc : highL W = c) (hlo : s.lo ≤ c) (hhi : c ≤ if s.tag = 108 then s.hi - n else s.hi) (hD : D.length = s.al + s.ea * c) (hn : n < 2000) (hd : d ≤ 60)
    (hp : 0 < D.length → putO (rawT s.tag D) = b :: (W ++ D)) : bgn l p n d = ⟨0, rawT s.tag D, if s.tag = 108 then c + 1 else if s.tag = 104 then c else 0, p + 1 + W.length + D.length, if s.tag = 108 then n + c else n + 1⟩ := by
  have hlen := congrArg List.length hl
  simp only [List.length_drop, List.length_cons, List.length_append] at hlen
  have hpl : p < l.length := by omega
  have hb : l.getD p 0 = b := by
    have h := congrArg (fun x => x[0]?) hl
    simp only [List.getElem?_drop, Nat.add_zero, List.getElem?_cons_zero] at h
    simp [List.getD, h]
  have hf : fstR l p n d = (0, s) := by rw [fst_of hpl, if_neg (by omega), hb, hs]; rfl
  have hd1 : l.drop (p + 1) = W ++ (D ++ rest) := by
    have h := congrArg (List.drop 1) hl
    rw [List.drop_drop] at h
    exact h
  have hW : (l.drop (p + 1)).take s.w = W := by rw [hd1, ← hw]; simp
  have hd2 : l.drop (p + 1 + s.w) = D ++ rest := by
    have h := congrArg (List.drop s.w) hd1
    rw [List.drop_drop, ← hw, List.drop_left] at h
    rw [← hw]
    exact h
  have hm : manR l (p + 1) n s = (0, c) := by
    unfold manR
    rw [if_neg (by omega), hW, hc, if_neg (by omega)]
  have hDD : (l.drop (p + 1 + s.w)).take (s.al + s.ea * c) = D := by rw [hd2, ← hD]; simp
  have hall : (l.drop p).take (p + 1 + s.w + (s.al + s.ea * c) - p) = b :: (W ++ D) := by
    rw [hl, show b :: (W ++ (D ++ rest)) = (b :: (W ++ D)) ++ rest by simp, show p + 1 + s.w + (s.al + s.ea * c) - p = (b :: (W ++ D)).length by simp; omega]
    rw [List.take_append_of_le_length (Nat.le_refl _), List.take_length]
  unfold bgn
  rw [hf]
  dsimp only
  rw [if_neg (fun h => h rfl), hm]
  dsimp only
  rw [if_neg (fun h => h rfl)]
  unfold bgn.bgnD
  rw [if_neg (by omega), hDD, hall, if_neg (fun h => h.2 (hp (by omega))), ← hD, ← hw]

theorem leL_app : ∀ a b : List UInt8, leL (a ++ b) = leL a + 256 ^ a.length * leL b
  | [], b => by simp [leL]
  | x :: a, b => by
    simp only [List.cons_append, leL, leL_app a b, List.length_cons, Nat.pow_succ, Nat.mul_add]
    rw [Nat.mul_comm (256 ^ a.length) 256, Nat.mul_assoc, Nat.add_assoc]
theorem leL_bytes (A : Nat) : ∀ m, leL ((List.range m).map (sByte A)) = A % 256 ^ m
  | 0 => by simp [leL, Nat.mod_one]
  | m + 1 => by
    rw [List.range_succ, List.map_append, leL_app, leL_bytes A m]
    simp only [List.map_cons, List.map_nil, List.length_map, List.length_range, leL, sByte, u8n, Nat.mul_zero, Nat.add_zero]
    rw [Nat.mod_pow_succ]
theorem limR_cons {L : List UInt8} (h : 0 < L.length) : limR L L.length = (leL (L.take 4) : Int) :: limR (L.drop 4) (L.drop 4).length := by
  unfold limR
  have e : (L.length + 3) / 4 = ((L.drop 4).length + 3) / 4 + 1 := by simp; omega
  rw [e, List.range_succ_eq_map, List.map_cons, List.map_map]
  congr 1
  · unfold limB
    simp only [Nat.mul_zero, List.drop_zero, Nat.sub_zero]
    by_cases h4 : 4 ≤ L.length
    · rw [Nat.min_eq_left h4]
    · rw [Nat.min_eq_right (by omega), List.take_length, List.take_of_length_le (by omega)]
  · apply List.map_congr_left
    intro j hj
    simp only [Function.comp, limB, List.drop_drop, List.length_drop]
    rw [show 4 * (j + 1) = 4 + 4 * j by omega, show L.length - (4 + 4 * j) = L.length - 4 - 4 * j by omega]
theorem V_limR : ∀ (m : Nat) (L : List UInt8), L.length ≤ m → V (limR L L.length) = (leL L : Int)
  | 0, L, h => by
    obtain rfl : L = [] := List.eq_nil_of_length_eq_zero (by omega)
    rfl
  | m + 1, L, h => by
    by_cases h0 : 0 < L.length
    · rw [limR_cons h0]
      show (leL (L.take 4) : Int) + 4294967296 * V (limR (L.drop 4) (L.drop 4).length) = _
      rw [V_limR m (L.drop 4) (by simp; omega)]
      have e := leL_app (L.take 4) (L.drop 4)
      rw [List.take_append_drop] at e
      by_cases h4 : 4 ≤ L.length
      · have h5 : (L.take 4).length = 4 := by simp; omega
        rw [h5, show (256 : Nat) ^ 4 = 4294967296 by decide] at e
        omega
      · have h5 : L.drop 4 = [] := List.drop_eq_nil_of_le (by omega)
        rw [h5] at e ⊢
        simp only [leL, Nat.mul_zero, Nat.add_zero] at e ⊢
        omega
    · obtain rfl : L = [] := List.eq_nil_of_length_eq_zero (by omega)
      rfl
/-- The limbs of a number's bytes are the number's own. -/
theorem limR_bytes {neg : Bool} {zs : List Int} (hg : Good neg zs) (hok : Ok zs) {A n : Nat} (hA : V zs = (A : Int)) (hA0 : 0 < A) (hn : IsLen (A : Int) n) : limR ((List.range ((n + 7) / 8)).map (sByte A)) ((n + 7) / 8) = zs := by
  obtain ⟨L, hL⟩ : ∃ L, L = (List.range ((n + 7) / 8)).map (sByte A) := ⟨_, rfl⟩
  have hl : L.length = (n + 7) / 8 := by rw [hL]; simp
  rw [← hL, ← hl]
  obtain ⟨n1, n2, n3⟩ := hn.resolve_left (fun h => by omega)
  rw [T_two] at n2 n3
  have hpw : (2 : Nat) ^ n ≤ 256 ^ ((n + 7) / 8) := by
    rw [show (256 : Nat) = 2 ^ 8 by decide, ← Nat.pow_mul]
    exact Nat.pow_le_pow_right (by decide) (by omega)
  have hV : V (limR L L.length) = (A : Int) := by
    rw [V_limR L.length L (Nat.le_refl _), hL, leL_bytes, Nat.mod_eq_of_lt (by omega)]
  refine Nm_inj (limR_ok _ _) hok (fun h0 he => ?_) hg.2.1 (by rw [hV, hA])
  have hs := V_split (limR L L.length) ((limR L L.length).length - 1) (by omega)
  have hd := V_drop (limR L L.length) ((limR L L.length).length - 1) (by omega)
  rw [show (limR L L.length).length - 1 + 1 = (limR L L.length).length by omega, List.drop_eq_nil_of_le (Nat.le_refl _), he] at hd
  simp only [V] at hd
  have hlt := V_lt ((limR_ok L L.length).take ((limR L L.length).length - 1))
  rw [hd, hV, show (0 : Int) + 4294967296 * 0 = 0 by decide, Int.mul_zero, Int.add_zero] at hs
  have hB : B ((limR L L.length).length - 1) = ((2 ^ (32 * (((n + 7) / 8 + 3) / 4 - 1)) : Nat) : Int) := by rw [limR_len, ← T_32, T_two, hl]
  rw [List.length_take, Nat.min_eq_left (by omega), hB] at hlt
  have hp2 : (2 : Nat) ^ (32 * (((n + 7) / 8 + 3) / 4 - 1)) ≤ 2 ^ (n - 1) := Nat.pow_le_pow_right (by decide) (by omega)
  omega

theorem ok_num {neg : Bool} {zs : List Int} (hg : Good neg zs) : (Tm.mk 1 neg zs ⟨#[]⟩ 0 []).ok = true := by
  refine (ok_iff _).2 ⟨(okD_eq _ _).2 ⟨by decide, ?_, ?_⟩, ?_⟩
  · unfold Tm.alone aloneK
    rw [if_pos rfl, Bool.and_eq_true]
    exact ⟨(goodB_iff _ _).2 hg, by show restB false 0 ⟨#[]⟩ 0 0 = true; decide +kernel⟩
  · rw [if_neg (show ¬ (1 : Int) = 4 by decide)]
    exact fun k hk => absurd hk (by simp [Tm.kids])
  · simp [Tm.nodes_mk, nodesL]
theorem put_num {neg : Bool} {zs : List Int} (hg : Good neg zs) : putO (Tm.mk 1 neg zs ⟨#[]⟩ 0 []) = intL (Z neg (V zs)) := by
  unfold putO
  rw [if_pos (ok_num hg)]
  exact putT_1 rfl
/-- What begins where a number stands. -/
theorem bgn_int {l rest : List UInt8} {p n d : Nat} {neg : Bool} {zs : List Int} (hg : Good neg zs) (hok : Ok zs) (hl : l.drop p = intL (Z neg (V zs)) ++ rest) (hn : n < 2000) (hd : d ≤ 60) :
    bgn l p n d = ⟨0, .mk 1 neg zs ⟨#[]⟩ 0 [], 0, p + (intL (Z neg (V zs))).length, n + 1⟩ := by
  have hput := put_num hg
  obtain ⟨x, hx⟩ : ∃ x, x = Z neg (V zs) := ⟨_, rfl⟩
  rw [← hx] at hl hput ⊢
  obtain ⟨A, hA⟩ := Int.eq_ofNat_of_zero_le (V_nonneg hok)
  have hab : x.natAbs = A := by rw [hx]; exact natAbs_Z neg hok hA
  have hsg := Z_pos hg hok
  rw [← hx] at hsg
  by_cases h1 : 0 ≤ x ∧ x ≤ 255
  · have e : intL x = [97, UInt8.ofNat x.toNat] := by unfold intL; rw [if_pos h1]
    obtain ⟨e1, e2⟩ := num_one hg hok hx.symm (by omega)
    have hr : rawT 97 [UInt8.ofNat x.toNat] = .mk 1 neg zs ⟨#[]⟩ 0 [] := by
      have hh : ((highL [UInt8.ofNat x.toNat] : Nat) : Int) = x := by simp [highL]; omega
      unfold rawT
      rw [if_pos rfl, hh, e1, e2]; rfl
    rw [e] at hl hput ⊢
    have h := bgn_at (l := l) (W := []) (D := [UInt8.ofNat x.toNat]) (rest := rest) (c := 0) (n := n) (d := d) (s := ⟨97, 0, 0, 0, 1, 0⟩) (b := 97) rfl hl rfl rfl (Nat.le_refl _) (by simp) rfl hn hd (fun _ => by rw [hr]; exact hput)
    rw [h, hr]; rfl
  · by_cases h2 : -2147483648 ≤ x ∧ x ≤ 2147483647
    · have e : intL x = 98 :: four (u32of x) := by unfold intL; rw [if_neg h1, if_pos h2]
      obtain ⟨e1, e2⟩ := num_one hg hok hx.symm (by omega)
      have hr : rawT 98 (four (u32of x)) = .mk 1 neg zs ⟨#[]⟩ 0 [] := by
        have hh : sig32 (highL (four (u32of x))) = x := by
          have h3 : highL (four (u32of x)) = u32of x := by
            have h4 : u32of x < 4294967296 := by unfold u32of; omega
            simp only [highL, four, List.foldl_cons, List.foldl_nil, u8n]
            omega
          rw [h3]
          unfold sig32 u32of
          split <;> omega
        unfold rawT
        rw [if_neg (by decide), if_pos rfl, hh, e1, e2]; rfl
      rw [e] at hl hput ⊢
      have h := bgn_at (l := l) (W := []) (D := four (u32of x)) (rest := rest) (c := 0) (n := n) (d := d) (s := ⟨98, 0, 0, 0, 4, 0⟩) (b := 98) rfl hl rfl rfl (Nat.le_refl _) (by simp) rfl hn hd (fun _ => by rw [hr]; exact hput)
      rw [h, hr]; rfl
    · have hlen := lenN_is A
      obtain ⟨m, hm⟩ : ∃ m, m = lenN A := ⟨_, rfl⟩
      rw [← hm] at hlen
      have e : intL x = 110 :: ([UInt8.ofNat ((m + 7) / 8)] ++ ((if x < 0 then 1 else 0) :: (List.range ((m + 7) / 8)).map (sByte A))) := by
        unfold intL
        rw [if_neg h1, if_neg h2, hab, ← hm]
        unfold bigB
        rw [hab]; rfl
      have hA0 : 0 < A := by omega
      have hm0 : 0 < m := (hlen.resolve_left (fun h => by omega)).1
      have hm384 : m ≤ 384 := by
        obtain ⟨m1, m2, m3⟩ := hlen.resolve_left (fun h => by omega)
        have h5 := V_lt hok
        rw [hA, ← T_32] at h5
        have h6 : T (32 * zs.length) ≤ T 384 := T_mono (by have := hg.1; omega)
        rcases Nat.lt_or_ge 384 m with h7 | h7
        · have h8 : T 384 ≤ T (m - 1) := T_mono (by omega)
          omega
        · exact h7
      have hlr := limR_bytes hg hok hA hA0 hlen
      have hlm : ((List.range ((m + 7) / 8)).map (sByte A)).length = (m + 7) / 8 := by simp
      have hr : rawT 110 ((if x < 0 then 1 else 0) :: (List.range ((m + 7) / 8)).map (sByte A)) = .mk 1 neg zs ⟨#[]⟩ 0 [] := by
        unfold rawT
        rw [if_neg (by decide), if_neg (by decide), if_pos rfl]
        have e1 : (((if x < 0 then 1 else 0) :: (List.range ((m + 7) / 8)).map (sByte A) : List UInt8).drop 1) = (List.range ((m + 7) / 8)).map (sByte A) := rfl
        rw [e1, hlm, hlr]
        have e2 : decide (((if x < 0 then 1 else 0) :: (List.range ((m + 7) / 8)).map (sByte A) : List UInt8).getD 0 0 ≠ 0) = neg := by
          cases neg with
          | true => have := hsg.1 rfl; rw [if_pos this]; rfl
          | false => have := hsg.2 rfl; rw [if_neg (by omega)]; rfl
        rw [e2]
      rw [e] at hl hput ⊢
      have h := bgn_at (l := l) (W := [UInt8.ofNat ((m + 7) / 8)]) (D := (if x < 0 then 1 else 0) :: (List.range ((m + 7) / 8)).map (sByte A)) (rest := rest) (c := (m + 7) / 8) (n := n) (d := d) (s := ⟨110, 1, 1, 48, 1, 1⟩) (b := 110) rfl (by rw [hl]; simp) rfl (by simp [highL]; omega) (by simp; omega) (by simp; omega) (by simp; omega) hn hd (fun _ => by rw [hr]; exact hput)
      rw [h, hr]
      simp
      omega
theorem intL_len (x : Int) : (0 ≤ x ∧ x ≤ 255 → (intL x).length = 2) ∧ (¬ (0 ≤ x ∧ x ≤ 255) → -2147483648 ≤ x ∧ x ≤ 2147483647 → (intL x).length = 5) ∧ (¬ (0 ≤ x ∧ x ≤ 255) → ¬ (-2147483648 ≤ x ∧ x ≤ 2147483647) → (intL x).length = 3 + (lenN x.natAbs + 7) / 8) := by
  unfold intL
  refine ⟨fun h => by rw [if_pos h]; rfl, fun h h2 => by rw [if_neg h, if_pos h2]; rfl, fun h h2 => ?_⟩
  rw [if_neg h, if_neg h2]
  simp [bigB]
  omega
theorem len_384 {neg : Bool} {zs : List Int} (hg : Good neg zs) (hok : Ok zs) : lenN (Z neg (V zs)).natAbs ≤ 384 := by
  obtain ⟨A, hA⟩ := Int.eq_ofNat_of_zero_le (V_nonneg hok)
  rw [natAbs_Z neg hok hA]
  rcases lenN_is A with ⟨h1, h2⟩ | ⟨m1, m2, m3⟩
  · omega
  · have h5 := V_lt hok
    rw [hA, ← T_32] at h5
    have h6 : T (32 * zs.length) ≤ T 384 := T_mono (by have := hg.1; omega)
    rcases Nat.lt_or_ge 384 (lenN A) with h7 | h7
    · have h8 : T 384 ≤ T (lenN A - 1) := T_mono (by omega)
      omega
    · exact h7
theorem intL_60 {neg : Bool} {zs : List Int} (hg : Good neg zs) (hok : Ok zs) : (intL (Z neg (V zs))).length ≤ 60 := by
  have h := len_384 hg hok
  obtain ⟨h1, h2, h3⟩ := intL_len (Z neg (V zs))
  by_cases c1 : 0 ≤ Z neg (V zs) ∧ Z neg (V zs) ≤ 255
  · rw [h1 c1]; decide
  · by_cases c2 : -2147483648 ≤ Z neg (V zs) ∧ Z neg (V zs) ≤ 2147483647
    · rw [h2 c1 c2]; decide
    · rw [h3 c1 c2]; omega
theorem RT_int {l rest : List UInt8} {p n d : Nat} {neg : Bool} {zs : List Int} (hg : Good neg zs) (hok : Ok zs) (hl : l.drop p = intL (Z neg (V zs)) ++ rest) (hn : n < 2000) (hd : d ≤ 60) : RT l p n d = ⟨0, .mk 1 neg zs ⟨#[]⟩ 0 [], p + (intL (Z neg (V zs))).length, n + 1⟩ := by
  rw [RT_eq l p n d (by omega), bgn_int hg hok hl hn hd]; rfl
end Go.Proofs.YtbmondbicnfcpaaDoor
