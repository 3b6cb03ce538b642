import Derived.Test.YtfjibcldghnjcaaDoorCpZ
/-
  What is put is got, plain.
-/
namespace Go.Proofs.YtfjibcldghnjcaaDoor
open Go.RowKit
set_option linter.unusedVariables false
set_option linter.unusedSimpArgs false

theorem two_pos (k : Nat) : (0 : Int) < 2 ^ k := Int.pow_pos (by decide)
theorem div_more (n : Int) (a b : Nat) : n / 2 ^ (a + b) = n / 2 ^ a / 2 ^ b := by
  rw [Int.pow_add, Int.ediv_ediv_of_nonneg (Int.le_of_lt (two_pos a))]
theorem acc_dn (s : Nat) (n : Int) : ∀ k, k ≤ s → accN (n / 2 ^ (s * 8)) (dnB s n k) = n / 2 ^ ((s - k) * 8)
  | 0, _ => by simp [dnB, accN]
  | k + 1, h => by
    rw [dnB_succ, acc_snoc, acc_dn s n k (by omega), u8i]
    rw [show (s - k) * 8 = (s - (k + 1)) * 8 + 8 by omega, div_more, show s - 1 - k = s - (k + 1) by omega]
    have : (2 : Int) ^ 8 = 256 := by decide
    rw [this]
    omega
theorem ub8_nat (z : Int) (h0 : 0 ≤ z) (h1 : z < 256) : (ub8 z).toNat = z.toNat := by
  have := u8i z
  omega
theorem dnB_head (s : Nat) (n : Int) (h : 0 < s) : (dnB s n s).getD 0 0 = ub8 (n / 2 ^ ((s - 1) * 8)) := by
  cases s with
  | zero => omega
  | succ s => simp [dnB, List.getD, List.range_succ_eq_map]

theorem num_shape {t n : Int} (h : okP t n) : ∃ (f : UInt8) (r : List UInt8), numB t n = f :: r ∧ szF f.toNat = ((r.length : Int), true) ∧ ((f.toNat % 8 : Nat) : Int) = t ∧ valN f.toNat r = n := by
  have ht0 : 0 ≤ t ∧ t ≤ 5 := by rcases h with ⟨rfl, _⟩ | h <;> omega
  unfold numB
  by_cases c1 : 0 ≤ n ∧ n < 16
  · rw [if_pos c1]
    have e := ub8_nat (n * 16 + t) (by omega) (by omega)
    refine ⟨_, [], rfl, ?_, ?_, ?_⟩
    · rw [e]; unfold szF; rw [if_neg (by omega), if_pos (by omega)]; rfl
    · rw [e]; omega
    · rw [e]; unfold valN begN accN; rw [if_pos (by omega)]; simp; omega
  rw [if_neg c1]
  by_cases c2 : t ≠ 1 ∧ n < 2048
  · rw [if_pos c2]
    have hn : 16 ≤ n := by rcases h with ⟨rfl, _⟩ | h <;> omega
    have e := ub8_nat (n / 256 * 32 + 8 + t) (by omega) (by omega)
    refine ⟨_, [ub8 n], rfl, ?_, ?_, ?_⟩
    · rw [e]; unfold szF; rw [if_neg (by omega), if_neg (by omega), if_pos (by omega)]
      simp; omega
    · rw [e]; omega
    · rw [e]; unfold valN begN accN; rw [if_neg (by omega), if_pos (by omega)]
      have := u8i n
      simp only [List.foldl_cons, List.foldl_nil]
      omega
  rw [if_neg c2]
  obtain ⟨S, hS⟩ : ∃ S, S = szN t n := ⟨_, rfl⟩
  have hge := sz_ge t n
  have hrm := sz_room h
  have h4 := @sz_four t n h
  rw [← hS] at hge hrm h4 ⊢
  have e := ub8_nat (((S : Int) - 2) * 32 + 24 + t) (by omega) (by omega)
  have hval := acc_dn S n S (Nat.le_refl _)
  rw [Nat.sub_self] at hval
  simp only [Nat.zero_mul, Int.pow_zero, Int.ediv_one] at hval
  refine ⟨_, dnB S n S, rfl, ?_, ?_, ?_⟩
  · rw [e, dnB_len]
    unfold szF
    rw [if_neg (by omega), if_neg (by omega), if_neg (by omega)]
    refine Prod.ext (by dsimp only; omega) (decide_eq_true ?_)
    split
    · omega
    · have := h4 (by omega); omega
  · rw [e]; omega
  · rw [e]
    unfold valN begN
    rw [if_neg (by omega), if_neg (by omega), dnB_head S n (by omega)]
    have hN1 : n / 2 ^ (S * 8) = n / 2 ^ ((S - 1) * 8) / 256 := by
      rw [show S * 8 = (S - 1) * 8 + 8 by omega, div_more]
      rfl
    rcases h with ⟨rfl, h1, h2⟩ | ⟨h0, h1, h2, h3, h5⟩
    · rw [room_i, show S * 8 - 1 = (S - 1) * 8 + 7 by omega, div_more] at hrm
      have h7 : (2 : Int) ^ 7 = 128 := by decide
      rw [h7] at hrm
      simp only [Bool.or_eq_true, beq_iff_eq] at hrm
      have hu := u8i (n / 2 ^ ((S - 1) * 8))
      obtain ⟨N, hN⟩ : ∃ N, N = n / 2 ^ ((S - 1) * 8) := ⟨_, rfl⟩
      rw [← hN] at hrm hu hN1 ⊢
      have hb : (if (((S : Int) - 2) * 32 + 24 + 1).toNat % 8 = 1 ∧ 128 ≤ (ub8 N).toNat then (-1 : Int) else 0) = n / 2 ^ (S * 8) := by
        rw [hN1]
        split <;> omega
      rw [hb]
      exact hval
    · rw [if_neg (by omega)]
      rw [room_u _ _ _ h0] at hrm
      simp only [beq_iff_eq] at hrm
      rw [hrm] at hval
      exact hval

theorem okN1_of {t n : Int} (h : okP t n) : okN1 t n = true := by
  unfold okN1
  rcases h with ⟨rfl, h1, h2⟩ | ⟨h0, h1, h2, h3, h5⟩
  · rw [if_pos rfl]; exact decide_eq_true ⟨h1, h2⟩
  · rw [if_neg h0]; exact decide_eq_true ⟨h1, by omega, h3, h5⟩
theorem okP_five {t n : Int} (h : okP t n) : 0 ≤ t ∧ t ≤ 5 := by rcases h with ⟨rfl, _⟩ | h <;> omega
theorem num_of {t n : Int} (h : okP t n) (more : List UInt8) : numR (numB t n ++ more) = ⟨0, t, n, (numB t n).length⟩ := by
  have hs : sglB t n = numB t n := by unfold sglB; rw [if_neg (by have := okP_five h; omega)]
  obtain ⟨f, r, e1, e2, e3, e4⟩ := num_shape h
  unfold numR
  rw [e1] at hs ⊢
  have g0 : (f :: r ++ more).getD 0 0 = f := rfl
  have g1 : (f :: r ++ more).drop 1 = r ++ more := rfl
  have g2 : ((f :: r ++ more).length : Int) = (r.length : Int) + (more.length : Int) + 1 := by simp
  have g3 : (f :: r ++ more).take (1 + r.length) = f :: r := by
    rw [Nat.add_comm]
    simp
  rw [if_neg (by omega), g0, g1, e2]
  dsimp only
  rw [if_neg (by decide), if_neg (by omega), Int.toNat_natCast, List.take_left, g3, e3, e4, if_pos ⟨okN1_of h, hs⟩, List.length_cons, Nat.add_comm]
theorem num_cut {t n : Int} (h : okP t n) (j : Nat) (hj : j < (numB t n).length) : numR ((numB t n).take j) = Rd.bad 3 := by
  obtain ⟨f, r, e1, e2, e3, e4⟩ := num_shape h
  rw [e1] at hj ⊢
  unfold numR
  cases j with
  | zero => rw [if_pos (by simp)]
  | succ j =>
    have g0 : ((f :: r).take (j + 1)).getD 0 0 = f := rfl
    have g2 : ((f :: r).take (j + 1)).length = j + 1 := by simp at hj ⊢; omega
    rw [if_neg (by omega), g0, e2, g2]
    dsimp only
    rw [if_neg (by decide), if_pos (by simp at hj; omega)]
theorem pln_of {n : Int} (h : okP 0 n) (more : List UInt8) : plnR (numB 0 n ++ more) = ⟨0, 0, n, (numB 0 n).length⟩ := by
  have hn := num_of h more
  obtain ⟨f, r, e1, e2, e3, e4⟩ := num_shape h
  unfold plnR
  rw [if_neg, hn]
  rw [e1]
  have g0 : (f :: r ++ more).getD 0 0 = f := rfl
  rw [g0]
  omega
theorem pln_cut {n : Int} (h : okP 0 n) (j : Nat) (hj : j < (numB 0 n).length) : plnR ((numB 0 n).take j) = Rd.bad 3 := by
  have hn := num_cut h j hj
  obtain ⟨f, r, e1, e2, e3, e4⟩ := num_shape h
  unfold plnR
  rw [if_neg, hn]
  rw [e1]
  cases j with
  | zero => simp
  | succ j =>
    have g0 : ((f :: r).take (j + 1)).getD 0 0 = f := rfl
    rw [g0]
    omega
theorem not7 {f : UInt8} {t : Int} (h : ((f.toNat % 8 : Nat) : Int) = t) (ht : t ≤ 5) : f ≠ 71 ∧ f ≠ 23 := by
  constructor
  · rintro rfl; rw [← h] at ht; exact absurd ht (by decide)
  · rintro rfl; rw [← h] at ht; exact absurd ht (by decide)
theorem sgl_of {t n : Int} (h : okN1 t n = true) (more : List UInt8) : sglR (sglB t n ++ more) = ⟨0, t, n, (sglB t n).length⟩ := by
  unfold sglR sglB
  by_cases h6 : t = 6
  · rw [if_pos h6]
    have g0 : (71 :: numB 0 n ++ more).getD 0 0 = 71 := rfl
    have g1 : (71 :: numB 0 n ++ more).drop 1 = numB 0 n ++ more := rfl
    rw [if_pos ⟨by simp, g0⟩, g1, pln_of (okP_lit h h6) more]
    dsimp only
    rw [if_pos rfl, h6, List.length_cons, Nat.add_comm]
  · rw [if_neg h6]
    have hp := okP_of h h6
    obtain ⟨f, r, e1, e2, e3, e4⟩ := num_shape hp
    rw [if_neg, num_of hp more]
    rw [e1]
    have g0 : (f :: r ++ more).getD 0 0 = f := rfl
    rw [g0]
    exact fun h => (not7 e3 (okP_five hp).2).1 h.2
theorem sgl_cut {t n : Int} (h : okN1 t n = true) (j : Nat) (hj : j < (sglB t n).length) : (sglR ((sglB t n).take j)) = Rd.bad 3 := by
  unfold sglR
  unfold sglB at hj ⊢
  by_cases h6 : t = 6
  · rw [if_pos h6] at hj ⊢
    cases j with
    | zero => rw [if_neg (by simp)]; rfl
    | succ j =>
      have g0 : ((71 :: numB 0 n).take (j + 1)).getD 0 0 = 71 := rfl
      have g1 : ((71 :: numB 0 n).take (j + 1)).drop 1 = (numB 0 n).take j := rfl
      rw [if_pos ⟨by simp, g0⟩, g1, pln_cut (okP_lit h h6) j (by simpa using hj)]
      rfl
  · rw [if_neg h6] at hj ⊢
    have hp := okP_of h h6
    rw [if_neg, num_cut hp j hj]
    obtain ⟨f, r, e1, e2, e3, e4⟩ := num_shape hp
    rw [e1]
    cases j with
    | zero => simp
    | succ j =>
      have g0 : ((f :: r).take (j + 1)).getD 0 0 = f := rfl
      rw [g0]
      exact fun h => (not7 e3 (okP_five hp).2).1 h.2
theorem sgl_head {t n : Int} (h : okN1 t n = true) : ∃ f r, sglB t n = f :: r ∧ f ≠ 23 := by
  unfold sglB
  by_cases h6 : t = 6
  · rw [if_pos h6]; exact ⟨71, _, rfl, by decide⟩
  · rw [if_neg h6]
    have hp := okP_of h h6
    obtain ⟨f, r, e1, e2, e3, e4⟩ := num_shape hp
    exact ⟨f, r, e1, (not7 e3 (okP_five hp).2).2⟩
def sglsB (L : List (Int × Int)) : List UInt8 := (L.map fun p => sglB p.1 p.2).flatten
theorem sgls_of : ∀ (L : List (Int × Int)) (more : List UInt8), (∀ p ∈ L, okN1 p.1 p.2 = true) → sglsR L.length (sglsB L ++ more) = (0, L, (sglsB L).length)
  | [], more, _ => rfl
  | p :: r, more, h => by
    have h1 := sgl_of (h p (by simp)) (sglsB r ++ more)
    have e : sglsB (p :: r) = sglB p.1 p.2 ++ sglsB r := by simp [sglsB]
    rw [e, List.append_assoc, List.length_cons, sglsR, h1]
    dsimp only
    rw [if_pos rfl, List.drop_left, sgls_of r more (fun q hq => h q (by simp [hq]))]
    dsimp only
    rw [if_pos rfl, List.length_append]
theorem sgls_cut : ∀ (L : List (Int × Int)) (j : Nat), (∀ p ∈ L, okN1 p.1 p.2 = true) → j < (sglsB L).length → (sglsR L.length ((sglsB L).take j)).1 = 3
  | [], j, _, hj => by simp [sglsB] at hj
  | p :: r, j, h, hj => by
    have e : sglsB (p :: r) = sglB p.1 p.2 ++ sglsB r := by simp [sglsB]
    rw [e] at hj ⊢
    rw [List.length_append] at hj
    rw [List.length_cons, sglsR]
    by_cases hc : j < (sglB p.1 p.2).length
    · rw [List.take_append_of_le_length (by omega), sgl_cut (h p (by simp)) j hc]
      rfl
    · have e2 : (sglB p.1 p.2 ++ sglsB r).take j = sglB p.1 p.2 ++ (sglsB r).take (j - (sglB p.1 p.2).length) := by
        rw [List.take_append, List.take_of_length_le (by omega)]
      rw [e2, sgl_of (h p (by simp))]
      dsimp only
      have h3 := sgls_cut r (j - (sglB p.1 p.2).length) (fun q hq => h q (by simp [hq])) (by omega)
      rw [if_pos rfl, List.drop_left, if_neg (by rw [h3]; decide)]
      exact h3
theorem Ar.put_eq (a : Ar) : a.put = if a.t = 7 then 23 :: (numB 0 (a.l.length : Int) ++ sglsB a.l) else sglB a.t a.n := rfl
theorem ok7 {a : Ar} (h : a.ok = true) (h7 : a.t = 7) : a.n = 0 ∧ a.l.length ≤ 40 ∧ ∀ p ∈ a.l, okN1 p.1 p.2 = true := by
  unfold Ar.ok at h
  rw [if_pos h7] at h
  simp only [Bool.and_eq_true, decide_eq_true_eq, List.all_eq_true] at h
  exact ⟨h.1.1, h.1.2, h.2⟩
theorem ok1 {a : Ar} (h : a.ok = true) (h7 : a.t ≠ 7) : okN1 a.t a.n = true ∧ a.l = [] := by
  unfold Ar.ok at h
  rw [if_neg h7] at h
  simpa using h
theorem op_of {a : Ar} (h : a.ok = true) (more : List UInt8) : opR (a.put ++ more) = (0, a, a.put.length) := by
  by_cases h7 : a.t = 7
  · obtain ⟨h1, h2, h3⟩ := ok7 h h7
    have e : a.put = 23 :: (numB 0 (a.l.length : Int) ++ sglsB a.l) := by rw [a.put_eq, if_pos h7]
    have g1 : (a.put ++ more).drop 1 = numB 0 (a.l.length : Int) ++ (sglsB a.l ++ more) := by rw [e]; simp
    rw [op_list ⟨by rw [e]; simp, by rw [e]; rfl⟩, g1]
    unfold lstR
    rw [pln_of (okP_len h2)]
    dsimp only
    rw [if_neg (by decide), if_neg (by omega), Int.toNat_natCast, List.drop_left, sgls_of a.l more h3]
    dsimp only
    rw [if_pos rfl, if_pos rfl, e]
    obtain ⟨t, n, L⟩ := a
    dsimp only at h1 h7 ⊢
    subst h1; subst h7
    simp
    omega
  · obtain ⟨h1, h2⟩ := ok1 h h7
    have e : a.put = sglB a.t a.n := by rw [a.put_eq, if_neg h7]
    obtain ⟨f, r, e2, e3⟩ := sgl_head h1
    unfold opR
    rw [if_neg, e, sgl_of h1 more]
    · dsimp only
      rw [if_pos rfl]
      obtain ⟨t, n, L⟩ := a
      dsimp only at h2 ⊢
      rw [h2]
    · rw [e, e2]
      exact fun h => e3 h.2
theorem op_cut {a : Ar} (h : a.ok = true) (j : Nat) (hj : j < a.put.length) : opR (a.put.take j) = (3, Ar.zero, 0) := by
  by_cases h7 : a.t = 7
  · obtain ⟨h1, h2, h3⟩ := ok7 h h7
    have e : a.put = 23 :: (numB 0 (a.l.length : Int) ++ sglsB a.l) := by rw [a.put_eq, if_pos h7]
    rw [e] at hj ⊢
    cases j with
    | zero => rfl
    | succ j =>
      have g1 : ((23 :: (numB 0 (a.l.length : Int) ++ sglsB a.l)).take (j + 1)).drop 1 = (numB 0 (a.l.length : Int) ++ sglsB a.l).take j := rfl
      rw [op_list ⟨by simp, rfl⟩, g1]
      simp only [List.length_cons, List.length_append] at hj
      unfold lstR
      by_cases hc : j < (numB 0 (a.l.length : Int)).length
      · rw [List.take_append_of_le_length (by omega), pln_cut (okP_len h2) j hc]
        rfl
      · have e2 : (numB 0 (a.l.length : Int) ++ sglsB a.l).take j = numB 0 (a.l.length : Int) ++ (sglsB a.l).take (j - (numB 0 (a.l.length : Int)).length) := by
          rw [List.take_append, List.take_of_length_le (by omega)]
        have h4 := sgls_cut a.l (j - (numB 0 (a.l.length : Int)).length) h3 (by omega)
        rw [e2, pln_of (okP_len h2)]
        dsimp only
        rw [if_neg (by decide), if_neg (by omega), Int.toNat_natCast, List.drop_left, if_neg (by rw [h4]; decide), h4]
        rfl
  · obtain ⟨h1, h2⟩ := ok1 h h7
    have e : a.put = sglB a.t a.n := by rw [a.put_eq, if_neg h7]
    rw [e] at hj ⊢
    obtain ⟨f, r, e2, e3⟩ := sgl_head h1
    unfold opR
    rw [if_neg, sgl_cut h1 j hj]
    · rfl
    · rw [e2]
      cases j with
      | zero => simp
      | succ j => exact fun h => e3 h.2
end Go.Proofs.YtfjibcldghnjcaaDoor

/-
  What is got may be, and is put byte for byte, plain.
-/
namespace Go.Proofs.YtfjibcldghnjcaaDoor
open Go.RowKit
set_option linter.unusedVariables false
set_option linter.unusedSimpArgs false

theorem num_err (l : List UInt8) : (numR l).e = 0 ∨ (numR l).e = 3 ∨ (numR l).e = 4 := by
  unfold numR
  by_cases h1 : l.length < 1
  · rw [if_pos h1]; exact .inr (.inl rfl)
  rw [if_neg h1]
  by_cases h2 : (szF (l.getD 0 0).toNat).2 = false
  · rw [if_pos h2]; exact .inr (.inr rfl)
  rw [if_neg h2]
  by_cases h3 : ((l.length : Int) - 1) < (szF (l.getD 0 0).toNat).1
  · rw [if_pos h3]; exact .inr (.inl rfl)
  rw [if_neg h3]
  split
  · exact .inl rfl
  · exact .inr (.inr rfl)
theorem pln_err (l : List UInt8) : (plnR l).e = 0 ∨ (plnR l).e = 3 ∨ (plnR l).e = 4 := by
  unfold plnR
  split
  · exact .inr (.inr rfl)
  · exact num_err l
theorem sgl_err (l : List UInt8) : (sglR l).e = 0 ∨ (sglR l).e = 3 ∨ (sglR l).e = 4 := by
  unfold sglR
  split
  · split
    · exact .inl rfl
    · exact pln_err _
  · exact num_err l
theorem sgls_errs : ∀ (m : Nat) (l : List UInt8), (sglsR m l).1 = 0 ∨ (sglsR m l).1 = 3 ∨ (sglsR m l).1 = 4
  | 0, l => .inl rfl
  | m + 1, l => by
    rw [sglsR]
    split
    · split
      · exact .inl rfl
      · exact sgls_errs m _
    · exact sgl_err l
theorem lst_err (l : List UInt8) : (lstR l).1 = 0 ∨ (lstR l).1 = 3 ∨ (lstR l).1 = 4 := by
  unfold lstR
  split
  · exact pln_err l
  · split
    · exact .inr (.inr rfl)
    · split
      · exact .inl rfl
      · exact sgls_errs _ _
theorem op_err (l : List UInt8) : (opR l).1 = 0 ∨ (opR l).1 = 3 ∨ (opR l).1 = 4 := by
  by_cases h : 0 < l.length ∧ l.getD 0 0 = 23
  · rw [op_list h]; exact lst_err _
  · unfold opR
    rw [if_neg h]
    split
    · exact .inl rfl
    · exact sgl_err l
theorem sgls_read : ∀ (m : Nat) (l : List UInt8), (sglsR m l).1 = 0 → (sglsR m l).2.1.length = m ∧ (sglsR m l).2.2 ≤ l.length ∧ (∀ p ∈ (sglsR m l).2.1, okN1 p.1 p.2 = true) ∧ sglsB (sglsR m l).2.1 = l.take (sglsR m l).2.2
  | 0, l, _ => ⟨rfl, Nat.zero_le _, fun p hp => by simp [sglsR] at hp, by simp [sglsR, sglsB]⟩
  | m + 1, l, h => by
    rw [sglsR] at h ⊢
    by_cases h1 : (sglR l).e = 0
    · rw [if_pos h1] at h ⊢
      by_cases h2 : (sglsR m (l.drop (sglR l).k)).1 = 0
      · rw [if_pos h2] at h ⊢
        obtain ⟨a, b, c, d⟩ := sgl_read h1
        obtain ⟨e, f, g, i⟩ := sgls_read m _ h2
        dsimp only
        have hl : (l.drop (sglR l).k).length = l.length - (sglR l).k := by simp
        refine ⟨by simp [e], by omega, ?_, ?_⟩
        · intro p hp
          rcases List.mem_cons.1 hp with rfl | h
          · exact c
          · exact g p h
        · have e2 : sglsB (((sglR l).t, (sglR l).n) :: (sglsR m (l.drop (sglR l).k)).2.1) = sglB (sglR l).t (sglR l).n ++ sglsB (sglsR m (l.drop (sglR l).k)).2.1 := by simp [sglsB]
          rw [e2, d, i, ← List.take_add]
      · rw [if_neg h2] at h; exact absurd h h2
    · rw [if_neg h1] at h; exact absurd h h1
theorem op_read {l : List UInt8} (h : (opR l).1 = 0) : (opR l).2.1.ok = true ∧ (opR l).2.1.put = l.take (opR l).2.2 ∧ 1 ≤ (opR l).2.2 ∧ (opR l).2.2 ≤ l.length := by
  by_cases h23 : 0 < l.length ∧ l.getD 0 0 = 23
  · rw [op_list h23] at h ⊢
    dsimp only at h ⊢
    rw [if_pos h]
    have hdl : (l.drop 1).length = l.length - 1 := by simp
    obtain ⟨h0, hx⟩ := h23
    unfold lstR at h ⊢
    by_cases h1 : (plnR (l.drop 1)).e ≠ 0
    · rw [if_pos h1] at h; exact absurd h h1
    rw [if_neg h1] at h ⊢
    by_cases h2 : 40 < (plnR (l.drop 1)).n
    · rw [if_pos h2] at h; cases h
    rw [if_neg h2] at h ⊢
    by_cases h3 : (sglsR (plnR (l.drop 1)).n.toNat ((l.drop 1).drop (plnR (l.drop 1)).k)).1 = 0
    · rw [if_pos h3] at h ⊢
      dsimp only
      obtain ⟨-, -, b, c, d, e, f⟩ := pln_read (l := l.drop 1) (by omega)
      obtain ⟨g, i, j, k⟩ := sgls_read _ _ h3
      generalize sglsR (plnR (l.drop 1)).n.toNat ((l.drop 1).drop (plnR (l.drop 1)).k) = Y at *
      have hl2 : ((l.drop 1).drop (plnR (l.drop 1)).k).length = l.length - 1 - (plnR (l.drop 1)).k := by rw [List.length_drop, hdl]
      have hY : (Y.2.1.length : Int) = (plnR (l.drop 1)).n := by omega
      refine ⟨?_, ?_, by omega, by omega⟩
      · unfold Ar.ok
        rw [if_pos rfl]
        simp only [Bool.and_eq_true, decide_eq_true_eq, List.all_eq_true]
        exact ⟨⟨trivial, by omega⟩, j⟩
      · rw [Ar.put_eq, if_pos rfl]
        dsimp only
        rw [hY, e, k, ← List.take_add]
        match l, h0, hx with
        | x :: r, h0, hx =>
          have hx' : x = 23 := by simpa using hx
          subst hx'
          rw [Nat.add_comm 1, List.take_succ_cons]
          rfl
    · rw [if_neg h3] at h; exact absurd h h3
  · unfold opR at h ⊢
    rw [if_neg h23] at h ⊢
    by_cases h1 : (sglR l).e = 0
    · rw [if_pos h1] at h ⊢
      obtain ⟨a, b, c, d⟩ := sgl_read h1
      have h7 : (sglR l).t ≠ 7 := by unfold okN1 at c; split at c <;> simp at c <;> omega
      refine ⟨?_, ?_, b, a⟩
      · unfold Ar.ok
        rw [if_neg h7]
        simp [c]
      · rw [Ar.put_eq, if_neg h7]
        exact d
    · rw [if_neg h1] at h; exact absurd h h1
/-- An operand in memory as one. -/
def Ar.el (a : Ar) (p : Option Addr) (c : Nat) : El := ⟨a.t, a.n, p, a.l.length, c⟩
theorem els_of (l : List (Int × Int)) : elsB (l.map elOf) = sglsB l := by
  unfold elsB sglsB
  rw [List.map_map]
  rfl
theorem el_ok {a : Ar} (h : a.ok = true) (p : Option Addr) (c : Nat) : (a.el p c).ok (a.l.map elOf) = true := by
  unfold El.ok Ar.el
  dsimp only
  by_cases h7 : a.t = 7
  · obtain ⟨h1, h2, h3⟩ := ok7 h h7
    rw [if_pos h7]
    simp only [Bool.and_eq_true, decide_eq_true_eq, List.all_eq_true, List.length_map]
    refine ⟨⟨h1, h2⟩, fun x hx => ?_⟩
    obtain ⟨q, hq, rfl⟩ := List.mem_map.1 hx
    unfold El.ok1 elOf
    simp [h3 q hq]
  · obtain ⟨h1, h2⟩ := ok1 h h7
    rw [if_neg h7]
    unfold El.ok1
    simp [h1, h2]
theorem el_put {a : Ar} (h : a.ok = true) (p : Option Addr) (c : Nat) : (a.el p c).putS (a.l.map elOf) = a.put := by
  unfold El.putS
  rw [if_pos (el_ok h p c)]
  unfold El.put
  rw [Ar.put_eq, els_of, List.length_map]
  rfl
theorem el_fit {a : Ar} (h : a.ok = true) (p : Option Addr) (c : Nat) (hc : a.l.length ≤ c) (hm : (c : Int) ≤ 9223372036854775807) : El.fit (a.el p c) := by
  unfold El.fit Ar.el
  dsimp only
  by_cases h7 : a.t = 7
  · obtain ⟨h1, h2, h3⟩ := ok7 h h7
    omega
  · obtain ⟨h1, h2⟩ := ok1 h h7
    unfold okN1 at h1
    split at h1 <;> simp at h1 <;> omega
theorem get_zero (l : List UInt8) : getS l 0 = if (opR l).1 = 0 then ((opR l).2.1, ((opR l).2.2 : Int), 0) else (Ar.zero, 0, (opR l).1) := by
  unfold getS
  rw [if_neg (by omega)]
  simp
theorem get_put {a : Ar} (h : a.ok = true) : getS a.put 0 = (a, (a.put.length : Int), 0) := by
  have := op_of h []
  rw [List.append_nil] at this
  rw [get_zero, this]
  rfl
theorem sgl_ar {t n : Int} (h : okP t n) : (⟨t, n, []⟩ : Ar).ok = true ∧ (⟨t, n, []⟩ : Ar).put = numB t n := by
  have h5 := okP_five h
  constructor
  · unfold Ar.ok
    dsimp only
    rw [if_neg (by omega), okN1_of h]
    rfl
  · rw [Ar.put_eq, if_neg (by dsimp only; omega)]
    unfold sglB
    rw [if_neg (by dsimp only; omega)]
theorem putS_num {t n : Int} (h : okP t n) : ([] ++ El.putS ⟨t, n, none, 0, 0⟩ [] : List UInt8) = numB t n := by
  have h5 := okP_five h
  rw [List.nil_append, putS_sgl (by omega), if_pos (okN1_of h)]
  unfold sglB
  rw [if_neg (by omega)]
end Go.Proofs.YtfjibcldghnjcaaDoor
