/-
  compact: what is read, plain; list.
-/
import Derived.Test.YtfjibcldghnjcaaDoorCpW
namespace Go.Proofs.YtfjibcldghnjcaaDoor
open Go.RowKit
set_option linter.unusedVariables false
set_option linter.unusedSimpArgs false

theorem num_read {l : List UInt8} (h : (numR l).e = 0) : (numR l).k ≤ l.length ∧ okN1 (numR l).t (numR l).n = true ∧ (numR l).t ≤ 5 ∧ 0 ≤ (numR l).t ∧ 0 < (numR l).k ∧ (numR l).t = ((l.getD 0 0).toNat % 8 : Nat) ∧ sglB (numR l).t (numR l).n = l.take (numR l).k := by
  unfold numR at h ⊢
  by_cases h1 : l.length < 1
  · rw [if_pos h1] at h; cases h
  rw [if_neg h1] at h ⊢
  by_cases h2 : (szF (l.getD 0 0).toNat).2 = false
  · rw [if_pos h2] at h; cases h
  rw [if_neg h2] at h ⊢
  by_cases h3 : ((l.length : Int) - 1) < (szF (l.getD 0 0).toNat).1
  · rw [if_pos h3] at h; cases h
  rw [if_neg h3] at h ⊢
  split at h
  · rename_i hc
    rw [if_pos hc]
    have hb := szF_bd (l.getD 0 0).toNat (UInt8.toNat_lt _)
    have h5 : ¬ 5 < (l.getD 0 0).toNat % 8 := by
      intro h5
      apply h2
      unfold szF
      rw [if_pos h5]
    refine ⟨?_, hc.1, ?_, ?_, ?_, rfl, hc.2⟩
    all_goals (dsimp only; omega)
  · cases h
theorem pln_read {l : List UInt8} (h : (plnR l).e = 0) : plnR l = numR l ∧ (plnR l).t = 0 ∧ (plnR l).k ≤ l.length ∧ 0 ≤ (plnR l).n ∧ (plnR l).n ≤ 268435455 ∧ numB 0 (plnR l).n = l.take (plnR l).k ∧ 0 < (plnR l).k := by
  unfold plnR at h ⊢
  by_cases h1 : 0 < l.length ∧ (l.getD 0 0).toNat % 8 ≠ 0
  · rw [if_pos h1] at h; cases h
  rw [if_neg h1] at h ⊢
  obtain ⟨a, b, c, d, e, f, g⟩ := num_read h
  have h0 : 0 < l.length := by omega
  have ht : (numR l).t = 0 := by rw [f]; omega
  rw [ht] at b g
  unfold okN1 at b
  rw [if_neg (by decide)] at b
  simp at b
  exact ⟨rfl, ht, a, b.1, b.2, g, e⟩
theorem sgl_read {l : List UInt8} (h : (sglR l).e = 0) : (sglR l).k ≤ l.length ∧ 0 < (sglR l).k ∧ okN1 (sglR l).t (sglR l).n = true ∧ sglB (sglR l).t (sglR l).n = l.take (sglR l).k := by
  unfold sglR at h ⊢
  by_cases h1 : 0 < l.length ∧ l.getD 0 0 = 71
  · rw [if_pos h1] at h ⊢
    by_cases h2 : (plnR (l.drop 1)).e = 0
    · rw [if_pos h2] at h ⊢
      obtain ⟨a, b, c, d, e, f, g⟩ := pln_read h2
      dsimp only
      have hl : (l.drop 1).length = l.length - 1 := by simp
      refine ⟨by omega, by omega, ?_, ?_⟩
      · unfold okN1
        rw [if_neg (by decide)]
        exact decide_eq_true ⟨by decide, by decide, d, e⟩
      · unfold sglB
        rw [if_pos rfl, f]
        match l, h1 with
        | x :: r, h1 =>
          have hx : x = 71 := by simpa using h1.2
          subst hx
          rw [show 1 + (plnR ((71 :: r : List UInt8).drop 1)).k = (plnR ((71 :: r : List UInt8).drop 1)).k + 1 by omega, List.take_succ_cons]
          rfl
    · rw [if_neg h2] at h; exact absurd h h2
  · rw [if_neg h1] at h ⊢
    obtain ⟨a, b, c, d, e, f, g⟩ := num_read h
    exact ⟨a, e, b, g⟩

/-- Behind a list's first byte. -/
def lstR (l : List UInt8) : Int × Ar × Nat :=
  if (plnR l).e ≠ 0 then ((plnR l).e, .zero, 0)
  else if 40 < (plnR l).n then (4, .zero, 0)
  else if (sglsR (plnR l).n.toNat (l.drop (plnR l).k)).1 = 0 then (0, ⟨7, 0, (sglsR (plnR l).n.toNat (l.drop (plnR l).k)).2.1⟩, (plnR l).k + (sglsR (plnR l).n.toNat (l.drop (plnR l).k)).2.2)
  else ((sglsR (plnR l).n.toNat (l.drop (plnR l).k)).1, .zero, 0)
theorem op_list {l : List UInt8} (h : 0 < l.length ∧ l.getD 0 0 = 23) : opR l = ((lstR (l.drop 1)).1, (lstR (l.drop 1)).2.1, if (lstR (l.drop 1)).1 = 0 then 1 + (lstR (l.drop 1)).2.2 else 0) := by
  unfold opR lstR
  rw [if_pos h]
  have e : ∀ k, l.drop (1 + k) = (l.drop 1).drop k := fun k => by rw [List.drop_drop]
  simp only [e]
  by_cases h1 : (plnR (l.drop 1)).e ≠ 0
  · rw [if_pos h1, if_pos h1]
    simp only [if_neg h1]
  · rw [if_neg h1, if_neg h1]
    by_cases h2 : 40 < (plnR (l.drop 1)).n
    · rw [if_pos h2, if_pos h2]; rfl
    · rw [if_neg h2, if_neg h2]
      split
      · simp; omega
      · rename_i h3; simp [h3]

/-- What is read so far, and the rest. -/
def comb (d : List (Int × Int)) (c : Nat) (Y : Int × List (Int × Int) × Nat) : Int × List (Int × Int) × Nat := if Y.1 = 0 then (0, d ++ Y.2.1, c + Y.2.2) else (Y.1, [], 0)
theorem sgls_err (m : Nat) (l : List UInt8) (h : (sglsR m l).1 ≠ 0) : (sglsR m l).2 = ([], 0) := by
  cases m with
  | zero => exact absurd rfl h
  | succ m =>
    unfold sglsR at h ⊢
    split
    · rename_i h1
      rw [if_pos h1] at h
      split
      · rename_i h2; rw [if_pos h2] at h; exact absurd rfl h
      · rfl
    · rfl
theorem comb_nil (m : Nat) (l : List UInt8) : comb [] 0 (sglsR m l) = sglsR m l := by
  unfold comb
  by_cases h : (sglsR m l).1 = 0
  · rw [if_pos h]
    refine Prod.ext h.symm (Prod.ext ?_ ?_) <;> simp
  · rw [if_neg h, ← sgls_err m l h]
theorem comb_step (d : List (Int × Int)) (c m : Nat) (l : List UInt8) (h : (sglR l).e = 0) : comb d c (sglsR (m + 1) l) = comb (d ++ [((sglR l).t, (sglR l).n)]) (c + (sglR l).k) (sglsR m (l.drop (sglR l).k)) := by
  rw [sglsR, if_pos h]
  unfold comb
  by_cases h2 : (sglsR m (l.drop (sglR l).k)).1 = 0
  · simp [h2]; omega
  · simp [h2]
theorem comb_bad (d : List (Int × Int)) (c m : Nat) (l : List UInt8) (h : (sglR l).e ≠ 0) : comb d c (sglsR (m + 1) l) = ((sglR l).e, [], 0) := by
  rw [sglsR, if_neg h]
  unfold comb
  rw [if_neg h]
end Go.Proofs.YtfjibcldghnjcaaDoor
