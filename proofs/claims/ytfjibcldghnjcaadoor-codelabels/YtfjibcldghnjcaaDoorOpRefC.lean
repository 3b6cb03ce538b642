
/-
  The document's and the program's letters are the same; relictref06.Check of a tree.
-/
import Derived.Test.YtfjibcldghnjcaaDoorOpRefB
import Derived.Test.YtfjibcldghnjcaaDoorZOpD
namespace Go.Proofs.YtfjibcldghnjcaaDoor
open Go.RowKit
set_option linter.unusedVariables false
set_option linter.unusedSimpArgs false

def ok1A (a : Ag) : Bool := okN1 a.t a.n && decide (a.kids.length = 0)
/-- Whether an operand may be, by the document. -/
def chkA (a : Ag) : Bool := if a.t = 7 then decide (a.n = 0) && decide (a.kids.length ≤ 40) && a.kids.all ok1A else ok1A a
theorem all_map_eq {α β : Type} {f : α → Bool} {g : β → Bool} : ∀ (l : List α) (m : List β), l.length = m.length → (∀ i (h : i < l.length) (h' : i < m.length), f l[i] = g m[i]) → l.all f = m.all g
  | [], [], _, _ => rfl
  | [], _ :: _, h, _ => by simp at h
  | _ :: _, [], h, _ => by simp at h
  | x :: l, y :: m, h, hf => by
    rw [List.all_cons, List.all_cons, all_map_eq l m (by simpa using h) (fun i h1 h2 => hf (i + 1) (Nat.succ_lt_succ h1) (Nat.succ_lt_succ h2))]
    have := hf 0 (by simp) (by simp)
    simp only [List.getElem_cons_zero] at this
    rw [this]
theorem one_src (x : Ag) : (ok1A x && srcA x) = fit1 115 x := by
  obtain ⟨t, n, K⟩ := x
  rw [Bool.eq_iff_iff]
  unfold ok1A srcA srcT regT fit1 mbA okN1 loT hiT htB
  dsimp only
  generalize K.length = m
  by_cases h7 : t = 7
  · subst h7; simp
  by_cases h1 : t = 1
  · subst h1; simp
  by_cases h3 : t = 3
  · subst h3; simp; omega
  by_cases h4 : t = 4
  · subst h4; simp; omega
  simp [h7, h1, h3, h4]; omega
theorem one_co (x : Ag) : (coA x && ok1A x) = (coA x && mbA x) := by
  obtain ⟨t, n, K⟩ := x
  rw [Bool.eq_iff_iff]
  unfold ok1A coA mbA okN1 loT hiT
  dsimp only
  generalize K.length = m
  by_cases h1 : t = 1
  · subst h1; simp
  by_cases h2 : t = 2
  · subst h2; simp
  simp [h1, h2]
theorem one_lab (x : Ag) : (ok1A x && decide (x.t = 5) && decide (x.n ≠ 0)) = fit1 108 x := by
  obtain ⟨t, n, K⟩ := x
  rw [Bool.eq_iff_iff]
  unfold ok1A fit1 mbA okN1 loT hiT htB
  dsimp only
  generalize K.length = m
  by_cases h5 : t = 5
  · subst h5; simp
  · simp [h5]
theorem pair_eq {K : List Ag} {j : Nat} (h : 2 * j + 1 < K.length) : (ok1A (K.getD (2 * j) zA) && ok1A (K.getD (2 * j + 1) zA) && rpB K j) = prB K j := by
  unfold rpB prB
  have e1 := one_co (K.getD (2 * j) zA)
  have e2 := one_lab (K.getD (2 * j + 1) zA)
  generalize (List.range j).all (fun e => !sameTN (K.getD (2 * e) zA) (K.getD (2 * j) zA)) = q at *
  rw [← e2]
  generalize coA (K.getD (2 * j) zA) = c at *
  generalize ok1A (K.getD (2 * j) zA) = o at *
  generalize mbA (K.getD (2 * j) zA) = m at *
  generalize ok1A (K.getD (2 * j + 1) zA) = o2 at *
  generalize decide ((K.getD (2 * j + 1) zA).t = 5) = d at *
  generalize decide ((K.getD (2 * j + 1) zA).n ≠ 0) = d2 at *
  cases c <;> cases o <;> cases m <;> cases o2 <;> cases d <;> cases d2 <;> cases q <;> simp_all
theorem pairs_eq (K : List Ag) : (K.all ok1A && rpairsB K) = pairsB K := by
  unfold rpairsB pairsB
  by_cases h2 : K.length % 2 = 0
  · simp only [h2, decide_true, Bool.true_and]
    rw [Bool.eq_iff_iff, Bool.and_eq_true, List.all_eq_true, List.all_eq_true, List.all_eq_true]
    have hg : ∀ i (h : i < K.length), K.getD i zA = K[i] := fun i h => by rw [List.getD_eq_getElem?_getD, List.getElem?_eq_getElem h]; rfl
    constructor
    · rintro ⟨ha, hp⟩ j hj
      have hjl : 2 * j + 1 < K.length := by have := List.mem_range.1 hj; omega
      rw [← pair_eq hjl, hp j hj, hg _ (by omega), hg _ hjl, ha _ (List.getElem_mem _), ha _ (List.getElem_mem _)]
      rfl
    · intro h
      refine ⟨fun x hx => ?_, fun j hj => ?_⟩
      · obtain ⟨i, hi, rfl⟩ := List.getElem_of_mem hx
        have hj := h (i / 2) (List.mem_range.2 (by omega))
        rw [← pair_eq (by omega), Bool.and_eq_true, Bool.and_eq_true] at hj
        rcases (show i = 2 * (i / 2) ∨ i = 2 * (i / 2) + 1 by omega) with e | e
        · have := hj.1.1
          rw [← e, hg i hi] at this
          exact this
        · have := hj.1.2
          rw [← e, hg i hi] at this
          exact this
      · have hjl : 2 * j + 1 < K.length := by have := List.mem_range.1 hj; omega
        have := h j hj
        rw [← pair_eq hjl, Bool.and_eq_true] at this
        exact this.2
  · simp [h2]
theorem srcs_eq (K : List Ag) : (K.all ok1A && K.all srcA) = K.all (fit1 115) := by
  induction K with
  | nil => rfl
  | cons x t ih =>
    rw [List.all_cons, List.all_cons, List.all_cons, ← ih, ← one_src]
    generalize ok1A x = a; generalize srcA x = b; generalize t.all ok1A = c; generalize t.all srcA = d
    cases a <;> cases b <;> cases c <;> cases d <;> rfl
theorem let_fit {c : Int} (hc : isLet c) (a : Ag) : (chkA a && rletA c a) = fitA c a := by
  obtain ⟨t, n, K⟩ := a
  by_cases h7 : t = 7
  · subst h7
    unfold chkA fitA rletA
    rcases hc with rfl | rfl | rfl | rfl | rfl | rfl | rfl | rfl | rfl | rfl
    · simp
    · simp
    · simp [srcA, srcT, regT]
    · simp [regT]
    · simp [regT]
    · simp [regT]
    · simp
    · simp
    · simp only [← pairs_eq]
      simp [Bool.and_assoc]
    · simp only [← srcs_eq]
      simp [Bool.and_assoc]
  · rw [Bool.eq_iff_iff]
    unfold chkA fitA rletA
    rw [if_neg h7, if_neg h7]
    unfold ok1A okN1 mbA loT hiT htB srcA srcT regT
    dsimp only
    generalize K.length = m
    rcases hc with rfl | rfl | rfl | rfl | rfl | rfl | rfl | rfl | rfl | rfl
    all_goals
      by_cases h1 : t = 1
      · subst h1; simp
      by_cases h3 : t = 3
      · subst h3; simp <;> omega
      by_cases h4 : t = 4
      · subst h4; simp <;> omega
      simp [h7, h1, h3, h4] <;> omega
theorem let_is {op : Int} {k : Nat} (hk : k < (sigS op).length) : isLet (letA op k) := by
  unfold letA
  have h : ∀ i < 51, ∀ j < (sigT.getD i []).length, isLet ((((sigT.getD i []).getD j 0).toNat : Nat) : Int) := by unfold isLet; decide +kernel
  unfold sigS at hk ⊢
  by_cases hop : 1 ≤ op ∧ op ≤ 51
  · rw [if_pos hop] at hk ⊢
    exact h _ (by omega) k hk
  · rw [if_neg hop] at hk
    simp at hk
end Go.Proofs.YtfjibcldghnjcaaDoor
