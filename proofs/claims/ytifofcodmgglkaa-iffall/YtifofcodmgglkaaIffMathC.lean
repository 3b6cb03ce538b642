/-
  Chunks by numbers: their names, their file.
-/
import Derived.Test.YtifofcodmgglkaaIffMathB
namespace Go.Proofs.Ytifofcodmgglkaa
set_option linter.unusedVariables false
set_option linter.unusedSimpArgs false

/-- The name of chunk i. -/
def nmI (i : Nat) : ByteArray := (ByteArray.mk #[67, 104] ++ (ByteArray.mk #[48, 49, 50, 51, 52, 53, 54, 55, 56, 57]).extract i (i + 1)) ++ ByteArray.mk #[120]
theorem nm_ok : ∀ i, i < 10 → okN (nmI i).data.toList = true ∧ (nmI i).data.toList ≠ [110, 111, 110, 101] ∧ (nmI i).size = 4 := by decide +kernel
theorem nm_inj : ∀ i, i < 10 → ∀ j, j < 10 → (nmI i).data.toList = (nmI j).data.toList → i = j := by decide +kernel
/-- Chunks with data, by their numbers. -/
def ckF : Nat → List ByteArray → List Ck
  | _, [] => []
  | i, s :: r => (nmI i, s) :: ckF (i + 1) r
theorem ckF_len : ∀ (i : Nat) (l : List ByteArray), (ckF i l).length = l.length
  | _, [] => rfl
  | i, s :: r => by simp [ckF, ckF_len (i + 1) r]
theorem ckF_snoc : ∀ (i : Nat) (l : List ByteArray) (s : ByteArray), ckF i (l ++ [s]) = ckF i l ++ [(nmI (i + l.length), s)]
  | i, [], s => by simp [ckF]
  | i, x :: r, s => by
    simp only [List.cons_append, ckF, ckF_snoc (i + 1) r s, List.length_cons]
    rw [show i + 1 + r.length = i + (r.length + 1) by omega]
theorem ckF_at : ∀ (i : Nat) (l : List ByteArray) (k : Nat) (h : k < l.length), (ckF i l)[k]'(by rw [ckF_len]; exact h) = (nmI (i + k), l[k])
  | i, x :: r, 0, _ => rfl
  | i, x :: r, k + 1, h => by
    simp only [ckF, List.getElem_cons_succ]
    rw [ckF_at (i + 1) r k (by simpa using h), show i + 1 + k = i + (k + 1) by omega]
theorem has_ckF : ∀ (i : Nat) (l : List ByteArray) (j : Nat), i + l.length ≤ j → j < 10 → hasN (ckF i l) (nmI j) = false
  | i, [], j, _, _ => rfl
  | i, s :: r, j, h, hj => by
    have ih := has_ckF (i + 1) r j (by simp only [List.length_cons] at h; omega) hj
    unfold hasN at ih ⊢
    simp only [ckF, List.any_cons, ih, Bool.or_false]
    rw [beq_eq_false_iff_ne]
    intro e
    have := nm_inj i (by simp only [List.length_cons] at h; omega) j hj e
    simp only [List.length_cons] at h
    omega
theorem has_app (a b : List Ck) (s : ByteArray) : hasN (a ++ b) s = (hasN a s || hasN b s) := by simp [hasN]
theorem ref_ckF : ∀ (r p : List ByteArray), p.length + r.length ≤ 10 → refS (ckF 0 p) (ckF p.length r) = 0
  | [], p, _ => rfl
  | s :: r, p, h => by
    simp only [List.length_cons] at h
    simp only [ckF, refS]
    rw [if_neg (by rw [(nm_ok _ (by omega)).1]; simp), if_neg (by rw [has_ckF 0 p p.length (by omega) (by omega)]; simp)]
    have := ref_ckF r (p ++ [s]) (by simp only [List.length_append, List.length_cons, List.length_nil]; omega)
    rw [ckF_snoc] at this
    simpa using this
theorem siz_app : ∀ (a b : List Ck), sizS (a ++ b) = sizS a + sizS b
  | [], b => by simp [sizS]
  | c :: a, b => by simp only [List.cons_append, sizS, siz_app a b]; omega
theorem siz_ckF : ∀ (i : Nat) (l : List ByteArray), (∀ s ∈ l, s.size ≤ 2000) → sizS (ckF i l) ≤ l.length * 2011
  | _, [], _ => by simp [ckF, sizS]
  | i, s :: r, h => by
    have h1 := siz_ckF (i + 1) r (fun x hx => h x (by simp [hx]))
    have h2 := h s (by simp)
    have h3 := mis_lt s.size
    simp only [ckF, sizS, ckL, List.length_cons]
    omega
theorem mak_ckF {l : List ByteArray} (h : l.length ≤ 10) (hs : ∀ s ∈ l, s.size ≤ 2000) : (makS (ckF 0 l)).2 = 0 ∧ (makS (ckF 0 l)).1.length = 12 + sizS (ckF 0 l) := by
  have hr : refS [] (ckF 0 l) = 0 := by
    have := ref_ckF l [] (by simpa using h)
    simpa [ckF] using this
  have hz := siz_ckF 0 l hs
  have e : (makS (ckF 0 l)).2 = 0 := by
    unfold makS
    rw [if_neg (by simpa using hr), if_neg (by omega)]
  exact ⟨e, (mak_ok e).2.2.2⟩
theorem up4 (n : Nat) : n + mis n = (n + 3) / 4 * 4 := by unfold mis; omega
theorem fin_ckF : ∀ (i : Nat) (l : List ByteArray) (k : Nat) (h : k < l.length), i + l.length ≤ 10 → finS (ckF i l) (nmI (i + k)) = (l[k], true)
  | i, x :: r, 0, _, _ => by simp [ckF, finS]
  | i, x :: r, k + 1, h, hl => by
    simp only [List.length_cons] at h hl
    simp only [ckF, finS, List.getElem_cons_succ]
    rw [if_neg (by intro e; have := nm_inj i (by omega) (i + (k + 1)) (by omega) e; omega)]
    have := fin_ckF (i + 1) r k (by omega) (by omega)
    rwa [show i + 1 + k = i + (k + 1) by omega] at this
theorem fin_none : ∀ (i : Nat) (l : List ByteArray), i + l.length ≤ 10 → (finS (ckF i l) ⟨#[110, 111, 110, 101]⟩).2 = false
  | i, [], _ => rfl
  | i, x :: r, hl => by
    simp only [List.length_cons] at hl
    simp only [ckF, finS]
    rw [if_neg (nm_ok i (by omega)).2.1]
    exact fin_none (i + 1) r (by omega)
/-- Another length. -/
theorem par_len {l : List Ck} (h : (makS l).2 = 0) (v : Nat) (hv : v < 4294967296) : parS (markF ++ four v ++ markB ++ bodyS l) = if v = (makS l).1.length - 8 then (l, 0) else ([], 5) := by
  obtain ⟨h1, h2, h3, h4⟩ := mak_ok h
  by_cases e : v = (makS l).1.length - 8
  · rw [if_pos e]
    have : v = 4 + sizS l := by omega
    rw [this, ← h3]
    exact par_mak h
  · rw [if_neg e]
    obtain ⟨p1, p2, p3, p4⟩ := file_parts v (bodyS l)
    have hl : (markF ++ four v ++ markB ++ bodyS l).length = 12 + sizS l := by
      rw [h3] at h4
      simpa [four_len] using h4
    have hh : headed (markF ++ four v ++ markB ++ bodyS l) = false := by
      unfold headed
      rw [hl, p1, p2, p3, cnt_four _ hv]
      simp
      omega
    unfold parS
    rw [if_neg (by omega), if_neg (by omega), if_pos hh]
end Go.Proofs.Ytifofcodmgglkaa
