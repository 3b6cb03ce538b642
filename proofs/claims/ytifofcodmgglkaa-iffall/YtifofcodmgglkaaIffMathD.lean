/-
  A file cut, with bytes more, with another beginning; a chunk twice.
-/
import Derived.Test.YtifofcodmgglkaaIffMathC
namespace Go.Proofs.Ytifofcodmgglkaa
set_option linter.unusedVariables false
set_option linter.unusedSimpArgs false

theorem par_nohead {b : List UInt8} (h1 : 12 ≤ b.length) (h2 : b.length ≤ 65536) (h : headed b = false) : parS b = ([], 5) := by
  unfold parS
  rw [if_neg (by omega), if_neg (by omega), if_pos h]
theorem cnt_file {l : List Ck} (h : (makS l).2 = 0) (r : List UInt8) : cntL (((makS l).1 ++ r).drop 4) = (makS l).1.length - 8 := by
  obtain ⟨h1, h2, h3, h4⟩ := mak_ok h
  rw [h4, h3, show (markF ++ four (4 + sizS l) ++ markB ++ bodyS l ++ r).drop 4 = four (4 + sizS l) ++ (markB ++ bodyS l ++ r) by simp [markF], cnt_four _ (by omega)]
  omega
theorem cnt_take {l : List UInt8} {j : Nat} (h : 8 ≤ j) : cntL ((l.take j).drop 4) = cntL (l.drop 4) := by
  unfold cntL
  have e : ∀ i, i < 4 → ((l.take j).drop 4).getD i 0 = (l.drop 4).getD i 0 := by
    intro i hi
    simp only [List.getD, List.getElem?_drop, List.getElem?_take]
    rw [if_pos (by omega)]
  rw [e 0 (by omega), e 1 (by omega), e 2 (by omega), e 3 (by omega)]
/-- Cut. -/
theorem par_cut {l : List Ck} (h : (makS l).2 = 0) {j : Nat} (hj : j < (makS l).1.length) : parS ((makS l).1.take j) = ([], if j < 12 then 3 else 5) := by
  obtain ⟨h1, h2, h3, h4⟩ := mak_ok h
  have hl : ((makS l).1.take j).length = j := by simp; omega
  by_cases h12 : j < 12
  · rw [if_pos h12]
    unfold parS
    rw [hl, if_neg (by omega), if_pos h12]
  · rw [if_neg h12]
    refine par_nohead (by omega) (by omega) ?_
    have hc := cnt_file h []
    rw [List.append_nil] at hc
    unfold headed
    rw [hl, cnt_take (by omega), hc, decide_eq_false (by omega), Bool.and_false]
/-- With four bytes more. -/
theorem par_more {l : List Ck} (h : (makS l).2 = 0) (hs : (makS l).1.length ≤ 60000) : parS ((makS l).1 ++ [0, 0, 0, 0]) = ([], 5) := by
  obtain ⟨h1, h2, h3, h4⟩ := mak_ok h
  have hl : ((makS l).1 ++ [0, 0, 0, 0]).length = (makS l).1.length + 4 := by simp
  refine par_nohead (by omega) (by omega) ?_
  unfold headed
  rw [hl, cnt_file h, decide_eq_false (by omega), Bool.and_false]
/-- With another beginning. -/
theorem par_other {l : List Ck} (h : (makS l).2 = 0) {j : Nat} (hj : j < 4) {x : UInt8} (hx : x ≠ (makS l).1.getD j 0) : parS ((makS l).1.set j x) = ([], 5) := by
  obtain ⟨h1, h2, h3, h4⟩ := mak_ok h
  refine par_nohead (by simp; omega) (by simp; omega) ?_
  unfold headed
  have : ((((makS l).1.set j x).take 4) == markF) = false := by
    rw [beq_eq_false_iff_ne]
    intro e
    have e1 : (((makS l).1.set j x).take 4).getD j 0 = markF.getD j 0 := by rw [e]
    have e2 : (((makS l).1.set j x).take 4).getD j 0 = x := by
      simp only [List.getD, List.getElem?_take, if_pos hj]
      rw [List.getElem?_set_self (by omega)]
      rfl
    have e3 : (makS l).1.getD j 0 = markF.getD j 0 := by
      rw [h3]
      have : j = 0 ∨ j = 1 ∨ j = 2 ∨ j = 3 := by omega
      rcases this with rfl | rfl | rfl | rfl <;> rfl
    rw [e2] at e1
    rw [e3] at hx
    exact hx e1
  rw [this]
  rfl
theorem ref_twice : ∀ (l seen : List Ck) (c : Ck), refS seen l = 0 → okN c.1.data.toList = true → hasN (seen ++ l) c.1 = true → refS seen (l ++ [c]) = 6
  | [], seen, c, _, hok, hh => by
    simp only [List.nil_append, refS]
    rw [if_neg (by rw [hok]; simp), if_pos (by simpa using hh)]
  | x :: r, seen, c, h, hok, hh => by
    unfold refS at h
    split at h
    · cases h
    · split at h
      · cases h
      · rename_i h1 h2
        simp only [List.cons_append, refS]
        rw [if_neg h1, if_neg h2]
        exact ref_twice r _ c h hok (by simpa using hh)
/-- A chunk twice. -/
theorem mak_twice {l : List Ck} (h : (makS l).2 = 0) {c : Ck} (hc : c ∈ l) : makS (l ++ [c]) = ([], 6) := by
  obtain ⟨h1, h2, h3, h4⟩ := mak_ok h
  have hr : refS [] (l ++ [c]) = 6 := by
    refine ref_twice l [] c h1 (ref_ok l [] h1 c hc) ?_
    simp only [List.nil_append, hasN, List.any_eq_true]
    exact ⟨c, hc, by simp⟩
  unfold makS
  rw [hr]
  rfl
theorem siz_few : ∀ (l : List Ck), (∀ c ∈ l, (c.2.size : Int) ≤ 3000) → sizS l ≤ l.length * 3011
  | [], _ => by simp [sizS]
  | c :: r, h => by
    have h1 := siz_few r (fun x hx => h x (by simp [hx]))
    have h2 := h c (by simp)
    have h3 := mis_lt c.2.size
    simp only [sizS, ckL, List.length_cons]
    omega
end Go.Proofs.Ytifofcodmgglkaa
