/-
  What is got may be, and is put byte for byte, plain.
-/
import Derived.Test.YtmoonigeghoeeaaDoorCpN
namespace Go.Proofs.YtmoonigeghoeeaaDoor
open Go.RowKit
set_option linter.unusedVariables false
set_option linter.unusedSimpArgs false

theorem num_err (l : List UInt8) : (numR l).e = 0 ∨ (numR l).e = 3 ∨ (numR l).e = 4 := by
  unfold numR
  by_cases h1 : l.length < 1
  · rw [if_pos h1]; exact .inr (.inl rfl)
  rw [if_neg h1]
  by_cases h2 : (szF (l.getD 0 0).toNat).2 = false
  · rw [if_pos h2]; exact .inr (.inr rfl)
  rw [if_neg h2]
  by_cases h3 : ((l.length : Int) - 1) < (szF (l.getD 0 0).toNat).1
  · rw [if_pos h3]; exact .inr (.inl rfl)
  rw [if_neg h3]
  split
  · exact .inl rfl
  · exact .inr (.inr rfl)
theorem pln_err (l : List UInt8) : (plnR l).e = 0 ∨ (plnR l).e = 3 ∨ (plnR l).e = 4 := by
  unfold plnR
  split
  · exact .inr (.inr rfl)
  · exact num_err l
theorem sgl_err (l : List UInt8) : (sglR l).e = 0 ∨ (sglR l).e = 3 ∨ (sglR l).e = 4 := by
  unfold sglR
  split
  · split
    · exact .inl rfl
    · exact pln_err _
  · exact num_err l
theorem sgls_errs : ∀ (m : Nat) (l : List UInt8), (sglsR m l).1 = 0 ∨ (sglsR m l).1 = 3 ∨ (sglsR m l).1 = 4
  | 0, l => .inl rfl
  | m + 1, l => by
    rw [sglsR]
    split
    · split
      · exact .inl rfl
      · exact sgls_errs m _
    · exact sgl_err l
theorem lst_err (l : List UInt8) : (lstR l).1 = 0 ∨ (lstR l).1 = 3 ∨ (lstR l).1 = 4 := by
  unfold lstR
  split
  · exact pln_err l
  · split
    · exact .inr (.inr rfl)
    · split
      · exact .inl rfl
      · exact sgls_errs _ _
theorem op_err (l : List UInt8) : (opR l).1 = 0 ∨ (opR l).1 = 3 ∨ (opR l).1 = 4 := by
  by_cases h : 0 < l.length ∧ l.getD 0 0 = 23
  · rw [op_list h]; exact lst_err _
  · unfold opR
    rw [if_neg h]
    split
    · exact .inl rfl
    · exact sgl_err l
theorem sgls_read : ∀ (m : Nat) (l : List UInt8), (sglsR m l).1 = 0 → (sglsR m l).2.1.length = m ∧ (sglsR m l).2.2 ≤ l.length ∧ (∀ p ∈ (sglsR m l).2.1, okN1 p.1 p.2 = true) ∧ sglsB (sglsR m l).2.1 = l.take (sglsR m l).2.2
  | 0, l, _ => ⟨rfl, Nat.zero_le _, fun p hp => by simp [sglsR] at hp, by simp [sglsR, sglsB]⟩
  | m + 1, l, h => by
    rw [sglsR] at h ⊢
    by_cases h1 : (sglR l).e = 0
    · rw [if_pos h1] at h ⊢
      by_cases h2 : (sglsR m (l.drop (sglR l).k)).1 = 0
      · rw [if_pos h2] at h ⊢
        obtain ⟨a, b, c, d⟩ := sgl_read h1
        obtain ⟨e, f, g, i⟩ := sgls_read m _ h2
        dsimp only
        have hl : (l.drop (sglR l).k).length = l.length - (sglR l).k := by simp
        refine ⟨by simp [e], by omega, ?_, ?_⟩
        · intro p hp
          rcases List.mem_cons.1 hp with rfl | h
          · exact c
          · exact g p h
        · have e2 : sglsB (((sglR l).t, (sglR l).n) :: (sglsR m (l.drop (sglR l).k)).2.1) = sglB (sglR l).t (sglR l).n ++ sglsB (sglsR m (l.drop (sglR l).k)).2.1 := by simp [sglsB]
          rw [e2, d, i, ← List.take_add]
      · rw [if_neg h2] at h; exact absurd h h2
    · rw [if_neg h1] at h; exact absurd h h1
theorem op_read {l : List UInt8} (h : (opR l).1 = 0) : (opR l).2.1.ok = true ∧ (opR l).2.1.put = l.take (opR l).2.2 ∧ 1 ≤ (opR l).2.2 ∧ (opR l).2.2 ≤ l.length := by
  by_cases h23 : 0 < l.length ∧ l.getD 0 0 = 23
  · rw [op_list h23] at h ⊢
    dsimp only at h ⊢
    rw [if_pos h]
    have hdl : (l.drop 1).length = l.length - 1 := by simp
    obtain ⟨h0, hx⟩ := h23
    unfold lstR at h ⊢
    by_cases h1 : (plnR (l.drop 1)).e ≠ 0
    · rw [if_pos h1] at h; exact absurd h h1
    rw [if_neg h1] at h ⊢
    by_cases h2 : 40 < (plnR (l.drop 1)).n
    · rw [if_pos h2] at h; cases h
    rw [if_neg h2] at h ⊢
    by_cases h3 : (sglsR (plnR (l.drop 1)).n.toNat ((l.drop 1).drop (plnR (l.drop 1)).k)).1 = 0
    · rw [if_pos h3] at h ⊢
      dsimp only
      obtain ⟨-, -, b, c, d, e, f⟩ := pln_read (l := l.drop 1) (by omega)
      obtain ⟨g, i, j, k⟩ := sgls_read _ _ h3
      generalize sglsR (plnR (l.drop 1)).n.toNat ((l.drop 1).drop (plnR (l.drop 1)).k) = Y at *
      have hl2 : ((l.drop 1).drop (plnR (l.drop 1)).k).length = l.length - 1 - (plnR (l.drop 1)).k := by rw [List.length_drop, hdl]
      have hY : (Y.2.1.length : Int) = (plnR (l.drop 1)).n := by omega
      refine ⟨?_, ?_, by omega, by omega⟩
      · unfold Ar.ok
        rw [if_pos rfl]
        simp only [Bool.and_eq_true, decide_eq_true_eq, List.all_eq_true]
        exact ⟨⟨trivial, by omega⟩, j⟩
      · rw [Ar.put_eq, if_pos rfl]
        dsimp only
        rw [hY, e, k, ← List.take_add]
        match l, h0, hx with
        | x :: r, h0, hx =>
          have hx' : x = 23 := by simpa using hx
          subst hx'
          rw [Nat.add_comm 1, List.take_succ_cons]
          rfl
    · rw [if_neg h3] at h; exact absurd h h3
  · unfold opR at h ⊢
    rw [if_neg h23] at h ⊢
    by_cases h1 : (sglR l).e = 0
    · rw [if_pos h1] at h ⊢
      obtain ⟨a, b, c, d⟩ := sgl_read h1
      have h7 : (sglR l).t ≠ 7 := by unfold okN1 at c; split at c <;> simp at c <;> omega
      refine ⟨?_, ?_, b, a⟩
      · unfold Ar.ok
        rw [if_neg h7]
        simp [c]
      · rw [Ar.put_eq, if_neg h7]
        exact d
    · rw [if_neg h1] at h; exact absurd h h1
/-- An operand in memory as one. -/
def Ar.el (a : Ar) (p : Option Addr) (c : Nat) : El := ⟨a.t, a.n, p, a.l.length, c⟩
theorem els_of (l : List (Int × Int)) : elsB (l.map elOf) = sglsB l := by
  unfold elsB sglsB
  rw [List.map_map]
  rfl
theorem el_ok {a : Ar} (h : a.ok = true) (p : Option Addr) (c : Nat) : (a.el p c).ok (a.l.map elOf) = true := by
  unfold El.ok Ar.el
  dsimp only
  by_cases h7 : a.t = 7
  · obtain ⟨h1, h2, h3⟩ := ok7 h h7
    rw [if_pos h7]
    simp only [Bool.and_eq_true, decide_eq_true_eq, List.all_eq_true, List.length_map]
    refine ⟨⟨h1, h2⟩, fun x hx => ?_⟩
    obtain ⟨q, hq, rfl⟩ := List.mem_map.1 hx
    unfold El.ok1 elOf
    simp [h3 q hq]
  · obtain ⟨h1, h2⟩ := ok1 h h7
    rw [if_neg h7]
    unfold El.ok1
    simp [h1, h2]
theorem el_put {a : Ar} (h : a.ok = true) (p : Option Addr) (c : Nat) : (a.el p c).putS (a.l.map elOf) = a.put := by
  unfold El.putS
  rw [if_pos (el_ok h p c)]
  unfold El.put
  rw [Ar.put_eq, els_of, List.length_map]
  rfl
theorem el_fit {a : Ar} (h : a.ok = true) (p : Option Addr) (c : Nat) (hc : a.l.length ≤ c) (hm : (c : Int) ≤ 9223372036854775807) : El.fit (a.el p c) := by
  unfold El.fit Ar.el
  dsimp only
  by_cases h7 : a.t = 7
  · obtain ⟨h1, h2, h3⟩ := ok7 h h7
    omega
  · obtain ⟨h1, h2⟩ := ok1 h h7
    unfold okN1 at h1
    split at h1 <;> simp at h1 <;> omega
theorem get_zero (l : List UInt8) : getS l 0 = if (opR l).1 = 0 then ((opR l).2.1, ((opR l).2.2 : Int), 0) else (Ar.zero, 0, (opR l).1) := by
  unfold getS
  rw [if_neg (by omega)]
  simp
theorem get_put {a : Ar} (h : a.ok = true) : getS a.put 0 = (a, (a.put.length : Int), 0) := by
  have := op_of h []
  rw [List.append_nil] at this
  rw [get_zero, this]
  rfl
theorem sgl_ar {t n : Int} (h : okP t n) : (⟨t, n, []⟩ : Ar).ok = true ∧ (⟨t, n, []⟩ : Ar).put = numB t n := by
  have h5 := okP_five h
  constructor
  · unfold Ar.ok
    dsimp only
    rw [if_neg (by omega), okN1_of h]
    rfl
  · rw [Ar.put_eq, if_neg (by dsimp only; omega)]
    unfold sglB
    rw [if_neg (by dsimp only; omega)]
theorem putS_num {t n : Int} (h : okP t n) : ([] ++ El.putS ⟨t, n, none, 0, 0⟩ [] : List UInt8) = numB t n := by
  have h5 := okP_five h
  rw [List.nil_append, putS_sgl (by omega), if_pos (okN1_of h)]
  unfold sglB
  rw [if_neg (by omega)]
end Go.Proofs.YtmoonigeghoeeaaDoor
