/-
  iff: isHeaded, Parse.
-/
import Derived.Test.YtifofcodmgglkaaIffQ
namespace Go.Proofs.Ytifofcodmgglkaa
open Go.RowKit Go.Maps
set_option linter.unusedVariables false
set_option linter.unusedSimpArgs false

set_option maxHeartbeats 2000000 in
theorem headed_any (v : Value) (l : List UInt8) (w : World) (h : By w v l) (hl : 12 ≤ l.length) (hl2 : l.length ≤ 1000000) : Calls Try.prog 19 #[v] w fun e w' => e = .returned (.bool (headed l)) ∧ Below w.heap.size w w' := by
  obtain ⟨a, cap, rfl, hc, hm, hn⟩ := h.shape
  obtain ⟨b, off, rfl, hlt, -⟩ := h.at 0 (by omega)
  have s4 := h.drop 4 (by omega)
  have s8 := h.drop 8 (by omega)
  obtain ⟨NM, hNM⟩ : ∃ NM : ByteArray, NM = ⟨(l.take 4).toArray⟩ := ⟨_, rfl⟩
  obtain ⟨NB, hNB⟩ : ∃ NB : ByteArray, NB = ⟨((l.drop 8).take 4).toArray⟩ := ⟨_, rfl⟩
  have t4 : (convert 22 9 (.slice (some ⟨b, off, none⟩) 4 cap)).run Try.prog w = .ok (.string NM) w := by rw [hNM]; exact (h.take 4 cap (by omega) (by omega) (Nat.le_refl _)).text
  have t8 : (convert 22 9 (.slice (some ⟨b, off + 8, none⟩) 4 (cap - 8))).run Try.prog w = .ok (.string NB) w := by rw [hNB]; exact (By.take s8 4 (cap - 8) (by simp; omega) (by omega) (Nat.le_refl _)).text
  have c1 : (NM.toList == [70, 79, 82, 49]) = (l.take 4 == markF) := by rw [tl_eq, hNM]; rfl
  have c2 : (NB.toList == [66, 69, 65, 77]) = ((l.drop 8).take 4 == markB) := by rw [tl_eq, hNB]; rfl
  have HH : Hid (headed l = ((l.take 4 == markF) && ((l.drop 8).take 4 == markB) && decide (cntL (l.drop 4) = l.length - 8))) := rfl
  have HC : Hid (∀ W : World, By W (.slice (some ⟨b, off + 4, none⟩) (l.length - 4) (cap - 4)) (l.drop 4) → Calls Try.prog 29 #[.slice (some ⟨b, off + 4, none⟩) (l.length - 4) (cap - 4)] W fun e w' => e = .returned (.int .i64 (cntL (l.drop 4) : Int)) ∧ Below W.heap.size W w') := fun W hW => count_any _ _ W hW (by simp; omega)
  have hct := cnt_lt (l.drop 4)
  obtain ⟨n, hnn⟩ : ∃ n, n = cntL (l.drop 4) := ⟨_, rfl⟩
  obtain ⟨x, hx⟩ : ∃ x, x = (l.take 4 == markF) := ⟨_, rfl⟩
  obtain ⟨y, hy⟩ : ∃ y, y = ((l.drop 8).take 4 == markB) := ⟨_, rfl⟩
  obtain ⟨z, hz⟩ : ∃ z, headed l = z := ⟨_, rfl⟩
  rw [← hnn] at HC hct HH
  rw [← hx] at c1 HH
  rw [← hy] at c2 HH
  rw [hz] at HH
  rw [hz]
  have h8 : (8 : Int) ≤ (cap : Int) := by omega
  have h8l : (12 : Int) ≤ (l.length : Int) := by omega
  have hbi : ((l.length - 8 : Nat) : Int) = (l.length : Int) - 8 := by omega
  have ec : ¬ cap = 8 := by omega
  have HS4 : Hid (By w (.slice (some ⟨b, off + 4, none⟩) (l.length - 4) (cap - 4)) (l.drop 4)) := s4
  clear hNM hNB hnn hx hy hz h s4 s8 hn
  cases x
  · have HE : Hid (false = z) := by unfold Hid; rw [HH.out]; rfl
    clear HH
    go_enter Try.func19, Try.ntmps19
    go_wp2_with fail
    go_ret
    exact ⟨ret_bool HE.out, Below.refl _ _⟩
  · cases y
    · have HE : Hid (false = z) := by unfold Hid; rw [HH.out]; rfl
      clear HH
      go_enter Try.func19, Try.ntmps19
      go_wp2_with fail
      go_ret
      exact ⟨ret_bool HE.out, Below.refl _ _⟩
    · have HE : Hid (decide (n = l.length - 8) = z) := by unfold Hid; rw [HH.out]; simp
      clear HH
      go_enter Try.func19, Try.ntmps19
      go_wp2_with fail
      refine (HC.out _ HS4.out).mono ?_
      rintro e w1 ⟨rfl, hb1⟩
      have HB1 : Hid _ := hb1
      clear hb1
      go_wp2_with fail
      go_ret
      refine ⟨ret_bool ?_, HB1.out⟩
      rw [← HE.out, Bool.eq_iff_iff]
      simp
      omega
theorem OC.base {w : World} {B B' : Nat} {v : Value} {l : List Ck} (h : OC w B v l) (hb : B' ≤ B) : OC w B' v l := by
  obtain ⟨h1, h2⟩ := h
  refine ⟨h1, ?_⟩
  rcases h2 with h3 | ⟨g, cap, cur, rfl, hb1, h4⟩
  · exact .inl h3
  · exact .inr ⟨g, cap, cur, rfl, Nat.le_trans hb hb1, h4⟩
theorem par_big {l : List UInt8} (h : 65536 < l.length) : parS l = ([], 2) := by unfold parS; rw [if_pos h]
theorem par_short {l : List UInt8} (h : l.length < 12) : parS l = ([], 3) := by unfold parS; rw [if_neg (by omega), if_pos h]
theorem par_form {l : List UInt8} (h : ¬ 65536 < l.length) (h1 : ¬ l.length < 12) (h2 : headed l = false) : parS l = ([], 5) := by unfold parS; rw [if_neg h, if_neg h1, if_pos h2]
theorem par_ok {l : List UInt8} (h : ¬ 65536 < l.length) (h1 : ¬ l.length < 12) (h2 : headed l = true) : parS l = chS (l.drop 12).length [] (l.drop 12) := by unfold parS; rw [if_neg h, if_neg h1, if_neg (by rw [h2]; simp)]

set_option maxHeartbeats 2000000 in
theorem parse_any (v : Value) (l : List UInt8) (w : World) (h : By w v l) : Calls Try.prog 10 #[v] w fun e w' => ParPost w (parS l) e w' := by
  obtain ⟨a, cap, rfl, hc, hm, hn⟩ := h.shape
  by_cases h1 : (65536 : Int) < (l.length : Int)
  · rw [par_big (by omega)]
    go_enter Try.func10, Try.ntmps10
    go_wp2_with fail
    go_ret2
    exact ⟨_, rfl, OC.nil _ _, fun c hc => by simp at hc, Below.refl _ _⟩
  · by_cases h2 : (l.length : Int) < 12
    · rw [par_short (by omega)]
      go_enter Try.func10, Try.ntmps10
      go_wp2_with fail
      go_ret2
      exact ⟨_, rfl, OC.nil _ _, fun c hc => by simp at hc, Below.refl _ _⟩
    · obtain ⟨b, off, rfl, hlt, -⟩ := h.at 0 (by omega)
      have HH : Hid (By w (.slice (some ⟨b, off, none⟩) l.length cap) l) := h
      obtain ⟨ob, hob⟩ : ∃ ob, ob = if cap = 12 then off else off + 12 := ⟨_, rfl⟩
      have hP : (if cap = 12 then some (⟨b, off, none⟩ : Addr) else some ⟨b, off + 12, none⟩) = some ⟨b, ob, none⟩ := by rw [hob]; split <;> rfl
      have HD : Hid (By w (.slice (some ⟨b, ob, none⟩) (l.length - 12) (cap - 12)) (l.drop 12)) := h.dropI 12 ob (by omega) hob
      have h12 : (12 : Int) ≤ (cap : Int) := by omega
      clear hob hn h
      cases hh : headed l
      · rw [par_form (by omega) (by omega) hh]
        have HX : Hid _ := hh
        clear hh
        go_enter Try.func10, Try.ntmps10
        go_wp2_with fail
        refine (headed_any _ l _ HH.out (by omega) (by omega)).mono ?_
        rintro e w1 ⟨rfl, hb1⟩
        rw [HX.out]
        have HB1 : Hid _ := hb1
        clear hb1
        go_wp2_with fail
        go_ret2
        exact ⟨_, rfl, OC.nil _ _, fun c hc => by simp at hc, HB1.out⟩
      · rw [par_ok (by omega) (by omega) hh]
        have HX : Hid _ := hh
        have hck : ∀ W : World, By W (.slice (some ⟨b, ob, none⟩) (l.length - 12) (cap - 12)) (l.drop 12) → Calls Try.prog 20 #[.slice (some ⟨b, ob, none⟩) (l.length - 12) (cap - 12)] W fun e w' => ParPost W (chS (l.drop 12).length [] (l.drop 12)) e w' := fun W hW => chunks_any _ _ W hW (by simp; omega)
        clear hh
        generalize chS (l.drop 12).length [] (l.drop 12) = R at *
        have HCK : Hid (∀ W : World, By W (.slice (some ⟨b, ob, none⟩) (l.length - 12) (cap - 12)) (l.drop 12) → Calls Try.prog 20 #[.slice (some ⟨b, ob, none⟩) (l.length - 12) (cap - 12)] W fun e w' => ParPost W R e w') := hck
        clear hck
        go_enter Try.func10, Try.ntmps10
        go_wp2_with fail
        refine (headed_any _ l _ HH.out (by omega) (by omega)).mono ?_
        rintro e w1 ⟨rfl, hb1⟩
        rw [HX.out]
        have HB1 : Hid _ := hb1
        have HD1 := HD.out.under hb1
        clear hb1
        go_wp2_with fail
        refine (HCK.out _ HD1).mono ?_
        rintro e w2 ⟨v2, rfl, o2, k2, b2⟩
        go_wp2_with fail
        go_ret2
        exact ⟨_, rfl, OC.base o2 HB1.out.size, k2, HB1.out.trans (b2.mono HB1.out.size)⟩
end Go.Proofs.Ytifofcodmgglkaa
