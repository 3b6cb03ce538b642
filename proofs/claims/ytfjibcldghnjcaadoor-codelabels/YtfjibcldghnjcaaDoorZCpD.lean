import Derived.Test.YtfjibcldghnjcaaDoorCpC
/-
  compact: Check, put, Put.
-/
namespace Go.Proofs.YtfjibcldghnjcaaDoor
open Go.RowKit
set_option linter.unusedVariables false
set_option linter.unusedSimpArgs false

set_option maxRecDepth 100000 in
set_option maxHeartbeats 2000000 in
theorem check_any (x : El) (l : List El) (w : World) (hS : Spn w) (hf : x.fit) (h : Rw3 w x.sl l) (hm : x.m = l.length) :
    Calls Tryd.prog 24 #[agV x.t x.n x.sl] w fun e w' => e = .returned (.bool (x.ok l)) ∧ Below w.heap.size w w' := by
  obtain ⟨r, hr⟩ : ∃ r, x.ok l = r := ⟨_, rfl⟩
  have HR : Hid (x.ok l = r) := hr
  rw [hr]; clear hr
  obtain ⟨t, n, a, m, c⟩ := x
  have hfit := hf
  unfold El.fit at hf
  unfold El.sl at h ⊢
  dsimp only at hm hf h ⊢
  subst hm
  have hb1 := (Below.refl w.heap.size w).alloc (Nat.le_refl _) (.cells #[.int .i64 t, .int .i64 n, .slice a l.length c] 30)
  have HB1 : Hid (Below w.heap.size w (w.alloc (.cells #[.int .i64 t, .int .i64 n, .slice a l.length c] 30))) := hb1
  have HX : Hid (BxA (w.alloc (.cells #[.int .i64 t, .int .i64 n, .slice a l.length c] 30)) w.heap.size t n (.slice a l.length c)) := BxA.new w t n _
  have HS1 : Hid (Spn (w.alloc (.cells #[.int .i64 t, .int .i64 n, .slice a l.length c] 30))) := hS.under hb1
  have HH1 : Hid (Rw3 (w.alloc (.cells #[.int .i64 t, .int .i64 n, .slice a l.length c] 30)) (.slice a l.length c) l) := h.under hb1
  have HF : Hid (El.fit ⟨t, n, a, l.length, c⟩) := hfit
  unfold agV
  clear hb1 hfit hS h
  by_cases h7 : t = 7
  · subst h7
    by_cases h0 : n = 0
    · by_cases h40 : (l.length : Int) ≤ 40
      · have HRR : Hid (r = l.all El.ok1) := by unfold Hid; rw [← HR.out]; unfold El.ok; rw [if_pos rfl]; simp [h0, show l.length ≤ 40 by omega]
        subst h0
        go_enter Tryd.func24, Tryd.ntmps24
        go_wp2_with fail
        have hq1 := HS1.out
        have hq2 := HH1.out
        have hq := areSingle_any _ l _ hq1 hq2
        refine hq.mono ?_
        rintro e w2 ⟨rfl, b2⟩
        have HB2 : Hid (Below w.heap.size w w2) := HB1.out.trans (b2.mono HB1.out.size)
        clear b2
        go_wp2_with fail
        go_ret
        exact ⟨ret_bool HRR.out.symm, HB2.out⟩
      · have HRR : Hid (r = false) := by unfold Hid; rw [← HR.out]; unfold El.ok; rw [if_pos rfl]; simp [h0, show ¬ l.length ≤ 40 by omega]
        subst h0
        go_enter Tryd.func24, Tryd.ntmps24
        go_wp2_with fail
        go_ret
        exact ⟨ret_bool HRR.out.symm, HB1.out⟩
    · have HRR : Hid (r = false) := by unfold Hid; rw [← HR.out]; unfold El.ok; rw [if_pos rfl]; simp [h0]
      go_enter Tryd.func24, Tryd.ntmps24
      go_wp2_with fail
      go_ret
      exact ⟨ret_bool HRR.out.symm, HB1.out⟩
  · have HRR : Hid (r = El.ok1 ⟨t, n, a, l.length, c⟩) := by unfold Hid; rw [← HR.out]; unfold El.ok; rw [if_neg h7]
    have HO : Hid (∀ W : World, Rw3 (W.alloc (.cells #[.int .i64 t, .int .i64 n, .slice a l.length c] 30)) (.slice (some ⟨W.heap.size, 0, none⟩) 1 1) [⟨t, n, a, l.length, c⟩]) := fun W => Rw3.one W ⟨t, n, a, l.length, c⟩ HF.out
    have HS2 : Hid (∀ o, Spn ((w.alloc (.cells #[.int .i64 t, .int .i64 n, .slice a l.length c] 30)).alloc o)) := fun o => Spn.under HS1.out ((Below.refl _ _).alloc (Nat.le_refl _) o)
    obtain ⟨c0, c1, c2, -⟩ := HX.out.facts
    go_enter Tryd.func24, Tryd.ntmps24
    go_wp2_with fail
    have hq2 := HO.out (w.alloc (.cells #[.int .i64 t, .int .i64 n, .slice a l.length c] 30))
    have hq1 := HS2.out (.cells #[.int .i64 t, .int .i64 n, .slice a l.length c] 30)
    rw [show (w.alloc (.cells #[.int .i64 t, .int .i64 n, .slice a l.length c] 30)).heap.size = w.heap.size + 1 by simp] at hq2
    have hq := areSingle_any _ _ _ hq1 hq2
    refine hq.mono ?_
    rintro e w2 ⟨rfl, b2⟩
    have HB2 : Hid (Below w.heap.size w w2) := (HB1.out.alloc HB1.out.size _).trans (b2.mono (HB1.out.alloc HB1.out.size _).size)
    clear b2
    go_wp2_with fail
    go_ret
    exact ⟨ret_bool HRR.out.symm, HB2.out⟩
end Go.Proofs.YtfjibcldghnjcaaDoor

/-
  compact: put of an operand that is no list.
-/
namespace Go.Proofs.YtfjibcldghnjcaaDoor
open Go.RowKit
set_option linter.unusedVariables false
set_option linter.unusedSimpArgs false

theorem okP_of {t n : Int} (h : okN1 t n = true) (h6 : t ≠ 6) : okP t n := by
  unfold okN1 at h
  split at h <;> simp at h <;> unfold okP <;> omega
theorem okP_lit {t n : Int} (h : okN1 t n = true) (h6 : t = 6) : okP 0 n := by
  unfold okN1 at h
  split at h <;> simp at h <;> unfold okP <;> omega
theorem okP_len {m : Nat} (h : m ≤ 40) : okP 0 (m : Int) := .inr ⟨by decide, by decide, by decide, by omega, by omega⟩
theorem byte_new (w : World) (z : Int) (b : UInt8) (h : (b.toNat : Int) = z) : ∀ j u, (bv [b])[j]? = some u → (w.alloc (.cells #[.int .u8 z] 5)).cell? ((⟨w.heap.size, 0, none⟩ : Addr).add j) = some u := by
  have e : bv [b] = [.int .u8 z] := by simp only [bv, List.map_cons, List.map_nil, h]
  rw [e]
  exact new_cells w _ _
theorem byte_new1 (w : World) (o : Obj) (z : Int) (b : UInt8) (h : (b.toNat : Int) = z) : ∀ j u, (bv [b])[j]? = some u → ((w.alloc o).alloc (.cells #[.int .u8 z] 5)).cell? ((⟨w.heap.size + 1, 0, none⟩ : Addr).add j) = some u := by
  have := byte_new (w.alloc o) z b h
  rwa [show (w.alloc o).heap.size = w.heap.size + 1 by simp] at this

set_option maxRecDepth 100000 in
set_option maxHeartbeats 2000000 in
theorem put_single (W0 : World) (v : Value) (l : List UInt8) (x : El) (w : World) (hW : Below W0.heap.size W0 w) (h : RB w W0.heap.size v l) (hl : l.length ≤ 90000000) (hf : x.fit) (hx : x.ok1 = true) :
    Calls Tryd.prog 25 #[v, agV x.t x.n x.sl] w fun e w' => PutS W0 w l (sglB x.t x.n) e w' := by
  obtain ⟨t, n, a, m, c⟩ := x
  unfold El.fit at hf
  unfold El.ok1 at hx
  unfold El.sl agV
  dsimp only at hf hx ⊢
  simp only [Bool.and_eq_true, decide_eq_true_eq] at hx
  obtain ⟨hx, rfl⟩ := hx
  have hb1 := (Below.refl w.heap.size w).alloc (Nat.le_refl _) (.cells #[.int .i64 t, .int .i64 n, .slice a 0 c] 30)
  have hW1 : Below W0.heap.size W0 (w.alloc (.cells #[.int .i64 t, .int .i64 n, .slice a 0 c] 30)) := hW.alloc hW.size _
  have h1 : RB (w.alloc (.cells #[.int .i64 t, .int .i64 n, .slice a 0 c] 30)) W0.heap.size v l := h.under hb1
  have hk1 : Keep w (w.alloc (.cells #[.int .i64 t, .int .i64 n, .slice a 0 c] 30)) := Keep.alloc _ _
  have h7 : t ≠ 7 := by unfold okN1 at hx; split at hx <;> simp at hx <;> omega
  have hsz := hW.size
  by_cases h6 : t = 6
  · have hp := okP_lit hx h6
    have HE : Hid (sglB t n = 71 :: numB 0 n) := by unfold Hid sglB; rw [if_pos h6]
    rw [HE.out]
    have HX : Hid (BxA (w.alloc (.cells #[.int .i64 t, .int .i64 n, .slice a 0 c] 30)) w.heap.size t n (.slice a 0 c)) := BxA.new w t n _
    have HR : Hid (∀ o, RB ((w.alloc (.cells #[.int .i64 t, .int .i64 n, .slice a 0 c] 30)).alloc o) W0.heap.size v l) := fun o => h1.under ((Below.refl _ _).alloc (Nat.le_refl _) o)
    have HNW : Hid _ := byte_new1 w (.cells #[.int .i64 t, .int .i64 n, .slice a 0 c] 30) 71 71 rfl
    have HW1 : Hid (Below W0.heap.size W0 (w.alloc (.cells #[.int .i64 t, .int .i64 n, .slice a 0 c] 30))) := hW1
    have HK1 : Hid (Keep w (w.alloc (.cells #[.int .i64 t, .int .i64 n, .slice a 0 c] 30))) := hk1
    subst h6
    clear hb1 h1 hk1 hx hW1 h
    go_enter Tryd.func25, Tryd.ntmps25
    go_wp2_with (first
      | (at_builtin; refine wpList_append_rb rfl _ _ rfl W0.heap.size _ l rfl (HR.out _) (by omega) (by simp; omega) ⟨w.heap.size + 1, 0, none⟩ 1 1 [71] rfl (by omega) (by omega) rfl HNW.out ?_; intro v2 w2 o2 g2 k2; obtain ⟨c0, c1, c2, -⟩ := (BxA.keep (BxA.keep HX.out (Keep.alloc _ _)) k2).facts)
      | fail)
    have HK2 : Hid (Keep w w2) := (HK1.out.trans (Keep.alloc _ _)).trans k2
    have hW2 : Below W0.heap.size W0 w2 := g2 _ _ (by simp; omega) (Nat.le_refl _) (HW1.out.alloc HW1.out.size _)
    refine (putNumber_any W0 v2 _ 0 n _ hW2 (.inl o2) (by simp; omega) hp).mono ?_
    rintro e w3 ⟨v3, rfl, o3, hW3, k3⟩
    go_wp2_with fail
    go_ret
    exact ⟨v3, rfl, by simpa using o3, hW3, HK2.out.trans k3⟩
  · have hp := okP_of hx h6
    have HE : Hid (sglB t n = numB t n) := by unfold Hid sglB; rw [if_neg h6]
    rw [HE.out]
    obtain ⟨c0, c1, c2, -⟩ := (BxA.new w t n (.slice a 0 c)).facts
    have HK1 : Hid (Keep w (w.alloc (.cells #[.int .i64 t, .int .i64 n, .slice a 0 c] 30))) := hk1
    clear hx hk1 hb1
    go_enter Tryd.func25, Tryd.ntmps25
    go_wp2_with fail
    refine (putNumber_any W0 v _ t n _ hW1 h1 (by omega) hp).mono ?_
    rintro e w3 ⟨v3, rfl, o3, hW3, k3⟩
    go_wp2_with fail
    go_ret
    exact ⟨v3, rfl, o3, hW3, HK1.out.trans k3⟩
end Go.Proofs.YtfjibcldghnjcaaDoor
