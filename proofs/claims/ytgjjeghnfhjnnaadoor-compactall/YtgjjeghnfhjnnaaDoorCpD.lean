/-
  compact: Check, put, Put.
-/
import Derived.Test.YtgjjeghnfhjnnaaDoorCpC
namespace Go.Proofs.YtgjjeghnfhjnnaaDoor
open Go.RowKit
set_option linter.unusedVariables false
set_option linter.unusedSimpArgs false

set_option maxRecDepth 100000 in
set_option maxHeartbeats 2000000 in
theorem check_any (x : El) (l : List El) (w : World) (hS : Spn w) (hf : x.fit) (h : Rw3 w x.sl l) (hm : x.m = l.length) :
    Calls Tryd.prog 10 #[agV x.t x.n x.sl] w fun e w' => e = .returned (.bool (x.ok l)) ∧ Below w.heap.size w w' := by
  obtain ⟨r, hr⟩ : ∃ r, x.ok l = r := ⟨_, rfl⟩
  have HR : Hid (x.ok l = r) := hr
  rw [hr]; clear hr
  obtain ⟨t, n, a, m, c⟩ := x
  have hfit := hf
  unfold El.fit at hf
  unfold El.sl at h ⊢
  dsimp only at hm hf h ⊢
  subst hm
  have hb1 := (Below.refl w.heap.size w).alloc (Nat.le_refl _) (.cells #[.int .i64 t, .int .i64 n, .slice a l.length c] 25)
  have HB1 : Hid (Below w.heap.size w (w.alloc (.cells #[.int .i64 t, .int .i64 n, .slice a l.length c] 25))) := hb1
  have HX : Hid (BxA (w.alloc (.cells #[.int .i64 t, .int .i64 n, .slice a l.length c] 25)) w.heap.size t n (.slice a l.length c)) := BxA.new w t n _
  have HS1 : Hid (Spn (w.alloc (.cells #[.int .i64 t, .int .i64 n, .slice a l.length c] 25))) := hS.under hb1
  have HH1 : Hid (Rw3 (w.alloc (.cells #[.int .i64 t, .int .i64 n, .slice a l.length c] 25)) (.slice a l.length c) l) := h.under hb1
  have HF : Hid (El.fit ⟨t, n, a, l.length, c⟩) := hfit
  unfold agV
  clear hb1 hfit hS h
  by_cases h7 : t = 7
  · subst h7
    by_cases h0 : n = 0
    · by_cases h40 : (l.length : Int) ≤ 40
      · have HRR : Hid (r = l.all El.ok1) := by unfold Hid; rw [← HR.out]; unfold El.ok; rw [if_pos rfl]; simp [h0, show l.length ≤ 40 by omega]
        subst h0
        go_enter Tryd.func10, Tryd.ntmps10
        go_wp2_with fail
        have hq1 := HS1.out
        have hq2 := HH1.out
        have hq := areSingle_any _ l _ hq1 hq2
        refine hq.mono ?_
        rintro e w2 ⟨rfl, b2⟩
        have HB2 : Hid (Below w.heap.size w w2) := HB1.out.trans (b2.mono HB1.out.size)
        clear b2
        go_wp2_with fail
        go_ret
        exact ⟨ret_bool HRR.out.symm, HB2.out⟩
      · have HRR : Hid (r = false) := by unfold Hid; rw [← HR.out]; unfold El.ok; rw [if_pos rfl]; simp [h0, show ¬ l.length ≤ 40 by omega]
        subst h0
        go_enter Tryd.func10, Tryd.ntmps10
        go_wp2_with fail
        go_ret
        exact ⟨ret_bool HRR.out.symm, HB1.out⟩
    · have HRR : Hid (r = false) := by unfold Hid; rw [← HR.out]; unfold El.ok; rw [if_pos rfl]; simp [h0]
      go_enter Tryd.func10, Tryd.ntmps10
      go_wp2_with fail
      go_ret
      exact ⟨ret_bool HRR.out.symm, HB1.out⟩
  · have HRR : Hid (r = El.ok1 ⟨t, n, a, l.length, c⟩) := by unfold Hid; rw [← HR.out]; unfold El.ok; rw [if_neg h7]
    have HO : Hid (∀ W : World, Rw3 (W.alloc (.cells #[.int .i64 t, .int .i64 n, .slice a l.length c] 25)) (.slice (some ⟨W.heap.size, 0, none⟩) 1 1) [⟨t, n, a, l.length, c⟩]) := fun W => Rw3.one W ⟨t, n, a, l.length, c⟩ HF.out
    have HS2 : Hid (∀ o, Spn ((w.alloc (.cells #[.int .i64 t, .int .i64 n, .slice a l.length c] 25)).alloc o)) := fun o => Spn.under HS1.out ((Below.refl _ _).alloc (Nat.le_refl _) o)
    obtain ⟨c0, c1, c2, -⟩ := HX.out.facts
    go_enter Tryd.func10, Tryd.ntmps10
    go_wp2_with fail
    have hq2 := HO.out (w.alloc (.cells #[.int .i64 t, .int .i64 n, .slice a l.length c] 25))
    have hq1 := HS2.out (.cells #[.int .i64 t, .int .i64 n, .slice a l.length c] 25)
    rw [show (w.alloc (.cells #[.int .i64 t, .int .i64 n, .slice a l.length c] 25)).heap.size = w.heap.size + 1 by simp] at hq2
    have hq := areSingle_any _ _ _ hq1 hq2
    refine hq.mono ?_
    rintro e w2 ⟨rfl, b2⟩
    have HB2 : Hid (Below w.heap.size w w2) := (HB1.out.alloc HB1.out.size _).trans (b2.mono (HB1.out.alloc HB1.out.size _).size)
    clear b2
    go_wp2_with fail
    go_ret
    exact ⟨ret_bool HRR.out.symm, HB2.out⟩
end Go.Proofs.YtgjjeghnfhjnnaaDoor
