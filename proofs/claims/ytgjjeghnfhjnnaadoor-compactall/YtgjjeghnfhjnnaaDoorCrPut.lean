/-
  relictref06.put of an operand that is no list.
-/
import Derived.Test.YtgjjeghnfhjnnaaDoorCrNum
namespace Go.Proofs.YtgjjeghnfhjnnaaDoor
open Go.RowKit
set_option linter.unusedVariables false
set_option linter.unusedSimpArgs false

theorem num_ne (t n : Int) : 0 < (numB t n).length := by
  unfold numB
  split
  · simp
  · split <;> simp

set_option maxRecDepth 100000 in
set_option maxHeartbeats 2000000 in
theorem rput_sgl (w : World) (t n : Int) (p : Option Addr) (m c : Nat) (h : okN1 t n = true) : Calls Tryd.prog 38 #[agV t n (.slice p m c)] w fun e w' => RnPost w (sglB t n) e w' := by
  unfold agV
  have h7 : t ≠ 7 := by unfold okN1 at h; split at h <;> simp at h <;> omega
  have bA := (Below.refl w.heap.size w).alloc (Nat.le_refl _) (.cells #[.int .i64 t, .int .i64 n, .slice p m c] 25)
  have HX : Hid (BxA (w.alloc (.cells #[.int .i64 t, .int .i64 n, .slice p m c] 25)) w.heap.size t n (.slice p m c)) := BxA.new w _ _ _
  have HB1 : Hid (Below w.heap.size w (w.alloc (.cells #[.int .i64 t, .int .i64 n, .slice p m c] 25))) := bA
  have hz : (w.alloc (.cells #[.int .i64 t, .int .i64 n, .slice p m c] 25)).heap.size = w.heap.size + 1 := by simp
  obtain ⟨c0, c1, c2, -⟩ := HX.out.facts
  by_cases h6 : t = 6
  · have hp := okP_lit h h6
    have HE : Hid (sglB t n = 71 :: numB 0 n) := by unfold Hid sglB; rw [if_pos h6]
    rw [HE.out]
    subst h6
    have hb2 := (Below.refl (w.alloc (.cells #[.int .i64 6, .int .i64 n, .slice p m c] 25)).heap.size (w.alloc (.cells #[.int .i64 6, .int .i64 n, .slice p m c] 25))).alloc (Nat.le_refl _) (.cells #[.int .u8 71] 5)
    have HB2 : Hid (Below w.heap.size w ((w.alloc (.cells #[.int .i64 6, .int .i64 n, .slice p m c] 25)).alloc (.cells #[.int .u8 71] 5))) := HB1.out.trans (hb2.mono HB1.out.size)
    have HO2 : Hid (OB ((w.alloc (.cells #[.int .i64 6, .int .i64 n, .slice p m c] 25)).alloc (.cells #[.int .u8 71] 5)) w.heap.size (.slice (some ⟨w.heap.size + 1, 0, none⟩) 1 1) [71]) := by
      have := OB.lit (w.alloc (.cells #[.int .i64 6, .int .i64 n, .slice p m c] 25)) [71] #[.int .u8 71] rfl (by simp)
      rw [hz] at this
      exact OB.base this (by omega)
    have HX2 : Hid (BxA ((w.alloc (.cells #[.int .i64 6, .int .i64 n, .slice p m c] 25)).alloc (.cells #[.int .u8 71] 5)) w.heap.size 6 n (.slice p m c)) := HX.out.under hb2
    obtain ⟨d0, d1, d2, -⟩ := HX2.out.facts
    have hsz2 := HB2.out.size
    clear bA hb2 hz h HB1
    go_enter Tryd.func38, Tryd.ntmps38
    go_wp2_with fail
    refine (rnumber_any _ 0 n hp).mono ?_
    rintro e w3 ⟨v3, rfl, o3, b3⟩
    have hne := num_ne 0 n
    obtain ⟨g3, k3, rfl, hg3, hk3, hk4⟩ := o3.shape hne
    have HO3 := HO2.out.under b3
    have HB3 : Hid (Below w.heap.size w w3) := HB2.out.trans (b3.mono HB2.out.size)
    have hs3 : w.heap.size ≤ w3.heap.size := HB3.out.size
    have HNW : Hid (∀ j u, (bv (numB 0 n))[j]? = some u → w3.cell? ((⟨g3, 0, none⟩ : Addr).add j) = some u) := o3.news
    have hnl := @num_len 0 n
    have HR3 : Hid (RB w3 w.heap.size (.slice (some ⟨w.heap.size + 1, 0, none⟩) 1 1) [71]) := .inl HO3
    obtain ⟨N, hN⟩ : ∃ N, N = (numB 0 n).length := ⟨_, rfl⟩
    rw [← hN] at hne hnl hk3 ⊢
    have HN : Hid ((numB 0 n).length = N) := hN.symm
    clear o3 b3 HO3 HO2 HB2 HX2 d0 d1 d2 hN c0 c1 c2
    go_wp2_with (first
      | (at_builtin; refine wpList_append_rb rfl _ _ rfl w.heap.size _ [71] rfl HR3.out (by simp) hs3 ⟨g3, 0, none⟩ N k3 (numB 0 n) rfl hne (by omega) HN.out HNW.out ?_; intro v4 w4 o4 g4 k4)
      | fail)
    go_ret
    exact ⟨v4, rfl, by simpa using o4, g4 _ _ hs3 (Nat.le_refl _) HB3.out⟩
  · have hp := okP_of h h6
    have HE : Hid (sglB t n = numB t n) := by unfold Hid sglB; rw [if_neg h6]
    rw [HE.out]
    have h6b : (t == 6) = false := by simp [h6]
    have h7b : (t == 7) = false := by simp [h7]
    clear bA hz h
    go_enter Tryd.func38, Tryd.ntmps38
    go_wp2_with fail
    refine (rnumber_any _ t n hp).mono ?_
    rintro e w3 ⟨v3, rfl, o3, b3⟩
    have HO3 : Hid (OB w3 w.heap.size v3 (numB t n)) := OB.base o3 HB1.out.size
    have HB3 : Hid (Below w.heap.size w w3) := HB1.out.trans (b3.mono HB1.out.size)
    clear o3 b3
    go_wp2_with fail
    go_ret
    exact ⟨v3, rfl, HO3.out, HB3.out⟩
end Go.Proofs.YtgjjeghnfhjnnaaDoor
