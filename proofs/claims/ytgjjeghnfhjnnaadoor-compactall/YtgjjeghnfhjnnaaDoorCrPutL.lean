/-
  relictref06.put of a list of singles.
-/
import Derived.Test.YtgjjeghnfhjnnaaDoorCrPut
namespace Go.Proofs.YtgjjeghnfhjnnaaDoor
open Go.RowKit
set_option linter.unusedVariables false
set_option linter.unusedSimpArgs false

set_option maxRecDepth 100000 in
set_option maxHeartbeats 2000000 in
theorem rput_list (w : World) (n : Int) (p : Option Addr) (c : Nat) (L : List El) (hR : Rw3 w (.slice p L.length c) L) (h40 : L.length ≤ 40) (hok : L.all El.ok1 = true) : Calls Tryd.prog 38 #[agV 7 n (.slice p L.length c)] w fun e w' => RnPost w (23 :: (numB 0 (L.length : Int) ++ elsB L)) e w' := by
  unfold agV
  obtain ⟨p', c', he, hc1, hc2, hc3⟩ := hR.shape
  injection he with e1 e2 e3
  subst e1; subst e3
  have bA := (Below.refl w.heap.size w).alloc (Nat.le_refl _) (.cells #[.int .i64 7, .int .i64 n, .slice p L.length c] 25)
  have HX : Hid (BxA (w.alloc (.cells #[.int .i64 7, .int .i64 n, .slice p L.length c] 25)) w.heap.size 7 n (.slice p L.length c)) := BxA.new w _ _ _
  have HB1 : Hid (Below w.heap.size w (w.alloc (.cells #[.int .i64 7, .int .i64 n, .slice p L.length c] 25))) := bA
  have hz : (w.alloc (.cells #[.int .i64 7, .int .i64 n, .slice p L.length c] 25)).heap.size = w.heap.size + 1 := by simp
  have HR : Hid (Rw3 (w.alloc (.cells #[.int .i64 7, .int .i64 n, .slice p L.length c] 25)) (.slice p L.length c) L) := hR.under bA
  have HOK : Hid (L.all El.ok1 = true) := hok
  have hb2 := (Below.refl (w.alloc (.cells #[.int .i64 7, .int .i64 n, .slice p L.length c] 25)).heap.size (w.alloc (.cells #[.int .i64 7, .int .i64 n, .slice p L.length c] 25))).alloc (Nat.le_refl _) (.cells #[.int .u8 23] 5)
  have HO2 : Hid (OB ((w.alloc (.cells #[.int .i64 7, .int .i64 n, .slice p L.length c] 25)).alloc (.cells #[.int .u8 23] 5)) (w.heap.size + 1) (.slice (some ⟨w.heap.size + 1, 0, none⟩) 1 1) [23]) := by
    have := OB.lit (w.alloc (.cells #[.int .i64 7, .int .i64 n, .slice p L.length c] 25)) [23] #[.int .u8 23] rfl (by simp)
    rw [hz] at this
    exact this
  have HX2 := HX.out.under hb2
  obtain ⟨c0, c1, c2, -⟩ := HX.out.facts
  obtain ⟨d0, d1, d2, -⟩ := HX2.facts
  have HBA : Hid (Below (w.heap.size + 1) (w.alloc (.cells #[.int .i64 7, .int .i64 n, .slice p L.length c] 25)) ((w.alloc (.cells #[.int .i64 7, .int .i64 n, .slice p L.length c] 25)).alloc (.cells #[.int .u8 23] 5))) := by rw [hz] at hb2; exact hb2
  clear bA hb2 hR hok HX2 e2
  go_enter Tryd.func38, Tryd.ntmps38
  go_wp2_with fail
  refine (rnumber_any _ 0 (L.length : Int) (okP_len h40)).mono ?_
  rintro e w3 ⟨v3, rfl, o3, b3⟩
  have hne := num_ne 0 (L.length : Int)
  obtain ⟨g3, k3, rfl, hg3, hk3, hk4⟩ := o3.shape hne
  have HO3 := HO2.out.under b3
  generalize hw1 : w.alloc (.cells #[.int .i64 7, .int .i64 n, .slice p L.length c] 25) = w1 at *
  have HB3 : Hid (Below (w.heap.size + 1) w1 w3) := HBA.out.trans (b3.mono (by have := HBA.out.size; omega))
  have hs3 : w.heap.size + 1 ≤ w3.heap.size := by have := HB3.out.size; omega
  have HNW : Hid (∀ j u, (bv (numB 0 (L.length : Int)))[j]? = some u → w3.cell? ((⟨g3, 0, none⟩ : Addr).add j) = some u) := o3.news
  have hnl := @num_len 0 (L.length : Int)
  have HR3 : Hid (RB w3 (w.heap.size + 1) (.slice (some ⟨w.heap.size + 1, 0, none⟩) 1 1) [23]) := .inl HO3
  obtain ⟨N, hN⟩ : ∃ N, N = (numB 0 (L.length : Int)).length := ⟨_, rfl⟩
  rw [← hN] at hne hnl hk3 ⊢
  have HN : Hid ((numB 0 (L.length : Int)).length = N) := hN.symm
  clear o3 b3 HO3 HO2 HBA d0 d1 d2 c0 c1 c2 hN hw1
  go_wp2_with (first
    | (at_builtin; refine wpList_append_rb rfl _ _ rfl (w.heap.size + 1) _ [23] rfl HR3.out (by simp) hs3 ⟨g3, 0, none⟩ N k3 (numB 0 (L.length : Int)) rfl hne (by omega) HN.out HNW.out ?_; intro v4 w4 o4 g4 k4)
    | fail)
  obtain ⟨X, hX⟩ : ∃ X, X = [23] ++ numB 0 (L.length : Int) := ⟨_, rfl⟩
  have hXl : X.length = N + 1 := by rw [hX]; simp; have := HN.out; omega
  rw [← hX] at o4
  have HST : Hid (OB w4 (w.heap.size + 1) v4 (X ++ elsB (L.take 0)) ∧ Below (w.heap.size + 1) w1 w4) := ⟨by simpa [elsB] using o4, g4 _ _ hs3 (Nat.le_refl _) HB3.out⟩
  have HXX : Hid (X = [23] ++ numB 0 (L.length : Int)) := hX
  clear o4 g4 k4 HR3 HNW HN HB3 hX hg3 hk3 hk4
  go_loopg [3, 4] L.length (fun gk s3 s4 wr => ∃ k : Nat, k + gk = L.length ∧ s4 = .int .i64 (k : Int) ∧ Hid (OB wr (w.heap.size + 1) s3 (X ++ elsB (L.take k)) ∧ Below (w.heap.size + 1) w1 wr))
  case atStart => exact ⟨0, by omega, rfl, HST⟩
  case round =>
    obtain ⟨k, hk, rfl, hrow⟩ := hrel
    obtain ⟨ro, rb⟩ := hrow.out
    have hrb : Below w1.heap.size w1 wr := by rw [hz]; exact rb
    obtain ⟨d0, d1, d2, -⟩ := (HX.out.under hrb).facts
    clear HST
    cases gk with
    | zero =>
      obtain rfl : k = L.length := by omega
      have HBF : Hid (Below w.heap.size w wr) := HB1.out.trans (rb.mono (by omega))
      go_wp2_with fail
      go_ret
      refine ⟨_, rfl, ?_, HBF.out⟩
      have h1 := OB.base ro (show w.heap.size ≤ w.heap.size + 1 by omega)
      rw [HXX.out] at h1
      simpa using h1
    | succ g =>
      have hkl : k < L.length := by omega
      have hki : (k : Int) < (L.length : Int) := by omega
      have hkc : (k : Int) < (c : Int) := by omega
      obtain ⟨b, off, rfl, hlt, ⟨a0, a1, a2⟩, hft⟩ := (HR.out.under hrb).at k hkl
      have hok := List.all_eq_true.1 HOK.out _ (List.getElem_mem hkl)
      have HE : Hid (elsB (L.take (k + 1)) = elsB (L.take k) ++ sglB L[k].t L[k].n) := elsB_step L k hkl
      obtain ⟨y, hy⟩ : ∃ y, y = L[k] := ⟨_, rfl⟩
      rw [← hy] at a0 a1 a2 hok HE
      have hok1 : okN1 y.t y.n = true := by unfold El.ok1 at hok; simp at hok; exact hok.1
      have HPS : Hid (Calls Tryd.prog 38 #[agV y.t y.n y.sl] wr fun e w' => RnPost wr (sglB y.t y.n) e w') := rput_sgl wr y.t y.n y.a y.m y.c hok1
      have hel := els_len (L.take k)
      have htl : (L.take k).length = k := by simp; omega
      obtain ⟨f0, r0, e0, -⟩ := sgl_head hok1
      have hsl := @sgl_len y.t y.n
      have hsp : 0 < (sglB y.t y.n).length := by rw [e0]; simp
      obtain ⟨yt, yn, ya, ym, yc⟩ := y
      unfold El.sl at a2
      unfold agV El.sl at HPS
      dsimp only at a0 a1 a2 HPS HE hsl hsp
      have HRO : Hid (OB wr (w.heap.size + 1) u3 (X ++ elsB (L.take k))) := ro
      have HRB : Hid (Below (w.heap.size + 1) w1 wr) := rb
      have hlen : (X ++ elsB (L.take k)).length ≤ 1000000000 := by rw [List.length_append]; omega
      clear hy hok hok1 hft hrow ro rb hrb e0
      go_wp2_with fail
      refine HPS.out.mono ?_
      rintro e w5 ⟨v5, rfl, o5, b5⟩
      obtain ⟨g5, k5, rfl, hg5, hk5, hk6⟩ := o5.shape hsp
      have HR5 : Hid (RB w5 (w.heap.size + 1) u3 (X ++ elsB (L.take k))) := .inl (HRO.out.under b5)
      have HB5 : Hid (Below (w.heap.size + 1) w1 w5) := HRB.out.trans (b5.mono (by have := HRB.out.size; omega))
      have hs5 : w.heap.size + 1 ≤ w5.heap.size := by have := HB5.out.size; omega
      have HNW : Hid (∀ j u, (bv (sglB yt yn))[j]? = some u → w5.cell? ((⟨g5, 0, none⟩ : Addr).add j) = some u) := o5.news
      obtain ⟨M, hM⟩ : ∃ M, M = (sglB yt yn).length := ⟨_, rfl⟩
      rw [← hM] at hsl hsp hk5 ⊢
      have HM : Hid ((sglB yt yn).length = M) := hM.symm
      clear o5 b5 HRO HRB HPS hM a0 a1 a2 d0 d1 d2
      go_wp2_with (first
        | (at_builtin; refine wpList_append_rb rfl _ _ rfl (w.heap.size + 1) _ (X ++ elsB (L.take k)) rfl HR5.out hlen hs5 ⟨g5, 0, none⟩ M k5 (sglB yt yn) rfl hsp (by omega) HM.out HNW.out ?_; intro v6 w6 o6 g6 k6)
        | fail)
      have HG : Hid (OB w6 (w.heap.size + 1) v6 (X ++ elsB (L.take (k + 1))) ∧ Below (w.heap.size + 1) w1 w6) := ⟨by rw [HE.out, ← List.append_assoc]; exact o6, g6 _ _ hs5 (Nat.le_refl _) HB5.out⟩
      clear o6 g6 k6 HR5 HNW HM HB5
      go_roundg g
      case measure => omega
      case rel => exact ⟨k + 1, by omega, by go_num, HG⟩
end Go.Proofs.YtgjjeghnfhjnnaaDoor
