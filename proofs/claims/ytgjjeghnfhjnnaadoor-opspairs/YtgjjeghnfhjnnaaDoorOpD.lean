
/-
  ops: fits of a letter of one operand, areSources, arePairs.
-/
import Derived.Test.YtgjjeghnfhjnnaaDoorOpC
namespace Go.Proofs.YtgjjeghnfhjnnaaDoor
open Go.RowKit
set_option linter.unusedVariables false
set_option linter.unusedSimpArgs false

set_option maxRecDepth 100000 in
set_option maxHeartbeats 2000000 in
theorem fitS_any (c : Int) (hc0 : 0 ≤ c) (hc1 : c ≤ 255) (h83 : ¬ c = 83) (h80 : ¬ c = 80) (a : Ag) (v : Value) (w : World) (h : IsG w a v) : Calls Tryd.prog 45 #[.int .u8 c, v] w (RBool (fit1 c a) w) := by
  obtain ⟨p, cap, rfl, hf, hg⟩ := h.open
  obtain ⟨t, n, K⟩ := a
  dsimp only at *
  unfold agV
  obtain ⟨m, hm⟩ : ∃ m, m = K.length := ⟨_, rfl⟩
  have HMB : Hid (mbA ⟨t, n, K⟩ = (decide (loT t ≤ n) && decide (n ≤ hiT t) && decide (m = 0))) := by rw [hm]; rfl
  rw [← hm]
  clear hg hf hm h
  have h83' : (c == 83) = false := by simpa using h83
  have h80' : (c == 80) = false := by simpa using h80
  have HB : Hid (Below w.heap.size w (w.alloc (.cells #[.int .i64 t, .int .i64 n, .slice p m cap] 25))) := box_below _ _ _
  have HX : Hid (BxA (w.alloc (.cells #[.int .i64 t, .int .i64 n, .slice p m cap] 25)) w.heap.size t n (.slice p m cap)) := BxA.new w t n _
  by_cases t7 : t = 7
  · subst t7
    rw [show fit1 c ⟨7, n, K⟩ = false by simp [fit1]]
    by_cases n0 : n = 0
    · subst n0
      by_cases m4 : (40 : Int) < (m : Int)
      · go_enter Tryd.func45, Tryd.ntmps45
        go_wp2_with fail
        go_ret
        exact ⟨rfl, HB.out⟩
      · go_enter Tryd.func45, Tryd.ntmps45
        go_wp2_with fail
        go_ret
        exact ⟨rfl, HB.out⟩
    · have n0' : (n != 0) = true := by simpa using n0
      go_enter Tryd.func45, Tryd.ntmps45
      go_wp2_with fail
      go_ret
      exact ⟨rfl, HB.out⟩
  · have t7' : (t != 7) = true := by simpa using t7
    rw [show fit1 c ⟨t, n, K⟩ = (mbA ⟨t, n, K⟩ && htB c t n) by simp [fit1, t7]]
    have HM := mb_raw t n p m cap (w.alloc (.cells #[.int .i64 t, .int .i64 n, .slice p m cap] 25))
    rw [← HMB.out] at HM
    have HM' : Hid (Calls Tryd.prog 59 #[.agg #[.int .i64 t, .int .i64 n, .slice p m cap]] (w.alloc (.cells #[.int .i64 t, .int .i64 n, .slice p m cap] 25)) (RBool (mbA ⟨t, n, K⟩) (w.alloc (.cells #[.int .i64 t, .int .i64 n, .slice p m cap] 25)))) := HM
    clear HM HMB
    generalize mbA ⟨t, n, K⟩ = q at *
    cases q
    · rw [Bool.false_and]
      go_enter Tryd.func45, Tryd.ntmps45
      go_wp2_with fail
      refine HM'.out.mono ?_
      rintro e w2 ⟨rfl, b2⟩
      have HB2 : Hid (Below w.heap.size w w2) := HB.out.trans (b2.mono HB.out.size)
      clear b2 HX HB HM'
      go_wp2_with fail
      go_ret
      exact ⟨rfl, HB2.out⟩
    · rw [Bool.true_and]
      go_enter Tryd.func45, Tryd.ntmps45
      go_wp2_with fail
      refine HM'.out.mono ?_
      rintro e w2 ⟨rfl, b2⟩
      have HB2 : Hid (Below w.heap.size w w2) := HB.out.trans (b2.mono HB.out.size)
      obtain ⟨x0, x1, x2, -⟩ := (HX.out.under b2).facts
      clear b2 HX HB HM'
      go_wp2_with fail
      refine (ht_raw c t n p m cap _ hc0 hc1).mono ?_
      rintro e w3 ⟨rfl, b3⟩
      have HB3 : Hid (Below w.heap.size w w3) := HB2.out.trans (b3.mono HB2.out.size)
      clear b3 HB2 x0 x1 x2
      go_wp2_with fail
      go_ret
      exact ⟨rfl, HB3.out⟩

set_option maxRecDepth 100000 in
set_option maxHeartbeats 2000000 in
theorem srcs_any (K : List Ag) (v : Value) (w : World) (h : Gs w v K) : Calls Tryd.prog 61 #[v] w (RBool (K.all (fit1 115)) w) := by
  obtain ⟨p, cap, rfl, hc1, hc2, hc3⟩ := h.shape
  have HG : Hid (Gs w (.slice p K.length cap) K) := h
  clear h
  obtain ⟨r, hr⟩ : ∃ r, K.all (fit1 115) = r := ⟨_, rfl⟩
  have HR : Hid (K.all (fit1 115) = r) := hr
  rw [hr]; clear hr
  go_enter Tryd.func61, Tryd.ntmps61
  go_wp2_with fail
  go_loopg [7] K.length (fun gk s7 wr => ∃ k : Nat, k + gk = K.length ∧ s7 = .int .i64 (k : Int) ∧ Hid (Below w.heap.size w wr) ∧ Hid (∀ j (hj : j < K.length), j < k → fit1 115 K[j] = true))
  case atStart => exact ⟨0, by omega, rfl, Below.refl _ _, fun j _ hj => absurd hj (by omega)⟩
  case round =>
    obtain ⟨k, hk, rfl, HB, HA⟩ := hrel
    cases gk with
    | zero =>
      obtain rfl : k = K.length := by omega
      have HT : Hid (r = true) := by
        unfold Hid
        rw [← HR.out, List.all_eq_true]
        intro x hx
        obtain ⟨j, hj, rfl⟩ := List.getElem_of_mem hx
        exact HA.out j hj hj
      clear HA HR
      go_wp2_with fail
      go_ret
      exact ⟨by rw [HT.out]; rfl, HB.out⟩
    | succ g =>
      have hkl : k < K.length := by omega
      have hki : (k : Int) < (K.length : Int) := by omega
      have hkc : (k : Int) < (cap : Int) := by omega
      obtain ⟨b, off, ⟨xt, xn, xa, xm, xc⟩, rfl, hlt, ⟨a0, a1, a2⟩, hft, hx⟩ := (HG.out.under HB.out).at k hkl
      unfold El.sl at a2
      dsimp only at a0 a1 a2
      have HC : Hid (Calls Tryd.prog 45 #[.int .u8 115, .agg #[.int .i64 xt, .int .i64 xn, .slice xa xm xc]] (wr.alloc (.cells #[.int .i64 xt, .int .i64 xn, .slice xa xm xc] 25)) (RBool (fit1 115 K[k]) (wr.alloc (.cells #[.int .i64 xt, .int .i64 xn, .slice xa xm xc] 25)))) :=
        fitS_any 115 (by decide) (by decide) (by decide) (by decide) K[k] _ _ (hx.under (box_below _ _ _))
      have HBW : Hid (Below w.heap.size w (wr.alloc (.cells #[.int .i64 xt, .int .i64 xn, .slice xa xm xc] 25))) := HB.out.alloc HB.out.size _
      obtain ⟨q, hq⟩ : ∃ q, fit1 115 K[k] = q := ⟨_, rfl⟩
      rw [hq] at HC
      have HQ : Hid (fit1 115 K[k] = q) := hq
      clear hq hx hft
      go_wp2_with fail
      refine HC.out.mono ?_
      rintro e w2 ⟨rfl, b2⟩
      have HB2 : Hid (Below w.heap.size w w2) := HBW.out.trans (b2.mono HBW.out.size)
      clear b2 HBW HC a0 a1 a2
      cases q
      · have HF : Hid (r = false) := by
          unfold Hid
          rw [← HR.out]
          cases hr : K.all (fit1 115)
          · rfl
          · have := List.all_eq_true.1 hr _ (List.getElem_mem hkl)
            rw [HQ.out] at this
            cases this
        clear HR HA HQ
        go_wp2_with fail
        go_ret
        exact ⟨by rw [HF.out]; rfl, HB2.out⟩
      · have HA2 : Hid (∀ j (hj : j < K.length), j < k + 1 → fit1 115 K[j] = true) := by
          unfold Hid
          intro j hj hjk
          rcases Nat.lt_or_ge j k with h | h
          · exact HA.out j hj h
          · obtain rfl : j = k := by omega
            exact HQ.out
        clear HA HQ HR
        go_wp2_with fail
        go_roundg g
        case measure => omega
        case rel => exact ⟨k + 1, by omega, by go_num, HB2.out, HA2⟩
end Go.Proofs.YtgjjeghnfhjnnaaDoor
