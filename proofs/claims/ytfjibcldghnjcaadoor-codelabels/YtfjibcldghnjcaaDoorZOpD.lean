import Derived.Test.YtfjibcldghnjcaaDoorOpC

/-
  ops: fits of a letter of one operand, areSources, arePairs.
-/
namespace Go.Proofs.YtfjibcldghnjcaaDoor
open Go.RowKit
set_option linter.unusedVariables false
set_option linter.unusedSimpArgs false

set_option maxRecDepth 100000 in
set_option maxHeartbeats 2000000 in
theorem fitS_any (c : Int) (hc0 : 0 ≤ c) (hc1 : c ≤ 255) (h83 : ¬ c = 83) (h80 : ¬ c = 80) (a : Ag) (v : Value) (w : World) (h : IsG w a v) : Calls Tryd.prog 30 #[.int .u8 c, v] w (RBool (fit1 c a) w) := by
  obtain ⟨p, cap, rfl, hf, hg⟩ := h.open
  obtain ⟨t, n, K⟩ := a
  dsimp only at *
  unfold agV
  obtain ⟨m, hm⟩ : ∃ m, m = K.length := ⟨_, rfl⟩
  have HMB : Hid (mbA ⟨t, n, K⟩ = (decide (loT t ≤ n) && decide (n ≤ hiT t) && decide (m = 0))) := by rw [hm]; rfl
  rw [← hm]
  clear hg hf hm h
  have h83' : (c == 83) = false := by simpa using h83
  have h80' : (c == 80) = false := by simpa using h80
  have HB : Hid (Below w.heap.size w (w.alloc (.cells #[.int .i64 t, .int .i64 n, .slice p m cap] 30))) := box_below _ _ _
  have HX : Hid (BxA (w.alloc (.cells #[.int .i64 t, .int .i64 n, .slice p m cap] 30)) w.heap.size t n (.slice p m cap)) := BxA.new w t n _
  by_cases t7 : t = 7
  · subst t7
    rw [show fit1 c ⟨7, n, K⟩ = false by simp [fit1]]
    by_cases n0 : n = 0
    · subst n0
      by_cases m4 : (40 : Int) < (m : Int)
      · go_enter Tryd.func30, Tryd.ntmps30
        go_wp2_with fail
        go_ret
        exact ⟨rfl, HB.out⟩
      · go_enter Tryd.func30, Tryd.ntmps30
        go_wp2_with fail
        go_ret
        exact ⟨rfl, HB.out⟩
    · have n0' : (n != 0) = true := by simpa using n0
      go_enter Tryd.func30, Tryd.ntmps30
      go_wp2_with fail
      go_ret
      exact ⟨rfl, HB.out⟩
  · have t7' : (t != 7) = true := by simpa using t7
    rw [show fit1 c ⟨t, n, K⟩ = (mbA ⟨t, n, K⟩ && htB c t n) by simp [fit1, t7]]
    have HM := mb_raw t n p m cap (w.alloc (.cells #[.int .i64 t, .int .i64 n, .slice p m cap] 30))
    rw [← HMB.out] at HM
    have HM' : Hid (Calls Tryd.prog 35 #[.agg #[.int .i64 t, .int .i64 n, .slice p m cap]] (w.alloc (.cells #[.int .i64 t, .int .i64 n, .slice p m cap] 30)) (RBool (mbA ⟨t, n, K⟩) (w.alloc (.cells #[.int .i64 t, .int .i64 n, .slice p m cap] 30)))) := HM
    clear HM HMB
    generalize mbA ⟨t, n, K⟩ = q at *
    cases q
    · rw [Bool.false_and]
      go_enter Tryd.func30, Tryd.ntmps30
      go_wp2_with fail
      refine HM'.out.mono ?_
      rintro e w2 ⟨rfl, b2⟩
      have HB2 : Hid (Below w.heap.size w w2) := HB.out.trans (b2.mono HB.out.size)
      clear b2 HX HB HM'
      go_wp2_with fail
      go_ret
      exact ⟨rfl, HB2.out⟩
    · rw [Bool.true_and]
      go_enter Tryd.func30, Tryd.ntmps30
      go_wp2_with fail
      refine HM'.out.mono ?_
      rintro e w2 ⟨rfl, b2⟩
      have HB2 : Hid (Below w.heap.size w w2) := HB.out.trans (b2.mono HB.out.size)
      obtain ⟨x0, x1, x2, -⟩ := (HX.out.under b2).facts
      clear b2 HX HB HM'
      go_wp2_with fail
      refine (ht_raw c t n p m cap _ hc0 hc1).mono ?_
      rintro e w3 ⟨rfl, b3⟩
      have HB3 : Hid (Below w.heap.size w w3) := HB2.out.trans (b3.mono HB2.out.size)
      clear b3 HB2 x0 x1 x2
      go_wp2_with fail
      go_ret
      exact ⟨rfl, HB3.out⟩

set_option maxRecDepth 100000 in
set_option maxHeartbeats 2000000 in
theorem srcs_any (K : List Ag) (v : Value) (w : World) (h : Gs w v K) : Calls Tryd.prog 37 #[v] w (RBool (K.all (fit1 115)) w) := by
  obtain ⟨p, cap, rfl, hc1, hc2, hc3⟩ := h.shape
  have HG : Hid (Gs w (.slice p K.length cap) K) := h
  clear h
  obtain ⟨r, hr⟩ : ∃ r, K.all (fit1 115) = r := ⟨_, rfl⟩
  have HR : Hid (K.all (fit1 115) = r) := hr
  rw [hr]; clear hr
  go_enter Tryd.func37, Tryd.ntmps37
  go_wp2_with fail
  go_loopg [7] K.length (fun gk s7 wr => ∃ k : Nat, k + gk = K.length ∧ s7 = .int .i64 (k : Int) ∧ Hid (Below w.heap.size w wr) ∧ Hid (∀ j (hj : j < K.length), j < k → fit1 115 K[j] = true))
  case atStart => exact ⟨0, by omega, rfl, Below.refl _ _, fun j _ hj => absurd hj (by omega)⟩
  case round =>
    obtain ⟨k, hk, rfl, HB, HA⟩ := hrel
    cases gk with
    | zero =>
      obtain rfl : k = K.length := by omega
      have HT : Hid (r = true) := by
        unfold Hid
        rw [← HR.out, List.all_eq_true]
        intro x hx
        obtain ⟨j, hj, rfl⟩ := List.getElem_of_mem hx
        exact HA.out j hj hj
      clear HA HR
      go_wp2_with fail
      go_ret
      exact ⟨by rw [HT.out]; rfl, HB.out⟩
    | succ g =>
      have hkl : k < K.length := by omega
      have hki : (k : Int) < (K.length : Int) := by omega
      have hkc : (k : Int) < (cap : Int) := by omega
      obtain ⟨b, off, ⟨xt, xn, xa, xm, xc⟩, rfl, hlt, ⟨a0, a1, a2⟩, hft, hx⟩ := (HG.out.under HB.out).at k hkl
      unfold El.sl at a2
      dsimp only at a0 a1 a2
      have HC : Hid (Calls Tryd.prog 30 #[.int .u8 115, .agg #[.int .i64 xt, .int .i64 xn, .slice xa xm xc]] (wr.alloc (.cells #[.int .i64 xt, .int .i64 xn, .slice xa xm xc] 30)) (RBool (fit1 115 K[k]) (wr.alloc (.cells #[.int .i64 xt, .int .i64 xn, .slice xa xm xc] 30)))) :=
        fitS_any 115 (by decide) (by decide) (by decide) (by decide) K[k] _ _ (hx.under (box_below _ _ _))
      have HBW : Hid (Below w.heap.size w (wr.alloc (.cells #[.int .i64 xt, .int .i64 xn, .slice xa xm xc] 30))) := HB.out.alloc HB.out.size _
      obtain ⟨q, hq⟩ : ∃ q, fit1 115 K[k] = q := ⟨_, rfl⟩
      rw [hq] at HC
      have HQ : Hid (fit1 115 K[k] = q) := hq
      clear hq hx hft
      go_wp2_with fail
      refine HC.out.mono ?_
      rintro e w2 ⟨rfl, b2⟩
      have HB2 : Hid (Below w.heap.size w w2) := HBW.out.trans (b2.mono HBW.out.size)
      clear b2 HBW HC a0 a1 a2
      cases q
      · have HF : Hid (r = false) := by
          unfold Hid
          rw [← HR.out]
          cases hr : K.all (fit1 115)
          · rfl
          · have := List.all_eq_true.1 hr _ (List.getElem_mem hkl)
            rw [HQ.out] at this
            cases this
        clear HR HA HQ
        go_wp2_with fail
        go_ret
        exact ⟨by rw [HF.out]; rfl, HB2.out⟩
      · have HA2 : Hid (∀ j (hj : j < K.length), j < k + 1 → fit1 115 K[j] = true) := by
          unfold Hid
          intro j hj hjk
          rcases Nat.lt_or_ge j k with h | h
          · exact HA.out j hj h
          · obtain rfl : j = k := by omega
            exact HQ.out
        clear HA HQ HR
        go_wp2_with fail
        go_roundg g
        case measure => omega
        case rel => exact ⟨k + 1, by omega, by go_num, HB2.out, HA2⟩
end Go.Proofs.YtfjibcldghnjcaaDoor


/-
  ops: arePairs.
-/
namespace Go.Proofs.YtfjibcldghnjcaaDoor
open Go.RowKit
set_option linter.unusedVariables false
set_option linter.unusedSimpArgs false

def zA : Ag := ⟨0, 0, []⟩
def sameTN (a b : Ag) : Bool := decide (a.t = b.t ∧ a.n = b.n)
/-- Whether the pair with this number is one. -/
def prB (K : List Ag) (j : Nat) : Bool := coA (K.getD (2 * j) zA) && mbA (K.getD (2 * j) zA) && fit1 108 (K.getD (2 * j + 1) zA) && (List.range j).all (fun e => !sameTN (K.getD (2 * e) zA) (K.getD (2 * j) zA))
def pairsB (K : List Ag) : Bool := decide (K.length % 2 = 0) && (List.range (K.length / 2)).all (prB K)
theorem pairs_no {K : List Ag} {j : Nat} (hj : 2 * j + 1 < K.length) (h : prB K j = false) : pairsB K = false := by
  unfold pairsB
  cases hr : (List.range (K.length / 2)).all (prB K)
  · simp
  · have := List.all_eq_true.1 hr j (List.mem_range.2 (by omega))
    rw [h] at this
    cases this
theorem pairs_yes {K : List Ag} (h2 : K.length % 2 = 0) (h : ∀ j, 2 * j < K.length → prB K j = true) : pairsB K = true := by
  unfold pairsB
  simp only [h2, decide_true, Bool.true_and]
  exact List.all_eq_true.2 (fun j hj => h j (by have := List.mem_range.1 hj; omega))

set_option maxRecDepth 100000 in
set_option maxHeartbeats 4000000 in
theorem pairs_any (K : List Ag) (v : Value) (w : World) (h : Gs w v K) : Calls Tryd.prog 38 #[v] w (RBool (pairsB K) w) := by
  obtain ⟨p, cap, rfl, hc1, hc2, hc3⟩ := h.shape
  have HG : Hid (Gs w (.slice p K.length cap) K) := h
  clear h
  obtain ⟨r, hr⟩ : ∃ r, pairsB K = r := ⟨_, rfl⟩
  have HR : Hid (pairsB K = r) := hr
  rw [hr]; clear hr
  obtain ⟨z, hz⟩ : ∃ z, z = ((K.length : Int).tmod 2) := ⟨_, rfl⟩
  have hz0 : (K.length : Int).tmod 2 = z := hz.symm
  have hzv : z = ((K.length % 2 : Nat) : Int) := by
    rw [hz, Int.tmod_eq_emod_of_nonneg (by omega)]
    omega
  by_cases h2 : K.length % 2 = 0
  case neg =>
    have HF : Hid (r = false) := by
      unfold Hid
      rw [← HR.out]
      unfold pairsB
      simp [h2]
    have hz1 : z = 1 := by omega
    subst hz1
    have hz' : ((1 : Int) != 0) = true := rfl
    clear hz hzv HR h2
    go_enter Tryd.func38, Tryd.ntmps38
    go_wp2_with fail
    go_step3
    go_wp2_with fail
    try simp only [Exit.noGoto]
    go_ret
    exact ⟨by rw [HF.out]; rfl, Below.refl _ _⟩
  case pos =>
  have hz1 : z = 0 := by omega
  subst hz1
  clear hz hzv
  go_enter Tryd.func38, Tryd.ntmps38
  go_wp2_with fail
  go_step3
  go_wp2_with fail
  go_step3
  go_wp2_with fail
  go_loopg [3] (K.length / 2) (fun gk s3 wr => ∃ j i : Nat, j + gk = K.length / 2 ∧ Hid (i = 2 * j) ∧ s3 = .int .i64 (i : Int) ∧ Hid (Below w.heap.size w wr) ∧ Hid (∀ e, e < j → prB K e = true))
  case atStart => exact ⟨0, 0, by omega, rfl, rfl, Below.refl _ _, fun j hj => absurd hj (by omega)⟩
  case round =>
    obtain ⟨j, i, hj, HI, rfl, HB, HA⟩ := hrel
    cases gk with
    | zero =>
      have hi : (i : Int) = (K.length : Int) := by have := HI.out; omega
      have hil : ¬ (i : Int) < (K.length : Int) := by omega
      have HT : Hid (r = true) := by
        unfold Hid
        rw [← HR.out]
        exact pairs_yes h2 (fun e he => HA.out e (by omega))
      clear HA HR HI hi
      go_wp2_with fail
      try simp only [Exit.noGoto]
      go_ret
      exact ⟨by rw [HT.out]; rfl, HB.out⟩
    | succ g =>
      have hi0 : i = 2 * j := HI.out
      have hik : i + 1 < K.length := by omega
      have hil : (i : Int) < (K.length : Int) := by omega
      have hil1 : (i : Int) + 1 < (K.length : Int) := by omega
      have hicap : (i : Int) < (cap : Int) := by omega
      have hicap1 : (i : Int) + 1 < (cap : Int) := by omega
      obtain ⟨b, off, ⟨t, n, a, m, c⟩, rfl, hlt, ⟨c0, c1, c2⟩, hft, hx⟩ := (HG.out.under HB.out).at i (by omega)
      unfold El.sl at c2
      dsimp only at c0 c1 c2
      obtain ⟨A, hA⟩ : ∃ A, K[i]'(by omega) = A := ⟨_, rfl⟩
      obtain ⟨A1, hA1⟩ : ∃ A, K[i + 1]'hik = A := ⟨_, rfl⟩
      have HA1 : Hid (K[i + 1]'hik = A1) := hA1
      rw [hA] at hx
      obtain ⟨e1, e2, -, -⟩ := hx.el
      dsimp only at e1 e2
      have hgi : K.getD i zA = A := by rw [← hA, List.getD_eq_getElem?_getD, List.getElem?_eq_getElem (by omega)]; rfl
      have hgi1 : K.getD (i + 1) zA = A1 := by rw [← hA1, List.getD_eq_getElem?_getD, List.getElem?_eq_getElem (by omega)]; rfl
      have HP : Hid (prB K j = (coA A && mbA A && fit1 108 A1 && (List.range j).all (fun e => !sameTN (K.getD (2 * e) zA) A))) := by
        unfold Hid prB
        rw [← hi0, hgi, hgi1]
      have HCO : Hid (Calls Tryd.prog 42 #[.agg #[.int .i64 t, .int .i64 n, .slice a m c]] (wr.alloc (.cells #[.int .i64 t, .int .i64 n, .slice a m c] 30)) (RBool (coA A) (wr.alloc (.cells #[.int .i64 t, .int .i64 n, .slice a m c] 30)))) := by
        have := co_raw t n a m c (wr.alloc (.cells #[.int .i64 t, .int .i64 n, .slice a m c] 30))
        rw [e1] at this ⊢
        exact this
      have hbx := box_below wr #[.int .i64 t, .int .i64 n, .slice a m c] 30
      have HBW : Hid (Below w.heap.size w (wr.alloc (.cells #[.int .i64 t, .int .i64 n, .slice a m c] 30))) := HB.out.alloc HB.out.size _
      have HX : Hid (BxA (wr.alloc (.cells #[.int .i64 t, .int .i64 n, .slice a m c] 30)) wr.heap.size t n (.slice a m c)) := BxA.new wr t n _
      have HXX : Hid (IsG (wr.alloc (.cells #[.int .i64 t, .int .i64 n, .slice a m c] 30)) A (.agg #[.int .i64 t, .int .i64 n, .slice a m c])) := hx.under hbx
      have HE : Hid (t = A.t ∧ n = A.n) := ⟨e1, e2⟩
      have HNO : Hid (prB K j = false → r = false) := by
        intro hp
        rw [← HR.out]
        exact pairs_no (by omega) hp
      clear hft hgi hgi1 hx e1 e2 HB hi0 hbx hA hA1
      go_wp2_with fail
      refine HCO.out.mono ?_
      generalize coA A = q1 at *
      rintro e w2 ⟨rfl, b2⟩
      generalize wr.alloc (.cells #[.int .i64 t, .int .i64 n, .slice a m c] 30) = wq at *
      generalize wr.heap.size = gq at *
      clear HCO c0 c1 c2
      have HB2 : Hid (Below w.heap.size w w2) := HBW.out.trans (b2.mono HBW.out.size)
      have HX2 : Hid (BxA w2 gq t n (.slice a m c)) := HX.out.under b2
      have HXX2 : Hid (IsG w2 A (.agg #[.int .i64 t, .int .i64 n, .slice a m c])) := HXX.out.under b2
      clear HBW HX HXX b2
      cases q1
      · have HF : Hid (r = false) := HNO.out (by rw [HP.out]; simp)
        clear HP HNO HR HA HE HXX2 HX2
        go_wp2_with fail
        try simp only [Exit.noGoto]
        go_ret
        exact ⟨by rw [HF.out]; rfl, HB2.out⟩
      obtain ⟨x0, x1, x2, -⟩ := HX2.out.facts
      go_wp2_with fail
      refine (mb_any A _ _ HXX2.out).mono ?_
      clear x0 x1 x2 HXX2
      generalize mbA A = q2 at *
      rintro e w3 ⟨rfl, b3⟩
      have HB3 : Hid (Below w.heap.size w w3) := HB2.out.trans (b3.mono HB2.out.size)
      have HX3 : Hid (BxA w3 gq t n (.slice a m c)) := HX2.out.under b3
      clear HB2 HX2 b3
      cases q2
      · have HF : Hid (r = false) := HNO.out (by rw [HP.out]; simp)
        clear HP HNO HR HA HE HX3
        go_wp2_with fail
        try simp only [Exit.noGoto]
        go_ret
        exact ⟨by rw [HF.out]; rfl, HB3.out⟩
      obtain ⟨b', off', ⟨t1, n1, a1, m1, k1⟩, he, -, ⟨y0, y1, y2⟩, -, hx1⟩ := (HG.out.under HB3.out).at (i + 1) hik
      rw [HA1.out] at hx1
      injection he with he
      injection he with he1 he2 _
      subst he1; subst he2
      unfold El.sl at y2
      dsimp only at y0 y1 y2
      have HF1 : Hid (Calls Tryd.prog 30 #[.int .u8 108, .agg #[.int .i64 t1, .int .i64 n1, .slice a1 m1 k1]] w3 (RBool (fit1 108 A1) w3)) := fitS_any 108 (by decide) (by decide) (by decide) (by decide) A1 _ _ hx1
      clear hx1
      go_wp2_with fail
      refine HF1.out.mono ?_
      clear HF1 y0 y1 y2
      generalize fit1 108 A1 = q3 at *
      rintro e w4 ⟨rfl, b4⟩
      have HB4 : Hid (Below w.heap.size w w4) := HB3.out.trans (b4.mono HB3.out.size)
      have HX4 : Hid (BxA w4 gq t n (.slice a m c)) := HX3.out.under b4
      clear HB3 HX3 b4
      cases q3
      · have HF : Hid (r = false) := HNO.out (by rw [HP.out]; simp)
        clear HP HNO HR HA HE HX4
        go_wp2_with fail
        try simp only [Exit.noGoto]
        go_ret
        exact ⟨by rw [HF.out]; rfl, HB4.out⟩
      have HP' : Hid (prB K j = (List.range j).all (fun e => !sameTN (K.getD (2 * e) zA) A)) := by
        unfold Hid
        rw [HP.out]
        simp only [Bool.true_and]
      clear HP
      go_wp2_with fail
      go_loopg [5] j (fun gk s5 wi => ∃ e x : Nat, e + gk = j ∧ Hid (x = 2 * e) ∧ s5 = .int .i64 (x : Int) ∧ Hid (Below w4.heap.size w4 wi) ∧ Hid (∀ e', e' < e → sameTN (K.getD (2 * e') zA) A = false))
      case atStart => exact ⟨0, 0, by omega, rfl, rfl, Below.refl _ _, fun e' h => absurd h (by omega)⟩
      case round =>
        obtain ⟨e, x, hx, HXE, rfl, HBI, HN⟩ := hrel
        have HB5 : Hid (Below w.heap.size w wr) := HB4.out.trans (HBI.out.mono HB4.out.size)
        cases gk with
        | zero =>
          have hxi : x = i := by have h1 : x = 2 * e := HXE.out; have h2 : i = 2 * j := HI.out; omega
          subst hxi
          have HPT : Hid (prB K j = true) := by
            unfold Hid
            rw [HP'.out, List.all_eq_true]
            intro e' he'
            rw [HN.out e' (by have := List.mem_range.1 he'; omega)]
            rfl
          have HA2 : Hid (∀ e, e < j + 1 → prB K e = true) := by
            intro e' he'
            rcases Nat.lt_or_ge e' j with h | h
            · exact HA.out e' h
            · obtain rfl : e' = j := by omega
              exact HPT.out
          have HI2 : Hid (x + 2 = 2 * (j + 1)) := by have h2 : x = 2 * j := HI.out; unfold Hid; omega
          clear HA HPT HP' HN HNO HR HE HX4
          go_wp2_with fail
          go_roundg g
          case measure => omega
          case rel => exact ⟨j + 1, x + 2, by omega, HI2, by go_num, HB5.out, HA2⟩
        | succ gj =>
          have hxi : x + 2 ≤ i := by have h1 : x = 2 * e := HXE.out; have h2 : i = 2 * j := HI.out; omega
          have hne : ((x : Int) == (i : Int)) = false := by simp; omega
          obtain ⟨b2, off2, ⟨t2, n2, a2, m2, k2⟩, he, hlt2, ⟨y0, y1, y2⟩, -, hx2⟩ := (HG.out.under HB5.out).at x (by omega)
          injection he with he
          injection he with he1 he2 _
          subst he1; subst he2
          unfold El.sl at y2
          dsimp only at y0 y1 y2
          obtain ⟨f1, f2, -, -⟩ := hx2.el
          dsimp only at f1 f2
          have hgx : K.getD x zA = K[x]'(by omega) := by rw [List.getD_eq_getElem?_getD, List.getElem?_eq_getElem (by omega)]; rfl
          have HS : Hid (sameTN (K.getD x zA) A = decide (t2 = t ∧ n2 = n)) := by
            unfold Hid sameTN
            rw [hgx, ← f1, ← f2, ← HE.out.1, ← HE.out.2]
          clear hgx f1 f2 hx2
          obtain ⟨z0, z1, z2, -⟩ := (HX4.out.under HBI.out).facts
          have hxk : (x : Int) < (K.length : Int) := by omega
          have hxc : (x : Int) < (cap : Int) := by omega
          have HXE2 : Hid (x + 2 = 2 * (e + 1)) := by have h2 : x = 2 * e := HXE.out; unfold Hid; omega
          by_cases ht : t2 = t
          · by_cases hn : n2 = n
            · have HF : Hid (r = false) := by
                refine HNO.out ?_
                rw [HP'.out]
                cases hr : (List.range j).all (fun e => !sameTN (K.getD (2 * e) zA) A)
                · rfl
                · have := List.all_eq_true.1 hr e (List.mem_range.2 (by omega))
                  have h1 : x = 2 * e := HXE.out
                  rw [← h1, HS.out] at this
                  simp [ht, hn] at this
              subst ht; subst hn
              clear HN HNO HR HA HE HX4 HS HP'
              go_wp2_with fail
              go_quiet (fail)
              go_wp2_with fail
              try simp only [Exit.noGoto]
              go_ret
              exact ⟨by rw [HF.out]; rfl, below_drewN HB5.out _⟩
            · have hn' : (n2 == n) = false := by simpa using hn
              have HN2 : Hid (∀ e', e' < e + 1 → sameTN (K.getD (2 * e') zA) A = false) := by
                intro e' he'
                rcases Nat.lt_or_ge e' e with h | h
                · exact HN.out e' h
                · obtain rfl : e' = e := by omega
                  have h1 : x = 2 * e' := HXE.out
                  rw [← h1, HS.out]
                  simp [hn]
              subst ht
              clear HN HNO HR HA HE HX4 HS HP'
              go_wp2_with fail
              go_quiet (fail)
              go_wp2_with fail
              go_roundg gj
              case measure => omega
              case rel => exact ⟨e + 1, x + 2, by omega, HXE2, by go_num, below_drewN HBI.out _, HN2⟩
          · have ht' : (t2 == t) = false := by simpa using ht
            have HN2 : Hid (∀ e', e' < e + 1 → sameTN (K.getD (2 * e') zA) A = false) := by
              intro e' he'
              rcases Nat.lt_or_ge e' e with h | h
              · exact HN.out e' h
              · obtain rfl : e' = e := by omega
                have h1 : x = 2 * e' := HXE.out
                rw [← h1, HS.out]
                simp [ht]
            clear HN HNO HR HA HE HX4 HS HP'
            go_wp2_with fail
            go_quiet (fail)
            go_wp2_with fail
            go_roundg gj
            case measure => omega
            case rel => exact ⟨e + 1, x + 2, by omega, HXE2, by go_num, below_drewN HBI.out _, HN2⟩
end Go.Proofs.YtfjibcldghnjcaaDoor


/-
  ops: fits, Fits, Throws.
-/
namespace Go.Proofs.YtfjibcldghnjcaaDoor
open Go.RowKit
set_option linter.unusedVariables false
set_option linter.unusedSimpArgs false

/-- Whether an operand is by a letter. -/
def fitA (c : Int) (a : Ag) : Bool :=
  if a.t = 7 then decide (a.n = 0) && decide (a.kids.length ≤ 40) && (if c = 83 then a.kids.all (fit1 115) else if c = 80 then pairsB a.kids else false)
  else mbA a && htB c a.t a.n
theorem fitA_small {c : Int} (h83 : ¬ c = 83) (h80 : ¬ c = 80) (a : Ag) : fitA c a = fit1 c a := by
  unfold fitA fit1
  rw [if_neg h83, if_neg h80, Bool.and_false]
theorem ht_83 (t n : Int) : htB 83 t n = false := by simp [htB]
theorem ht_80 (t n : Int) : htB 80 t n = false := by simp [htB]

set_option maxRecDepth 100000 in
set_option maxHeartbeats 2000000 in
theorem fits_list (c : Int) (hc : c = 83 ∨ c = 80) (n : Int) (K : List Ag) (v : Value) (w : World) (h : IsG w ⟨7, n, K⟩ v) : Calls Tryd.prog 30 #[.int .u8 c, v] w (RBool (fitA c ⟨7, n, K⟩) w) := by
  obtain ⟨p, cap, rfl, hf, hg⟩ := h.open
  dsimp only at *
  unfold agV
  have hbx := box_below w #[.int .i64 7, .int .i64 n, .slice p K.length cap] 30
  have HS := srcs_any K _ _ (hg.under hbx)
  have HP := pairs_any K _ _ (hg.under hbx)
  have HSS : Hid (Calls Tryd.prog 37 #[.slice p K.length cap] (w.alloc (.cells #[.int .i64 7, .int .i64 n, .slice p K.length cap] 30)) (RBool (K.all (fit1 115)) (w.alloc (.cells #[.int .i64 7, .int .i64 n, .slice p K.length cap] 30)))) := HS
  have HPP : Hid (Calls Tryd.prog 38 #[.slice p K.length cap] (w.alloc (.cells #[.int .i64 7, .int .i64 n, .slice p K.length cap] 30)) (RBool (pairsB K) (w.alloc (.cells #[.int .i64 7, .int .i64 n, .slice p K.length cap] 30)))) := HP
  clear HS HP hbx hg h hf
  have HB : Hid (Below w.heap.size w (w.alloc (.cells #[.int .i64 7, .int .i64 n, .slice p K.length cap] 30))) := box_below _ _ _
  obtain ⟨q1, hq1⟩ : ∃ q, K.all (fit1 115) = q := ⟨_, rfl⟩
  obtain ⟨q2, hq2⟩ : ∃ q, pairsB K = q := ⟨_, rfl⟩
  rw [hq1] at HSS
  rw [hq2] at HPP
  have hfa : fitA c ⟨7, n, K⟩ = (decide (n = 0) && decide (K.length ≤ 40) && (if c = 83 then q1 else if c = 80 then q2 else false)) := by
    unfold fitA
    rw [if_pos rfl]
    dsimp only
    rw [hq1, hq2]
  rw [hfa]
  clear hfa hq1 hq2
  obtain ⟨m, hm⟩ : ∃ m, K.length = m := ⟨_, rfl⟩
  rw [hm] at HSS HPP HB ⊢
  clear hm
  by_cases n0 : n = 0
  · subst n0
    by_cases m4 : (40 : Int) < (m : Int)
    · rw [show decide (m ≤ 40) = false by simp; omega, Bool.and_false, Bool.false_and]
      go_enter Tryd.func30, Tryd.ntmps30
      go_wp2_with fail
      go_ret
      exact ⟨rfl, HB.out⟩
    · rw [show decide (m ≤ 40) = true by simp; omega, show decide ((0 : Int) = 0) = true from rfl, Bool.and_true, Bool.true_and]
      rcases hc with rfl | rfl
      · rw [if_pos rfl]
        clear HPP
        go_enter Tryd.func30, Tryd.ntmps30
        go_wp2_with fail
        refine HSS.out.mono ?_
        rintro e w2 ⟨rfl, b2⟩
        have HB2 : Hid (Below w.heap.size w w2) := HB.out.trans (b2.mono HB.out.size)
        clear b2 HB HSS
        go_wp2_with fail
        go_ret
        exact ⟨rfl, HB2.out⟩
      · rw [if_neg (by decide), if_pos rfl]
        clear HSS
        go_enter Tryd.func30, Tryd.ntmps30
        go_wp2_with fail
        refine HPP.out.mono ?_
        rintro e w2 ⟨rfl, b2⟩
        have HB2 : Hid (Below w.heap.size w w2) := HB.out.trans (b2.mono HB.out.size)
        clear b2 HB HPP
        go_wp2_with fail
        go_ret
        exact ⟨rfl, HB2.out⟩
  · have n0' : (n != 0) = true := by simpa using n0
    rw [show decide (n = 0) = false by simp [n0], Bool.false_and, Bool.false_and]
    clear HSS HPP
    go_enter Tryd.func30, Tryd.ntmps30
    go_wp2_with fail
    go_ret
    exact ⟨rfl, HB.out⟩

set_option maxRecDepth 100000 in
set_option maxHeartbeats 2000000 in
theorem fits_one (c : Int) (hc : c = 83 ∨ c = 80) (t n : Int) (t7 : ¬ t = 7) (K : List Ag) (v : Value) (w : World) (h : IsG w ⟨t, n, K⟩ v) : Calls Tryd.prog 30 #[.int .u8 c, v] w (RBool false w) := by
  obtain ⟨p, cap, rfl, hf, hg⟩ := h.open
  dsimp only at *
  unfold agV
  have t7' : (t != 7) = true := by simpa using t7
  have HM : Hid (Calls Tryd.prog 35 #[.agg #[.int .i64 t, .int .i64 n, .slice p K.length cap]] (w.alloc (.cells #[.int .i64 t, .int .i64 n, .slice p K.length cap] 30)) (RBool (decide (loT t ≤ n) && decide (n ≤ hiT t) && decide (K.length = 0)) (w.alloc (.cells #[.int .i64 t, .int .i64 n, .slice p K.length cap] 30)))) := mb_raw t n p K.length cap _
  generalize (decide (loT t ≤ n) && decide (n ≤ hiT t) && decide (K.length = 0)) = q at *
  have HB : Hid (Below w.heap.size w (w.alloc (.cells #[.int .i64 t, .int .i64 n, .slice p K.length cap] 30))) := box_below _ _ _
  have HX : Hid (BxA (w.alloc (.cells #[.int .i64 t, .int .i64 n, .slice p K.length cap] 30)) w.heap.size t n (.slice p K.length cap)) := BxA.new w t n _
  generalize K.length = m at *
  clear hf hg h
  have HT : Hid (∀ W, Calls Tryd.prog 36 #[.int .u8 c, .agg #[.int .i64 t, .int .i64 n, .slice p m cap]] W (RBool false W)) := by
    intro W
    have := ht_raw c t n p m cap W (by omega) (by omega)
    rcases hc with rfl | rfl
    · rw [ht_83] at this; exact this
    · rw [ht_80] at this; exact this
  clear hc
  cases q
  · go_enter Tryd.func30, Tryd.ntmps30
    go_wp2_with fail
    refine HM.out.mono ?_
    rintro e w2 ⟨rfl, b2⟩
    have HB2 : Hid (Below w.heap.size w w2) := HB.out.trans (b2.mono HB.out.size)
    clear b2 HX HB HM HT
    go_wp2_with fail
    go_ret
    exact ⟨rfl, HB2.out⟩
  · go_enter Tryd.func30, Tryd.ntmps30
    go_wp2_with fail
    refine HM.out.mono ?_
    rintro e w2 ⟨rfl, b2⟩
    have HB2 : Hid (Below w.heap.size w w2) := HB.out.trans (b2.mono HB.out.size)
    obtain ⟨x0, x1, x2, -⟩ := (HX.out.under b2).facts
    clear b2 HX HB HM
    go_wp2_with fail
    refine (HT.out _).mono ?_
    rintro e w3 ⟨rfl, b3⟩
    have HB3 : Hid (Below w.heap.size w w3) := HB2.out.trans (b3.mono HB2.out.size)
    clear b3 HB2 x0 x1 x2 HT
    go_wp2_with fail
    go_ret
    exact ⟨rfl, HB3.out⟩
theorem fits_any (c : Int) (hc0 : 0 ≤ c) (hc1 : c ≤ 255) (a : Ag) (v : Value) (w : World) (h : IsG w a v) : Calls Tryd.prog 30 #[.int .u8 c, v] w (RBool (fitA c a) w) := by
  by_cases hc : c = 83 ∨ c = 80
  · obtain ⟨t, n, K⟩ := a
    by_cases t7 : t = 7
    · subst t7
      exact fits_list c hc n K v w h
    · have e : fitA c ⟨t, n, K⟩ = false := by
        unfold fitA
        rw [if_neg t7]
        rcases hc with rfl | rfl
        · dsimp only; rw [ht_83, Bool.and_false]
        · dsimp only; rw [ht_80, Bool.and_false]
      rw [e]
      exact fits_one c hc t n t7 K v w h
  · rw [fitA_small (by omega) (by omega)]
    exact fitS_any c hc0 hc1 (by omega) (by omega) a v w h
end Go.Proofs.YtfjibcldghnjcaaDoor


/-
  ops: Fits, Throws.
-/
namespace Go.Proofs.YtfjibcldghnjcaaDoor
open Go.RowKit
set_option linter.unusedVariables false
set_option linter.unusedSimpArgs false

def letA (op : Int) (k : Nat) : Int := (((sigS op).getD k 0).toNat : Int)
/-- Whether an instruction is by its letters. -/
def fitsI (op : Int) (K : List Ag) : Bool := decide (1 ≤ op ∧ op ≤ 51) && decide (K.length = (sigS op).length) && (List.range K.length).all (fun k => fitA (letA op k) (K.getD k zA))
theorem sig_len (op : Int) : (sigS op).length ≤ 6 := by
  unfold sigS
  split
  · rename_i h
    obtain ⟨h1, h2⟩ := h
    have h3 : (op - 1).toNat < 51 := by omega
    generalize (op - 1).toNat = k at *
    have : ∀ k < 51, (sigT.getD k []).length ≤ 6 := by decide
    exact this k h3
  · simp
/-- An instruction's box. -/
def BxI (w : World) (g : Nat) (op : Int) (sl : Value) : Prop := w.heap[g]? = some (.cells #[.int .i64 op, sl] 27 (0, 0))
theorem BxI.new (w : World) (op : Int) (sl : Value) : BxI (w.alloc (.cells #[.int .i64 op, sl] 27)) w.heap.size op sl := heap_alloc_new w _
theorem BxI.facts {w : World} {g : Nat} {op : Int} {sl : Value} (h : BxI w g op sl) : w.cell? ⟨g, 0, none⟩ = some (.int .i64 op) ∧ w.cell? ⟨g, 1, none⟩ = some sl ∧ g < w.heap.size := by
  unfold BxI at h
  refine ⟨?_, ?_, (Array.getElem?_eq_some_iff.1 h).1⟩ <;> simp [World.cell?, h]
theorem BxI.under {w w' : World} {g : Nat} {op : Int} {sl : Value} (h : BxI w g op sl) (hb : Below w.heap.size w w') : BxI w' g op sl := by
  unfold BxI at h ⊢
  rw [hb.block g (Array.getElem?_eq_some_iff.1 h).1]
  exact h
theorem str_index (L : List UInt8) (k : Nat) (hk : k < L.length) (wx : World) : (Instr.index 9 (.string ⟨L.toArray⟩) (.int .i64 (k : Int))).run Tryd.prog wx = .ok (.int .u8 (((L.getD k 0).toNat : Nat) : Int)) wx := by
  have hs : (⟨L.toArray⟩ : ByteArray).size = L.length := by simp [ByteArray.size]
  rw [run_index_string _ _ _ _ _ Tryd.underlying9]
  rw [dif_pos (by omega)]
  have : (⟨L.toArray⟩ : ByteArray)[(k : Int).toNat]'(by omega) = L.getD k 0 := by
    rw [List.getD_eq_getElem?_getD, List.getElem?_eq_getElem hk]
    simp [ByteArray.getElem_eq_getElem_data]
  rw [this]

set_option maxRecDepth 100000 in
set_option maxHeartbeats 4000000 in
theorem Fits_any (op : Int) (K : List Ag) (v : Value) (w : World) (h : Gs w v K) : Calls Tryd.prog 20 #[.agg #[.int .i64 op, v]] w (RBool (fitsI op K) w) := by
  obtain ⟨p, cap, rfl, hc1, hc2, hc3⟩ := h.shape
  have HG : Hid (Gs w (.slice p K.length cap) K) := h
  clear h
  obtain ⟨r, hr⟩ : ∃ r, fitsI op K = r := ⟨_, rfl⟩
  have HR : Hid (fitsI op K = r) := hr
  rw [hr]; clear hr
  have HSG : Hid (∀ W, Calls Tryd.prog 27 #[.int .i64 op] W fun e w' => e = .returned (strV (sigS op)) ∧ w' = W) := fun W => sig_any op W
  have HOP : Hid (∀ W, Calls Tryd.prog 29 #[.int .i64 op] W fun e w' => e = .returned (.bool (decide (1 ≤ op ∧ op ≤ 51))) ∧ w' = W) := fun W => isOp_any op W
  have HB : Hid (Below w.heap.size w (w.alloc (.cells #[.int .i64 op, .slice p K.length cap] 27))) := box_below _ _ _
  have HX : Hid (BxI (w.alloc (.cells #[.int .i64 op, .slice p K.length cap] 27)) w.heap.size op (.slice p K.length cap)) := BxI.new w op _
  have hsl := sig_len op
  obtain ⟨M, hM⟩ : ∃ M, M = (sigS op).length := ⟨_, rfl⟩
  rw [← hM] at hsl
  have hs : (⟨(sigS op).toArray⟩ : ByteArray).size = M := by rw [hM]; simp [ByteArray.size]
  have HIX : Hid (∀ k, k < M → ∀ wx, (Instr.index 9 (.string ⟨(sigS op).toArray⟩) (.int .i64 (k : Int))).run Tryd.prog wx = .ok (.int .u8 (letA op k)) wx) := fun k hk wx => str_index (sigS op) k (by omega) wx
  have HF : Hid (r = (decide (1 ≤ op ∧ op ≤ 51) && decide (K.length = M) && (List.range K.length).all (fun k => fitA (letA op k) (K.getD k zA)))) := by
    unfold Hid
    rw [← HR.out, hM]
    rfl
  unfold strV at HSG
  generalize (⟨(sigS op).toArray⟩ : ByteArray) = s at *
  have hsi : (s.size : Int) = (M : Int) := by omega
  clear HR hM
  obtain ⟨q, hq⟩ : ∃ q, decide (1 ≤ op ∧ op ≤ 51) = q := ⟨_, rfl⟩
  rw [hq] at HOP HF
  clear hq
  cases q
  · have HF' : Hid (r = false) := by unfold Hid; rw [HF.out]; simp
    clear HF HIX hc1 hc3
    go_enter Tryd.func20, Tryd.ntmps20
    go_wp2_with fail
    refine (HSG.out _).mono ?_
    rintro e w2 ⟨rfl, rfl⟩
    go_wp2_with fail
    refine (HOP.out _).mono ?_
    rintro e w2 ⟨rfl, rfl⟩
    go_wp2_with fail
    go_ret
    exact ⟨by rw [HF'.out]; rfl, HB.out⟩
  by_cases hl : K.length = M
  case neg =>
    have HF' : Hid (r = false) := by unfold Hid; rw [HF.out]; simp [hl]
    have hne : ((K.length : Int) != (s.size : Int)) = true := by simp; omega
    clear HF HIX hc1 hc3 hsi
    go_enter Tryd.func20, Tryd.ntmps20
    go_wp2_with fail
    refine (HSG.out _).mono ?_
    rintro e w2 ⟨rfl, rfl⟩
    go_wp2_with fail
    refine (HOP.out _).mono ?_
    rintro e w2 ⟨rfl, rfl⟩
    go_wp2_with fail
    go_ret
    exact ⟨by rw [HF'.out]; rfl, HB.out⟩
  case pos =>
  have hne : ((K.length : Int) != (s.size : Int)) = false := by simp; omega
  have HF2 : Hid (r = (List.range K.length).all (fun k => fitA (letA op k) (K.getD k zA))) := by unfold Hid; rw [HF.out]; simp [hl]
  have HLM : Hid (K.length = M) := hl
  clear HF hl hsi hs
  go_enter Tryd.func20, Tryd.ntmps20
  go_wp2_with fail
  refine (HSG.out _).mono ?_
  rintro e w2 ⟨rfl, rfl⟩
  go_wp2_with fail
  refine (HOP.out _).mono ?_
  rintro e w2 ⟨rfl, rfl⟩
  go_wp2_with fail
  generalize w.alloc (.cells #[.int .i64 op, .slice p K.length cap] 27) = w1 at *
  clear HSG HOP hne
  go_loopg [24] K.length (fun gk s24 wr => ∃ k : Nat, k + gk = K.length ∧ s24 = .int .i64 (k : Int) ∧ Hid (Below w1.heap.size w1 wr) ∧ Hid (∀ j, j < k → fitA (letA op j) (K.getD j zA) = true))
  case atStart => exact ⟨0, by omega, rfl, Below.refl _ _, fun j hj => absurd hj (by omega)⟩
  case round =>
    obtain ⟨k, hk, rfl, HBI, HA⟩ := hrel
    have HBR : Hid (Below w.heap.size w wr) := HB.out.trans (HBI.out.mono HB.out.size)
    cases gk with
    | zero =>
      obtain rfl : k = K.length := by omega
      have HT : Hid (r = true) := by
        unfold Hid
        rw [HF2.out, List.all_eq_true]
        intro j hj
        exact HA.out j (List.mem_range.1 hj)
      clear HA HF2
      go_wp2_with fail
      go_ret
      exact ⟨by rw [HT.out]; rfl, HBR.out⟩
    | succ g =>
      have hkl : k < K.length := by omega
      have hkm : k < M := by have := HLM.out; omega
      have hki : (k : Int) < (K.length : Int) := by omega
      have hkc : (k : Int) < (cap : Int) := by omega
      obtain ⟨b, off, ⟨xt, xn, xa, xm, xc⟩, rfl, hlt, ⟨a0, a1, a2⟩, hft, hx⟩ := (HG.out.under HBR.out).at k hkl
      unfold El.sl at a2
      dsimp only at a0 a1 a2
      have hgk : K.getD k zA = K[k] := by rw [List.getD_eq_getElem?_getD, List.getElem?_eq_getElem hkl]; rfl
      have hidx := HIX.out k hkm
      have hl0 : 0 ≤ letA op k := by unfold letA; omega
      have hl1 : letA op k ≤ 255 := by unfold letA; have := ((sigS op).getD k 0).toNat_lt; omega
      have HBA : Hid (Below w1.heap.size w1 (wr.alloc (.cells #[.int .i64 xt, .int .i64 xn, .slice xa xm xc] 30))) := HBI.out.alloc HBI.out.size _
      have HXA : Hid (BxA (wr.alloc (.cells #[.int .i64 xt, .int .i64 xn, .slice xa xm xc] 30)) wr.heap.size xt xn (.slice xa xm xc)) := BxA.new wr xt xn _
      have hxx := hx.under (box_below wr #[.int .i64 xt, .int .i64 xn, .slice xa xm xc] 30)
      have HC : Hid (∀ W, Below (wr.alloc (.cells #[.int .i64 xt, .int .i64 xn, .slice xa xm xc] 30)).heap.size (wr.alloc (.cells #[.int .i64 xt, .int .i64 xn, .slice xa xm xc] 30)) W → Calls Tryd.prog 30 #[.int .u8 (letA op k), .agg #[.int .i64 xt, .int .i64 xn, .slice xa xm xc]] W (RBool (fitA (letA op k) (K.getD k zA)) W)) := by
        intro W hW
        rw [hgk]
        exact fits_any _ hl0 hl1 K[k] _ W (hxx.under hW)
      obtain ⟨q, hq⟩ : ∃ q, fitA (letA op k) (K.getD k zA) = q := ⟨_, rfl⟩
      rw [hq] at HC
      have HQ : Hid (fitA (letA op k) (K.getD k zA) = q) := hq
      generalize letA op k = c at hidx hl0 hl1 HC
      clear hq hx hft hxx hgk HBI
      go_wp2_with fail
      generalize wr.alloc (.cells #[.int .i64 xt, .int .i64 xn, .slice xa xm xc] 30) = wa at *
      generalize wr.heap.size = ga at *
      obtain ⟨x0, x1, x2, -⟩ := HXA.out.facts
      clear a0 a1 a2
      go_region_law (first
        | (go_simp; go_at_call 30; refine (HC.out _ ((Below.refl _ _).drew)).mono ?_; rintro e x1 ⟨rfl, bb1⟩; have hq1 : Below wa.heap.size wa x1 := ((Below.refl _ _).drew).trans (bb1.mono (Nat.le_refl _))))
      all_goals
        have HB2 : Hid (Below w1.heap.size w1 x1) := HBA.out.trans (hq1.mono HBA.out.size)
        clear hq1 bb1
        cases q
        · have HF' : Hid (r = false) := by
            unfold Hid
            rw [HF2.out]
            cases hr : (List.range K.length).all (fun k => fitA (letA op k) (K.getD k zA))
            · rfl
            · have := List.all_eq_true.1 hr k (List.mem_range.2 hkl)
              rw [HQ.out] at this
              cases this
          have HBF : Hid (Below w.heap.size w x1) := HB.out.trans (HB2.out.mono HB.out.size)
          clear HF2 HA HQ HC
          go_wp2_with fail
          go_ret
          exact ⟨by rw [HF'.out]; rfl, HBF.out⟩
        · have HA2 : Hid (∀ j, j < k + 1 → fitA (letA op j) (K.getD j zA) = true) := by
            intro j hj
            rcases Nat.lt_or_ge j k with h | h
            · exact HA.out j h
            · obtain rfl : j = k := by omega
              exact HQ.out
          clear HF2 HA HQ HC
          go_wp2_with fail
          go_roundg g
          case measure => omega
          case rel => exact ⟨k + 1, by omega, by go_num, HB2.out, HA2⟩

def thrL (op : Int) : Bool := decide (op = 2 ∨ op = 6 ∨ op = 9 ∨ op = 10 ∨ op = 17 ∨ op = 18 ∨ op = 43 ∨ op = 44 ∨ op = 48 ∨ op = 49 ∨ op = 50 ∨ op = 51)
/-- Whether an instruction may raise. -/
def thrI (op : Int) (K : List Ag) : Bool := fitsI op K && (if op = 35 ∨ op = 36 ∨ op = 37 then decide ((K.getD 0 zA).n = 0) else thrL op)
theorem fits_len {op : Int} {K : List Ag} (h : fitsI op K = true) : K.length = (sigS op).length := by
  unfold fitsI at h
  simp only [Bool.and_eq_true, decide_eq_true_eq] at h
  exact h.1.2
end Go.Proofs.YtfjibcldghnjcaaDoor


/-
  ops: Throws; relictlaw00's instructions.
-/
namespace Go.Proofs.YtfjibcldghnjcaaDoor
open Go.RowKit
set_option linter.unusedVariables false
set_option linter.unusedSimpArgs false

end Go.Proofs.YtfjibcldghnjcaaDoor
