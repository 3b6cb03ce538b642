
/-
  ops: arePairs.
-/
import Derived.Test.YtgjjeghnfhjnnaaDoorOpD
namespace Go.Proofs.YtgjjeghnfhjnnaaDoor
open Go.RowKit
set_option linter.unusedVariables false
set_option linter.unusedSimpArgs false

def zA : Ag := ⟨0, 0, []⟩
def sameTN (a b : Ag) : Bool := decide (a.t = b.t ∧ a.n = b.n)
/-- Whether the pair with this number is one. -/
def prB (K : List Ag) (j : Nat) : Bool := coA (K.getD (2 * j) zA) && mbA (K.getD (2 * j) zA) && fit1 108 (K.getD (2 * j + 1) zA) && (List.range j).all (fun e => !sameTN (K.getD (2 * e) zA) (K.getD (2 * j) zA))
def pairsB (K : List Ag) : Bool := decide (K.length % 2 = 0) && (List.range (K.length / 2)).all (prB K)
theorem pairs_no {K : List Ag} {j : Nat} (hj : 2 * j + 1 < K.length) (h : prB K j = false) : pairsB K = false := by
  unfold pairsB
  cases hr : (List.range (K.length / 2)).all (prB K)
  · simp
  · have := List.all_eq_true.1 hr j (List.mem_range.2 (by omega))
    rw [h] at this
    cases this
theorem pairs_yes {K : List Ag} (h2 : K.length % 2 = 0) (h : ∀ j, 2 * j < K.length → prB K j = true) : pairsB K = true := by
  unfold pairsB
  simp only [h2, decide_true, Bool.true_and]
  exact List.all_eq_true.2 (fun j hj => h j (by have := List.mem_range.1 hj; omega))

set_option maxRecDepth 100000 in
set_option maxHeartbeats 4000000 in
theorem pairs_any (K : List Ag) (v : Value) (w : World) (h : Gs w v K) : Calls Tryd.prog 62 #[v] w (RBool (pairsB K) w) := by
  obtain ⟨p, cap, rfl, hc1, hc2, hc3⟩ := h.shape
  have HG : Hid (Gs w (.slice p K.length cap) K) := h
  clear h
  obtain ⟨r, hr⟩ : ∃ r, pairsB K = r := ⟨_, rfl⟩
  have HR : Hid (pairsB K = r) := hr
  rw [hr]; clear hr
  obtain ⟨z, hz⟩ : ∃ z, z = ((K.length : Int).tmod 2) := ⟨_, rfl⟩
  have hz0 : (K.length : Int).tmod 2 = z := hz.symm
  have hzv : z = ((K.length % 2 : Nat) : Int) := by
    rw [hz, Int.tmod_eq_emod_of_nonneg (by omega)]
    omega
  by_cases h2 : K.length % 2 = 0
  case neg =>
    have HF : Hid (r = false) := by
      unfold Hid
      rw [← HR.out]
      unfold pairsB
      simp [h2]
    have hz1 : z = 1 := by omega
    subst hz1
    have hz' : ((1 : Int) != 0) = true := rfl
    clear hz hzv HR h2
    go_enter Tryd.func62, Tryd.ntmps62
    go_wp2_with fail
    go_step3
    go_wp2_with fail
    try simp only [Exit.noGoto]
    go_ret
    exact ⟨by rw [HF.out]; rfl, Below.refl _ _⟩
  case pos =>
  have hz1 : z = 0 := by omega
  subst hz1
  clear hz hzv
  go_enter Tryd.func62, Tryd.ntmps62
  go_wp2_with fail
  go_step3
  go_wp2_with fail
  go_step3
  go_wp2_with fail
  go_loopg [3] (K.length / 2) (fun gk s3 wr => ∃ j i : Nat, j + gk = K.length / 2 ∧ Hid (i = 2 * j) ∧ s3 = .int .i64 (i : Int) ∧ Hid (Below w.heap.size w wr) ∧ Hid (∀ e, e < j → prB K e = true))
  case atStart => exact ⟨0, 0, by omega, rfl, rfl, Below.refl _ _, fun j hj => absurd hj (by omega)⟩
  case round =>
    obtain ⟨j, i, hj, HI, rfl, HB, HA⟩ := hrel
    cases gk with
    | zero =>
      have hi : (i : Int) = (K.length : Int) := by have := HI.out; omega
      have hil : ¬ (i : Int) < (K.length : Int) := by omega
      have HT : Hid (r = true) := by
        unfold Hid
        rw [← HR.out]
        exact pairs_yes h2 (fun e he => HA.out e (by omega))
      clear HA HR HI hi
      go_wp2_with fail
      try simp only [Exit.noGoto]
      go_ret
      exact ⟨by rw [HT.out]; rfl, HB.out⟩
    | succ g =>
      have hi0 : i = 2 * j := HI.out
      have hik : i + 1 < K.length := by omega
      have hil : (i : Int) < (K.length : Int) := by omega
      have hil1 : (i : Int) + 1 < (K.length : Int) := by omega
      have hicap : (i : Int) < (cap : Int) := by omega
      have hicap1 : (i : Int) + 1 < (cap : Int) := by omega
      obtain ⟨b, off, ⟨t, n, a, m, c⟩, rfl, hlt, ⟨c0, c1, c2⟩, hft, hx⟩ := (HG.out.under HB.out).at i (by omega)
      unfold El.sl at c2
      dsimp only at c0 c1 c2
      obtain ⟨A, hA⟩ : ∃ A, K[i]'(by omega) = A := ⟨_, rfl⟩
      obtain ⟨A1, hA1⟩ : ∃ A, K[i + 1]'hik = A := ⟨_, rfl⟩
      have HA1 : Hid (K[i + 1]'hik = A1) := hA1
      rw [hA] at hx
      obtain ⟨e1, e2, -, -⟩ := hx.el
      dsimp only at e1 e2
      have hgi : K.getD i zA = A := by rw [← hA, List.getD_eq_getElem?_getD, List.getElem?_eq_getElem (by omega)]; rfl
      have hgi1 : K.getD (i + 1) zA = A1 := by rw [← hA1, List.getD_eq_getElem?_getD, List.getElem?_eq_getElem (by omega)]; rfl
      have HP : Hid (prB K j = (coA A && mbA A && fit1 108 A1 && (List.range j).all (fun e => !sameTN (K.getD (2 * e) zA) A))) := by
        unfold Hid prB
        rw [← hi0, hgi, hgi1]
      have HCO : Hid (Calls Tryd.prog 71 #[.agg #[.int .i64 t, .int .i64 n, .slice a m c]] (wr.alloc (.cells #[.int .i64 t, .int .i64 n, .slice a m c] 25)) (RBool (coA A) (wr.alloc (.cells #[.int .i64 t, .int .i64 n, .slice a m c] 25)))) := by
        have := co_raw t n a m c (wr.alloc (.cells #[.int .i64 t, .int .i64 n, .slice a m c] 25))
        rw [e1] at this ⊢
        exact this
      have hbx := box_below wr #[.int .i64 t, .int .i64 n, .slice a m c] 25
      have HBW : Hid (Below w.heap.size w (wr.alloc (.cells #[.int .i64 t, .int .i64 n, .slice a m c] 25))) := HB.out.alloc HB.out.size _
      have HX : Hid (BxA (wr.alloc (.cells #[.int .i64 t, .int .i64 n, .slice a m c] 25)) wr.heap.size t n (.slice a m c)) := BxA.new wr t n _
      have HXX : Hid (IsG (wr.alloc (.cells #[.int .i64 t, .int .i64 n, .slice a m c] 25)) A (.agg #[.int .i64 t, .int .i64 n, .slice a m c])) := hx.under hbx
      have HE : Hid (t = A.t ∧ n = A.n) := ⟨e1, e2⟩
      have HNO : Hid (prB K j = false → r = false) := by
        intro hp
        rw [← HR.out]
        exact pairs_no (by omega) hp
      clear hft hgi hgi1 hx e1 e2 HB hi0 hbx hA hA1
      go_wp2_with fail
      refine HCO.out.mono ?_
      generalize coA A = q1 at *
      rintro e w2 ⟨rfl, b2⟩
      generalize wr.alloc (.cells #[.int .i64 t, .int .i64 n, .slice a m c] 25) = wq at *
      generalize wr.heap.size = gq at *
      clear HCO c0 c1 c2
      have HB2 : Hid (Below w.heap.size w w2) := HBW.out.trans (b2.mono HBW.out.size)
      have HX2 : Hid (BxA w2 gq t n (.slice a m c)) := HX.out.under b2
      have HXX2 : Hid (IsG w2 A (.agg #[.int .i64 t, .int .i64 n, .slice a m c])) := HXX.out.under b2
      clear HBW HX HXX b2
      cases q1
      · have HF : Hid (r = false) := HNO.out (by rw [HP.out]; simp)
        clear HP HNO HR HA HE HXX2 HX2
        go_wp2_with fail
        try simp only [Exit.noGoto]
        go_ret
        exact ⟨by rw [HF.out]; rfl, HB2.out⟩
      obtain ⟨x0, x1, x2, -⟩ := HX2.out.facts
      go_wp2_with fail
      refine (mb_any A _ _ HXX2.out).mono ?_
      clear x0 x1 x2 HXX2
      generalize mbA A = q2 at *
      rintro e w3 ⟨rfl, b3⟩
      have HB3 : Hid (Below w.heap.size w w3) := HB2.out.trans (b3.mono HB2.out.size)
      have HX3 : Hid (BxA w3 gq t n (.slice a m c)) := HX2.out.under b3
      clear HB2 HX2 b3
      cases q2
      · have HF : Hid (r = false) := HNO.out (by rw [HP.out]; simp)
        clear HP HNO HR HA HE HX3
        go_wp2_with fail
        try simp only [Exit.noGoto]
        go_ret
        exact ⟨by rw [HF.out]; rfl, HB3.out⟩
      obtain ⟨b', off', ⟨t1, n1, a1, m1, k1⟩, he, -, ⟨y0, y1, y2⟩, -, hx1⟩ := (HG.out.under HB3.out).at (i + 1) hik
      rw [HA1.out] at hx1
      injection he with he
      injection he with he1 he2 _
      subst he1; subst he2
      unfold El.sl at y2
      dsimp only at y0 y1 y2
      have HF1 : Hid (Calls Tryd.prog 45 #[.int .u8 108, .agg #[.int .i64 t1, .int .i64 n1, .slice a1 m1 k1]] w3 (RBool (fit1 108 A1) w3)) := fitS_any 108 (by decide) (by decide) (by decide) (by decide) A1 _ _ hx1
      clear hx1
      go_wp2_with fail
      refine HF1.out.mono ?_
      clear HF1 y0 y1 y2
      generalize fit1 108 A1 = q3 at *
      rintro e w4 ⟨rfl, b4⟩
      have HB4 : Hid (Below w.heap.size w w4) := HB3.out.trans (b4.mono HB3.out.size)
      have HX4 : Hid (BxA w4 gq t n (.slice a m c)) := HX3.out.under b4
      clear HB3 HX3 b4
      cases q3
      · have HF : Hid (r = false) := HNO.out (by rw [HP.out]; simp)
        clear HP HNO HR HA HE HX4
        go_wp2_with fail
        try simp only [Exit.noGoto]
        go_ret
        exact ⟨by rw [HF.out]; rfl, HB4.out⟩
      have HP' : Hid (prB K j = (List.range j).all (fun e => !sameTN (K.getD (2 * e) zA) A)) := by
        unfold Hid
        rw [HP.out]
        simp only [Bool.true_and]
      clear HP
      go_wp2_with fail
      go_loopg [5] j (fun gk s5 wi => ∃ e x : Nat, e + gk = j ∧ Hid (x = 2 * e) ∧ s5 = .int .i64 (x : Int) ∧ Hid (Below w4.heap.size w4 wi) ∧ Hid (∀ e', e' < e → sameTN (K.getD (2 * e') zA) A = false))
      case atStart => exact ⟨0, 0, by omega, rfl, rfl, Below.refl _ _, fun e' h => absurd h (by omega)⟩
      case round =>
        obtain ⟨e, x, hx, HXE, rfl, HBI, HN⟩ := hrel
        have HB5 : Hid (Below w.heap.size w wr) := HB4.out.trans (HBI.out.mono HB4.out.size)
        cases gk with
        | zero =>
          have hxi : x = i := by have h1 : x = 2 * e := HXE.out; have h2 : i = 2 * j := HI.out; omega
          subst hxi
          have HPT : Hid (prB K j = true) := by
            unfold Hid
            rw [HP'.out, List.all_eq_true]
            intro e' he'
            rw [HN.out e' (by have := List.mem_range.1 he'; omega)]
            rfl
          have HA2 : Hid (∀ e, e < j + 1 → prB K e = true) := by
            intro e' he'
            rcases Nat.lt_or_ge e' j with h | h
            · exact HA.out e' h
            · obtain rfl : e' = j := by omega
              exact HPT.out
          have HI2 : Hid (x + 2 = 2 * (j + 1)) := by have h2 : x = 2 * j := HI.out; unfold Hid; omega
          clear HA HPT HP' HN HNO HR HE HX4
          go_wp2_with fail
          go_roundg g
          case measure => omega
          case rel => exact ⟨j + 1, x + 2, by omega, HI2, by go_num, HB5.out, HA2⟩
        | succ gj =>
          have hxi : x + 2 ≤ i := by have h1 : x = 2 * e := HXE.out; have h2 : i = 2 * j := HI.out; omega
          have hne : ((x : Int) == (i : Int)) = false := by simp; omega
          obtain ⟨b2, off2, ⟨t2, n2, a2, m2, k2⟩, he, hlt2, ⟨y0, y1, y2⟩, -, hx2⟩ := (HG.out.under HB5.out).at x (by omega)
          injection he with he
          injection he with he1 he2 _
          subst he1; subst he2
          unfold El.sl at y2
          dsimp only at y0 y1 y2
          obtain ⟨f1, f2, -, -⟩ := hx2.el
          dsimp only at f1 f2
          have hgx : K.getD x zA = K[x]'(by omega) := by rw [List.getD_eq_getElem?_getD, List.getElem?_eq_getElem (by omega)]; rfl
          have HS : Hid (sameTN (K.getD x zA) A = decide (t2 = t ∧ n2 = n)) := by
            unfold Hid sameTN
            rw [hgx, ← f1, ← f2, ← HE.out.1, ← HE.out.2]
          clear hgx f1 f2 hx2
          obtain ⟨z0, z1, z2, -⟩ := (HX4.out.under HBI.out).facts
          have hxk : (x : Int) < (K.length : Int) := by omega
          have hxc : (x : Int) < (cap : Int) := by omega
          have HXE2 : Hid (x + 2 = 2 * (e + 1)) := by have h2 : x = 2 * e := HXE.out; unfold Hid; omega
          by_cases ht : t2 = t
          · by_cases hn : n2 = n
            · have HF : Hid (r = false) := by
                refine HNO.out ?_
                rw [HP'.out]
                cases hr : (List.range j).all (fun e => !sameTN (K.getD (2 * e) zA) A)
                · rfl
                · have := List.all_eq_true.1 hr e (List.mem_range.2 (by omega))
                  have h1 : x = 2 * e := HXE.out
                  rw [← h1, HS.out] at this
                  simp [ht, hn] at this
              subst ht; subst hn
              clear HN HNO HR HA HE HX4 HS HP'
              go_wp2_with fail
              go_quiet (fail)
              go_wp2_with fail
              try simp only [Exit.noGoto]
              go_ret
              exact ⟨by rw [HF.out]; rfl, below_drewN HB5.out _⟩
            · have hn' : (n2 == n) = false := by simpa using hn
              have HN2 : Hid (∀ e', e' < e + 1 → sameTN (K.getD (2 * e') zA) A = false) := by
                intro e' he'
                rcases Nat.lt_or_ge e' e with h | h
                · exact HN.out e' h
                · obtain rfl : e' = e := by omega
                  have h1 : x = 2 * e' := HXE.out
                  rw [← h1, HS.out]
                  simp [hn]
              subst ht
              clear HN HNO HR HA HE HX4 HS HP'
              go_wp2_with fail
              go_quiet (fail)
              go_wp2_with fail
              go_roundg gj
              case measure => omega
              case rel => exact ⟨e + 1, x + 2, by omega, HXE2, by go_num, below_drewN HBI.out _, HN2⟩
          · have ht' : (t2 == t) = false := by simpa using ht
            have HN2 : Hid (∀ e', e' < e + 1 → sameTN (K.getD (2 * e') zA) A = false) := by
              intro e' he'
              rcases Nat.lt_or_ge e' e with h | h
              · exact HN.out e' h
              · obtain rfl : e' = e := by omega
                have h1 : x = 2 * e' := HXE.out
                rw [← h1, HS.out]
                simp [ht]
            clear HN HNO HR HA HE HX4 HS HP'
            go_wp2_with fail
            go_quiet (fail)
            go_wp2_with fail
            go_roundg gj
            case measure => omega
            case rel => exact ⟨e + 1, x + 2, by omega, HXE2, by go_num, below_drewN HBI.out _, HN2⟩
end Go.Proofs.YtgjjeghnfhjnnaaDoor
