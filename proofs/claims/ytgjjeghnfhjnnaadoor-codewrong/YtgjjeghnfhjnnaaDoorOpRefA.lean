
/-
  relictref07: register, source, pairs, letter.
-/
import Derived.Test.YtgjjeghnfhjnnaaDoorOpE
import Derived.Test.YtgjjeghnfhjnnaaDoorCrK
namespace Go.Proofs.YtgjjeghnfhjnnaaDoor
open Go.RowKit
set_option linter.unusedVariables false
set_option linter.unusedSimpArgs false

def regT (t n : Int) : Bool := decide (t = 3 ∧ n < 16 ∨ t = 4 ∧ n < 12)
def srcT (t n : Int) : Bool := regT t n || decide (t = 1 ∨ t = 2 ∨ t = 6)
set_option maxRecDepth 100000 in
set_option maxHeartbeats 4000000 in
theorem reg_raw (t n : Int) (p : Option Addr) (m cap : Nat) (w : World) : Calls Tryd.prog 66 #[.agg #[.int .i64 t, .int .i64 n, .slice p m cap]] w (RBool (regT t n) w) := by
  have HB : Hid (Below w.heap.size w (w.alloc (.cells #[.int .i64 t, .int .i64 n, .slice p m cap] 25))) := box_below _ _ _
  have HX : Hid (BxA (w.alloc (.cells #[.int .i64 t, .int .i64 n, .slice p m cap] 25)) w.heap.size t n (.slice p m cap)) := BxA.new w t n _
  by_cases t3 : t = 3
  · subst t3
    by_cases h : n < 16
    · rw [show regT 3 n = true by simp [regT, h]]
      go_enter Tryd.func66, Tryd.ntmps66
      go_wp2_with fail
      go_ret
      exact ⟨rfl, HB.out⟩
    · rw [show regT 3 n = false by simp [regT]; omega]
      go_enter Tryd.func66, Tryd.ntmps66
      go_wp2_with fail
      go_ret
      exact ⟨rfl, HB.out⟩
  have t3' : (t == 3) = false := by simpa using t3
  by_cases t4 : t = 4
  · subst t4
    by_cases h : n < 12
    · rw [show regT 4 n = true by simp [regT, h]]
      go_enter Tryd.func66, Tryd.ntmps66
      go_wp2_with fail
      go_ret
      exact ⟨rfl, HB.out⟩
    · rw [show regT 4 n = false by simp [regT]; omega]
      go_enter Tryd.func66, Tryd.ntmps66
      go_wp2_with fail
      go_ret
      exact ⟨rfl, HB.out⟩
  have t4' : (t == 4) = false := by simpa using t4
  rw [show regT t n = false by simp [regT, t3, t4]]
  go_enter Tryd.func66, Tryd.ntmps66
  go_wp2_with fail
  go_ret
  exact ⟨rfl, HB.out⟩
set_option maxRecDepth 100000 in
set_option maxHeartbeats 4000000 in
theorem src_raw (t n : Int) (p : Option Addr) (m cap : Nat) (w : World) : Calls Tryd.prog 65 #[.agg #[.int .i64 t, .int .i64 n, .slice p m cap]] w (RBool (srcT t n) w) := by
  have HB : Hid (Below w.heap.size w (w.alloc (.cells #[.int .i64 t, .int .i64 n, .slice p m cap] 25))) := box_below _ _ _
  have HX : Hid (BxA (w.alloc (.cells #[.int .i64 t, .int .i64 n, .slice p m cap] 25)) w.heap.size t n (.slice p m cap)) := BxA.new w t n _
  have HK : Hid (Calls Tryd.prog 66 #[.agg #[.int .i64 t, .int .i64 n, .slice p m cap]] (w.alloc (.cells #[.int .i64 t, .int .i64 n, .slice p m cap] 25)) (RBool (regT t n) (w.alloc (.cells #[.int .i64 t, .int .i64 n, .slice p m cap] 25)))) := reg_raw t n p m cap _
  unfold srcT
  generalize regT t n = q at *
  cases q
  case true =>
    rw [Bool.true_or]
    go_enter Tryd.func65, Tryd.ntmps65
    go_wp2_with fail
    refine HK.out.mono ?_
    rintro e w2 ⟨rfl, b2⟩
    have HB2 : Hid (Below w.heap.size w w2) := HB.out.trans (b2.mono HB.out.size)
    obtain ⟨x0, x1, x2, -⟩ := (HX.out.under b2).facts
    clear b2 HX HB
    go_wp2_with fail
    go_ret
    exact ⟨rfl, HB2.out⟩
  case false =>
    rw [Bool.false_or]
    by_cases t1 : t = 1
    · subst t1
      rw [show decide ((1 : Int) = 1 ∨ (1 : Int) = 2 ∨ (1 : Int) = 6) = true by simp]
      go_enter Tryd.func65, Tryd.ntmps65
      go_wp2_with fail
      refine HK.out.mono ?_
      rintro e w2 ⟨rfl, b2⟩
      have HB2 : Hid (Below w.heap.size w w2) := HB.out.trans (b2.mono HB.out.size)
      obtain ⟨x0, x1, x2, -⟩ := (HX.out.under b2).facts
      clear b2 HX HB
      go_wp2_with fail
      go_ret
      exact ⟨rfl, HB2.out⟩
    have t1' : (t == 1) = false := by simpa using t1
    by_cases t2 : t = 2
    · subst t2
      rw [show decide ((2 : Int) = 1 ∨ (2 : Int) = 2 ∨ (2 : Int) = 6) = true by simp]
      go_enter Tryd.func65, Tryd.ntmps65
      go_wp2_with fail
      refine HK.out.mono ?_
      rintro e w2 ⟨rfl, b2⟩
      have HB2 : Hid (Below w.heap.size w w2) := HB.out.trans (b2.mono HB.out.size)
      obtain ⟨x0, x1, x2, -⟩ := (HX.out.under b2).facts
      clear b2 HX HB
      go_wp2_with fail
      go_ret
      exact ⟨rfl, HB2.out⟩
    have t2' : (t == 2) = false := by simpa using t2
    by_cases t6 : t = 6
    · subst t6
      rw [show decide ((6 : Int) = 1 ∨ (6 : Int) = 2 ∨ (6 : Int) = 6) = true by simp]
      go_enter Tryd.func65, Tryd.ntmps65
      go_wp2_with fail
      refine HK.out.mono ?_
      rintro e w2 ⟨rfl, b2⟩
      have HB2 : Hid (Below w.heap.size w w2) := HB.out.trans (b2.mono HB.out.size)
      obtain ⟨x0, x1, x2, -⟩ := (HX.out.under b2).facts
      clear b2 HX HB
      go_wp2_with fail
      go_ret
      exact ⟨rfl, HB2.out⟩
    have t6' : (t == 6) = false := by simpa using t6
    rw [show decide (t = 1 ∨ t = 2 ∨ t = 6) = false by simp [t1, t2, t6]]
    go_enter Tryd.func65, Tryd.ntmps65
    go_wp2_with fail
    refine HK.out.mono ?_
    rintro e w2 ⟨rfl, b2⟩
    have HB2 : Hid (Below w.heap.size w w2) := HB.out.trans (b2.mono HB.out.size)
    obtain ⟨x0, x1, x2, -⟩ := (HX.out.under b2).facts
    clear b2 HX HB
    go_wp2_with fail
    go_ret
    exact ⟨rfl, HB2.out⟩

/-- Whether the pair with this number is one, by the document. -/
def rpB (K : List Ag) (j : Nat) : Bool := coA (K.getD (2 * j) zA) && decide ((K.getD (2 * j + 1) zA).t = 5) && decide ((K.getD (2 * j + 1) zA).n ≠ 0) && (List.range j).all (fun e => !sameTN (K.getD (2 * e) zA) (K.getD (2 * j) zA))
def rpairsB (K : List Ag) : Bool := decide (K.length % 2 = 0) && (List.range (K.length / 2)).all (rpB K)
theorem rpairs_no {K : List Ag} {j : Nat} (hj : 2 * j + 1 < K.length) (h : rpB K j = false) : rpairsB K = false := by
  unfold rpairsB
  cases hr : (List.range (K.length / 2)).all (rpB K)
  · simp
  · have := List.all_eq_true.1 hr j (List.mem_range.2 (by omega))
    rw [h] at this
    cases this
theorem rpairs_yes {K : List Ag} (h2 : K.length % 2 = 0) (h : ∀ j, 2 * j < K.length → rpB K j = true) : rpairsB K = true := by
  unfold rpairsB
  simp only [h2, decide_true, Bool.true_and]
  exact List.all_eq_true.2 (fun j hj => h j (by have := List.mem_range.1 hj; omega))

set_option maxRecDepth 100000 in
set_option maxHeartbeats 4000000 in
theorem rpairs_any (K : List Ag) (v : Value) (w : World) (h : Gs w v K) : Calls Tryd.prog 67 #[v] w (RBool (rpairsB K) w) := by
  obtain ⟨p, cap, rfl, hc1, hc2, hc3⟩ := h.shape
  have HG : Hid (Gs w (.slice p K.length cap) K) := h
  clear h
  obtain ⟨r, hr⟩ : ∃ r, rpairsB K = r := ⟨_, rfl⟩
  have HR : Hid (rpairsB K = r) := hr
  rw [hr]; clear hr
  obtain ⟨z, hz⟩ : ∃ z, z = ((K.length : Int).tmod 2) := ⟨_, rfl⟩
  have hz0 : (K.length : Int).tmod 2 = z := hz.symm
  have hzv : z = ((K.length % 2 : Nat) : Int) := by
    rw [hz, Int.tmod_eq_emod_of_nonneg (by omega)]
    omega
  by_cases h2 : K.length % 2 = 0
  case neg =>
    have HF : Hid (r = false) := by
      unfold Hid
      rw [← HR.out]
      unfold rpairsB
      simp [h2]
    have hz1 : z = 1 := by omega
    subst hz1
    have hz' : ((1 : Int) != 0) = true := rfl
    clear hz hzv HR h2
    go_enter Tryd.func67, Tryd.ntmps67
    go_wp2_with fail
    go_ret
    exact ⟨by rw [HF.out]; rfl, Below.refl _ _⟩
  case pos =>
  have hz1 : z = 0 := by omega
  subst hz1
  clear hz hzv
  go_enter Tryd.func67, Tryd.ntmps67
  go_wp2_with fail
  go_loopg [3] (K.length / 2) (fun gk s3 wr => ∃ j i : Nat, j + gk = K.length / 2 ∧ Hid (i = 2 * j) ∧ s3 = .int .i64 (i : Int) ∧ Hid (Below w.heap.size w wr) ∧ Hid (∀ e, e < j → rpB K e = true))
  case atStart => exact ⟨0, 0, by omega, rfl, rfl, Below.refl _ _, fun j hj => absurd hj (by omega)⟩
  case round =>
    obtain ⟨j, i, hj, HI, rfl, HB, HA⟩ := hrel
    cases gk with
    | zero =>
      have hi : (i : Int) = (K.length : Int) := by have := HI.out; omega
      have hil : ¬ (i : Int) < (K.length : Int) := by omega
      have HT : Hid (r = true) := by
        unfold Hid
        rw [← HR.out]
        exact rpairs_yes h2 (fun e he => HA.out e (by omega))
      clear HA HR HI hi
      go_wp2_with fail
      go_ret
      exact ⟨by rw [HT.out]; rfl, HB.out⟩
    | succ g =>
      have hi0 : i = 2 * j := HI.out
      have hik : i + 1 < K.length := by omega
      have hil : (i : Int) < (K.length : Int) := by omega
      have hil1 : (i : Int) + 1 < (K.length : Int) := by omega
      have hicap : (i : Int) < (cap : Int) := by omega
      have hicap1 : (i : Int) + 1 < (cap : Int) := by omega
      obtain ⟨b, off, ⟨t, n, a, m, c⟩, rfl, hlt, ⟨c0, c1, c2⟩, hft, hx⟩ := (HG.out.under HB.out).at i (by omega)
      obtain ⟨b', off', ⟨t1, n1, a1, m1, k1⟩, he, -, ⟨y0, y1, y2⟩, -, hx1⟩ := (HG.out.under HB.out).at (i + 1) hik
      injection he with he
      injection he with he1 he2 _
      subst he1; subst he2
      dsimp only at c0 c1 y0 y1
      obtain ⟨A, hA⟩ : ∃ A, K[i]'(by omega) = A := ⟨_, rfl⟩
      obtain ⟨A1, hA1⟩ : ∃ A, K[i + 1]'hik = A := ⟨_, rfl⟩
      rw [hA] at hx
      rw [hA1] at hx1
      obtain ⟨e1, e2, -, -⟩ := hx.el
      obtain ⟨f1, f2, -, -⟩ := hx1.el
      dsimp only at e1 e2 f1 f2
      have hgi : K.getD i zA = A := by rw [← hA, List.getD_eq_getElem?_getD, List.getElem?_eq_getElem (by omega)]; rfl
      have hgi1 : K.getD (i + 1) zA = A1 := by rw [← hA1, List.getD_eq_getElem?_getD, List.getElem?_eq_getElem (by omega)]; rfl
      have HP : Hid (rpB K j = (decide (t = 1 ∨ t = 2) && decide (t1 = 5) && decide (n1 ≠ 0) && (List.range j).all (fun e => !sameTN (K.getD (2 * e) zA) A))) := by
        unfold Hid rpB coA
        rw [← hi0, hgi, hgi1, ← e1, ← f1, ← f2]
      have HE : Hid (t = A.t ∧ n = A.n) := ⟨e1, e2⟩
      have HNO : Hid (rpB K j = false → r = false) := by
        intro hp
        rw [← HR.out]
        exact rpairs_no (by omega) hp
      clear hft hgi hgi1 hx hx1 e1 e2 f1 f2 hi0 hA hA1 c2 y2
      by_cases g1 : t = 1 ∨ t = 2
      case neg =>
        have HF : Hid (r = false) := HNO.out (by rw [HP.out]; simp [g1])
        have q1 : (t != 1) = true := by simp; omega
        have q2 : (t != 2) = true := by simp; omega
        clear HP HNO HR HA HE g1 HI
        go_wp2_with fail
        go_ret
        exact ⟨by rw [HF.out]; rfl, HB.out⟩
      by_cases g2 : t1 = 5
      case neg =>
        have HF : Hid (r = false) := HNO.out (by rw [HP.out]; simp [g2])
        have q3 : (t1 != 5) = true := by simpa using g2
        clear HP HNO HR HA HE g2 HI
        rcases g1 with g1 | g1
        all_goals
          subst g1
          go_wp2_with fail
          go_ret
          exact ⟨by rw [HF.out]; rfl, HB.out⟩
      subst g2
      by_cases g3 : n1 = 0
      case pos =>
        have HF : Hid (r = false) := HNO.out (by rw [HP.out]; simp [g3])
        subst g3
        clear HP HNO HR HA HE HI
        rcases g1 with g1 | g1
        all_goals
          subst g1
          go_wp2_with fail
          go_ret
          exact ⟨by rw [HF.out]; rfl, HB.out⟩
      have q4 : (n1 == 0) = false := by simpa using g3
      have HP' : Hid (rpB K j = (List.range j).all (fun e => !sameTN (K.getD (2 * e) zA) A)) := by
        unfold Hid
        rw [HP.out, decide_eq_true g1]
        simp [g3]
      clear HP g3
      have HQ : Hid (t = 1 ∨ t = 2) := g1
      clear g1
      have HRC : Hid (∀ W, Below w.heap.size w W → ∃ (q : Int), W.cell? ⟨b, off + i * 3, none⟩ = some (.int .i64 t) ∧ W.cell? ⟨b, off + i * 3 + 1, none⟩ = some (.int .i64 n) ∧ q = 0) := fun W hW => by
        have hb : b < w.heap.size := by
          obtain ⟨p', cap', L, he, hl, hr, hk⟩ := HG.out
          injection he with e1 e2 e3
          subst e1; subst e3
          obtain ⟨b2, o2, he2, hlt2, -⟩ := hr.at i (by omega)
          injection he2 with he2
          injection he2 with he3 he4 _
          subst he3
          exact hlt2
        have hB := HB.out
        have d0 : w.cell? ⟨b, off + i * 3, none⟩ = some (.int .i64 t) := by rw [← hB.cell (p := ⟨b, off + i * 3, none⟩) hb]; exact c0
        have d1 : w.cell? ⟨b, off + i * 3 + 1, none⟩ = some (.int .i64 n) := by rw [← hB.cell (p := ⟨b, off + i * 3 + 1, none⟩) hb]; exact c1
        exact ⟨0, by rw [hW.cell (p := ⟨b, off + i * 3, none⟩) hb]; exact d0, by rw [hW.cell (p := ⟨b, off + i * 3 + 1, none⟩) hb]; exact d1, rfl⟩
      rcases HQ.out with hq | hq
      · clear HQ
        have HT0 : Hid True := trivial
        subst hq
        go_wp2_with fail
        go_loopg [4] j (fun gk s4 wi => ∃ e x : Nat, e + gk = j ∧ Hid (x = 2 * e) ∧ s4 = .int .i64 (x : Int) ∧ Hid (Below wr.heap.size wr wi) ∧ Hid (∀ e', e' < e → sameTN (K.getD (2 * e') zA) A = false))
        case atStart => exact ⟨0, 0, by omega, rfl, rfl, Below.refl _ _, fun e' h => absurd h (by omega)⟩
        case round =>
          obtain ⟨e, x, hx, HXE, rfl, HBI, HN⟩ := hrel
          have HB5 : Hid (Below w.heap.size w wr) := HB.out.trans (HBI.out.mono HB.out.size)
          cases gk with
          | zero =>
            have hxi : ¬ (x : Int) < (i : Int) := by have h1 : x = 2 * e := HXE.out; have h2 : i = 2 * j := HI.out; omega
            have HPT : Hid (rpB K j = true) := by
              unfold Hid
              rw [HP'.out, List.all_eq_true]
              intro e' he'
              rw [HN.out e' (by have := List.mem_range.1 he'; omega)]
              rfl
            have HA2 : Hid (∀ e, e < j + 1 → rpB K e = true) := by
              intro e' he'
              rcases Nat.lt_or_ge e' j with h | h
              · exact HA.out e' h
              · obtain rfl : e' = j := by omega
                exact HPT.out
            have HI2 : Hid (i + 2 = 2 * (j + 1)) := by have h2 : i = 2 * j := HI.out; unfold Hid; omega
            clear HA HPT HP' HN HNO HR HE HRC
            go_wp2_with fail
            go_roundg g
            case measure => omega
            case rel => exact ⟨j + 1, i + 2, by omega, HI2, by go_num, HB5.out, HA2⟩
          | succ gj =>
            have hxi : x + 2 ≤ i := by have h1 : x = 2 * e := HXE.out; have h2 : i = 2 * j := HI.out; omega
            have hxi' : (x : Int) < (i : Int) := by omega
            obtain ⟨b2, off2, ⟨t2, n2, a2, m2, k2⟩, he, hlt2, ⟨y0', y1', y2'⟩, -, hx2⟩ := (HG.out.under HB5.out).at x (by omega)
            injection he with he
            injection he with he1 he2 _
            subst he1; subst he2
            dsimp only at y0' y1'
            obtain ⟨f1, f2, -, -⟩ := hx2.el
            dsimp only at f1 f2
            have hgx : K.getD x zA = K[x]'(by omega) := by rw [List.getD_eq_getElem?_getD, List.getElem?_eq_getElem (by omega)]; rfl
            have HS := HE.out
            obtain ⟨z00, z0, z1, -⟩ := HRC.out _ HB5.out
            have hxk : (x : Int) < (K.length : Int) := by omega
            have hxc : (x : Int) < (cap : Int) := by omega
            have HXE2 : Hid (x + 2 = 2 * (e + 1)) := by have h2 : x = 2 * e := HXE.out; unfold Hid; omega
            have HSS : Hid (sameTN (K.getD x zA) A = decide (t2 = A.t ∧ n2 = A.n)) := by
              unfold Hid sameTN
              rw [hgx, ← f1, ← f2]
            have hAt := HS.1
            have hAn := HS.2
            rw [← hAt, ← hAn] at HSS
            clear hgx f1 f2 hx2 HS hAt hAn y2' hlt2
            have HYES : Hid (t2 = 1 → n2 = n → r = false) := by
              intro ht hn
              refine HNO.out ?_
              rw [HP'.out]
              cases hr : (List.range j).all (fun e => !sameTN (K.getD (2 * e) zA) A)
              · rfl
              · have := List.all_eq_true.1 hr e (List.mem_range.2 (by omega))
                have h1 : x = 2 * e := HXE.out
                rw [← h1, HSS.out] at this
                simp [ht, hn] at this
            have HNOT : Hid (¬ (t2 = 1 ∧ n2 = n) → ∀ e', e' < e + 1 → sameTN (K.getD (2 * e') zA) A = false) := by
              intro hno e' he'
              rcases Nat.lt_or_ge e' e with h | h
              · exact HN.out e' h
              · obtain rfl : e' = e := by omega
                have h1 : x = 2 * e' := HXE.out
                rw [← h1, HSS.out]
                exact decide_eq_false hno
            by_cases ht : t2 = 1
            · by_cases hn : n2 = n
              · have HF : Hid (r = false) := HYES.out ht hn
                subst ht; subst hn
                clear HN HNO HR HA HE HSS HP' HYES HNOT HRC HT0
                go_wp2_with fail
                go_quiet (fail)
                go_wp2_with fail
                go_ret
                exact ⟨by rw [HF.out]; rfl, below_drewN HB5.out _⟩
              · have hn' : (n2 == n) = false := by simpa using hn
                have HN2 : Hid (∀ e', e' < e + 1 → sameTN (K.getD (2 * e') zA) A = false) := HNOT.out (fun h => hn h.2)
                subst ht
                clear HN HNO HR HA HE HSS HP' HYES HNOT HRC HT0
                go_wp2_with fail
                go_quiet (fail)
                go_wp2_with fail
                go_roundg gj
                case measure => omega
                case rel => exact ⟨e + 1, x + 2, by omega, HXE2, by go_num, below_drewN HBI.out _, HN2⟩
            · have ht' : (t2 == 1) = false := by simpa using ht
              have HN2 : Hid (∀ e', e' < e + 1 → sameTN (K.getD (2 * e') zA) A = false) := HNOT.out (fun h => ht h.1)
              clear HN HNO HR HA HE HSS HP' HYES HNOT HRC HT0
              go_wp2_with fail
              go_quiet (fail)
              go_wp2_with fail
              go_roundg gj
              case measure => omega
              case rel => exact ⟨e + 1, x + 2, by omega, HXE2, by go_num, below_drewN HBI.out _, HN2⟩
      · clear HQ
        have HT0 : Hid True := trivial
        subst hq
        go_wp2_with fail
        go_loopg [4] j (fun gk s4 wi => ∃ e x : Nat, e + gk = j ∧ Hid (x = 2 * e) ∧ s4 = .int .i64 (x : Int) ∧ Hid (Below wr.heap.size wr wi) ∧ Hid (∀ e', e' < e → sameTN (K.getD (2 * e') zA) A = false))
        case atStart => exact ⟨0, 0, by omega, rfl, rfl, Below.refl _ _, fun e' h => absurd h (by omega)⟩
        case round =>
          obtain ⟨e, x, hx, HXE, rfl, HBI, HN⟩ := hrel
          have HB5 : Hid (Below w.heap.size w wr) := HB.out.trans (HBI.out.mono HB.out.size)
          cases gk with
          | zero =>
            have hxi : ¬ (x : Int) < (i : Int) := by have h1 : x = 2 * e := HXE.out; have h2 : i = 2 * j := HI.out; omega
            have HPT : Hid (rpB K j = true) := by
              unfold Hid
              rw [HP'.out, List.all_eq_true]
              intro e' he'
              rw [HN.out e' (by have := List.mem_range.1 he'; omega)]
              rfl
            have HA2 : Hid (∀ e, e < j + 1 → rpB K e = true) := by
              intro e' he'
              rcases Nat.lt_or_ge e' j with h | h
              · exact HA.out e' h
              · obtain rfl : e' = j := by omega
                exact HPT.out
            have HI2 : Hid (i + 2 = 2 * (j + 1)) := by have h2 : i = 2 * j := HI.out; unfold Hid; omega
            clear HA HPT HP' HN HNO HR HE HRC
            go_wp2_with fail
            go_roundg g
            case measure => omega
            case rel => exact ⟨j + 1, i + 2, by omega, HI2, by go_num, HB5.out, HA2⟩
          | succ gj =>
            have hxi : x + 2 ≤ i := by have h1 : x = 2 * e := HXE.out; have h2 : i = 2 * j := HI.out; omega
            have hxi' : (x : Int) < (i : Int) := by omega
            obtain ⟨b2, off2, ⟨t2, n2, a2, m2, k2⟩, he, hlt2, ⟨y0', y1', y2'⟩, -, hx2⟩ := (HG.out.under HB5.out).at x (by omega)
            injection he with he
            injection he with he1 he2 _
            subst he1; subst he2
            dsimp only at y0' y1'
            obtain ⟨f1, f2, -, -⟩ := hx2.el
            dsimp only at f1 f2
            have hgx : K.getD x zA = K[x]'(by omega) := by rw [List.getD_eq_getElem?_getD, List.getElem?_eq_getElem (by omega)]; rfl
            have HS := HE.out
            obtain ⟨z00, z0, z1, -⟩ := HRC.out _ HB5.out
            have hxk : (x : Int) < (K.length : Int) := by omega
            have hxc : (x : Int) < (cap : Int) := by omega
            have HXE2 : Hid (x + 2 = 2 * (e + 1)) := by have h2 : x = 2 * e := HXE.out; unfold Hid; omega
            have HSS : Hid (sameTN (K.getD x zA) A = decide (t2 = A.t ∧ n2 = A.n)) := by
              unfold Hid sameTN
              rw [hgx, ← f1, ← f2]
            have hAt := HS.1
            have hAn := HS.2
            rw [← hAt, ← hAn] at HSS
            clear hgx f1 f2 hx2 HS hAt hAn y2' hlt2
            have HYES : Hid (t2 = 2 → n2 = n → r = false) := by
              intro ht hn
              refine HNO.out ?_
              rw [HP'.out]
              cases hr : (List.range j).all (fun e => !sameTN (K.getD (2 * e) zA) A)
              · rfl
              · have := List.all_eq_true.1 hr e (List.mem_range.2 (by omega))
                have h1 : x = 2 * e := HXE.out
                rw [← h1, HSS.out] at this
                simp [ht, hn] at this
            have HNOT : Hid (¬ (t2 = 2 ∧ n2 = n) → ∀ e', e' < e + 1 → sameTN (K.getD (2 * e') zA) A = false) := by
              intro hno e' he'
              rcases Nat.lt_or_ge e' e with h | h
              · exact HN.out e' h
              · obtain rfl : e' = e := by omega
                have h1 : x = 2 * e' := HXE.out
                rw [← h1, HSS.out]
                exact decide_eq_false hno
            by_cases ht : t2 = 2
            · by_cases hn : n2 = n
              · have HF : Hid (r = false) := HYES.out ht hn
                subst ht; subst hn
                clear HN HNO HR HA HE HSS HP' HYES HNOT HRC HT0
                go_wp2_with fail
                go_quiet (fail)
                go_wp2_with fail
                go_ret
                exact ⟨by rw [HF.out]; rfl, below_drewN HB5.out _⟩
              · have hn' : (n2 == n) = false := by simpa using hn
                have HN2 : Hid (∀ e', e' < e + 1 → sameTN (K.getD (2 * e') zA) A = false) := HNOT.out (fun h => hn h.2)
                subst ht
                clear HN HNO HR HA HE HSS HP' HYES HNOT HRC HT0
                go_wp2_with fail
                go_quiet (fail)
                go_wp2_with fail
                go_roundg gj
                case measure => omega
                case rel => exact ⟨e + 1, x + 2, by omega, HXE2, by go_num, below_drewN HBI.out _, HN2⟩
            · have ht' : (t2 == 2) = false := by simpa using ht
              have HN2 : Hid (∀ e', e' < e + 1 → sameTN (K.getD (2 * e') zA) A = false) := HNOT.out (fun h => ht h.1)
              clear HN HNO HR HA HE HSS HP' HYES HNOT HRC HT0
              go_wp2_with fail
              go_quiet (fail)
              go_wp2_with fail
              go_roundg gj
              case measure => omega
              case rel => exact ⟨e + 1, x + 2, by omega, HXE2, by go_num, below_drewN HBI.out _, HN2⟩
end Go.Proofs.YtgjjeghnfhjnnaaDoor
