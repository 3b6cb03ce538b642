/-
  relictref06.Check: just what the program's own says.
-/
import Derived.Test.YtgjjeghnfhjnnaaDoorAgA
namespace Go.Proofs.YtgjjeghnfhjnnaaDoor
open Go.RowKit
set_option linter.unusedVariables false
set_option linter.unusedSimpArgs false

theorem retB {a b : Bool} (h : a = b) : Ending.returned (.bool a) = .returned (.bool b) := by rw [h]
def CxPost (w : World) (q : Bool) (e : Ending) (w' : World) : Prop := e = .returned (.bool q) ∧ Below w.heap.size w w'

set_option maxRecDepth 100000 in
set_option maxHeartbeats 2000000 in
theorem rcx_sgl (w : World) (t n : Int) (p : Option Addr) (m c : Nat) (hf : El.fit ⟨t, n, p, m, c⟩) (h7 : t ≠ 7) : Calls Tryd.prog 12 #[agV t n (.slice p m c)] w fun e w' => CxPost w (okN1 t n && decide (m = 0)) e w' := by
  unfold El.fit at hf
  dsimp only at hf
  obtain ⟨r, hr⟩ : ∃ r, (okN1 t n && decide (m = 0)) = r := ⟨_, rfl⟩
  have HR : Hid ((okN1 t n && decide (m = 0)) = r) := hr
  rw [hr]; clear hr
  unfold agV
  have HB : Hid (Below w.heap.size w (w.alloc (.cells #[.int .i64 t, .int .i64 n, .slice p m c] 25))) := (Below.refl _ _).alloc (Nat.le_refl _) _
  have h7b : (t != 7) = true := by simp [h7]
  have hcs : t < 0 ∨ (¬ t < 0 ∧ 7 < t) ∨ (¬ t < 0 ∧ ¬ 7 < t ∧ (0 : Int) < (m : Int)) ∨ (¬ t < 0 ∧ ¬ 7 < t ∧ m = 0 ∧ t = 1) ∨ (¬ t < 0 ∧ ¬ 7 < t ∧ m = 0 ∧ ¬ t = 1) := by omega
  rcases hcs with h1 | ⟨h1, h2⟩ | ⟨h1, h2, h3⟩ | ⟨h1, h2, rfl, rfl⟩ | ⟨h1, h2, rfl, h4⟩
  · have HF : Hid (r = false) := by unfold Hid; rw [← HR.out]; unfold okN1; rw [if_neg (by omega)]; simp; omega
    go_enter Tryd.func12, Tryd.ntmps12
    go_wp2_with fail
    go_ret
    exact ⟨retB HF.out.symm, HB.out⟩
  · have HF : Hid (r = false) := by unfold Hid; rw [← HR.out]; unfold okN1; rw [if_neg (by omega)]; simp; omega
    go_enter Tryd.func12, Tryd.ntmps12
    go_wp2_with fail
    go_ret
    exact ⟨retB HF.out.symm, HB.out⟩
  · have HF : Hid (r = false) := by unfold Hid; rw [← HR.out]; simp; omega
    go_enter Tryd.func12, Tryd.ntmps12
    go_wp2_with fail
    go_ret
    exact ⟨retB HF.out.symm, HB.out⟩
  · have HE : Hid (r = decide (-576460752303423488 ≤ n ∧ n ≤ 576460752303423487)) := by unfold Hid; rw [← HR.out]; unfold okN1; rw [if_pos rfl]; simp
    by_cases g1 : -576460752303423488 ≤ n
    · by_cases g2 : n < 576460752303423488
      · have HT : Hid (r = true) := by unfold Hid; rw [HE.out]; exact decide_eq_true ⟨by omega, by omega⟩
        go_enter Tryd.func12, Tryd.ntmps12
        go_wp2_with fail
        go_ret
        exact ⟨by rw [HT.out]; first | rfl | (exact retB (by simp [g2])), HB.out⟩
      · have HT : Hid (r = false) := by unfold Hid; rw [HE.out]; exact decide_eq_false (by omega)
        go_enter Tryd.func12, Tryd.ntmps12
        go_wp2_with fail
        go_ret
        exact ⟨by rw [HT.out]; first | rfl | (exact retB (by simp; omega)), HB.out⟩
    · have HT : Hid (r = false) := by unfold Hid; rw [HE.out]; exact decide_eq_false (by omega)
      go_enter Tryd.func12, Tryd.ntmps12
      go_wp2_with fail
      go_ret
      exact ⟨by rw [HT.out]; first | rfl | (exact retB (by simp; omega)), HB.out⟩
  · have HE : Hid (r = decide (0 ≤ t ∧ t ≤ 6 ∧ 0 ≤ n ∧ n ≤ 268435455)) := by unfold Hid; rw [← HR.out]; unfold okN1; rw [if_neg h4]; simp
    have h4b : (t == 1) = false := by simp [h4]
    by_cases g1 : 0 ≤ n
    · by_cases g2 : n < 268435456
      · have HT : Hid (r = true) := by unfold Hid; rw [HE.out]; exact decide_eq_true ⟨by omega, by omega, by omega, by omega⟩
        go_enter Tryd.func12, Tryd.ntmps12
        go_wp2_with fail
        go_ret
        exact ⟨by rw [HT.out]; first | rfl | (exact retB (by simp [g2])), HB.out⟩
      · have HT : Hid (r = false) := by unfold Hid; rw [HE.out]; exact decide_eq_false (by omega)
        go_enter Tryd.func12, Tryd.ntmps12
        go_wp2_with fail
        go_ret
        exact ⟨by rw [HT.out]; first | rfl | (exact retB (by simp; omega)), HB.out⟩
    · have HT : Hid (r = false) := by unfold Hid; rw [HE.out]; exact decide_eq_false (by omega)
      go_enter Tryd.func12, Tryd.ntmps12
      go_wp2_with fail
      go_ret
      exact ⟨by rw [HT.out]; first | rfl | (exact retB (by simp; omega)), HB.out⟩
theorem ok1_seven {x : El} (h : x.t = 7) : x.ok1 = false := by
  unfold El.ok1 okN1
  rw [h, if_neg (by decide)]
  simp
/-- That all of the first may be. -/
def CxRel (w : World) (L : List El) (k : Nat) (wr : World) : Prop := Below w.heap.size w wr ∧ ∀ i (h : i < L.length), i < k → L[i].ok1 = true

set_option maxRecDepth 100000 in
set_option maxHeartbeats 2000000 in
theorem rcx_any (w : World) (x : El) (L : List El) (hf : x.fit) (hx : Rw3 w x.sl L) (hm : x.m = L.length) : Calls Tryd.prog 12 #[agV x.t x.n x.sl] w fun e w' => CxPost w (x.ok L) e w' := by
  obtain ⟨t, n, p, m, c⟩ := x
  unfold El.sl at hx ⊢
  dsimp only at hm hx ⊢
  subst hm
  by_cases h7 : t = 7
  · subst h7
    obtain ⟨r, hr⟩ : ∃ r, El.ok ⟨7, n, p, L.length, c⟩ L = r := ⟨_, rfl⟩
    have HRR : Hid (r = (decide (n = 0) && decide (L.length ≤ 40) && L.all El.ok1)) := by unfold Hid; rw [← hr]; unfold El.ok; rw [if_pos rfl]
    rw [hr]; clear hr
    obtain ⟨p', c', he, hc1, hc2, hc3⟩ := hx.shape
    injection he with e1 e2 e3
    subst e1; subst e3
    have bA := (Below.refl w.heap.size w).alloc (Nat.le_refl _) (.cells #[.int .i64 7, .int .i64 n, .slice p L.length c] 25)
    have HX : Hid (BxA (w.alloc (.cells #[.int .i64 7, .int .i64 n, .slice p L.length c] 25)) w.heap.size 7 n (.slice p L.length c)) := BxA.new w 7 n _
    have HG : Hid (Rw3 (w.alloc (.cells #[.int .i64 7, .int .i64 n, .slice p L.length c] 25)) (.slice p L.length c) L) := hx.under bA
    have HB : Hid (Below w.heap.size w (w.alloc (.cells #[.int .i64 7, .int .i64 n, .slice p L.length c] 25))) := bA
    unfold El.fit at hf
    dsimp only at hf
    unfold agV
    clear bA hx e2
    obtain ⟨c0, c1, c2, -⟩ := HX.out.facts
    go_enter Tryd.func12, Tryd.ntmps12
    go_wp2_with fail
    generalize hw1 : w.alloc (.cells #[.int .i64 7, .int .i64 n, .slice p L.length c] 25) = w1 at *
    generalize hgx : w.heap.size = gx at *
    clear c0 c1 c2
    go_loopg [3] L.length (fun gk s3 wr => ∃ k : Nat, k + gk = L.length ∧ s3 = .int .i64 (k : Int) ∧ Hid (CxRel w1 L k wr))
    case atStart => exact ⟨0, by omega, rfl, Below.refl _ _, fun i h hi => absurd hi (by omega)⟩
    case round =>
      obtain ⟨k, hk, rfl, HR⟩ := hrel
      obtain ⟨hb, hall⟩ := HR.out
      have hglt := HX.out.lt
      obtain ⟨d0, d1, d2, -⟩ := (HX.out.under hb).facts
      have HBW : Hid (Below gx w wr) := HB.out.trans (hb.mono (by omega))
      cases gk with
      | zero =>
        obtain rfl : k = L.length := by omega
        have HAL : Hid (L.all El.ok1 = true) := List.all_eq_true.2 (fun y hy => by
          obtain ⟨i, hi, rfl⟩ := List.getElem_of_mem hy
          exact hall i hi hi)
        clear hall HR hb
        have hcs : (n = 0 ∧ (L.length : Int) ≤ 40) ∨ (n = 0 ∧ ¬ (L.length : Int) ≤ 40) ∨ ¬ n = 0 := by omega
        rcases hcs with ⟨rfl, h40⟩ | ⟨rfl, h40⟩ | hn
        · have HT : Hid (r = true) := by unfold Hid; rw [HRR.out, HAL.out]; simp; omega
          go_wp2_with fail
          go_ret
          exact ⟨by rw [HT.out]; first | rfl | (exact retB (by simp; omega)), by rw [hgx]; exact HBW.out⟩
        · have HT : Hid (r = false) := by unfold Hid; rw [HRR.out]; simp; omega
          go_wp2_with fail
          go_ret
          exact ⟨by rw [HT.out]; first | rfl | (exact retB (by simp; omega)), by rw [hgx]; exact HBW.out⟩
        · have HT : Hid (r = false) := by unfold Hid; rw [HRR.out]; simp [hn]
          go_wp2_with fail
          go_ret
          exact ⟨by rw [HT.out]; first | rfl | (exact retB (by simp [hn])), by rw [hgx]; exact HBW.out⟩
      | succ g =>
        have hkl : k < L.length := by omega
        have hki : (k : Int) < (L.length : Int) := by omega
        have hkc : (k : Int) < (c : Int) := by omega
        obtain ⟨b, off, rfl, hlt, ⟨a0, a1, a2⟩, hft⟩ := (HG.out.under hb).at k hkl
        have HNO : Hid (L[k].ok1 = false → r = false) := fun h => by
          have : L.all El.ok1 = false := by
            cases ha : L.all El.ok1
            · rfl
            · have := List.all_eq_true.1 ha _ (List.getElem_mem hkl)
              rw [h] at this; cases this
          rw [HRR.out, this]; simp
        have HC : Hid (L[k].t ≠ 7 → ∀ W, Calls Tryd.prog 12 #[agV L[k].t L[k].n L[k].sl] W fun e w' => CxPost W L[k].ok1 e w') := fun h7 W => rcx_sgl W L[k].t L[k].n L[k].a L[k].m L[k].c hft h7
        have H7 : Hid (L[k].t = 7 → L[k].ok1 = false) := fun h => ok1_seven h
        obtain ⟨q, hq⟩ : ∃ q, q = L[k].ok1 := ⟨_, rfl⟩
        have HQ : Hid (q = L[k].ok1) := hq
        rw [← hq] at HNO HC H7
        obtain ⟨y, hy⟩ : ∃ y, y = L[k] := ⟨_, rfl⟩
        rw [← hy] at a0 a1 a2 HC H7
        obtain ⟨xt, xn, xa, xm, xc⟩ := y
        unfold El.sl at a2
        unfold El.sl agV at HC
        dsimp only at a0 a1 a2 HC H7
        have HALL : Hid (∀ i (h : i < L.length), i < k → L[i].ok1 = true) := hall
        have HBB : Hid (Below w1.heap.size w1 wr) := hb
        clear hft hall HR hb hq hy
        by_cases hx7 : xt = 7
        · have HF : Hid (r = false) := HNO.out (H7.out hx7)
          subst hx7
          go_wp2_with fail
          go_ret
          exact ⟨retB HF.out.symm, by rw [hgx]; exact HBW.out⟩
        · have hx7b : (xt == 7) = false := by simp [hx7]
          have HC2 : Hid (∀ W, Calls Tryd.prog 12 #[.agg #[.int .i64 xt, .int .i64 xn, .slice xa xm xc]] W fun e w' => CxPost W q e w') := HC.out hx7
          clear HC H7
          go_wp2_with fail
          refine (HC2.out _).mono ?_
          rintro e w2 ⟨rfl, hb2⟩
          have HB2 : Hid (Below w1.heap.size w1 w2) := HBB.out.trans (hb2.mono HBB.out.size)
          have HBW2 : Hid (Below gx w w2) := HB.out.trans (HB2.out.mono (by omega))
          clear hb2 HC2
          cases q with
          | false =>
            have HF : Hid (r = false) := HNO.out rfl
            go_wp2_with fail
            go_ret
            exact ⟨retB HF.out.symm, by rw [hgx]; exact HBW2.out⟩
          | true =>
            have HG2 : Hid (CxRel w1 L (k + 1) w2) := ⟨HB2.out, fun i hi hik => by
              rcases Nat.lt_or_ge i k with h | h
              · exact HALL.out i hi h
              · obtain rfl : i = k := by omega
                exact HQ.out.symm⟩
            clear HQ HALL HNO
            go_wp2_with fail
            go_roundg g
            case measure => omega
            case rel => exact ⟨k + 1, by omega, by go_num, HG2⟩
  · have := rcx_sgl w t n p L.length c hf h7
    have e : El.ok ⟨t, n, p, L.length, c⟩ L = (okN1 t n && decide (L.length = 0)) := by unfold El.ok; rw [if_neg h7]; rfl
    rw [e]
    exact this

end Go.Proofs.YtgjjeghnfhjnnaaDoor
