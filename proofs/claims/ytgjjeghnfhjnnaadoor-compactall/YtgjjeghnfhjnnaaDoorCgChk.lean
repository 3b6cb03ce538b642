/-
  relictref06.Check: what it says yes to.
-/
import Derived.Test.YtgjjeghnfhjnnaaDoorCgBase
namespace Go.Proofs.YtgjjeghnfhjnnaaDoor
open Go.RowKit
set_option linter.unusedVariables false
set_option linter.unusedSimpArgs false

/-- A tree that is no list, and may be. -/
def Ag.sgl (a : Ag) : Bool := okN1 a.t a.n && decide (a.kids = [])
def Ag.ar (a : Ag) : Ar := ⟨a.t, a.n, a.kids.map fun k => (k.t, k.n)⟩
/-- What the reference says of a tree that is no list of lists. -/
def CkPost (w : World) (P : Prop) (e : Ending) (w' : World) : Prop := ∃ q, e = .returned (.bool q) ∧ (q = true → P) ∧ Below w.heap.size w w'

set_option maxRecDepth 100000 in
set_option maxHeartbeats 2000000 in
theorem rck_sgl (w : World) (t n : Int) (p : Option Addr) (m c : Nat) (hf : El.fit ⟨t, n, p, m, c⟩) (h7 : t ≠ 7) : Calls Tryd.prog 12 #[agV t n (.slice p m c)] w fun e w' => CkPost w (okN1 t n = true ∧ m = 0) e w' := by
  unfold El.fit at hf
  dsimp only at hf
  unfold agV
  have HB : Hid (Below w.heap.size w (w.alloc (.cells #[.int .i64 t, .int .i64 n, .slice p m c] 25))) := (Below.refl _ _).alloc (Nat.le_refl _) _
  have hcs : t < 0 ∨ (¬ t < 0 ∧ 7 < t) ∨ (¬ t < 0 ∧ ¬ 7 < t ∧ (0 : Int) < (m : Int)) ∨ (¬ t < 0 ∧ ¬ 7 < t ∧ m = 0 ∧ t = 1) ∨ (¬ t < 0 ∧ ¬ 7 < t ∧ m = 0 ∧ ¬ t = 1) := by omega
  have h7b : (t != 7) = true := by simp [h7]
  rcases hcs with h1 | ⟨h1, h2⟩ | ⟨h1, h2, h3⟩ | ⟨h1, h2, rfl, rfl⟩ | ⟨h1, h2, rfl, h4⟩
  · go_enter Tryd.func12, Tryd.ntmps12
    go_wp2_with fail
    go_ret
    exact ⟨_, rfl, (fun h => absurd h (by decide)), HB.out⟩
  · go_enter Tryd.func12, Tryd.ntmps12
    go_wp2_with fail
    go_ret
    exact ⟨_, rfl, (fun h => absurd h (by decide)), HB.out⟩
  · go_enter Tryd.func12, Tryd.ntmps12
    go_wp2_with fail
    go_ret
    exact ⟨_, rfl, (fun h => absurd h (by decide)), HB.out⟩
  · by_cases g1 : -576460752303423488 ≤ n
    · by_cases g2 : n < 576460752303423488
      all_goals
        go_enter Tryd.func12, Tryd.ntmps12
        go_wp2_with fail
        go_ret
        refine ⟨_, rfl, fun h => ?_, HB.out⟩
        first
          | (refine ⟨?_, rfl⟩; unfold okN1; rw [if_pos rfl]; exact decide_eq_true ⟨by omega, by omega⟩)
          | (unfold okN1; rw [if_pos rfl]; exact decide_eq_true ⟨by omega, by omega⟩)
          | (exfalso; revert h; simp; done)
          | (exfalso; simp at h; omega)
    · go_enter Tryd.func12, Tryd.ntmps12
      go_wp2_with fail
      go_ret
      exact ⟨_, rfl, (fun h => by first | (cases h; done) | (simp at h; omega)), HB.out⟩
  · have h4b : (t == 1) = false := by simp [h4]
    by_cases g1 : 0 ≤ n
    · by_cases g2 : n < 268435456
      all_goals
        go_enter Tryd.func12, Tryd.ntmps12
        go_wp2_with fail
        go_ret
        refine ⟨_, rfl, fun h => ?_, HB.out⟩
        first
          | (refine ⟨?_, rfl⟩; unfold okN1; rw [if_neg h4]; exact decide_eq_true ⟨by omega, by omega, by omega, by omega⟩)
          | (unfold okN1; rw [if_neg h4]; exact decide_eq_true ⟨by omega, by omega, by omega, by omega⟩)
          | (exfalso; revert h; simp; done)
          | (exfalso; simp at h; omega)
    · go_enter Tryd.func12, Tryd.ntmps12
      go_wp2_with fail
      go_ret
      exact ⟨_, rfl, (fun h => by first | (cases h; done) | (simp at h; omega)), HB.out⟩

/-- That all of the first may be, and are no lists. -/
def CkRel (w : World) (K : List Ag) (k : Nat) (wr : World) : Prop := Below w.heap.size w wr ∧ ∀ i (h : i < K.length), i < k → okN1 K[i].t K[i].n = true ∧ K[i].kids = []

set_option maxRecDepth 100000 in
set_option maxHeartbeats 2000000 in
theorem rck_any (w : World) (a : Ag) (v : Value) (h : IsG w a v) : Calls Tryd.prog 12 #[v] w fun e w' => CkPost w (a.ar.ok = true ∧ ∀ k ∈ a.kids, k.kids = []) e w' := by
  obtain ⟨p, c, rfl, hf, hg⟩ := h.open
  by_cases h7 : a.t = 7
  · obtain ⟨t, n, K⟩ := a
    dsimp only at h7 hf hg ⊢
    subst h7
    obtain ⟨p', c', he, hc1, hc2, hc3⟩ := hg.shape
    injection he with e1 e2 e3
    subst e1; subst e3
    have bA := (Below.refl w.heap.size w).alloc (Nat.le_refl _) (.cells #[.int .i64 7, .int .i64 n, .slice p K.length c] 25)
    have HX : Hid (BxA (w.alloc (.cells #[.int .i64 7, .int .i64 n, .slice p K.length c] 25)) w.heap.size 7 n (.slice p K.length c)) := BxA.new w 7 n _
    have HG : Hid (Gs (w.alloc (.cells #[.int .i64 7, .int .i64 n, .slice p K.length c] 25)) (.slice p K.length c) K) := hg.under bA
    have HB : Hid (Below w.heap.size w (w.alloc (.cells #[.int .i64 7, .int .i64 n, .slice p K.length c] 25))) := bA
    unfold El.fit at hf
    dsimp only at hf
    unfold agV
    clear bA hg e2
    obtain ⟨c0, c1, c2, -⟩ := HX.out.facts
    go_enter Tryd.func12, Tryd.ntmps12
    go_wp2_with fail
    generalize hw1 : w.alloc (.cells #[.int .i64 7, .int .i64 n, .slice p K.length c] 25) = w1 at *
    generalize hgx : w.heap.size = gx at *
    clear c0 c1 c2
    go_loopg [3] K.length (fun gk s3 wr => ∃ k : Nat, k + gk = K.length ∧ s3 = .int .i64 (k : Int) ∧ Hid (CkRel w1 K k wr))
    case atStart => exact ⟨0, by omega, rfl, Below.refl _ _, fun i h hi => absurd hi (by omega)⟩
    case round =>
      obtain ⟨k, hk, rfl, HR⟩ := hrel
      obtain ⟨hb, hall⟩ := HR.out
      have hglt := HX.out.lt
      obtain ⟨d0, d1, d2, -⟩ := (HX.out.under hb).facts
      have HBW : Hid (Below gx w wr) := HB.out.trans (hb.mono (by omega))
      cases gk with
      | zero =>
        obtain rfl : k = K.length := by omega
        have HAL : Hid (∀ x ∈ K, okN1 x.t x.n = true ∧ x.kids = []) := fun x hx => by
          obtain ⟨i, hi, rfl⟩ := List.getElem_of_mem hx
          exact hall i hi hi
        clear hall HR hb
        have hcs : (n = 0 ∧ (K.length : Int) ≤ 40) ∨ (n = 0 ∧ ¬ (K.length : Int) ≤ 40) ∨ ¬ n = 0 := by omega
        rcases hcs with ⟨rfl, h40⟩ | ⟨rfl, h40⟩ | hn
        · go_wp2_with fail
          go_ret
          refine ⟨_, rfl, (fun _ => ⟨?_, fun x hx => (HAL.out x hx).2⟩), by rw [hgx]; exact HBW.out⟩
          unfold Ag.ar Ar.ok
          dsimp only
          rw [if_pos rfl]
          simp only [Bool.and_eq_true, decide_eq_true_eq, List.all_eq_true, List.length_map]
          refine ⟨⟨trivial, by omega⟩, fun q hq => ?_⟩
          obtain ⟨x, hx, rfl⟩ := List.mem_map.1 hq
          exact (HAL.out x hx).1
        · go_wp2_with fail
          go_ret
          exact ⟨_, rfl, (fun h => by first | (cases h; done) | (simp at h; omega)), by rw [hgx]; exact HBW.out⟩
        · go_wp2_with fail
          go_ret
          exact ⟨_, rfl, (fun h => by first | (cases h; done) | (simp at h; omega)), by rw [hgx]; exact HBW.out⟩
      | succ g =>
        have hkl : k < K.length := by omega
        have hki : (k : Int) < (K.length : Int) := by omega
        have hkc : (k : Int) < (c : Int) := by omega
        obtain ⟨b, off, x, rfl, hlt, ⟨a0, a1, a2⟩, hft, hx⟩ := (HG.out.under hb).at k hkl
        obtain ⟨e1, e2, e3, hgk⟩ := hx.el
        have HC : Hid (x.t ≠ 7 → ∀ W, Calls Tryd.prog 12 #[agV x.t x.n x.sl] W fun e w' => CkPost W (okN1 K[k].t K[k].n = true ∧ K[k].kids = []) e w') := by
          intro h7 W
          refine (rck_sgl W x.t x.n x.a x.m x.c hft h7).mono ?_
          rintro e w' ⟨q, rfl, hq, hb⟩
          refine ⟨q, rfl, (fun h => ?_), hb⟩
          obtain ⟨r1, r2⟩ := hq h
          rw [e1, e2] at r1
          exact ⟨r1, List.eq_nil_of_length_eq_zero (by omega)⟩
        obtain ⟨xt, xn, xa, xm, xc⟩ := x
        unfold El.sl at a2
        unfold El.sl agV at HC
        dsimp only at a0 a1 a2 HC
        have HALL : Hid (∀ i (h : i < K.length), i < k → okN1 K[i].t K[i].n = true ∧ K[i].kids = []) := hall
        have HBB : Hid (Below w1.heap.size w1 wr) := hb
        clear e1 e2 e3 hgk hx hft hall HR hb
        by_cases hx7 : xt = 7
        · subst hx7
          go_wp2_with fail
          go_ret
          exact ⟨_, rfl, (fun h => absurd h (by decide)), by rw [hgx]; exact HBW.out⟩
        · have hx7b : (xt == 7) = false := by simp [hx7]
          have HC2 : Hid (∀ W, Calls Tryd.prog 12 #[.agg #[.int .i64 xt, .int .i64 xn, .slice xa xm xc]] W fun e w' => CkPost W (okN1 K[k].t K[k].n = true ∧ K[k].kids = []) e w') := HC.out hx7
          clear HC
          go_wp2_with fail
          refine (HC2.out _).mono ?_
          rintro e w2 ⟨q, rfl, hq, hb2⟩
          have HB2 : Hid (Below w1.heap.size w1 w2) := HBB.out.trans (hb2.mono HBB.out.size)
          have HBW2 : Hid (Below gx w w2) := HB.out.trans (HB2.out.mono (by omega))
          have HQ : Hid (q = true → okN1 K[k].t K[k].n = true ∧ K[k].kids = []) := hq
          clear hb2 hq HC2
          cases q with
          | false =>
            go_wp2_with fail
            go_ret
            exact ⟨_, rfl, (fun h => absurd h (by decide)), by rw [hgx]; exact HBW2.out⟩
          | true =>
            have HG2 : Hid (CkRel w1 K (k + 1) w2) := ⟨HB2.out, fun i hi hik => by
              rcases Nat.lt_or_ge i k with h | h
              · exact HALL.out i hi h
              · obtain rfl : i = k := by omega
                exact HQ.out rfl⟩
            clear HQ HALL
            go_wp2_with fail
            go_roundg g
            case measure => omega
            case rel => exact ⟨k + 1, by omega, by go_num, HG2⟩
  · refine (rck_sgl w a.t a.n p a.kids.length c hf h7).mono ?_
    rintro e w' ⟨q, rfl, hq, hb⟩
    refine ⟨q, rfl, (fun h => ?_), hb⟩
    obtain ⟨r1, r2⟩ := hq h
    have hk : a.kids = [] := List.eq_nil_of_length_eq_zero r2
    refine ⟨?_, by rw [hk]; intro k hk; simp at hk⟩
    unfold Ag.ar Ar.ok
    dsimp only
    rw [if_neg h7, r1, hk]
    rfl
end Go.Proofs.YtgjjeghnfhjnnaaDoor
