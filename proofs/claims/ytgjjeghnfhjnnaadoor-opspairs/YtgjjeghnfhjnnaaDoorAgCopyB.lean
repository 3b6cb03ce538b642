/-
  relictlaw00.Arg; FewArgs, telling.
-/
import Derived.Test.YtgjjeghnfhjnnaaDoorAgCopy
namespace Go.Proofs.YtgjjeghnfhjnnaaDoor
open Go.RowKit
set_option linter.unusedVariables false
set_option linter.unusedSimpArgs false

def setBxR (w : World) (g : Nat) (t n : Int) (sl : Value) : World := ((w.setCell ⟨g, 0, none⟩ (.int .i64 t)).setCell ⟨g, 1, none⟩ (.int .i64 n)).setCell ⟨g, 2, none⟩ sl
theorem BxA.setR {w : World} {g : Nat} {t' n' : Int} {sl' : Value} (h : BxA w g t' n' sl') (t n : Int) (sl : Value) : BxA (setBxR w g t n sl) g t n sl := by
  unfold BxA at h ⊢
  simp [setBxR, World.setCell, Array.getElem?_modify, h]
theorem setBxR_block (w : World) (g : Nat) (t n : Int) (sl : Value) (b : Nat) (h : b ≠ g) : (setBxR w g t n sl).heap[b]? = w.heap[b]? := by
  simp only [setBxR, World.setCell, Array.getElem?_modify]
  rw [if_neg (fun e => h e.symm), if_neg (fun e => h e.symm), if_neg (fun e => h e.symm)]
theorem setBxR_size (w : World) (g : Nat) (t n : Int) (sl : Value) : (setBxR w g t n sl).heap.size = w.heap.size := by simp [setBxR, World.setCell]
theorem setBxR_below {B : Nat} {a w : World} (h : Below B a w) {g : Nat} (hp : B ≤ g) (t n : Int) (sl : Value) : Below B a (setBxR w g t n sl) := ((h.setCell (by exact hp) _).setCell (by exact hp) _).setCell (by exact hp) _

theorem arg_shut {w W x1 : World} {t n : Int} {p p' : Option Addr} {m cap c' : Nat} {K : List Ag} {L : List El} (hbw : Below w.heap.size w W) (hW : W.heap.size = w.heap.size + 2) (hst : CpSt W.drew K (.slice p' L.length c') L x1) (hlen : L.length = K.length) (hq : Below W.heap.size W x1)
    (hf : El.fit ⟨t, n, p, m, cap⟩) (hc1 : L.length ≤ c') (hc2 : (c' : Int) ≤ 9223372036854775807) : ArgPost w ⟨t, n, K⟩ (.returned (agV t n (.slice p' K.length c'))) (setBxR x1 (w.heap.size + 1) t n (.slice p' K.length c')) := by
  obtain ⟨h1, h2, h3, h4, h5⟩ := hst
  have hds : W.drew.heap.size = w.heap.size + 2 := hW
  rw [hlen] at h1
  have hrow := World.ownsRow.lt (by unfold AOwn at h1; rw [hlen] at h1; exact h1)
  rw [hds] at hrow
  have hr : Rw3 x1 (.slice p' K.length c') L := h1.rw3 h3
  have hfx : El.fit ⟨t, n, p', K.length, c'⟩ := ⟨hf.1, hf.2.1, hf.2.2.1, hf.2.2.2.1, by show K.length ≤ c'; omega, hc2⟩
  have hpx : ∀ x, p' = some x → w.heap.size + 2 ≤ x.block ∧ x.block < x1.heap.size := fun x hx => by
    subst hx
    exact hrow x.block rfl
  refine ⟨⟨t, n, p', K.length, c'⟩, rfl, hfx, ?_, setBxR_below (hbw.trans (hq.mono (by omega))) (by omega) _ _ _⟩
  refine (isGP_mk ..).2 ⟨p', c', L, rfl, hfx, hlen, ?_, fun x hx => ⟨by have := (hpx x hx).1; omega, by rw [setBxR_size]; exact (hpx x hx).2⟩, fun i hi hi' => ?_⟩
  · exact hr.move (by rw [setBxR_size]; exact Nat.le_refl _) (fun x hx hlt => setBxR_block _ _ _ _ _ _ (by have := (hpx x hx).1; omega))
  · refine (h4 i hi hi').move (by rw [setBxR_size]; exact Nat.le_refl _) (fun b hP hlt => setBxR_block _ _ _ _ _ _ (by have := hP.1; omega)) (fun b hP hlt => by have := hP.1; omega)

set_option maxRecDepth 100000 in
set_option maxHeartbeats 4000000 in
theorem arg_of_args (a : Ag) (H : CpyArgs a.kids) : CpyArg a := by
  intro w v h hall
  obtain ⟨p, cap, rfl, hf, hg⟩ := h.open
  obtain ⟨t, n, K⟩ := a
  dsimp only at *
  rw [fewAll_mk, Bool.and_eq_true, decide_eq_true_eq] at hall
  unfold agV
  obtain ⟨m, hm⟩ : ∃ m, m = K.length := ⟨_, rfl⟩
  rw [← hm] at hg hf ⊢
  have HM : Hid (m = K.length) := hm
  obtain ⟨W, hW⟩ : ∃ W, W = (w.alloc (.cells #[.int .i64 t, .int .i64 n, .slice p m cap] 25)).alloc (.cells #[.int .i64 0, .int .i64 0, .slice none 0 0] 25) := ⟨_, rfl⟩
  have b0 := box_bel w #[.int .i64 t, .int .i64 n, .slice p m cap] 25
  have hsz : (w.alloc (.cells #[.int .i64 t, .int .i64 n, .slice p m cap] 25)).heap.size = w.heap.size + 1 := by simp
  have b1 := box_bel (w.alloc (.cells #[.int .i64 t, .int .i64 n, .slice p m cap] 25)) #[.int .i64 0, .int .i64 0, .slice none 0 0] 25
  have x0 := (BxA.new w t n (.slice p m cap)).under b1
  have x1 := BxA.new (w.alloc (.cells #[.int .i64 t, .int .i64 n, .slice p m cap] 25)) 0 0 (.slice none 0 0)
  have bw := b0.trans (b1.mono (by omega))
  rw [hsz] at x1
  rw [← hW] at x0 x1 bw
  have hW2 : W.heap.size = w.heap.size + 2 := by rw [hW]; simp
  have HX0 : Hid (BxA W w.heap.size t n (.slice p m cap)) := x0
  have HX1 : Hid (BxA W (w.heap.size + 1) 0 0 (.slice none 0 0)) := x1
  have HBW : Hid (Below w.heap.size w W) := bw
  have HWW : Hid (W = (w.alloc (.cells #[.int .i64 t, .int .i64 n, .slice p m cap] 25)).alloc (.cells #[.int .i64 0, .int .i64 0, .slice none 0 0] 25)) := hW
  have HCC : Hid (∀ X, Below W.heap.size W X → Calls Tryd.prog 35 #[.slice p m cap] X (ArgsPost X K)) := fun X hX => H X _ (hg.under (bw.trans (hX.mono bw.size))) hall.1 hall.2
  have hfit1 := hf
  have HFIT : Hid (El.fit ⟨t, n, p, m, cap⟩) := hf
  clear H hg hall hf hfit1 hm x0 x1 bw b0 b1 hsz h hW
  go_enter Tryd.func11, Tryd.ntmps11
  go_wp2_with fail
  rw [← HWW.out]
  obtain ⟨c0, c1, c2, f0, f1, f2⟩ := HX0.out.facts
  have tok : Hid True := trivial
  go_region_law (first
    | (go_simp; have := tok; go_at_call 35; refine (HCC.out _ ((Below.refl _ _).drew)).mono ?_; rintro e x1 ⟨v', L, rfl, hst, hlen⟩; clear tok; have hq1 : Below W.heap.size W x1 := ((Below.refl _ _).drew).trans (hst.2.2.2.2.mono (Nat.le_refl _)); have hst' : CpSt W.drew K v' L x1 := hst; obtain ⟨u0, u1, u2, -⟩ := (HX0.out.under hq1).facts; obtain ⟨y0, y1, y2, z0, z1, z2⟩ := (HX1.out.under hq1).facts; obtain ⟨p', c', rfl, hc1, hc2⟩ := own_shape hst.1))
  all_goals
    have HFIN : Hid (ArgPost w ⟨t, n, K⟩ (.returned (agV t n (.slice p' K.length c'))) (setBxR x1 (w.heap.size + 1) t n (.slice p' K.length c'))) := arg_shut HBW.out hW2 hst' hlen hq1 HFIT.out hc1 hc2
    have HX5 : Hid (BxA (setBxR x1 (w.heap.size + 1) t n (.slice p' K.length c')) (w.heap.size + 1) t n (.slice p' K.length c')) := (HX1.out.under hq1).setR t n _
    clear hst hst' hq1 u0 u1 u2 y0 y1 y2 z0 z1 z2
    go_wp2_with fail
    refine bodyPost_ret (results_arg rfl _ _ (w.heap.size + 1) t n (.slice p' K.length c') rfl HX5.out) rfl ?_
    exact HFIN.out
theorem arg_copy : ∀ a : Ag, CpyArg a := Ag.ind (P := CpyArg) (fun t n K ih => arg_of_args _ (args_of_arg K ih))
/-- Operands anew. -/
theorem args_copy (K : List Ag) : CpyArgs K := args_of_arg K (fun a _ => arg_copy a)

def FewT (w : World) (K : List Ag) (e : Ending) (w' : World) : Prop := ∃ q, e = .returned (.bool q) ∧ w' = w ∧ (q = true → K.length ≤ 60 ∧ K.all fewAll = true)
set_option maxRecDepth 100000 in
set_option maxHeartbeats 2000000 in
/-- What FewArgs says yes to. -/
theorem few_tell : ∀ (a : Ag) (w : World) (v : Value) (deep : Int), Gs w v a.kids → -1 ≤ deep → deep ≤ 1000 → Calls Tryd.prog 8 #[v, .int .i64 deep] w (FewT w a.kids) := by
  refine Ag.ind (P := fun a => ∀ (w : World) (v : Value) (deep : Int), Gs w v a.kids → -1 ≤ deep → deep ≤ 1000 → Calls Tryd.prog 8 #[v, .int .i64 deep] w (FewT w a.kids)) ?_
  intro t n K ih w v deep h hd1 hd2
  dsimp only at h ⊢
  obtain ⟨p, cap, rfl, hc1, hc2, hc3⟩ := h.shape
  have HG : Hid (Gs w (.slice p K.length cap) K) := h
  have HIH : Hid (∀ a, a ∈ K → ∀ (w : World) (v : Value) (deep : Int), Gs w v a.kids → -1 ≤ deep → deep ≤ 1000 → Calls Tryd.prog 8 #[v, .int .i64 deep] w (FewT w a.kids)) := ih
  clear h ih
  by_cases h60 : (60 : Int) < (K.length : Int)
  · go_enter Tryd.func8, Tryd.ntmps8
    go_wp2_with fail
    go_ret
    exact ⟨false, rfl, rfl, fun h => by cases h⟩
  by_cases hdn : deep < 0
  · go_enter Tryd.func8, Tryd.ntmps8
    go_wp2_with fail
    go_ret
    exact ⟨false, rfl, rfl, fun h => by cases h⟩
  go_enter Tryd.func8, Tryd.ntmps8
  go_wp2_with fail
  go_loopg [5] K.length (fun gk s5 wr => ∃ k : Nat, k + gk = K.length ∧ s5 = .int .i64 (k : Int) ∧ w = wr ∧ Hid (∀ j (hj : j < K.length), j < k → fewAll K[j] = true))
  case atStart => exact ⟨0, by omega, rfl, rfl, fun j _ hj => absurd hj (by omega)⟩
  case round =>
    obtain ⟨k, hk, rfl, rfl, HA⟩ := hrel
    cases gk with
    | zero =>
      obtain rfl : k = K.length := by omega
      have HT : Hid (K.length ≤ 60 ∧ K.all fewAll = true) := by
        refine ⟨by omega, List.all_eq_true.2 (fun x hx => ?_)⟩
        obtain ⟨j, hj, rfl⟩ := List.getElem_of_mem hx
        exact HA.out j hj hj
      clear HA
      go_wp2_with fail
      go_ret
      exact ⟨true, rfl, rfl, fun _ => HT.out⟩
    | succ g =>
      have hkl : k < K.length := by omega
      have hki : (k : Int) < (K.length : Int) := by omega
      have hkc : (k : Int) < (cap : Int) := by omega
      obtain ⟨b, off, x, rfl, hlt, ⟨a0, a1, a2⟩, hft, hx⟩ := HG.out.at k hkl
      obtain ⟨e1, e2, e3, hgk⟩ := hx.el
      have HC : Hid (Calls Tryd.prog 8 #[x.sl, .int .i64 (deep - 1)] w (FewT w (K[k]).kids)) := HIH.out _ (List.getElem_mem hkl) w x.sl (deep - 1) hgk (by omega) (by omega)
      obtain ⟨A, hA⟩ : ∃ A, K[k] = A := ⟨_, rfl⟩
      have HKA : Hid (K[k] = A) := hA
      rw [hA] at HC e3
      obtain ⟨at', an, aK⟩ := A
      dsimp only at HC e3
      have HNX : Hid (aK.length ≤ 60 ∧ aK.all fewAll = true → ∀ j (hj : j < K.length), j < k + 1 → fewAll K[j] = true) := by
        intro hq j hj hjk
        rcases Nat.lt_or_ge j k with h | h
        · exact HA.out j hj h
        · obtain rfl : j = k := by omega
          rw [hA, fewAll_mk, Bool.and_eq_true, decide_eq_true_eq]
          exact hq
      obtain ⟨xt, xn, xa, xm, xc⟩ := x
      unfold El.sl at a2 HC
      dsimp only at a0 a1 a2 HC e3
      clear e1 e2 hgk hx hft hA HA HKA
      by_cases hm : (0 : Int) < (xm : Int)
      · clear e3
        go_wp2_with fail
        refine HC.out.mono ?_
        rintro e w2 ⟨q, rfl, rfl, hq⟩
        have HQ : Hid (q = true → aK.length ≤ 60 ∧ aK.all fewAll = true) := hq
        clear hq
        cases q
        · go_wp2_with fail
          go_ret
          exact ⟨false, rfl, rfl, fun h => by cases h⟩
        · have HN2 : Hid (∀ j (hj : j < K.length), j < k + 1 → fewAll K[j] = true) := HNX.out (HQ.out rfl)
          clear HQ HNX
          go_wp2_with fail
          go_roundg g
          case measure => omega
          case rel => exact ⟨k + 1, by omega, by go_num, rfl, HN2⟩
      · have hm0 : xm = 0 := by omega
        have HN2 : Hid (∀ j (hj : j < K.length), j < k + 1 → fewAll K[j] = true) := HNX.out (by
          obtain rfl : aK = [] := List.eq_nil_of_length_eq_zero (by omega)
          exact ⟨by simp, rfl⟩)
        subst hm0
        clear HNX e3 HC
        go_wp2_with fail
        go_roundg g
        case measure => omega
        case rel => exact ⟨k + 1, by omega, by go_num, rfl, HN2⟩
end Go.Proofs.YtgjjeghnfhjnnaaDoor
