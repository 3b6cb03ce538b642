/-
  ops: Throws; relictlaw00's instructions.
-/
import Derived.Test.YtbekdcalhkgdjaaDoorOpG
namespace Go.Proofs.YtbekdcalhkgdjaaDoor
open Go.RowKit
set_option linter.unusedVariables false
set_option linter.unusedSimpArgs false

set_option maxRecDepth 100000 in
set_option maxHeartbeats 8000000 in
theorem Throws_any (op : Int) (K : List Ag) (v : Value) (w : World) (h : Gs w v K) : Calls Tryd.prog 20 #[.agg #[.int .i64 op, v]] w (RB (thrI op K) w) := by
  obtain ⟨p, cap, rfl, hc1, hc2, hc3⟩ := h.shape
  have HG : Hid (Gs w (.slice p K.length cap) K) := h
  have hbx := box_below w #[.int .i64 op, .slice p K.length cap] 27
  have HC : Hid (Calls Tryd.prog 19 #[.agg #[.int .i64 op, .slice p K.length cap]] (w.alloc (.cells #[.int .i64 op, .slice p K.length cap] 27)) (RB (fitsI op K) (w.alloc (.cells #[.int .i64 op, .slice p K.length cap] 27)))) := Fits_any op K _ _ (h.under hbx)
  have HB : Hid (Below w.heap.size w (w.alloc (.cells #[.int .i64 op, .slice p K.length cap] 27))) := hbx
  have HX : Hid (BxI (w.alloc (.cells #[.int .i64 op, .slice p K.length cap] 27)) w.heap.size op (.slice p K.length cap)) := BxI.new w op _
  clear h hbx
  by_cases hq : fitsI op K = true
  case neg =>
    have hq' : fitsI op K = false := by simpa using hq
    rw [show thrI op K = false by unfold thrI; rw [hq', Bool.false_and]]
    rw [hq'] at HC
    clear hq hq' hc1 hc3
    go_enter Tryd.func20, Tryd.ntmps20
    go_wp2_with fail
    refine HC.out.mono ?_
    rintro e w2 ⟨rfl, b2⟩
    have HB2 : Hid (Below w.heap.size w w2) := HB.out.trans (b2.mono HB.out.size)
    clear b2 HB HX HC
    go_wp2_with fail
    go_ret
    exact ⟨rfl, HB2.out⟩
  case pos =>
  have hlen := fits_len hq
  rw [hq] at HC
  rw [show thrI op K = (if op = 35 ∨ op = 36 ∨ op = 37 then decide ((K.getD 0 zA).n = 0) else thrL op) by unfold thrI; rw [hq, Bool.true_and]]
  clear hq
  by_cases h3 : op = 35 ∨ op = 36 ∨ op = 37
  · rw [if_pos h3]
    have hk0 : 0 < K.length := by
      rw [hlen]
      rcases h3 with rfl | rfl | rfl
      · rw [sg35]; decide
      · rw [sg36]; decide
      · rw [sg37]; decide
    have hkl : (0 : Int) < (K.length : Int) := by omega
    have hkc : (0 : Int) < (cap : Int) := by omega
    obtain ⟨n0, hn0⟩ : ∃ n0, (K.getD 0 zA).n = n0 := ⟨_, rfl⟩
    have HN0 : Hid ((K.getD 0 zA).n = n0) := hn0
    rw [hn0]
    clear hn0 hlen
    by_cases hz : n0 = 0
    · rw [show decide (n0 = 0) = true by simp [hz]]
      have HZ : Hid (n0 = 0) := hz
      clear hz
      rcases h3 with rfl | rfl | rfl
      all_goals
        go_enter Tryd.func20, Tryd.ntmps20
        go_wp2_with fail
        refine HC.out.mono ?_
        rintro e w2 ⟨rfl, b2⟩
        have HB2 : Hid (Below w.heap.size w w2) := HB.out.trans (b2.mono HB.out.size)
        obtain ⟨x0, x1, x2⟩ := (HX.out.under b2).facts
        obtain ⟨b, off, ⟨xt, xn, xa, xm, xc⟩, rfl, hlt, ⟨a0, a1, a2⟩, hft, hx⟩ := (HG.out.under HB2.out).at 0 hk0
        unfold El.sl at a2
        dsimp only at a0 a1 a2
        obtain ⟨-, e2, -, -⟩ := hx.el
        dsimp only at e2
        have hgk : K.getD 0 zA = K[0] := by rw [List.getD_eq_getElem?_getD, List.getElem?_eq_getElem hk0]; rfl
        have hnn : xn = n0 := by rw [e2, ← hgk]; exact HN0.out
        have hz0 : xn = 0 := by rw [hnn]; exact HZ.out
        subst hz0
        clear hnn hx hft e2 hgk
        clear b2 HB HX HC
        repeat (first | (with_reducible (first | apply then_exit | apply inb_eq | apply then_normal | apply then_ret | apply inb_ret | apply inb_normal | (refine inb_ne (by decide) ?_))) | go_values | go_skip | go_guarded | go_step | go_upon | go_back | (simp only [Int.not_lt, Int.not_le] at *; go_simp) | (go_values <;> (try go_simp)))
        go_ret
        exact ⟨rfl, HB2.out⟩
    · rw [show decide (n0 = 0) = false by simp [hz]]
      have HZ : Hid ((n0 == 0) = false) := by unfold Hid; simpa using hz
      clear hz
      rcases h3 with rfl | rfl | rfl
      all_goals
        go_enter Tryd.func20, Tryd.ntmps20
        go_wp2_with fail
        refine HC.out.mono ?_
        rintro e w2 ⟨rfl, b2⟩
        have HB2 : Hid (Below w.heap.size w w2) := HB.out.trans (b2.mono HB.out.size)
        obtain ⟨x0, x1, x2⟩ := (HX.out.under b2).facts
        obtain ⟨b, off, ⟨xt, xn, xa, xm, xc⟩, rfl, hlt, ⟨a0, a1, a2⟩, hft, hx⟩ := (HG.out.under HB2.out).at 0 hk0
        unfold El.sl at a2
        dsimp only at a0 a1 a2
        obtain ⟨-, e2, -, -⟩ := hx.el
        dsimp only at e2
        have hgk : K.getD 0 zA = K[0] := by rw [List.getD_eq_getElem?_getD, List.getElem?_eq_getElem hk0]; rfl
        have hnn : xn = n0 := by rw [e2, ← hgk]; exact HN0.out
        have hz0 : (xn == 0) = false := by rw [hnn]; exact HZ.out
        clear hnn hx hft e2 hgk
        clear b2 HB HX HC
        repeat (first | (with_reducible (first | apply then_exit | apply inb_eq | apply then_normal | apply then_ret | apply inb_ret | apply inb_normal | (refine inb_ne (by decide) ?_))) | go_values | go_skip | go_guarded | go_step | go_upon | go_back | (simp only [Int.not_lt, Int.not_le] at *; go_simp) | (go_values <;> (try go_simp)))
        go_ret
        exact ⟨rfl, HB2.out⟩
  · rw [if_neg h3]
    clear hlen
    by_cases ht : op = 2 ∨ op = 6 ∨ op = 9 ∨ op = 10 ∨ op = 17 ∨ op = 18 ∨ op = 43 ∨ op = 44 ∨ op = 48 ∨ op = 49 ∨ op = 50 ∨ op = 51
    · rw [show thrL op = true from decide_eq_true ht]
      clear h3
      rcases ht with rfl | rfl | rfl | rfl | rfl | rfl | rfl | rfl | rfl | rfl | rfl | rfl
      all_goals
        go_enter Tryd.func20, Tryd.ntmps20
        go_wp2_with fail
        refine HC.out.mono ?_
        rintro e w2 ⟨rfl, b2⟩
        have HB2 : Hid (Below w.heap.size w w2) := HB.out.trans (b2.mono HB.out.size)
        obtain ⟨x0, x1, x2⟩ := (HX.out.under b2).facts
        clear b2 HB HX HC
        repeat (first | (with_reducible (first | apply then_exit | apply inb_eq | apply then_normal | apply then_ret | apply inb_ret | apply inb_normal | (refine inb_ne (by decide) ?_))) | go_values | go_skip | go_guarded | go_step | go_upon | go_back | (simp only [Int.not_lt, Int.not_le] at *; go_simp) | (go_values <;> (try go_simp)))
        go_ret
        exact ⟨rfl, HB2.out⟩
    · rw [show thrL op = false from decide_eq_false ht]
      have n2 : ¬ op = 2 := fun e => ht (by subst e; decide)
      have n6 : ¬ op = 6 := fun e => ht (by subst e; decide)
      have n9 : ¬ op = 9 := fun e => ht (by subst e; decide)
      have n10 : ¬ op = 10 := fun e => ht (by subst e; decide)
      have n17 : ¬ op = 17 := fun e => ht (by subst e; decide)
      have n18 : ¬ op = 18 := fun e => ht (by subst e; decide)
      have n43 : ¬ op = 43 := fun e => ht (by subst e; decide)
      have n44 : ¬ op = 44 := fun e => ht (by subst e; decide)
      have n48 : ¬ op = 48 := fun e => ht (by subst e; decide)
      have n49 : ¬ op = 49 := fun e => ht (by subst e; decide)
      have n50 : ¬ op = 50 := fun e => ht (by subst e; decide)
      have n51 : ¬ op = 51 := fun e => ht (by subst e; decide)
      have n35 : ¬ op = 35 := fun e => h3 (by subst e; decide)
      have n36 : ¬ op = 36 := fun e => h3 (by subst e; decide)
      have n37 : ¬ op = 37 := fun e => h3 (by subst e; decide)
      clear h3 ht
      go_enter Tryd.func20, Tryd.ntmps20
      go_wp2_with fail
      refine HC.out.mono ?_
      rintro e w2 ⟨rfl, b2⟩
      have HB2 : Hid (Below w.heap.size w w2) := HB.out.trans (b2.mono HB.out.size)
      obtain ⟨x0, x1, x2⟩ := (HX.out.under b2).facts
      clear b2 HB HX HC
      repeat (first | (with_reducible (first | apply then_exit | apply inb_eq | apply then_normal | apply then_ret | apply inb_ret | apply inb_normal | (refine inb_ne (by decide) ?_))) | go_values | go_skip | go_guarded | go_step | go_upon | go_back | (simp only [Int.not_lt, Int.not_le] at *; go_simp) | (go_values <;> (try go_simp)))
      go_ret
      exact ⟨rfl, HB2.out⟩
end Go.Proofs.YtbekdcalhkgdjaaDoor
