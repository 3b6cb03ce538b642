
/-
  ops: fits, Fits, Throws.
-/
import Derived.Test.YtgjjeghnfhjnnaaDoorOpE
namespace Go.Proofs.YtgjjeghnfhjnnaaDoor
open Go.RowKit
set_option linter.unusedVariables false
set_option linter.unusedSimpArgs false

/-- Whether an operand is by a letter. -/
def fitA (c : Int) (a : Ag) : Bool :=
  if a.t = 7 then decide (a.n = 0) && decide (a.kids.length ≤ 40) && (if c = 83 then a.kids.all (fit1 115) else if c = 80 then pairsB a.kids else false)
  else mbA a && htB c a.t a.n
theorem fitA_small {c : Int} (h83 : ¬ c = 83) (h80 : ¬ c = 80) (a : Ag) : fitA c a = fit1 c a := by
  unfold fitA fit1
  rw [if_neg h83, if_neg h80, Bool.and_false]
theorem ht_83 (t n : Int) : htB 83 t n = false := by simp [htB]
theorem ht_80 (t n : Int) : htB 80 t n = false := by simp [htB]

set_option maxRecDepth 100000 in
set_option maxHeartbeats 2000000 in
theorem fits_list (c : Int) (hc : c = 83 ∨ c = 80) (n : Int) (K : List Ag) (v : Value) (w : World) (h : IsG w ⟨7, n, K⟩ v) : Calls Tryd.prog 45 #[.int .u8 c, v] w (RBool (fitA c ⟨7, n, K⟩) w) := by
  obtain ⟨p, cap, rfl, hf, hg⟩ := h.open
  dsimp only at *
  unfold agV
  have hbx := box_below w #[.int .i64 7, .int .i64 n, .slice p K.length cap] 25
  have HS := srcs_any K _ _ (hg.under hbx)
  have HP := pairs_any K _ _ (hg.under hbx)
  have HSS : Hid (Calls Tryd.prog 61 #[.slice p K.length cap] (w.alloc (.cells #[.int .i64 7, .int .i64 n, .slice p K.length cap] 25)) (RBool (K.all (fit1 115)) (w.alloc (.cells #[.int .i64 7, .int .i64 n, .slice p K.length cap] 25)))) := HS
  have HPP : Hid (Calls Tryd.prog 62 #[.slice p K.length cap] (w.alloc (.cells #[.int .i64 7, .int .i64 n, .slice p K.length cap] 25)) (RBool (pairsB K) (w.alloc (.cells #[.int .i64 7, .int .i64 n, .slice p K.length cap] 25)))) := HP
  clear HS HP hbx hg h hf
  have HB : Hid (Below w.heap.size w (w.alloc (.cells #[.int .i64 7, .int .i64 n, .slice p K.length cap] 25))) := box_below _ _ _
  obtain ⟨q1, hq1⟩ : ∃ q, K.all (fit1 115) = q := ⟨_, rfl⟩
  obtain ⟨q2, hq2⟩ : ∃ q, pairsB K = q := ⟨_, rfl⟩
  rw [hq1] at HSS
  rw [hq2] at HPP
  have hfa : fitA c ⟨7, n, K⟩ = (decide (n = 0) && decide (K.length ≤ 40) && (if c = 83 then q1 else if c = 80 then q2 else false)) := by
    unfold fitA
    rw [if_pos rfl]
    dsimp only
    rw [hq1, hq2]
  rw [hfa]
  clear hfa hq1 hq2
  obtain ⟨m, hm⟩ : ∃ m, K.length = m := ⟨_, rfl⟩
  rw [hm] at HSS HPP HB ⊢
  clear hm
  by_cases n0 : n = 0
  · subst n0
    by_cases m4 : (40 : Int) < (m : Int)
    · rw [show decide (m ≤ 40) = false by simp; omega, Bool.and_false, Bool.false_and]
      go_enter Tryd.func45, Tryd.ntmps45
      go_wp2_with fail
      go_ret
      exact ⟨rfl, HB.out⟩
    · rw [show decide (m ≤ 40) = true by simp; omega, show decide ((0 : Int) = 0) = true from rfl, Bool.and_true, Bool.true_and]
      rcases hc with rfl | rfl
      · rw [if_pos rfl]
        clear HPP
        go_enter Tryd.func45, Tryd.ntmps45
        go_wp2_with fail
        refine HSS.out.mono ?_
        rintro e w2 ⟨rfl, b2⟩
        have HB2 : Hid (Below w.heap.size w w2) := HB.out.trans (b2.mono HB.out.size)
        clear b2 HB HSS
        go_wp2_with fail
        go_ret
        exact ⟨rfl, HB2.out⟩
      · rw [if_neg (by decide), if_pos rfl]
        clear HSS
        go_enter Tryd.func45, Tryd.ntmps45
        go_wp2_with fail
        refine HPP.out.mono ?_
        rintro e w2 ⟨rfl, b2⟩
        have HB2 : Hid (Below w.heap.size w w2) := HB.out.trans (b2.mono HB.out.size)
        clear b2 HB HPP
        go_wp2_with fail
        go_ret
        exact ⟨rfl, HB2.out⟩
  · have n0' : (n != 0) = true := by simpa using n0
    rw [show decide (n = 0) = false by simp [n0], Bool.false_and, Bool.false_and]
    clear HSS HPP
    go_enter Tryd.func45, Tryd.ntmps45
    go_wp2_with fail
    go_ret
    exact ⟨rfl, HB.out⟩

set_option maxRecDepth 100000 in
set_option maxHeartbeats 2000000 in
theorem fits_one (c : Int) (hc : c = 83 ∨ c = 80) (t n : Int) (t7 : ¬ t = 7) (K : List Ag) (v : Value) (w : World) (h : IsG w ⟨t, n, K⟩ v) : Calls Tryd.prog 45 #[.int .u8 c, v] w (RBool false w) := by
  obtain ⟨p, cap, rfl, hf, hg⟩ := h.open
  dsimp only at *
  unfold agV
  have t7' : (t != 7) = true := by simpa using t7
  have HM : Hid (Calls Tryd.prog 59 #[.agg #[.int .i64 t, .int .i64 n, .slice p K.length cap]] (w.alloc (.cells #[.int .i64 t, .int .i64 n, .slice p K.length cap] 25)) (RBool (decide (loT t ≤ n) && decide (n ≤ hiT t) && decide (K.length = 0)) (w.alloc (.cells #[.int .i64 t, .int .i64 n, .slice p K.length cap] 25)))) := mb_raw t n p K.length cap _
  generalize (decide (loT t ≤ n) && decide (n ≤ hiT t) && decide (K.length = 0)) = q at *
  have HB : Hid (Below w.heap.size w (w.alloc (.cells #[.int .i64 t, .int .i64 n, .slice p K.length cap] 25))) := box_below _ _ _
  have HX : Hid (BxA (w.alloc (.cells #[.int .i64 t, .int .i64 n, .slice p K.length cap] 25)) w.heap.size t n (.slice p K.length cap)) := BxA.new w t n _
  generalize K.length = m at *
  clear hf hg h
  have HT : Hid (∀ W, Calls Tryd.prog 60 #[.int .u8 c, .agg #[.int .i64 t, .int .i64 n, .slice p m cap]] W (RBool false W)) := by
    intro W
    have := ht_raw c t n p m cap W (by omega) (by omega)
    rcases hc with rfl | rfl
    · rw [ht_83] at this; exact this
    · rw [ht_80] at this; exact this
  clear hc
  cases q
  · go_enter Tryd.func45, Tryd.ntmps45
    go_wp2_with fail
    refine HM.out.mono ?_
    rintro e w2 ⟨rfl, b2⟩
    have HB2 : Hid (Below w.heap.size w w2) := HB.out.trans (b2.mono HB.out.size)
    clear b2 HX HB HM HT
    go_wp2_with fail
    go_ret
    exact ⟨rfl, HB2.out⟩
  · go_enter Tryd.func45, Tryd.ntmps45
    go_wp2_with fail
    refine HM.out.mono ?_
    rintro e w2 ⟨rfl, b2⟩
    have HB2 : Hid (Below w.heap.size w w2) := HB.out.trans (b2.mono HB.out.size)
    obtain ⟨x0, x1, x2, -⟩ := (HX.out.under b2).facts
    clear b2 HX HB HM
    go_wp2_with fail
    refine (HT.out _).mono ?_
    rintro e w3 ⟨rfl, b3⟩
    have HB3 : Hid (Below w.heap.size w w3) := HB2.out.trans (b3.mono HB2.out.size)
    clear b3 HB2 x0 x1 x2 HT
    go_wp2_with fail
    go_ret
    exact ⟨rfl, HB3.out⟩
theorem fits_any (c : Int) (hc0 : 0 ≤ c) (hc1 : c ≤ 255) (a : Ag) (v : Value) (w : World) (h : IsG w a v) : Calls Tryd.prog 45 #[.int .u8 c, v] w (RBool (fitA c a) w) := by
  by_cases hc : c = 83 ∨ c = 80
  · obtain ⟨t, n, K⟩ := a
    by_cases t7 : t = 7
    · subst t7
      exact fits_list c hc n K v w h
    · have e : fitA c ⟨t, n, K⟩ = false := by
        unfold fitA
        rw [if_neg t7]
        rcases hc with rfl | rfl
        · dsimp only; rw [ht_83, Bool.and_false]
        · dsimp only; rw [ht_80, Bool.and_false]
      rw [e]
      exact fits_one c hc t n t7 K v w h
  · rw [fitA_small (by omega) (by omega)]
    exact fitS_any c hc0 hc1 (by omega) (by omega) a v w h
end Go.Proofs.YtgjjeghnfhjnnaaDoor
