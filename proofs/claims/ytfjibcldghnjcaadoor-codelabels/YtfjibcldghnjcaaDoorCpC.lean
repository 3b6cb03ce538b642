/-
  compact: areSingle, Check.
-/
import Derived.Test.YtfjibcldghnjcaaDoorCpB
import Derived.Test.YtfjibcldghnjcaaDoorAgA
namespace Go.Proofs.YtfjibcldghnjcaaDoor
open Go.RowKit
set_option linter.unusedVariables false
set_option linter.unusedSimpArgs false

/-- The variable spans holds what the program's text lays. -/
def Spn (w : World) : Prop := w.cell? ⟨1, 0, none⟩ = some (.int .i64 0) ∧ w.cell? ⟨1, 1, none⟩ = some (.int .i64 0) ∧ w.cell? ⟨1, 2, none⟩ = some (.int .i64 0) ∧ w.cell? ⟨1, 3, none⟩ = some (.int .i64 268435455) ∧
  w.cell? ⟨1, 4, none⟩ = some (.int .i64 1) ∧ w.cell? ⟨1, 5, none⟩ = some (.int .i64 1) ∧ w.cell? ⟨1, 6, none⟩ = some (.int .i64 (-576460752303423488)) ∧ w.cell? ⟨1, 7, none⟩ = some (.int .i64 576460752303423487) ∧
  w.cell? ⟨1, 8, none⟩ = some (.int .i64 2) ∧ w.cell? ⟨1, 9, none⟩ = some (.int .i64 6) ∧ w.cell? ⟨1, 10, none⟩ = some (.int .i64 0) ∧ w.cell? ⟨1, 11, none⟩ = some (.int .i64 268435455)
theorem Spn.under {w w' : World} (h : Spn w) (hb : Below w.heap.size w w') : Spn w' := by
  obtain ⟨h0, h1, h2, h3, h4, h5, h6, h7, h8, h9, h10, h11⟩ := h
  have hlt : 1 < w.heap.size := World.block_lt_of_cell? w ⟨1, 0, none⟩ h0
  refine ⟨?_, ?_, ?_, ?_, ?_, ?_, ?_, ?_, ?_, ?_, ?_, ?_⟩ <;> (rw [hb.cell (by exact hlt)]; assumption)

theorem BxA.keep {w w' : World} {g : Nat} {t n : Int} {sl : Value} (h : BxA w g t n sl) (k : Keep w w') : BxA w' g t n sl := k.2 g _ h (fun cs e => by injection e with _ e2 _; exact absurd e2 (by decide))

/-- That the first of the spans don't hold it. -/
def spI (t n : Int) (m : Nat) : Nat → Prop
  | 0 => 0 ≤ t ∧ t ≤ 0 ∧ 0 ≤ n ∧ n ≤ 268435455 ∧ m = 0
  | 1 => 1 ≤ t ∧ t ≤ 1 ∧ -576460752303423488 ≤ n ∧ n ≤ 576460752303423487 ∧ m = 0
  | 2 => 2 ≤ t ∧ t ≤ 6 ∧ 0 ≤ n ∧ n ≤ 268435455 ∧ m = 0
  | _ => False
def NoSp (t n : Int) (m i : Nat) : Prop := ∀ j, j < i → ¬ spI t n m j
theorem ok1_of {t n : Int} {m j : Nat} (h : spI t n m j) : (okN1 t n && decide (m = 0)) = true := by
  match j, h with
  | 0, h => simp only [spI] at h; unfold okN1; rw [if_neg (by omega)]; simp; omega
  | 1, h => simp only [spI] at h; unfold okN1; rw [if_pos (by omega)]; simp; omega
  | 2, h => simp only [spI] at h; unfold okN1; rw [if_neg (by omega)]; simp; omega
theorem ok1_no {t n : Int} {m : Nat} (h : NoSp t n m 3) : (okN1 t n && decide (m = 0)) = false := by
  have h0 := h 0 (by omega)
  have h1 := h 1 (by omega)
  have h2 := h 2 (by omega)
  simp only [spI] at h0 h1 h2
  cases hr : (okN1 t n && decide (m = 0))
  · rfl
  · unfold okN1 at hr
    split at hr <;> simp at hr <;> omega

set_option maxRecDepth 100000 in
set_option maxHeartbeats 4000000 in
theorem areSingle_any (v : Value) (l : List El) (w : World) (hS : Spn w) (h : Rw3 w v l) :
    Calls Tryd.prog 31 #[v] w fun e w' => e = .returned (.bool (l.all El.ok1)) ∧ Below w.heap.size w w' := by
  obtain ⟨a, cap, rfl, hc, hm, hn⟩ := h.shape
  obtain ⟨r, hr⟩ : ∃ r, l.all El.ok1 = r := ⟨_, rfl⟩
  have HR : Hid (l.all El.ok1 = r) := hr
  rw [hr]; clear hr
  have HS : Hid (Spn w) := hS
  clear hS
  go_enter Tryd.func31, Tryd.ntmps31
  go_wp2_with fail
  go_step3
  go_wp2_with fail
  go_step3
  go_wp2_with fail
  go_loopg [10] l.length (fun gk s10 wr => ∃ k : Nat, k + gk = l.length ∧ s10 = .int .i64 (k : Int) ∧ Hid (Below w.heap.size w wr) ∧ Hid (∀ j (hj : j < l.length), j < k → (l[j]).ok1 = true))
  case atStart => exact ⟨0, by omega, rfl, Below.refl _ _, fun j _ hj => absurd hj (by omega)⟩
  case round =>
    obtain ⟨k, hk, rfl, HB, HA⟩ := hrel
    cases gk with
    | zero =>
      obtain rfl : k = l.length := by omega
      have HT : Hid (r = true) := by
        unfold Hid
        rw [← HR.out, List.all_eq_true]
        intro x hx
        obtain ⟨j, hj, rfl⟩ := List.getElem_of_mem hx
        exact HA.out j hj hj
      clear HA HR
      go_wp2_with fail
      try simp only [Exit.noGoto]
      go_ret
      exact ⟨ret_bool HT.out.symm, HB.out⟩
    | succ g =>
      obtain ⟨b, off, rfl, hlt, ⟨c0, c1, c2⟩, hft⟩ := (h.under HB.out).at k (by omega)
      have hkl : (k : Int) < (l.length : Int) := by omega
      have hx : k < l.length := by omega
      obtain ⟨⟨t, n, sa, m, sc⟩, hy⟩ : ∃ y, y = l[k] := ⟨_, rfl⟩
      rw [← hy] at c0 c1 c2 hft
      have HY : Hid (l[k].ok1 = (okN1 t n && decide (m = 0))) := by unfold Hid; rw [← hy]; rfl
      unfold El.sl at c2
      unfold El.fit at hft
      dsimp only at c0 c1 c2 hft
      clear hy
      have hcap : (k : Int) < (cap : Int) := by omega
      have hal := (Below.refl wr.heap.size wr).alloc (Nat.le_refl _) (.cells #[.int .i64 t, .int .i64 n, .slice sa m sc] 30)
      obtain ⟨s0, s1, s2, s3, s4, s5, s6, s7, s8, s9, s10, s11⟩ := (HS.out.under HB.out).under hal
      have HX : Hid (BxA (wr.alloc (.cells #[.int .i64 t, .int .i64 n, .slice sa m sc] 30)) wr.heap.size t n (.slice sa m sc)) := BxA.new wr t n _
      have HBW : Hid (Below w.heap.size w (wr.alloc (.cells #[.int .i64 t, .int .i64 n, .slice sa m sc] 30))) := HB.out.alloc HB.out.size _
      clear hal HB
      go_wp2_with fail
      clear s0 s1 s2 s3 s4 s5 s6 s7 s8 s9 s10 s11
      generalize hwq : wr.alloc (.cells #[.int .i64 t, .int .i64 n, .slice sa m sc] 30) = wq at *
      generalize wr.heap.size = gq at *
      clear hwq c0 c1 c2
      go_loopg [15] 3 (fun gk s15 wi => ∃ i : Nat, i + gk = 3 ∧ s15 = .int .i64 (i : Int) ∧ Hid (Below wq.heap.size wq wi) ∧ Hid (NoSp t n m i))
      case atStart => exact ⟨0, by omega, rfl, Below.refl _ _, fun j hj => absurd hj (by omega)⟩
      case round =>
        obtain ⟨i, hi, rfl, HBi, HN⟩ := hrel
        obtain ⟨d0, d1, d2, -⟩ := (HX.out.under HBi.out).facts
        have hglt := (HX.out.under HBi.out).lt
        cases gk with
        | zero =>
          obtain rfl : i = 3 := by omega
          have HF : Hid (r = false) := by
            unfold Hid
            rw [← HR.out]
            cases hr : l.all El.ok1
            · rfl
            · have := List.all_eq_true.1 hr _ (List.getElem_mem hx)
              rw [HY.out, ok1_no HN.out] at this
              cases this
          have HGB : Hid (Below w.heap.size w wr) := HBW.out.trans (HBi.out.mono HBW.out.size)
          clear HN HY HA HR HS h HBi HBW
          go_wp2_with fail
          try simp only [Exit.noGoto]
          go_ret
          exact ⟨ret_bool HF.out.symm, HGB.out⟩
        | succ gi =>
          by_cases e0 : i = 0
          · subst e0
            have x0 : ∀ wx : World, (Instr.index 73 (.agg #[.int .i64 0, .int .i64 0, .int .i64 0, .int .i64 268435455, .int .i64 1, .int .i64 1, .int .i64 (-576460752303423488), .int .i64 576460752303423487, .int .i64 2, .int .i64 6, .int .i64 0, .int .i64 268435455]) (.int .i64 0)).run Tryd.prog wx = .ok (.agg #[.int .i64 0, .int .i64 0, .int .i64 0, .int .i64 268435455]) wx := fun _ => by kernel_rfl
            have hcs : (0 ≤ t ∧ t ≤ 0 ∧ 0 ≤ n ∧ n ≤ 268435455 ∧ m = 0) ∨ ¬ 0 ≤ t ∨ (0 ≤ t ∧ ¬ t ≤ 0) ∨ (0 ≤ t ∧ t ≤ 0 ∧ ¬ 0 ≤ n) ∨ (0 ≤ t ∧ t ≤ 0 ∧ 0 ≤ n ∧ ¬ n ≤ 268435455) ∨ (0 ≤ t ∧ t ≤ 0 ∧ 0 ≤ n ∧ n ≤ 268435455 ∧ ¬ (m : Int) = 0) := by omega
            rcases hcs with ⟨q1, q2, q3, q4, q5⟩ | hcs
            · have HK : Hid ((okN1 t n && decide (m = 0)) = true) := by exact ok1_of (j := 0) (by simp only [spI]; omega)
              have HG : Hid (∀ j (hj : j < l.length), j < k + 1 → (l[j]).ok1 = true) := by
                unfold Hid
                intro j hj hjk
                rcases Nat.lt_or_ge j k with h | h
                · exact HA.out j hj h
                · obtain rfl : j = k := by omega
                  rw [HY.out]
                  exact HK.out
              have HGB : Hid (∀ c, Below w.heap.size w (wr.alloc (.cells c 72))) := fun c => (HBW.out.trans (HBi.out.mono HBW.out.size)).alloc (HBW.out.trans (HBi.out.mono HBW.out.size)).size _
              clear HN HK HY HA HR HS h
              subst q5
              go_wp2_with fail
              go_roundg g
              case measure => omega
              case rel => exact ⟨k + 1, by omega, by go_num, HGB.out _, HG⟩
            · have HM : Hid (NoSp t n m 1) := by
                unfold Hid
                intro j hj
                rcases Nat.lt_or_ge j 0 with h | h
                · exact HN.out j h
                · obtain rfl : j = 0 := by omega
                  simp only [spI]
                  omega
              have HBX : Hid (∀ c, Below wq.heap.size wq (wr.alloc (.cells c 72))) := fun c => HBi.out.alloc HBi.out.size _
              clear HN
              rcases hcs with q1 | ⟨q1, q2⟩ | ⟨q1, q2, q3⟩ | ⟨q1, q2, q3, q4⟩ | ⟨q1, q2, q3, q4, q5⟩
              all_goals
                go_wp2_with fail
                go_roundg gi
                case measure => omega
                case rel => exact ⟨1, by omega, rfl, HBX.out _, HM⟩
          by_cases e1 : i = 1
          · subst e1
            have x0 : ∀ wx : World, (Instr.index 73 (.agg #[.int .i64 0, .int .i64 0, .int .i64 0, .int .i64 268435455, .int .i64 1, .int .i64 1, .int .i64 (-576460752303423488), .int .i64 576460752303423487, .int .i64 2, .int .i64 6, .int .i64 0, .int .i64 268435455]) (.int .i64 1)).run Tryd.prog wx = .ok (.agg #[.int .i64 1, .int .i64 1, .int .i64 (-576460752303423488), .int .i64 576460752303423487]) wx := fun _ => by kernel_rfl
            have hcs : (1 ≤ t ∧ t ≤ 1 ∧ (-576460752303423488) ≤ n ∧ n ≤ 576460752303423487 ∧ m = 0) ∨ ¬ 1 ≤ t ∨ (1 ≤ t ∧ ¬ t ≤ 1) ∨ (1 ≤ t ∧ t ≤ 1 ∧ ¬ (-576460752303423488) ≤ n) ∨ (1 ≤ t ∧ t ≤ 1 ∧ (-576460752303423488) ≤ n ∧ ¬ n ≤ 576460752303423487) ∨ (1 ≤ t ∧ t ≤ 1 ∧ (-576460752303423488) ≤ n ∧ n ≤ 576460752303423487 ∧ ¬ (m : Int) = 0) := by omega
            rcases hcs with ⟨q1, q2, q3, q4, q5⟩ | hcs
            · have HK : Hid ((okN1 t n && decide (m = 0)) = true) := by exact ok1_of (j := 1) (by simp only [spI]; omega)
              have HG : Hid (∀ j (hj : j < l.length), j < k + 1 → (l[j]).ok1 = true) := by
                unfold Hid
                intro j hj hjk
                rcases Nat.lt_or_ge j k with h | h
                · exact HA.out j hj h
                · obtain rfl : j = k := by omega
                  rw [HY.out]
                  exact HK.out
              have HGB : Hid (∀ c, Below w.heap.size w (wr.alloc (.cells c 72))) := fun c => (HBW.out.trans (HBi.out.mono HBW.out.size)).alloc (HBW.out.trans (HBi.out.mono HBW.out.size)).size _
              clear HN HK HY HA HR HS h
              subst q5
              go_wp2_with fail
              go_roundg g
              case measure => omega
              case rel => exact ⟨k + 1, by omega, by go_num, HGB.out _, HG⟩
            · have HM : Hid (NoSp t n m 2) := by
                unfold Hid
                intro j hj
                rcases Nat.lt_or_ge j 1 with h | h
                · exact HN.out j h
                · obtain rfl : j = 1 := by omega
                  simp only [spI]
                  omega
              have HBX : Hid (∀ c, Below wq.heap.size wq (wr.alloc (.cells c 72))) := fun c => HBi.out.alloc HBi.out.size _
              clear HN
              rcases hcs with q1 | ⟨q1, q2⟩ | ⟨q1, q2, q3⟩ | ⟨q1, q2, q3, q4⟩ | ⟨q1, q2, q3, q4, q5⟩
              all_goals
                go_wp2_with fail
                go_roundg gi
                case measure => omega
                case rel => exact ⟨2, by omega, rfl, HBX.out _, HM⟩
          by_cases e2 : i = 2
          · subst e2
            have x0 : ∀ wx : World, (Instr.index 73 (.agg #[.int .i64 0, .int .i64 0, .int .i64 0, .int .i64 268435455, .int .i64 1, .int .i64 1, .int .i64 (-576460752303423488), .int .i64 576460752303423487, .int .i64 2, .int .i64 6, .int .i64 0, .int .i64 268435455]) (.int .i64 2)).run Tryd.prog wx = .ok (.agg #[.int .i64 2, .int .i64 6, .int .i64 0, .int .i64 268435455]) wx := fun _ => by kernel_rfl
            have hcs : (2 ≤ t ∧ t ≤ 6 ∧ 0 ≤ n ∧ n ≤ 268435455 ∧ m = 0) ∨ ¬ 2 ≤ t ∨ (2 ≤ t ∧ ¬ t ≤ 6) ∨ (2 ≤ t ∧ t ≤ 6 ∧ ¬ 0 ≤ n) ∨ (2 ≤ t ∧ t ≤ 6 ∧ 0 ≤ n ∧ ¬ n ≤ 268435455) ∨ (2 ≤ t ∧ t ≤ 6 ∧ 0 ≤ n ∧ n ≤ 268435455 ∧ ¬ (m : Int) = 0) := by omega
            rcases hcs with ⟨q1, q2, q3, q4, q5⟩ | hcs
            · have HK : Hid ((okN1 t n && decide (m = 0)) = true) := by exact ok1_of (j := 2) (by simp only [spI]; omega)
              have HG : Hid (∀ j (hj : j < l.length), j < k + 1 → (l[j]).ok1 = true) := by
                unfold Hid
                intro j hj hjk
                rcases Nat.lt_or_ge j k with h | h
                · exact HA.out j hj h
                · obtain rfl : j = k := by omega
                  rw [HY.out]
                  exact HK.out
              have HGB : Hid (∀ c, Below w.heap.size w (wr.alloc (.cells c 72))) := fun c => (HBW.out.trans (HBi.out.mono HBW.out.size)).alloc (HBW.out.trans (HBi.out.mono HBW.out.size)).size _
              clear HN HK HY HA HR HS h
              subst q5
              go_wp2_with fail
              go_roundg g
              case measure => omega
              case rel => exact ⟨k + 1, by omega, by go_num, HGB.out _, HG⟩
            · have HM : Hid (NoSp t n m 3) := by
                unfold Hid
                intro j hj
                rcases Nat.lt_or_ge j 2 with h | h
                · exact HN.out j h
                · obtain rfl : j = 2 := by omega
                  simp only [spI]
                  omega
              have HBX : Hid (∀ c, Below wq.heap.size wq (wr.alloc (.cells c 72))) := fun c => HBi.out.alloc HBi.out.size _
              clear HN
              rcases hcs with q1 | ⟨q1, q2⟩ | ⟨q1, q2, q3⟩ | ⟨q1, q2, q3, q4⟩ | ⟨q1, q2, q3, q4, q5⟩
              all_goals
                go_wp2_with fail
                go_roundg gi
                case measure => omega
                case rel => exact ⟨3, by omega, rfl, HBX.out _, HM⟩
          exact absurd hi (by omega)
end Go.Proofs.YtfjibcldghnjcaaDoor
