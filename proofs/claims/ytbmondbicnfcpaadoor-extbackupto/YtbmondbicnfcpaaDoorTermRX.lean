
/-
  relictref03.fields: what it answers.
-/
import Derived.Test.YtbmondbicnfcpaaDoorTermAlone
import Derived.Test.YtbmondbicnfcpaaDoorNumSame
import Derived.Lib.Strings
import Derived.Lib.IndexBytes
namespace Go.Proofs.YtbmondbicnfcpaaDoor
open Go.RowKit
set_option linter.unusedVariables false
set_option linter.unusedSimpArgs false

theorem eBA : (ByteArray.mk #[]).toList.isEmpty = true := by decide +kernel
def RFx (w : World) (q : Bool) (e : Ending) (w' : World) : Prop := e = .returned (.bool q) ∧ Below w.heap.size w w'

set_option maxRecDepth 100000 in
set_option maxHeartbeats 4000000 in
theorem rfx_0 (k : Int) (n1 : Bool) (L : List Int) (S1 : ByteArray) (N1 : Int) (c : Nat) (pl pk : Option Addr) (cl ck : Nat) (w : World) (hL : Sl w (.slice pl L.length cl) L) (hS : (S1.size : Int) ≤ 140737488355328) (hN : N1 = 0) (hk : ¬ k = 1 ∧ ¬ k = 2 ∧ ¬ k = 3 ∧ ¬ k = 4 ∧ ¬ k = 5 ∧ ¬ k = 6) :
    Calls Tryd.prog 92 #[.agg #[.int .i64 k, .bool n1, .slice pl L.length cl, .string S1, .int .i64 N1, .slice pk c ck]] w fun e w' => RFx w (aloneK k n1 L S1 N1 c) e w' := by
  obtain ⟨q, hq⟩ : ∃ q, aloneK k n1 L S1 N1 c = q := ⟨_, rfl⟩
  have HQ : Hid (aloneK k n1 L S1 N1 c = q) := hq
  rw [hq]
  clear hq
  have HB : Hid (Below w.heap.size w (w.alloc (.cells #[.int .i64 k, .bool n1, .slice pl L.length cl, .string S1, .int .i64 N1, .slice pk c ck] 29))) := (Below.refl w.heap.size w).alloc (Nat.le_refl _) _
  have HT : Hid (Bt (w.alloc (.cells #[.int .i64 k, .bool n1, .slice pl L.length cl, .string S1, .int .i64 N1, .slice pk c ck] 29)) w.heap.size k n1 (.slice pl L.length cl) S1 N1 (.slice pk c ck)) := Bt.new w k n1 (.slice pl L.length cl) S1 N1 (.slice pk c ck) ⟨_, _, _, rfl⟩ ⟨_, _, _, rfl⟩
  have HL : Hid (Sl w (.slice pl L.length cl) L) := hL
  clear hL
  have HN0 : Hid (N1 = 0) := hN
  have hn1 : (N1 == 0) = true := by simp [hN]
  have hn2 : (N1 != 0) = false := by simp [hN]
  clear hN
  have f1 : (k == 1) = false := by simp; omega
  have g1 : (k != 1) = true := by simp; omega
  have f2 : (k == 2) = false := by simp; omega
  have g2 : (k != 2) = true := by simp; omega
  have f3 : (k == 3) = false := by simp; omega
  have g3 : (k != 3) = true := by simp; omega
  have f4 : (k == 4) = false := by simp; omega
  have g4 : (k != 4) = true := by simp; omega
  have f5 : (k == 5) = false := by simp; omega
  have g5 : (k != 5) = true := by simp; omega
  have f6 : (k == 6) = false := by simp; omega
  have g6 : (k != 6) = true := by simp; omega
  by_cases hl : L.length = 0
  · have ll : ((L.length : Int) == 0) = true := beq_iff_eq.2 (by omega)
    have HLL : Hid (L.length = 0) := hl
    clear hl
    cases n1 with
    | false =>
      cases hS0 : S1.toList.isEmpty
      · have HZ : Hid (q = false) := by
          show q = false
          rw [← HQ.out]
          have hN0 := HN0.out
          have hl0 := HLL.out
          unfold aloneK restB
          simp [hN0, eBA, hl0, hS0, hk.1, hk.2.1, hk.2.2.1, hk.2.2.2.1, hk.2.2.2.2.1, hk.2.2.2.2.2]
        clear hk
        go_enter Tryd.func92, Tryd.ntmps92
        go_wp2_with fail
        go_ret
        exact ⟨by rw [HZ.out]; rfl, HB.out⟩
      · have HZ : Hid (q = false) := by
          show q = false
          rw [← HQ.out]
          have hN0 := HN0.out
          have hl0 := HLL.out
          unfold aloneK restB
          simp [hN0, eBA, hl0, hS0, hk.1, hk.2.1, hk.2.2.1, hk.2.2.2.1, hk.2.2.2.2.1, hk.2.2.2.2.2]
        clear hk
        go_enter Tryd.func92, Tryd.ntmps92
        go_wp2_with fail
        go_ret
        exact ⟨by rw [HZ.out]; rfl, HB.out⟩
    | true =>
      have HZ : Hid (q = false) := by
        show q = false
        rw [← HQ.out]
        have hN0 := HN0.out
        have hl0 := HLL.out
        unfold aloneK restB
        simp [hN0, eBA, hl0, hk.1, hk.2.1, hk.2.2.1, hk.2.2.2.1, hk.2.2.2.2.1, hk.2.2.2.2.2]
      clear hk
      go_enter Tryd.func92, Tryd.ntmps92
      go_wp2_with fail
      go_ret
      exact ⟨by rw [HZ.out]; rfl, HB.out⟩
  · have ll : ((L.length : Int) == 0) = false := beq_eq_false_iff_ne.2 (by omega)
    have HLL : Hid (¬ L.length = 0) := hl
    clear hl
    have HZ : Hid (q = false) := by
      show q = false
      rw [← HQ.out]
      have hN0 := HN0.out
      have hl0 := HLL.out
      unfold aloneK restB
      simp [hN0, eBA, hl0, hk.1, hk.2.1, hk.2.2.1, hk.2.2.2.1, hk.2.2.2.2.1, hk.2.2.2.2.2]
    clear hk
    go_enter Tryd.func92, Tryd.ntmps92
    go_wp2_with fail
    go_ret
    exact ⟨by rw [HZ.out]; rfl, HB.out⟩

set_option maxRecDepth 100000 in
set_option maxHeartbeats 4000000 in
theorem rfx_1 (k : Int) (n1 : Bool) (L : List Int) (S1 : ByteArray) (N1 : Int) (c : Nat) (pl pk : Option Addr) (cl ck : Nat) (w : World) (hL : Sl w (.slice pl L.length cl) L) (hS : (S1.size : Int) ≤ 140737488355328) (hN : N1 = 0) (hk : k = 1) :
    Calls Tryd.prog 92 #[.agg #[.int .i64 k, .bool n1, .slice pl L.length cl, .string S1, .int .i64 N1, .slice pk c ck]] w fun e w' => RFx w (aloneK k n1 L S1 N1 c) e w' := by
  obtain ⟨q, hq⟩ : ∃ q, aloneK k n1 L S1 N1 c = q := ⟨_, rfl⟩
  have HQ : Hid (aloneK k n1 L S1 N1 c = q) := hq
  rw [hq]
  clear hq
  have HB : Hid (Below w.heap.size w (w.alloc (.cells #[.int .i64 k, .bool n1, .slice pl L.length cl, .string S1, .int .i64 N1, .slice pk c ck] 29))) := (Below.refl w.heap.size w).alloc (Nat.le_refl _) _
  have HT : Hid (Bt (w.alloc (.cells #[.int .i64 k, .bool n1, .slice pl L.length cl, .string S1, .int .i64 N1, .slice pk c ck] 29)) w.heap.size k n1 (.slice pl L.length cl) S1 N1 (.slice pk c ck)) := Bt.new w k n1 (.slice pl L.length cl) S1 N1 (.slice pk c ck) ⟨_, _, _, rfl⟩ ⟨_, _, _, rfl⟩
  have HL : Hid (Sl w (.slice pl L.length cl) L) := hL
  clear hL
  have HN0 : Hid (N1 = 0) := hN
  have hn1 : (N1 == 0) = true := by simp [hN]
  have hn2 : (N1 != 0) = false := by simp [hN]
  clear hN
  have f1 : (k == 1) = true := by simp [hk]
  have g1 : (k != 1) = false := by simp [hk]
  have f2 : (k == 2) = false := by simp; omega
  have g2 : (k != 2) = true := by simp; omega
  have f3 : (k == 3) = false := by simp; omega
  have g3 : (k != 3) = true := by simp; omega
  have f4 : (k == 4) = false := by simp; omega
  have g4 : (k != 4) = true := by simp; omega
  have f5 : (k == 5) = false := by simp; omega
  have g5 : (k != 5) = true := by simp; omega
  have f6 : (k == 6) = false := by simp; omega
  have g6 : (k != 6) = true := by simp; omega
  by_cases hl : L.length = 0
  · have ll : ((L.length : Int) == 0) = true := beq_iff_eq.2 (by omega)
    have HLL : Hid (L.length = 0) := hl
    clear hl
    cases hS0 : S1.toList.isEmpty
    · have HZ : Hid (q = false) := by
        show q = false
        rw [← HQ.out]
        have hN0 := HN0.out
        subst hk
        unfold aloneK restB
        simp [hN0, eBA, hS0]
      clear hk
      go_enter Tryd.func92, Tryd.ntmps92
      go_wp2_with fail
      go_ret
      exact ⟨by rw [HZ.out]; rfl, HB.out⟩
    · by_cases hg : Good n1 L
      · have hgb : goodB n1 L = true := (goodB_iff n1 L).2 hg
        by_cases h0 : c = 0
        · have kl : ((c : Int) == 0) = true := beq_iff_eq.2 (by omega)
          have HZ : Hid (q = true) := by
            show q = true
            rw [← HQ.out]
            have hN0 := HN0.out
            subst hk
            unfold aloneK restB
            simp [hN0, eBA, hS0, hgb, h0]
          clear hk h0 hgb
          go_enter Tryd.func92, Tryd.ntmps92
          go_wp2_with fail
          refine (rcheck_yes n1 _ L _ (HL.out.below HB.out) hg).mono ?_
          rintro e w1 ⟨rfl, b1⟩
          have u1 := HT.out.under b1
          obtain ⟨a0, a1, a2, a3, a4, a5⟩ := u1.cells
          have hb := HB.out.trans (b1.mono HB.out.size)
          clear b1 u1
          go_wp2_with fail
          go_ret
          exact ⟨by rw [HZ.out]; rfl, hb⟩
        · have kl : ((c : Int) == 0) = false := beq_eq_false_iff_ne.2 (by omega)
          have HZ : Hid (q = false) := by
            show q = false
            rw [← HQ.out]
            have hN0 := HN0.out
            subst hk
            unfold aloneK restB
            simp [hN0, eBA, hS0, hgb, h0]
          clear hk h0 hgb
          go_enter Tryd.func92, Tryd.ntmps92
          go_wp2_with fail
          refine (rcheck_yes n1 _ L _ (HL.out.below HB.out) hg).mono ?_
          rintro e w1 ⟨rfl, b1⟩
          have u1 := HT.out.under b1
          obtain ⟨a0, a1, a2, a3, a4, a5⟩ := u1.cells
          have hb := HB.out.trans (b1.mono HB.out.size)
          clear b1 u1
          go_wp2_with fail
          go_ret
          exact ⟨by rw [HZ.out]; rfl, hb⟩
      · have hgb : goodB n1 L = false := by cases h : goodB n1 L with | false => rfl | true => exact absurd ((goodB_iff n1 L).1 h) hg
        have HZ : Hid (q = false) := by
          show q = false
          rw [← HQ.out]
          have hN0 := HN0.out
          subst hk
          unfold aloneK restB
          simp [hN0, eBA, hS0, hgb]
        clear hk hgb
        go_enter Tryd.func92, Tryd.ntmps92
        go_wp2_with fail
        refine (rcheck_no n1 _ L _ (HL.out.below HB.out) hg).mono ?_
        rintro e w1 ⟨rfl, b1⟩
        have u1 := HT.out.under b1
        obtain ⟨a0, a1, a2, a3, a4, a5⟩ := u1.cells
        have hb := HB.out.trans (b1.mono HB.out.size)
        clear b1 u1
        go_wp2_with fail
        go_ret
        exact ⟨by rw [HZ.out]; rfl, hb⟩
  · have ll : ((L.length : Int) == 0) = false := beq_eq_false_iff_ne.2 (by omega)
    have HLL : Hid (¬ L.length = 0) := hl
    clear hl
    cases hS0 : S1.toList.isEmpty
    · have HZ : Hid (q = false) := by
        show q = false
        rw [← HQ.out]
        have hN0 := HN0.out
        subst hk
        unfold aloneK restB
        simp [hN0, eBA, hS0]
      clear hk
      go_enter Tryd.func92, Tryd.ntmps92
      go_wp2_with fail
      go_ret
      exact ⟨by rw [HZ.out]; rfl, HB.out⟩
    · by_cases hg : Good n1 L
      · have hgb : goodB n1 L = true := (goodB_iff n1 L).2 hg
        by_cases h0 : c = 0
        · have kl : ((c : Int) == 0) = true := beq_iff_eq.2 (by omega)
          have HZ : Hid (q = true) := by
            show q = true
            rw [← HQ.out]
            have hN0 := HN0.out
            subst hk
            unfold aloneK restB
            simp [hN0, eBA, hS0, hgb, h0]
          clear hk h0 hgb
          go_enter Tryd.func92, Tryd.ntmps92
          go_wp2_with fail
          refine (rcheck_yes n1 _ L _ (HL.out.below HB.out) hg).mono ?_
          rintro e w1 ⟨rfl, b1⟩
          have u1 := HT.out.under b1
          obtain ⟨a0, a1, a2, a3, a4, a5⟩ := u1.cells
          have hb := HB.out.trans (b1.mono HB.out.size)
          clear b1 u1
          go_wp2_with fail
          go_ret
          exact ⟨by rw [HZ.out]; rfl, hb⟩
        · have kl : ((c : Int) == 0) = false := beq_eq_false_iff_ne.2 (by omega)
          have HZ : Hid (q = false) := by
            show q = false
            rw [← HQ.out]
            have hN0 := HN0.out
            subst hk
            unfold aloneK restB
            simp [hN0, eBA, hS0, hgb, h0]
          clear hk h0 hgb
          go_enter Tryd.func92, Tryd.ntmps92
          go_wp2_with fail
          refine (rcheck_yes n1 _ L _ (HL.out.below HB.out) hg).mono ?_
          rintro e w1 ⟨rfl, b1⟩
          have u1 := HT.out.under b1
          obtain ⟨a0, a1, a2, a3, a4, a5⟩ := u1.cells
          have hb := HB.out.trans (b1.mono HB.out.size)
          clear b1 u1
          go_wp2_with fail
          go_ret
          exact ⟨by rw [HZ.out]; rfl, hb⟩
      · have hgb : goodB n1 L = false := by cases h : goodB n1 L with | false => rfl | true => exact absurd ((goodB_iff n1 L).1 h) hg
        have HZ : Hid (q = false) := by
          show q = false
          rw [← HQ.out]
          have hN0 := HN0.out
          subst hk
          unfold aloneK restB
          simp [hN0, eBA, hS0, hgb]
        clear hk hgb
        go_enter Tryd.func92, Tryd.ntmps92
        go_wp2_with fail
        refine (rcheck_no n1 _ L _ (HL.out.below HB.out) hg).mono ?_
        rintro e w1 ⟨rfl, b1⟩
        have u1 := HT.out.under b1
        obtain ⟨a0, a1, a2, a3, a4, a5⟩ := u1.cells
        have hb := HB.out.trans (b1.mono HB.out.size)
        clear b1 u1
        go_wp2_with fail
        go_ret
        exact ⟨by rw [HZ.out]; rfl, hb⟩

set_option maxRecDepth 100000 in
set_option maxHeartbeats 4000000 in
theorem rfx_2 (k : Int) (n1 : Bool) (L : List Int) (S1 : ByteArray) (N1 : Int) (c : Nat) (pl pk : Option Addr) (cl ck : Nat) (w : World) (hL : Sl w (.slice pl L.length cl) L) (hS : (S1.size : Int) ≤ 140737488355328) (hN : N1 = 0) (hk : k = 2) :
    Calls Tryd.prog 92 #[.agg #[.int .i64 k, .bool n1, .slice pl L.length cl, .string S1, .int .i64 N1, .slice pk c ck]] w fun e w' => RFx w (aloneK k n1 L S1 N1 c) e w' := by
  obtain ⟨q, hq⟩ : ∃ q, aloneK k n1 L S1 N1 c = q := ⟨_, rfl⟩
  have HQ : Hid (aloneK k n1 L S1 N1 c = q) := hq
  rw [hq]
  clear hq
  have HB : Hid (Below w.heap.size w (w.alloc (.cells #[.int .i64 k, .bool n1, .slice pl L.length cl, .string S1, .int .i64 N1, .slice pk c ck] 29))) := (Below.refl w.heap.size w).alloc (Nat.le_refl _) _
  have HT : Hid (Bt (w.alloc (.cells #[.int .i64 k, .bool n1, .slice pl L.length cl, .string S1, .int .i64 N1, .slice pk c ck] 29)) w.heap.size k n1 (.slice pl L.length cl) S1 N1 (.slice pk c ck)) := Bt.new w k n1 (.slice pl L.length cl) S1 N1 (.slice pk c ck) ⟨_, _, _, rfl⟩ ⟨_, _, _, rfl⟩
  have HL : Hid (Sl w (.slice pl L.length cl) L) := hL
  clear hL
  have HN0 : Hid (N1 = 0) := hN
  have hn1 : (N1 == 0) = true := by simp [hN]
  have hn2 : (N1 != 0) = false := by simp [hN]
  clear hN
  have f1 : (k == 1) = false := by simp; omega
  have g1 : (k != 1) = true := by simp; omega
  have f2 : (k == 2) = true := by simp [hk]
  have g2 : (k != 2) = false := by simp [hk]
  have f3 : (k == 3) = false := by simp; omega
  have g3 : (k != 3) = true := by simp; omega
  have f4 : (k == 4) = false := by simp; omega
  have g4 : (k != 4) = true := by simp; omega
  have f5 : (k == 5) = false := by simp; omega
  have g5 : (k != 5) = true := by simp; omega
  have f6 : (k == 6) = false := by simp; omega
  have g6 : (k != 6) = true := by simp; omega
  by_cases hl : L.length = 0
  · have ll : ((L.length : Int) == 0) = true := beq_iff_eq.2 (by omega)
    have HLL : Hid (L.length = 0) := hl
    clear hl
    cases n1 with
    | false =>
      have HNA : Hid (q = (nameB S1 && decide (c = 0))) := by
        show q = _
        rw [← HQ.out]
        have hN0 := HN0.out
        have hl0 := HLL.out
        subst hk
        unfold aloneK restB
        simp [hN0, hl0, eBA]
      clear hk
      go_enter Tryd.func92, Tryd.ntmps92
      go_wp2_with fail
      go_loop [4] (fun i => ∃ j : Nat, j ≤ S1.size ∧ i = .int .i64 j ∧ (S1.data.toList.take j).all signB = true) (fun i => S1.size - (intOf i).toNat)
      case atStart => exact ⟨0, Nat.zero_le _, rfl, by simp⟩
      case round =>
        obtain ⟨j, hj, rfl, hall⟩ := hrel
        have HA : Hid ((S1.data.toList.take j).all signB = true) := hall
        clear hall
        by_cases hlt : j < S1.size
        · have hlt' : (j : Int) < (S1.size : Int) := by omega
          have hget : S1.data.toList[j]? = some S1[j] := Lib.data_getElem? S1 j hlt
          have hidx : ∀ wx, (Instr.index 9 (.string S1) (.int .i64 (j : Int))).run Tryd.prog wx = .ok (.int .u8 ((S1[j].toNat : Nat) : Int)) wx := fun wx => by
            rw [run_index_string _ _ _ _ _ Tryd.underlying9]
            simp [hlt]
          have HM : Hid (S1.data.toList.take (j + 1) = S1.data.toList.take j ++ [S1[j]]) := by show _ = _; rw [List.take_add_one, hget]; rfl
          have HBD : Hid (((S1[j].toNat : Nat) : Int) < 33 ∨ 126 < ((S1[j].toNat : Nat) : Int) → q = false) := fun h => by
            have h4 : S1.data.toList.all signB = false := by
              rw [Bool.eq_false_iff]
              intro h2
              have h3 := List.all_eq_true.1 h2 S1[j] (List.mem_of_getElem? hget)
              simp [signB] at h3
              omega
            rw [HNA.out, nameB, h4]; simp
          have HC : Hid (33 ≤ ((S1[j].toNat : Nat) : Int) → ((S1[j].toNat : Nat) : Int) ≤ 126 → (S1.data.toList.take (j + 1)).all signB = true) := fun h3 h4 => by
            rw [HM.out, List.all_append, HA.out]
            simp [signB]
            omega
          generalize ((S1[j].toNat : Nat) : Int) = cb at hidx HBD HC
          clear hget HM
          by_cases hb1 : cb < 33
          · have HZ : Hid (q = false) := HBD.out (Or.inl hb1)
            go_wp2_with fail
            go_ret
            exact ⟨by rw [HZ.out]; rfl, HB.out⟩
          · by_cases hb2 : 126 < cb
            · have HZ : Hid (q = false) := HBD.out (Or.inr hb2)
              go_wp2_with fail
              go_ret
              exact ⟨by rw [HZ.out]; rfl, HB.out⟩
            · have HD : Hid ((S1.data.toList.take (j + 1)).all signB = true) := HC.out (by omega) (by omega)
              go_wp2_with fail
              go_round
              case measure => simp [intOf]; omega
              case rel => exact ⟨j + 1, by omega, by go_num, HD.out⟩
        · obtain rfl : j = S1.size := by omega
          have HAL : Hid (S1.data.toList.all signB = true) := by
            have h := HA.out
            rw [List.take_of_length_le (by rw [← Lib.size_eq]; exact Nat.le_refl _)] at h
            exact h
          by_cases h1 : (1 : Int) ≤ (S1.size : Int)
          · by_cases h2 : (S1.size : Int) ≤ 40
            · by_cases h0 : c = 0
              · have kl : ((c : Int) == 0) = true := beq_iff_eq.2 (by omega)
                have HZ : Hid (q = true) := by
                  show q = true
                  rw [HNA.out, nameB, HAL.out]
                  simp [h0]
                  try omega
                clear h0
                go_wp2_with fail
                go_ret
                exact ⟨by rw [HZ.out]; rfl, HB.out⟩
              · have kl : ((c : Int) == 0) = false := beq_eq_false_iff_ne.2 (by omega)
                have HZ : Hid (q = false) := by
                  show q = false
                  rw [HNA.out, nameB, HAL.out]
                  simp [h0]
                  try omega
                clear h0
                go_wp2_with fail
                go_ret
                exact ⟨by rw [HZ.out]; rfl, HB.out⟩
            · have HZ : Hid (q = false) := by
                show q = false
                rw [HNA.out, nameB, HAL.out]
                simp []
                try omega
              go_wp2_with fail
              go_ret
              exact ⟨by rw [HZ.out]; rfl, HB.out⟩
          · have HZ : Hid (q = false) := by
              show q = false
              rw [HNA.out, nameB, HAL.out]
              simp []
              try omega
            go_wp2_with fail
            go_ret
            exact ⟨by rw [HZ.out]; rfl, HB.out⟩
    | true =>
      have HZ : Hid (q = false) := by
        show q = false
        rw [← HQ.out]
        have hN0 := HN0.out
        have hl0 := HLL.out
        subst hk
        unfold aloneK restB
        simp [hN0, eBA, hl0]
      clear hk
      go_enter Tryd.func92, Tryd.ntmps92
      go_wp2_with fail
      go_ret
      exact ⟨by rw [HZ.out]; rfl, HB.out⟩
  · have ll : ((L.length : Int) == 0) = false := beq_eq_false_iff_ne.2 (by omega)
    have HLL : Hid (¬ L.length = 0) := hl
    clear hl
    have HZ : Hid (q = false) := by
      show q = false
      rw [← HQ.out]
      have hN0 := HN0.out
      have hl0 := HLL.out
      subst hk
      unfold aloneK restB
      simp [hN0, eBA, hl0]
    clear hk
    go_enter Tryd.func92, Tryd.ntmps92
    go_wp2_with fail
    go_ret
    exact ⟨by rw [HZ.out]; rfl, HB.out⟩

set_option maxRecDepth 100000 in
set_option maxHeartbeats 4000000 in
theorem rfx_3 (k : Int) (n1 : Bool) (L : List Int) (S1 : ByteArray) (N1 : Int) (c : Nat) (pl pk : Option Addr) (cl ck : Nat) (w : World) (hL : Sl w (.slice pl L.length cl) L) (hS : (S1.size : Int) ≤ 140737488355328) (hN : N1 = 0) (hk : k = 3) :
    Calls Tryd.prog 92 #[.agg #[.int .i64 k, .bool n1, .slice pl L.length cl, .string S1, .int .i64 N1, .slice pk c ck]] w fun e w' => RFx w (aloneK k n1 L S1 N1 c) e w' := by
  obtain ⟨q, hq⟩ : ∃ q, aloneK k n1 L S1 N1 c = q := ⟨_, rfl⟩
  have HQ : Hid (aloneK k n1 L S1 N1 c = q) := hq
  rw [hq]
  clear hq
  have HB : Hid (Below w.heap.size w (w.alloc (.cells #[.int .i64 k, .bool n1, .slice pl L.length cl, .string S1, .int .i64 N1, .slice pk c ck] 29))) := (Below.refl w.heap.size w).alloc (Nat.le_refl _) _
  have HT : Hid (Bt (w.alloc (.cells #[.int .i64 k, .bool n1, .slice pl L.length cl, .string S1, .int .i64 N1, .slice pk c ck] 29)) w.heap.size k n1 (.slice pl L.length cl) S1 N1 (.slice pk c ck)) := Bt.new w k n1 (.slice pl L.length cl) S1 N1 (.slice pk c ck) ⟨_, _, _, rfl⟩ ⟨_, _, _, rfl⟩
  have HL : Hid (Sl w (.slice pl L.length cl) L) := hL
  clear hL
  have HN0 : Hid (N1 = 0) := hN
  have hn1 : (N1 == 0) = true := by simp [hN]
  have hn2 : (N1 != 0) = false := by simp [hN]
  clear hN
  have f1 : (k == 1) = false := by simp; omega
  have g1 : (k != 1) = true := by simp; omega
  have f2 : (k == 2) = false := by simp; omega
  have g2 : (k != 2) = true := by simp; omega
  have f3 : (k == 3) = true := by simp [hk]
  have g3 : (k != 3) = false := by simp [hk]
  have f4 : (k == 4) = false := by simp; omega
  have g4 : (k != 4) = true := by simp; omega
  have f5 : (k == 5) = false := by simp; omega
  have g5 : (k != 5) = true := by simp; omega
  have f6 : (k == 6) = false := by simp; omega
  have g6 : (k != 6) = true := by simp; omega
  by_cases hl : L.length = 0
  · have ll : ((L.length : Int) == 0) = true := beq_iff_eq.2 (by omega)
    have HLL : Hid (L.length = 0) := hl
    clear hl
    cases n1 with
    | false =>
      cases hS0 : S1.toList.isEmpty
      · have HZ : Hid (q = false) := by
          show q = false
          rw [← HQ.out]
          have hN0 := HN0.out
          have hl0 := HLL.out
          subst hk
          unfold aloneK restB
          simp [hN0, eBA, hl0, hS0]
        clear hk
        go_enter Tryd.func92, Tryd.ntmps92
        go_wp2_with fail
        go_ret
        exact ⟨by rw [HZ.out]; rfl, HB.out⟩
      · by_cases h0 : c = 0
        · have kl : ((c : Int) == 0) = true := beq_iff_eq.2 (by omega)
          have HZ : Hid (q = true) := by
            show q = true
            rw [← HQ.out]
            have hN0 := HN0.out
            have hl0 := HLL.out
            subst hk
            unfold aloneK restB
            simp [hN0, eBA, hl0, hS0, h0]
          clear hk h0
          go_enter Tryd.func92, Tryd.ntmps92
          go_wp2_with fail
          go_ret
          exact ⟨by rw [HZ.out]; rfl, HB.out⟩
        · have kl : ((c : Int) == 0) = false := beq_eq_false_iff_ne.2 (by omega)
          have HZ : Hid (q = false) := by
            show q = false
            rw [← HQ.out]
            have hN0 := HN0.out
            have hl0 := HLL.out
            subst hk
            unfold aloneK restB
            simp [hN0, eBA, hl0, hS0, h0]
          clear hk h0
          go_enter Tryd.func92, Tryd.ntmps92
          go_wp2_with fail
          go_ret
          exact ⟨by rw [HZ.out]; rfl, HB.out⟩
    | true =>
      have HZ : Hid (q = false) := by
        show q = false
        rw [← HQ.out]
        have hN0 := HN0.out
        have hl0 := HLL.out
        subst hk
        unfold aloneK restB
        simp [hN0, eBA, hl0]
      clear hk
      go_enter Tryd.func92, Tryd.ntmps92
      go_wp2_with fail
      go_ret
      exact ⟨by rw [HZ.out]; rfl, HB.out⟩
  · have ll : ((L.length : Int) == 0) = false := beq_eq_false_iff_ne.2 (by omega)
    have HLL : Hid (¬ L.length = 0) := hl
    clear hl
    have HZ : Hid (q = false) := by
      show q = false
      rw [← HQ.out]
      have hN0 := HN0.out
      have hl0 := HLL.out
      subst hk
      unfold aloneK restB
      simp [hN0, eBA, hl0]
    clear hk
    go_enter Tryd.func92, Tryd.ntmps92
    go_wp2_with fail
    go_ret
    exact ⟨by rw [HZ.out]; rfl, HB.out⟩

set_option maxRecDepth 100000 in
set_option maxHeartbeats 4000000 in
theorem rfx_4 (k : Int) (n1 : Bool) (L : List Int) (S1 : ByteArray) (N1 : Int) (c : Nat) (pl pk : Option Addr) (cl ck : Nat) (w : World) (hL : Sl w (.slice pl L.length cl) L) (hS : (S1.size : Int) ≤ 140737488355328) (hN : N1 = 0) (hk : k = 4) :
    Calls Tryd.prog 92 #[.agg #[.int .i64 k, .bool n1, .slice pl L.length cl, .string S1, .int .i64 N1, .slice pk c ck]] w fun e w' => RFx w (aloneK k n1 L S1 N1 c) e w' := by
  obtain ⟨q, hq⟩ : ∃ q, aloneK k n1 L S1 N1 c = q := ⟨_, rfl⟩
  have HQ : Hid (aloneK k n1 L S1 N1 c = q) := hq
  rw [hq]
  clear hq
  have HB : Hid (Below w.heap.size w (w.alloc (.cells #[.int .i64 k, .bool n1, .slice pl L.length cl, .string S1, .int .i64 N1, .slice pk c ck] 29))) := (Below.refl w.heap.size w).alloc (Nat.le_refl _) _
  have HT : Hid (Bt (w.alloc (.cells #[.int .i64 k, .bool n1, .slice pl L.length cl, .string S1, .int .i64 N1, .slice pk c ck] 29)) w.heap.size k n1 (.slice pl L.length cl) S1 N1 (.slice pk c ck)) := Bt.new w k n1 (.slice pl L.length cl) S1 N1 (.slice pk c ck) ⟨_, _, _, rfl⟩ ⟨_, _, _, rfl⟩
  have HL : Hid (Sl w (.slice pl L.length cl) L) := hL
  clear hL
  have HN0 : Hid (N1 = 0) := hN
  have hn1 : (N1 == 0) = true := by simp [hN]
  have hn2 : (N1 != 0) = false := by simp [hN]
  clear hN
  have f1 : (k == 1) = false := by simp; omega
  have g1 : (k != 1) = true := by simp; omega
  have f2 : (k == 2) = false := by simp; omega
  have g2 : (k != 2) = true := by simp; omega
  have f3 : (k == 3) = false := by simp; omega
  have g3 : (k != 3) = true := by simp; omega
  have f4 : (k == 4) = true := by simp [hk]
  have g4 : (k != 4) = false := by simp [hk]
  have f5 : (k == 5) = false := by simp; omega
  have g5 : (k != 5) = true := by simp; omega
  have f6 : (k == 6) = false := by simp; omega
  have g6 : (k != 6) = true := by simp; omega
  by_cases hl : L.length = 0
  · have ll : ((L.length : Int) == 0) = true := beq_iff_eq.2 (by omega)
    have HLL : Hid (L.length = 0) := hl
    clear hl
    cases n1 with
    | false =>
      cases hS0 : S1.toList.isEmpty
      · have HZ : Hid (q = false) := by
          show q = false
          rw [← HQ.out]
          have hN0 := HN0.out
          have hl0 := HLL.out
          subst hk
          unfold aloneK restB
          simp [hN0, eBA, hl0, hS0]
        clear hk
        go_enter Tryd.func92, Tryd.ntmps92
        go_wp2_with fail
        go_ret
        exact ⟨by rw [HZ.out]; rfl, HB.out⟩
      · by_cases h0 : c = 2
        · have kl : ((c : Int) == 2) = true := beq_iff_eq.2 (by omega)
          have HZ : Hid (q = true) := by
            show q = true
            rw [← HQ.out]
            have hN0 := HN0.out
            have hl0 := HLL.out
            subst hk
            unfold aloneK restB
            simp [hN0, eBA, hl0, hS0, h0]
          clear hk h0
          go_enter Tryd.func92, Tryd.ntmps92
          go_wp2_with fail
          go_ret
          exact ⟨by rw [HZ.out]; rfl, HB.out⟩
        · have kl : ((c : Int) == 2) = false := beq_eq_false_iff_ne.2 (by omega)
          have HZ : Hid (q = false) := by
            show q = false
            rw [← HQ.out]
            have hN0 := HN0.out
            have hl0 := HLL.out
            subst hk
            unfold aloneK restB
            simp [hN0, eBA, hl0, hS0, h0]
          clear hk h0
          go_enter Tryd.func92, Tryd.ntmps92
          go_wp2_with fail
          go_ret
          exact ⟨by rw [HZ.out]; rfl, HB.out⟩
    | true =>
      have HZ : Hid (q = false) := by
        show q = false
        rw [← HQ.out]
        have hN0 := HN0.out
        have hl0 := HLL.out
        subst hk
        unfold aloneK restB
        simp [hN0, eBA, hl0]
      clear hk
      go_enter Tryd.func92, Tryd.ntmps92
      go_wp2_with fail
      go_ret
      exact ⟨by rw [HZ.out]; rfl, HB.out⟩
  · have ll : ((L.length : Int) == 0) = false := beq_eq_false_iff_ne.2 (by omega)
    have HLL : Hid (¬ L.length = 0) := hl
    clear hl
    have HZ : Hid (q = false) := by
      show q = false
      rw [← HQ.out]
      have hN0 := HN0.out
      have hl0 := HLL.out
      subst hk
      unfold aloneK restB
      simp [hN0, eBA, hl0]
    clear hk
    go_enter Tryd.func92, Tryd.ntmps92
    go_wp2_with fail
    go_ret
    exact ⟨by rw [HZ.out]; rfl, HB.out⟩

set_option maxRecDepth 100000 in
set_option maxHeartbeats 4000000 in
theorem rfx_5 (k : Int) (n1 : Bool) (L : List Int) (S1 : ByteArray) (N1 : Int) (c : Nat) (pl pk : Option Addr) (cl ck : Nat) (w : World) (hL : Sl w (.slice pl L.length cl) L) (hS : (S1.size : Int) ≤ 140737488355328) (hN : N1 = 0) (hk : k = 5) :
    Calls Tryd.prog 92 #[.agg #[.int .i64 k, .bool n1, .slice pl L.length cl, .string S1, .int .i64 N1, .slice pk c ck]] w fun e w' => RFx w (aloneK k n1 L S1 N1 c) e w' := by
  obtain ⟨q, hq⟩ : ∃ q, aloneK k n1 L S1 N1 c = q := ⟨_, rfl⟩
  have HQ : Hid (aloneK k n1 L S1 N1 c = q) := hq
  rw [hq]
  clear hq
  have HB : Hid (Below w.heap.size w (w.alloc (.cells #[.int .i64 k, .bool n1, .slice pl L.length cl, .string S1, .int .i64 N1, .slice pk c ck] 29))) := (Below.refl w.heap.size w).alloc (Nat.le_refl _) _
  have HT : Hid (Bt (w.alloc (.cells #[.int .i64 k, .bool n1, .slice pl L.length cl, .string S1, .int .i64 N1, .slice pk c ck] 29)) w.heap.size k n1 (.slice pl L.length cl) S1 N1 (.slice pk c ck)) := Bt.new w k n1 (.slice pl L.length cl) S1 N1 (.slice pk c ck) ⟨_, _, _, rfl⟩ ⟨_, _, _, rfl⟩
  have HL : Hid (Sl w (.slice pl L.length cl) L) := hL
  clear hL
  have HN0 : Hid (N1 = 0) := hN
  have hn1 : (N1 == 0) = true := by simp [hN]
  have hn2 : (N1 != 0) = false := by simp [hN]
  clear hN
  have f1 : (k == 1) = false := by simp; omega
  have g1 : (k != 1) = true := by simp; omega
  have f2 : (k == 2) = false := by simp; omega
  have g2 : (k != 2) = true := by simp; omega
  have f3 : (k == 3) = false := by simp; omega
  have g3 : (k != 3) = true := by simp; omega
  have f4 : (k == 4) = false := by simp; omega
  have g4 : (k != 4) = true := by simp; omega
  have f5 : (k == 5) = true := by simp [hk]
  have g5 : (k != 5) = false := by simp [hk]
  have f6 : (k == 6) = false := by simp; omega
  have g6 : (k != 6) = true := by simp; omega
  by_cases hl : L.length = 0
  · have ll : ((L.length : Int) == 0) = true := beq_iff_eq.2 (by omega)
    have HLL : Hid (L.length = 0) := hl
    clear hl
    cases n1 with
    | false =>
      cases hS0 : S1.toList.isEmpty
      · have HZ : Hid (q = false) := by
          show q = false
          rw [← HQ.out]
          have hN0 := HN0.out
          have hl0 := HLL.out
          subst hk
          unfold aloneK restB
          simp [hN0, eBA, hl0, hS0]
        clear hk
        go_enter Tryd.func92, Tryd.ntmps92
        go_wp2_with fail
        go_ret
        exact ⟨by rw [HZ.out]; rfl, HB.out⟩
      · by_cases h0 : (c : Int) ≤ 40
        · have h0n : c ≤ 40 := by omega
          have HZ : Hid (q = true) := by
            show q = true
            rw [← HQ.out]
            have hN0 := HN0.out
            have hl0 := HLL.out
            subst hk
            unfold aloneK restB
            simp [hN0, eBA, hl0, hS0, h0n]
          clear hk
          go_enter Tryd.func92, Tryd.ntmps92
          go_wp2_with fail
          go_ret
          exact ⟨by rw [HZ.out]; rfl, HB.out⟩
        · have h0n : ¬ c ≤ 40 := by omega
          have HZ : Hid (q = false) := by
            show q = false
            rw [← HQ.out]
            have hN0 := HN0.out
            have hl0 := HLL.out
            subst hk
            unfold aloneK restB
            simp [hN0, eBA, hl0, hS0, h0n]
          clear hk
          go_enter Tryd.func92, Tryd.ntmps92
          go_wp2_with fail
          go_ret
          exact ⟨by rw [HZ.out]; rfl, HB.out⟩
    | true =>
      have HZ : Hid (q = false) := by
        show q = false
        rw [← HQ.out]
        have hN0 := HN0.out
        have hl0 := HLL.out
        subst hk
        unfold aloneK restB
        simp [hN0, eBA, hl0]
      clear hk
      go_enter Tryd.func92, Tryd.ntmps92
      go_wp2_with fail
      go_ret
      exact ⟨by rw [HZ.out]; rfl, HB.out⟩
  · have ll : ((L.length : Int) == 0) = false := beq_eq_false_iff_ne.2 (by omega)
    have HLL : Hid (¬ L.length = 0) := hl
    clear hl
    have HZ : Hid (q = false) := by
      show q = false
      rw [← HQ.out]
      have hN0 := HN0.out
      have hl0 := HLL.out
      subst hk
      unfold aloneK restB
      simp [hN0, eBA, hl0]
    clear hk
    go_enter Tryd.func92, Tryd.ntmps92
    go_wp2_with fail
    go_ret
    exact ⟨by rw [HZ.out]; rfl, HB.out⟩

set_option maxRecDepth 100000 in
set_option maxHeartbeats 4000000 in
theorem rfx_6 (k : Int) (n1 : Bool) (L : List Int) (S1 : ByteArray) (N1 : Int) (c : Nat) (pl pk : Option Addr) (cl ck : Nat) (w : World) (hL : Sl w (.slice pl L.length cl) L) (hS : (S1.size : Int) ≤ 140737488355328) (hN : N1 = 0) (hk : k = 6) :
    Calls Tryd.prog 92 #[.agg #[.int .i64 k, .bool n1, .slice pl L.length cl, .string S1, .int .i64 N1, .slice pk c ck]] w fun e w' => RFx w (aloneK k n1 L S1 N1 c) e w' := by
  obtain ⟨q, hq⟩ : ∃ q, aloneK k n1 L S1 N1 c = q := ⟨_, rfl⟩
  have HQ : Hid (aloneK k n1 L S1 N1 c = q) := hq
  rw [hq]
  clear hq
  have HB : Hid (Below w.heap.size w (w.alloc (.cells #[.int .i64 k, .bool n1, .slice pl L.length cl, .string S1, .int .i64 N1, .slice pk c ck] 29))) := (Below.refl w.heap.size w).alloc (Nat.le_refl _) _
  have HT : Hid (Bt (w.alloc (.cells #[.int .i64 k, .bool n1, .slice pl L.length cl, .string S1, .int .i64 N1, .slice pk c ck] 29)) w.heap.size k n1 (.slice pl L.length cl) S1 N1 (.slice pk c ck)) := Bt.new w k n1 (.slice pl L.length cl) S1 N1 (.slice pk c ck) ⟨_, _, _, rfl⟩ ⟨_, _, _, rfl⟩
  have HL : Hid (Sl w (.slice pl L.length cl) L) := hL
  clear hL
  have HN0 : Hid (N1 = 0) := hN
  have hn1 : (N1 == 0) = true := by simp [hN]
  have hn2 : (N1 != 0) = false := by simp [hN]
  clear hN
  have f1 : (k == 1) = false := by simp; omega
  have g1 : (k != 1) = true := by simp; omega
  have f2 : (k == 2) = false := by simp; omega
  have g2 : (k != 2) = true := by simp; omega
  have f3 : (k == 3) = false := by simp; omega
  have g3 : (k != 3) = true := by simp; omega
  have f4 : (k == 4) = false := by simp; omega
  have g4 : (k != 4) = true := by simp; omega
  have f5 : (k == 5) = false := by simp; omega
  have g5 : (k != 5) = true := by simp; omega
  have f6 : (k == 6) = true := by simp [hk]
  have g6 : (k != 6) = false := by simp [hk]
  by_cases hl : L.length = 0
  · have ll : ((L.length : Int) == 0) = true := beq_iff_eq.2 (by omega)
    have HLL : Hid (L.length = 0) := hl
    clear hl
    cases n1 with
    | false =>
      by_cases hz : (S1.size : Int) ≤ 400
      · have hzn : S1.size ≤ 400 := by omega
        by_cases h0 : c = 0
        · have kl : ((c : Int) == 0) = true := beq_iff_eq.2 (by omega)
          have HZ : Hid (q = true) := by
            show q = true
            rw [← HQ.out]
            have hN0 := HN0.out
            have hl0 := HLL.out
            subst hk
            unfold aloneK restB
            simp [hN0, eBA, hl0, h0, hzn]
          clear hk h0
          go_enter Tryd.func92, Tryd.ntmps92
          go_wp2_with fail
          go_ret
          exact ⟨by rw [HZ.out]; rfl, HB.out⟩
        · have kl : ((c : Int) == 0) = false := beq_eq_false_iff_ne.2 (by omega)
          have HZ : Hid (q = false) := by
            show q = false
            rw [← HQ.out]
            have hN0 := HN0.out
            have hl0 := HLL.out
            subst hk
            unfold aloneK restB
            simp [hN0, eBA, hl0, h0, hzn]
          clear hk h0
          go_enter Tryd.func92, Tryd.ntmps92
          go_wp2_with fail
          go_ret
          exact ⟨by rw [HZ.out]; rfl, HB.out⟩
      · have hzn : ¬ S1.size ≤ 400 := by omega
        have HZ : Hid (q = false) := by
          show q = false
          rw [← HQ.out]
          have hN0 := HN0.out
          have hl0 := HLL.out
          subst hk
          unfold aloneK restB
          simp [hN0, eBA, hl0, hzn]
        clear hk
        go_enter Tryd.func92, Tryd.ntmps92
        go_wp2_with fail
        go_ret
        exact ⟨by rw [HZ.out]; rfl, HB.out⟩
    | true =>
      have HZ : Hid (q = false) := by
        show q = false
        rw [← HQ.out]
        have hN0 := HN0.out
        have hl0 := HLL.out
        subst hk
        unfold aloneK restB
        simp [hN0, eBA, hl0]
      clear hk
      go_enter Tryd.func92, Tryd.ntmps92
      go_wp2_with fail
      go_ret
      exact ⟨by rw [HZ.out]; rfl, HB.out⟩
  · have ll : ((L.length : Int) == 0) = false := beq_eq_false_iff_ne.2 (by omega)
    have HLL : Hid (¬ L.length = 0) := hl
    clear hl
    have HZ : Hid (q = false) := by
      show q = false
      rw [← HQ.out]
      have hN0 := HN0.out
      have hl0 := HLL.out
      subst hk
      unfold aloneK restB
      simp [hN0, eBA, hl0]
    clear hk
    go_enter Tryd.func92, Tryd.ntmps92
    go_wp2_with fail
    go_ret
    exact ⟨by rw [HZ.out]; rfl, HB.out⟩

set_option maxRecDepth 100000 in
set_option maxHeartbeats 4000000 in
theorem rfx_n (k : Int) (n1 : Bool) (L : List Int) (S1 : ByteArray) (N1 : Int) (c : Nat) (pl pk : Option Addr) (cl ck : Nat) (w : World) (hL : Sl w (.slice pl L.length cl) L) (hS : (S1.size : Int) ≤ 140737488355328) (hN : ¬ N1 = 0) :
    Calls Tryd.prog 92 #[.agg #[.int .i64 k, .bool n1, .slice pl L.length cl, .string S1, .int .i64 N1, .slice pk c ck]] w fun e w' => RFx w (aloneK k n1 L S1 N1 c) e w' := by
  obtain ⟨q, hq⟩ : ∃ q, aloneK k n1 L S1 N1 c = q := ⟨_, rfl⟩
  have HQ : Hid (aloneK k n1 L S1 N1 c = q) := hq
  rw [hq]
  clear hq
  have HB : Hid (Below w.heap.size w (w.alloc (.cells #[.int .i64 k, .bool n1, .slice pl L.length cl, .string S1, .int .i64 N1, .slice pk c ck] 29))) := (Below.refl w.heap.size w).alloc (Nat.le_refl _) _
  have HT : Hid (Bt (w.alloc (.cells #[.int .i64 k, .bool n1, .slice pl L.length cl, .string S1, .int .i64 N1, .slice pk c ck] 29)) w.heap.size k n1 (.slice pl L.length cl) S1 N1 (.slice pk c ck)) := Bt.new w k n1 (.slice pl L.length cl) S1 N1 (.slice pk c ck) ⟨_, _, _, rfl⟩ ⟨_, _, _, rfl⟩
  have HL : Hid (Sl w (.slice pl L.length cl) L) := hL
  clear hL
  have HN0 : Hid (¬ N1 = 0) := hN
  have hn1 : (N1 == 0) = false := by simp [hN]
  have hn2 : (N1 != 0) = true := by simp [hN]
  clear hN
  have HZ : Hid (q = false) := by
    show q = false
    rw [← HQ.out]
    have hN0 := HN0.out
    unfold aloneK restB
    simp [hN0]
  by_cases hl : L.length = 0
  · have ll : ((L.length : Int) == 0) = true := beq_iff_eq.2 (by omega)
    clear hl
    cases n1 with
    | false =>
      go_enter Tryd.func92, Tryd.ntmps92
      go_wp2_with fail
      go_ret
      exact ⟨by rw [HZ.out]; rfl, HB.out⟩
    | true =>
      go_enter Tryd.func92, Tryd.ntmps92
      go_wp2_with fail
      go_ret
      exact ⟨by rw [HZ.out]; rfl, HB.out⟩
  · have ll : ((L.length : Int) == 0) = false := beq_eq_false_iff_ne.2 (by omega)
    clear hl
    go_enter Tryd.func92, Tryd.ntmps92
    go_wp2_with fail
    go_ret
    exact ⟨by rw [HZ.out]; rfl, HB.out⟩

theorem rfx_raw (k : Int) (n1 : Bool) (L : List Int) (S1 : ByteArray) (N1 : Int) (c : Nat) (pl pk : Option Addr) (cl ck : Nat) (w : World) (hL : Sl w (.slice pl L.length cl) L) (hS : (S1.size : Int) ≤ 140737488355328) :
    Calls Tryd.prog 92 #[.agg #[.int .i64 k, .bool n1, .slice pl L.length cl, .string S1, .int .i64 N1, .slice pk c ck]] w fun e w' => RFx w (aloneK k n1 L S1 N1 c) e w' := by
  by_cases hN : N1 = 0
  · by_cases h1 : k = 1
    · exact rfx_1 k n1 L S1 N1 c pl pk cl ck w hL hS hN h1
    by_cases h2 : k = 2
    · exact rfx_2 k n1 L S1 N1 c pl pk cl ck w hL hS hN h2
    by_cases h3 : k = 3
    · exact rfx_3 k n1 L S1 N1 c pl pk cl ck w hL hS hN h3
    by_cases h4 : k = 4
    · exact rfx_4 k n1 L S1 N1 c pl pk cl ck w hL hS hN h4
    by_cases h5 : k = 5
    · exact rfx_5 k n1 L S1 N1 c pl pk cl ck w hL hS hN h5
    by_cases h6 : k = 6
    · exact rfx_6 k n1 L S1 N1 c pl pk cl ck w hL hS hN h6
    exact rfx_0 k n1 L S1 N1 c pl pk cl ck w hL hS hN ⟨h1, h2, h3, h4, h5, h6⟩
  · exact rfx_n k n1 L S1 N1 c pl pk cl ck w hL hS hN
end Go.Proofs.YtbmondbicnfcpaaDoor
