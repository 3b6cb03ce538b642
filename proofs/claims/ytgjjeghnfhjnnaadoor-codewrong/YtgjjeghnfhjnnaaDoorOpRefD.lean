
/-
  relictref07.Fits: just what the program's own says.
-/
import Derived.Test.YtgjjeghnfhjnnaaDoorOpRefC
import Derived.Test.YtgjjeghnfhjnnaaDoorNth
namespace Go.Proofs.YtgjjeghnfhjnnaaDoor
open Go.RowKit
set_option linter.unusedVariables false
set_option linter.unusedSimpArgs false

set_option maxRecDepth 100000 in
set_option maxHeartbeats 4000000 in
theorem rFits_any (op : Int) (K : List Ag) (v : Value) (w : World) (h : Gs w v K) : Calls Tryd.prog 30 #[.agg #[.int .i64 op, v]] w (RBool (fitsI op K) w) := by
  obtain ⟨p, cap, rfl, hc1, hc2, hc3⟩ := h.shape
  have HG : Hid (Gs w (.slice p K.length cap) K) := h
  clear h
  obtain ⟨r, hr⟩ : ∃ r, fitsI op K = r := ⟨_, rfl⟩
  have HR : Hid (fitsI op K = r) := hr
  rw [hr]; clear hr
  have HSG : Hid (∀ W, Calls Tryd.prog 33 #[.int .i64 op] W fun e w' => e = .returned (strV (sigS op)) ∧ Below W.heap.size W w') := fun W => rsig_any op W
  have HB : Hid (Below w.heap.size w (w.alloc (.cells #[.int .i64 op, .slice p K.length cap] 43))) := box_below _ _ _
  have HX : Hid (BxI (w.alloc (.cells #[.int .i64 op, .slice p K.length cap] 43)) w.heap.size op (.slice p K.length cap)) := BxI.new w op _
  have hsl := sig_len op
  obtain ⟨M, hM⟩ : ∃ M, M = (sigS op).length := ⟨_, rfl⟩
  rw [← hM] at hsl
  have hs : (⟨(sigS op).toArray⟩ : ByteArray).size = M := by rw [hM]; simp [ByteArray.size]
  have HIX : Hid (∀ k, k < M → ∀ wx, (Instr.index 9 (.string ⟨(sigS op).toArray⟩) (.int .i64 (k : Int))).run Tryd.prog wx = .ok (.int .u8 (letA op k)) wx) := fun k hk wx => str_index (sigS op) k (by omega) wx
  have HLI : Hid (∀ k, k < M → isLet (letA op k)) := fun k hk => let_is (by omega)
  have HF : Hid (r = (decide (1 ≤ op ∧ op ≤ 51) && decide (K.length = M) && (List.range K.length).all (fun k => fitA (letA op k) (K.getD k zA)))) := by
    unfold Hid
    rw [← HR.out, hM]
    rfl
  unfold strV at HSG
  generalize (⟨(sigS op).toArray⟩ : ByteArray) = s at *
  have hsi : (s.size : Int) = (M : Int) := by omega
  clear HR hM
  by_cases ho1 : op < 1
  · have HF' : Hid (r = false) := by unfold Hid; rw [HF.out, decide_eq_false (by omega)]; simp
    clear HF HIX HLI hc1 hc3 hsi
    go_enter Tryd.func30, Tryd.ntmps30
    go_wp2_with fail
    refine (HSG.out _).mono ?_
    rintro e w2 ⟨rfl, b2⟩
    have HB2 : Hid (Below w.heap.size w w2) := HB.out.trans (b2.mono HB.out.size)
    obtain ⟨x0, x1, x2⟩ := (HX.out.under b2).facts
    clear b2 HB HX
    go_wp2_with fail
    go_ret
    exact ⟨by rw [HF'.out]; rfl, HB2.out⟩
  by_cases ho2 : 51 < op
  · have HF' : Hid (r = false) := by unfold Hid; rw [HF.out, decide_eq_false (by omega)]; simp
    clear HF HIX HLI hc1 hc3 hsi
    go_enter Tryd.func30, Tryd.ntmps30
    go_wp2_with fail
    refine (HSG.out _).mono ?_
    rintro e w2 ⟨rfl, b2⟩
    have HB2 : Hid (Below w.heap.size w w2) := HB.out.trans (b2.mono HB.out.size)
    obtain ⟨x0, x1, x2⟩ := (HX.out.under b2).facts
    clear b2 HB HX
    go_wp2_with fail
    go_ret
    exact ⟨by rw [HF'.out]; rfl, HB2.out⟩
  by_cases hl : K.length = M
  case neg =>
    have HF' : Hid (r = false) := by unfold Hid; rw [HF.out]; simp [hl]
    have hne : ((K.length : Int) != (s.size : Int)) = true := by simp; omega
    clear HF HIX HLI hc1 hc3 hsi hs hl
    go_enter Tryd.func30, Tryd.ntmps30
    go_wp2_with fail
    refine (HSG.out _).mono ?_
    rintro e w2 ⟨rfl, b2⟩
    have HB2 : Hid (Below w.heap.size w w2) := HB.out.trans (b2.mono HB.out.size)
    obtain ⟨x0, x1, x2⟩ := (HX.out.under b2).facts
    clear b2 HB HX
    go_wp2_with fail
    go_ret
    exact ⟨by rw [HF'.out]; rfl, HB2.out⟩
  case pos =>
  have hne : ((K.length : Int) != (s.size : Int)) = false := by simp; omega
  have HF2 : Hid (r = (List.range K.length).all (fun k => fitA (letA op k) (K.getD k zA))) := by unfold Hid; rw [HF.out, decide_eq_true (by omega), hl]; simp
  have HLM : Hid (K.length = M) := hl
  have HSI : Hid ((s.size : Int) = (M : Int)) := hsi
  clear HF hl hs hsi
  go_enter Tryd.func30, Tryd.ntmps30
  go_wp2_with fail
  refine (HSG.out _).mono ?_
  rintro e w1 ⟨rfl, b2⟩
  have HB1 : Hid (Below w.heap.size w w1) := HB.out.trans (b2.mono HB.out.size)
  have HX1 : Hid (BxI w1 w.heap.size op (.slice p K.length cap)) := HX.out.under b2
  obtain ⟨x0, x1, x2⟩ := HX1.out.facts
  clear b2 HB HX
  go_wp2_with fail
  clear HSG hne x0 x1 x2
  go_loopg [4] K.length (fun gk s4 wr => ∃ k : Nat, k + gk = K.length ∧ s4 = .int .i64 (k : Int) ∧ Hid (Below w1.heap.size w1 wr) ∧ Hid (∀ j, j < k → fitA (letA op j) (K.getD j zA) = true))
  case atStart => exact ⟨0, by omega, rfl, Below.refl _ _, fun j hj => absurd hj (by omega)⟩
  case round =>
    obtain ⟨k, hk, rfl, HBI, HA⟩ := hrel
    have HBR : Hid (Below w.heap.size w wr) := HB1.out.trans (HBI.out.mono HB1.out.size)
    have HXR : Hid (BxI wr w.heap.size op (.slice p K.length cap)) := HX1.out.under HBI.out
    cases gk with
    | zero =>
      have hkM : ¬ (k : Int) < (s.size : Int) := by have := HLM.out; have := HSI.out; omega
      have HT : Hid (r = true) := by
        unfold Hid
        rw [HF2.out, List.all_eq_true]
        intro j hj
        exact HA.out j (by have := List.mem_range.1 hj; omega)
      clear HA HF2
      go_wp2_with fail
      go_ret
      exact ⟨by rw [HT.out]; rfl, HBR.out⟩
    | succ g =>
      have hkl : k < K.length := by omega
      have hkm : k < M := by have := HLM.out; omega
      have hkM : (k : Int) < (s.size : Int) := by have := HSI.out; omega
      have hki : (k : Int) < (K.length : Int) := by omega
      have hkc : (k : Int) < (cap : Int) := by omega
      obtain ⟨b, off, ⟨xt, xn, xa, xm, xc⟩, rfl, hlt, ⟨a0, a1, a2⟩, hft, hx⟩ := (HG.out.under HBR.out).at k hkl
      unfold El.sl at a2
      dsimp only at a0 a1 a2
      have hgk : K.getD k zA = K[k] := by rw [List.getD_eq_getElem?_getD, List.getElem?_eq_getElem hkl]; rfl
      have hidx := HIX.out k hkm
      have HLK : Hid (isLet (letA op k)) := HLI.out k hkm
      obtain ⟨A, hA⟩ : ∃ A, K[k] = A := ⟨_, rfl⟩
      rw [hA] at hx hgk
      have HXG : Hid (IsG wr A (.agg #[.int .i64 xt, .int .i64 xn, .slice xa xm xc])) := hx
      have HC1 : Hid (∀ W, Below wr.heap.size wr W → Calls Tryd.prog 12 #[.agg #[.int .i64 xt, .int .i64 xn, .slice xa xm xc]] W (RBool (chkA A) W)) := fun W hW => rchk_tree A _ W (HXG.out.under hW)
      have HC2 : Hid (∀ W, Below wr.heap.size wr W → Calls Tryd.prog 50 #[.int .u8 (letA op k), .agg #[.int .i64 xt, .int .i64 xn, .slice xa xm xc]] W (RBool (rletA (letA op k) A) W)) := fun W hW => let_any _ HLK.out A _ W (HXG.out.under hW)
      have HQ : Hid ((chkA A && rletA (letA op k) A) = fitA (letA op k) (K.getD k zA)) := by unfold Hid; rw [hgk]; exact let_fit HLK.out A
      have HNO : Hid (fitA (letA op k) (K.getD k zA) = false → r = false) := by
        intro hno
        rw [HF2.out]
        cases hr : (List.range K.length).all (fun k => fitA (letA op k) (K.getD k zA))
        · rfl
        · have := List.all_eq_true.1 hr k (List.mem_range.2 hkl)
          rw [hno] at this
          cases this
      have HCL : Hid (∀ W, Below wr.heap.size wr W → (W.cell? ⟨w.heap.size, 1, none⟩ = some (.slice (some ⟨b, off, none⟩) K.length cap)) ∧ W.cell? ⟨b, off + k * 3, none⟩ = some (.int .i64 xt) ∧ W.cell? ⟨b, off + k * 3 + 1, none⟩ = some (.int .i64 xn) ∧ W.cell? ⟨b, off + k * 3 + 2, none⟩ = some (.slice xa xm xc)) := fun W hW => by
        refine ⟨(HXR.out.under hW).facts.2.1, ?_, ?_, ?_⟩
        · rw [hW.cell (p := ⟨b, off + k * 3, none⟩) hlt]; exact a0
        · rw [hW.cell (p := ⟨b, off + k * 3 + 1, none⟩) hlt]; exact a1
        · rw [hW.cell (p := ⟨b, off + k * 3 + 2, none⟩) hlt]; exact a2
      obtain ⟨z0, z1, z2⟩ := HXR.out.facts
      obtain ⟨fq, hfq⟩ : ∃ fq, fitA (letA op k) (K.getD k zA) = fq := ⟨_, rfl⟩
      have HFQ : Hid (fitA (letA op k) (K.getD k zA) = fq) := hfq
      rw [hfq] at HQ HNO
      clear hfq
      obtain ⟨c, hc⟩ : ∃ c, letA op k = c := ⟨_, rfl⟩
      rw [hc] at hidx HC2 HQ
      clear hc
      generalize rletA c A = q2 at *
      generalize chkA A = q1 at *
      clear hx hft hgk hA
      cases q1
      · have HF' : Hid (r = false) := HNO.out (by rw [← HQ.out]; rfl)
        clear HF2 HA HQ HNO HC2
        go_wp2_with fail
        refine wp_region_noPanic ?_
        refine wp_region_held_drew (S := (fun W' => (W'.cell? ⟨w.heap.size, 1, none⟩ = some (.slice (some ⟨b, off, none⟩) K.length cap)) ∧ W'.cell? ⟨b, off + k * 3, none⟩ = some (.int .i64 xt) ∧ W'.cell? ⟨b, off + k * 3 + 1, none⟩ = some (.int .i64 xn) ∧ W'.cell? ⟨b, off + k * 3 + 2, none⟩ = some (.slice xa xm xc))) (by kernel_rfl) ?_ (fun hHeld => ?_)
        exact HCL.out _ ((Below.refl _ _).drew)
        refine wpAnyH_take (i := 0) (v := ?tv0) (opNth_ops rfl) (by kernel_rfl) (by kernel_rfl) (by kernel_rfl) (fun _ _ _ h => h) (Or.inl ⟨by rfl, ?ty0⟩) (by assumption) ?tr0
        case ty0 =>
          intro wq hSq
          go_simp
          try with_reducible rfl
        try simp only [Act.put, List.setIfInBounds_toArray, List.set_cons_zero, List.set_cons_succ]
        refine wpAnyH_take (i := 1) (v := ?tv1) (opNth_ops rfl) (by kernel_rfl) (by kernel_rfl) (by kernel_rfl) (fun _ _ _ h => h) (Or.inl ⟨by rfl, ?ty1⟩) (by assumption) ?tr1
        case ty1 =>
          intro wq hSq
          go_simp
          try with_reducible rfl
        try simp only [Act.put, List.setIfInBounds_toArray, List.set_cons_zero, List.set_cons_succ]
        refine wpAnyH_take (i := 2) (v := ?tv2) (opNth_ops rfl) (by kernel_rfl) (by kernel_rfl) (by kernel_rfl) (fun _ _ _ h => h) (Or.inl ⟨by rfl, ?ty2⟩) (by assumption) ?tr2
        case ty2 =>
          intro wq hSq
          go_simp
          try with_reducible rfl
        try simp only [Act.put, List.setIfInBounds_toArray, List.set_cons_zero, List.set_cons_succ]
        refine wpAnyH_take (i := 3) (v := ?tv3) (opNth_ops rfl) (by kernel_rfl) (by kernel_rfl) (by kernel_rfl) (fun _ _ _ h => h) (Or.inl ⟨by rfl, ?ty3⟩) (by assumption) ?tr3
        case ty3 =>
          intro wq hSq
          go_simp
          try with_reducible rfl
        try simp only [Act.put, List.setIfInBounds_toArray, List.set_cons_zero, List.set_cons_succ]
        refine wpAnyH_take (i := 4) (v := ?tv4) (opNth_ops rfl) (by kernel_rfl) (by kernel_rfl) (by kernel_rfl) (fun _ _ _ h => h) (Or.inl ⟨by rfl, ?ty4⟩) (by assumption) ?tr4
        case ty4 =>
          intro wq hSq
          go_simp
          try with_reducible rfl
        try simp only [Act.put, List.setIfInBounds_toArray, List.set_cons_zero, List.set_cons_succ]
        refine wpAnyH_ready (rs := [5]) (by kernel_rfl) (by simp) ?_
        refine AllReadyH.cons (opNth_ops rfl) (fun K hK => ?_) ?_
        rotate_left
        exact AllReadyH.nil
        go_simp
        go_at_call 12
        refine (HC1.out _ ((Below.refl _ _).drew)).mono ?_
        rintro e x1 ⟨rfl, bb1⟩
        have hq1 : Below wr.heap.size wr x1 := ((Below.refl _ _).drew).trans (bb1.mono (Nat.le_refl _))
        go_wp2_with fail
        refine hK.out _ _ ?_ (fun hHeld => ?_)
        exact HCL.out _ hq1
        clear hK K
        try simp only [Act.put, List.setIfInBounds_toArray, List.set_cons_zero, List.set_cons_succ]
        refine wpAnyH_take (i := 6) (v := ?tv6) (opNth_ops rfl) (by kernel_rfl) (by kernel_rfl) (by kernel_rfl) (fun _ _ _ h => h) (Or.inl ⟨by rfl, ?ty6⟩) (by assumption) ?tr6
        case ty6 =>
          intro wq hSq
          go_simp
          try with_reducible rfl
        try simp only [Act.put, List.setIfInBounds_toArray, List.set_cons_zero, List.set_cons_succ]
        refine wpAnyH_take (i := 7) (v := ?tv7) (opNth_ops rfl) (by kernel_rfl) (by kernel_rfl) (by kernel_rfl) (fun _ _ _ h => h) (Or.inl ⟨by rfl, ?ty7⟩) (by assumption) ?tr7
        case ty7 =>
          intro wq hSq
          go_simp
          try with_reducible rfl
        try simp only [Act.put, List.setIfInBounds_toArray, List.set_cons_zero, List.set_cons_succ]
        refine wpAnyH_take (i := 8) (v := undef) (opNth_ops rfl) (by kernel_rfl) (by kernel_rfl) (by kernel_rfl) (fun _ _ _ h => h) (Or.inr ⟨by rfl, rfl⟩) (by assumption) ?_
        try simp only [Act.put, List.setIfInBounds_toArray, List.set_cons_zero, List.set_cons_succ]
        refine wpAnyH_take (i := 9) (v := undef) (opNth_ops rfl) (by kernel_rfl) (by kernel_rfl) (by kernel_rfl) (fun _ _ _ h => h) (Or.inr ⟨by rfl, rfl⟩) (by assumption) ?_
        try simp only [Act.put, List.setIfInBounds_toArray, List.set_cons_zero, List.set_cons_succ]
        refine wpAnyH_take (i := 10) (v := undef) (opNth_ops rfl) (by kernel_rfl) (by kernel_rfl) (by kernel_rfl) (fun _ _ _ h => h) (Or.inr ⟨by rfl, rfl⟩) (by assumption) ?_
        try simp only [Act.put, List.setIfInBounds_toArray, List.set_cons_zero, List.set_cons_succ]
        refine wpAnyH_take (i := 11) (v := undef) (opNth_ops rfl) (by kernel_rfl) (by kernel_rfl) (by kernel_rfl) (fun _ _ _ h => h) (Or.inr ⟨by rfl, rfl⟩) (by assumption) ?_
        try simp only [Act.put, List.setIfInBounds_toArray, List.set_cons_zero, List.set_cons_succ]
        refine wpAnyH_take (i := 12) (v := undef) (opNth_ops rfl) (by kernel_rfl) (by kernel_rfl) (by kernel_rfl) (fun _ _ _ h => h) (Or.inr ⟨by rfl, rfl⟩) (by assumption) ?_
        try simp only [Act.put, List.setIfInBounds_toArray, List.set_cons_zero, List.set_cons_succ]
        refine wpAnyH_take (i := 13) (v := undef) (opNth_ops rfl) (by kernel_rfl) (by kernel_rfl) (by kernel_rfl) (fun _ _ _ h => h) (Or.inr ⟨by rfl, rfl⟩) (by assumption) ?_
        try simp only [Act.put, List.setIfInBounds_toArray, List.set_cons_zero, List.set_cons_succ]
        refine wpAnyH_take (i := 14) (v := undef) (opNth_ops rfl) (by kernel_rfl) (by kernel_rfl) (by kernel_rfl) (fun _ _ _ h => h) (Or.inr ⟨by rfl, rfl⟩) (by assumption) ?_
        try simp only [Act.put, List.setIfInBounds_toArray, List.set_cons_zero, List.set_cons_succ]
        refine wpAnyH_take (i := 15) (v := undef) (opNth_ops rfl) (by kernel_rfl) (by kernel_rfl) (by kernel_rfl) (fun _ _ _ h => h) (Or.inr ⟨by rfl, rfl⟩) (by assumption) ?_
        try simp only [Act.put, List.setIfInBounds_toArray, List.set_cons_zero, List.set_cons_succ]
        refine wpAnyH_take (i := 16) (v := undef) (opNth_ops rfl) (by kernel_rfl) (by kernel_rfl) (by kernel_rfl) (fun _ _ _ h => h) (Or.inr ⟨by rfl, rfl⟩) (by assumption) ?_
        try simp only [Act.put, List.setIfInBounds_toArray, List.set_cons_zero, List.set_cons_succ]
        refine wpAnyH_take (i := 17) (v := undef) (opNth_ops rfl) (by kernel_rfl) (by kernel_rfl) (by kernel_rfl) (fun _ _ _ h => h) (Or.inr ⟨by rfl, rfl⟩) (by assumption) ?_
        try simp only [Act.put, List.setIfInBounds_toArray, List.set_cons_zero, List.set_cons_succ]
        refine wpAnyH_take (i := 18) (v := ?tv18) (opNth_ops rfl) (by kernel_rfl) (by kernel_rfl) (by kernel_rfl) (fun _ _ _ h => h) (Or.inl ⟨by rfl, ?ty18⟩) (by assumption) ?tr18
        case ty18 =>
          intro wq hSq
          go_simp
          try with_reducible rfl
        try simp only [Act.put, List.setIfInBounds_toArray, List.set_cons_zero, List.set_cons_succ]
        refine wpAnyH_done (by kernel_rfl) ?_ _
        refine NoPanic.normal ?_
        have HBF : Hid (Below w.heap.size w x1) := HBR.out.trans (hq1.mono HBR.out.size)
        clear hq1 bb1
        go_wp2_with fail
        go_ret
        exact ⟨by rw [HF'.out]; rfl, HBF.out⟩
      · have HQ2 : Hid (q2 = fq) := HQ.out
        clear HQ
        go_wp2_with fail
        go_region_law (first
          | (go_simp; go_at_call 12; refine (HC1.out _ ((Below.refl _ _).drew)).mono ?_; rintro e x1 ⟨rfl, bb1⟩; have hq1 : Below wr.heap.size wr x1 := ((Below.refl _ _).drew).trans (bb1.mono (Nat.le_refl _)); obtain ⟨u0, u1, u2, u3⟩ := HCL.out _ hq1)
          | (go_simp; go_at_call 50; refine (HC2.out _ hq1).mono ?_; rintro e x2 ⟨rfl, bb2⟩; have hq2 : Below wr.heap.size wr x2 := hq1.trans (bb2.mono hq1.size)))
        all_goals
          have HBF : Hid (Below w.heap.size w x2) := HBR.out.trans (hq2.mono HBR.out.size)
          have HBI2 : Hid (Below w1.heap.size w1 x2) := HBI.out.trans (hq2.mono HBI.out.size)
          clear hq1 bb1 hq2 bb2 u0 u1 u2 u3
          cases q2
          · have HF' : Hid (r = false) := HNO.out HQ2.out.symm
            clear HF2 HA HQ2 HNO HC2
            go_wp2_with fail
            go_ret
            exact ⟨by rw [HF'.out]; rfl, HBF.out⟩
          · have HA2 : Hid (∀ j, j < k + 1 → fitA (letA op j) (K.getD j zA) = true) := by
              intro j hj
              rcases Nat.lt_or_ge j k with h | h
              · exact HA.out j h
              · obtain rfl : j = k := by omega
                exact HFQ.out.trans HQ2.out.symm
            clear HF2 HA HQ2 HNO HC2
            go_wp2_with fail
            go_roundg g
            case measure => omega
            case rel => exact ⟨k + 1, by omega, by go_num, HBI2.out, HA2⟩
end Go.Proofs.YtgjjeghnfhjnnaaDoor
