
/-
  term.alike: whether what plays a part in terms of a kind is the same.
-/
import Derived.Test.YtfcdocgjmgpmkaaDoorZTermG
namespace Go.Proofs.YtfcdocgjmgpmkaaDoor
open Go.RowKit
set_option linter.unusedVariables false
set_option linter.unusedSimpArgs false

def alikeR (k : Int) (n1 n2 : Bool) (L1 L2 : List Int) (S1 S2 : ByteArray) (N1 N2 : Int) (c1 c2 : Nat) : Bool :=
  if k = 1 then decide (n1 = n2) && decide (L1 = L2)
  else if k = 2 ∨ k = 6 then decide (S1.toList = S2.toList)
  else if k = 7 then decide (N1 = N2) && decide (c1 = c2)
  else if k = 4 ∨ k = 5 then decide (c1 = c2)
  else if k = 8 then decide (S1.toList = S2.toList) && decide (N1 = N2)
  else if k = 9 then decide (N1 = N2)
  else true

set_option maxRecDepth 100000 in
set_option maxHeartbeats 8000000 in
theorem alike_raw (k k2 : Int) (n1 n2 : Bool) (L1 L2 : List Int) (S1 S2 : ByteArray) (N1 N2 : Int) (c1 c2 : Nat) (pl1 pl2 pk1 pk2 : Option Addr) (cl1 cl2 ck1 ck2 : Nat) (w : World)
    (h1 : Sl w (.slice pl1 L1.length cl1) L1) (h2 : Sl w (.slice pl2 L2.length cl2) L2) :
    Calls Tryd.prog 45 #[.agg #[.int .i64 k, .bool n1, .slice pl1 L1.length cl1, .string S1, .int .i64 N1, .slice pk1 c1 ck1], .agg #[.int .i64 k2, .bool n2, .slice pl2 L2.length cl2, .string S2, .int .i64 N2, .slice pk2 c2 ck2]] w fun e w' => e = .returned (.bool (alikeR k n1 n2 L1 L2 S1 S2 N1 N2 c1 c2)) ∧ Below w.heap.size w w' := by
  obtain ⟨r, hr⟩ : ∃ r, alikeR k n1 n2 L1 L2 S1 S2 N1 N2 c1 c2 = r := ⟨_, rfl⟩
  have HR : Hid (alikeR k n1 n2 L1 L2 S1 S2 N1 N2 c1 c2 = r) := hr
  rw [hr]; clear hr
  by_cases k1 : k = 1
  · subst k1
    by_cases en : n1 = n2
    · subst en
      have HQ : Hid (r = decide (L1 = L2)) := by
        show r = _
        rw [← HR.out]
        simp [alikeR]
      clear HR
      have HB : Hid (Below w.heap.size w ((w.alloc (.cells #[.int .i64 1, .bool n1, .slice pl1 L1.length cl1, .string S1, .int .i64 N1, .slice pk1 c1 ck1] 27)).alloc (.cells #[.int .i64 k2, .bool n1, .slice pl2 L2.length cl2, .string S2, .int .i64 N2, .slice pk2 c2 ck2] 27))) := ((Below.refl w.heap.size w).alloc (Nat.le_refl _) _).alloc (by simp) _
      have u1 : Hid (Sl ((w.alloc (.cells #[.int .i64 1, .bool n1, .slice pl1 L1.length cl1, .string S1, .int .i64 N1, .slice pk1 c1 ck1] 27)).alloc (.cells #[.int .i64 k2, .bool n1, .slice pl2 L2.length cl2, .string S2, .int .i64 N2, .slice pk2 c2 ck2] 27)) (.slice pl1 L1.length cl1) L1) := h1.below HB.out
      have u2 : Hid (Sl ((w.alloc (.cells #[.int .i64 1, .bool n1, .slice pl1 L1.length cl1, .string S1, .int .i64 N1, .slice pk1 c1 ck1] 27)).alloc (.cells #[.int .i64 k2, .bool n1, .slice pl2 L2.length cl2, .string S2, .int .i64 N2, .slice pk2 c2 ck2] 27)) (.slice pl2 L2.length cl2) L2) := h2.below HB.out
      have fn : (n1 == n1) = true := by simp
      clear h1 h2
      go_enter Tryd.func45, Tryd.ntmps45
      go_wp2_with fail
      refine (equal_any _ _ L1 L2 _ u1.out u2.out).mono ?_
      rw [← HQ.out]
      rintro e w1 ⟨rfl, b1⟩
      have hbb := HB.out.trans (b1.mono HB.out.size)
      clear HB u1 u2 HQ b1
      go_wp2_with fail
      go_ret
      exact ⟨rfl, hbb⟩
    · have fn : (n1 == n2) = false := by simp [en]
      have HQ : Hid (r = false) := by
        show r = _
        rw [← HR.out]
        simp [alikeR, en]
      clear HR
      have HB : Hid (Below w.heap.size w ((w.alloc (.cells #[.int .i64 1, .bool n1, .slice pl1 L1.length cl1, .string S1, .int .i64 N1, .slice pk1 c1 ck1] 27)).alloc (.cells #[.int .i64 k2, .bool n2, .slice pl2 L2.length cl2, .string S2, .int .i64 N2, .slice pk2 c2 ck2] 27))) := ((Below.refl w.heap.size w).alloc (Nat.le_refl _) _).alloc (by simp) _
      go_enter Tryd.func45, Tryd.ntmps45
      go_wp2_with fail
      go_ret
      exact ⟨by rw [HQ.out]; rfl, HB.out⟩
  · by_cases k2e : k = 2
    · subst k2e
      by_cases eS : S1.toList = S2.toList
      · have fS : (S1.toList == S2.toList) = true := by simp [eS]
        have gS : (S1.toList != S2.toList) = false := by simp [eS]
        have HQ : Hid (r = true) := by
          show r = _
          rw [← HR.out]
          simp [alikeR, eS]
        clear HR eS
        have HB : Hid (Below w.heap.size w ((w.alloc (.cells #[.int .i64 2, .bool n1, .slice pl1 L1.length cl1, .string S1, .int .i64 N1, .slice pk1 c1 ck1] 27)).alloc (.cells #[.int .i64 k2, .bool n2, .slice pl2 L2.length cl2, .string S2, .int .i64 N2, .slice pk2 c2 ck2] 27))) := ((Below.refl w.heap.size w).alloc (Nat.le_refl _) _).alloc (by simp) _
        go_enter Tryd.func45, Tryd.ntmps45
        go_wp2_with fail
        go_ret
        exact ⟨by rw [HQ.out]; rfl, HB.out⟩
      · have fS : (S1.toList == S2.toList) = false := by simp [eS]
        have gS : (S1.toList != S2.toList) = true := by simp [eS]
        have HQ : Hid (r = false) := by
          show r = _
          rw [← HR.out]
          simp [alikeR, eS]
        clear HR eS
        have HB : Hid (Below w.heap.size w ((w.alloc (.cells #[.int .i64 2, .bool n1, .slice pl1 L1.length cl1, .string S1, .int .i64 N1, .slice pk1 c1 ck1] 27)).alloc (.cells #[.int .i64 k2, .bool n2, .slice pl2 L2.length cl2, .string S2, .int .i64 N2, .slice pk2 c2 ck2] 27))) := ((Below.refl w.heap.size w).alloc (Nat.le_refl _) _).alloc (by simp) _
        go_enter Tryd.func45, Tryd.ntmps45
        go_wp2_with fail
        go_ret
        exact ⟨by rw [HQ.out]; rfl, HB.out⟩
    · by_cases k6 : k = 6
      · subst k6
        by_cases eS : S1.toList = S2.toList
        · have fS : (S1.toList == S2.toList) = true := by simp [eS]
          have gS : (S1.toList != S2.toList) = false := by simp [eS]
          have HQ : Hid (r = true) := by
            show r = _
            rw [← HR.out]
            simp [alikeR, eS]
          clear HR eS
          have HB : Hid (Below w.heap.size w ((w.alloc (.cells #[.int .i64 6, .bool n1, .slice pl1 L1.length cl1, .string S1, .int .i64 N1, .slice pk1 c1 ck1] 27)).alloc (.cells #[.int .i64 k2, .bool n2, .slice pl2 L2.length cl2, .string S2, .int .i64 N2, .slice pk2 c2 ck2] 27))) := ((Below.refl w.heap.size w).alloc (Nat.le_refl _) _).alloc (by simp) _
          go_enter Tryd.func45, Tryd.ntmps45
          go_wp2_with fail
          go_ret
          exact ⟨by rw [HQ.out]; rfl, HB.out⟩
        · have fS : (S1.toList == S2.toList) = false := by simp [eS]
          have gS : (S1.toList != S2.toList) = true := by simp [eS]
          have HQ : Hid (r = false) := by
            show r = _
            rw [← HR.out]
            simp [alikeR, eS]
          clear HR eS
          have HB : Hid (Below w.heap.size w ((w.alloc (.cells #[.int .i64 6, .bool n1, .slice pl1 L1.length cl1, .string S1, .int .i64 N1, .slice pk1 c1 ck1] 27)).alloc (.cells #[.int .i64 k2, .bool n2, .slice pl2 L2.length cl2, .string S2, .int .i64 N2, .slice pk2 c2 ck2] 27))) := ((Below.refl w.heap.size w).alloc (Nat.le_refl _) _).alloc (by simp) _
          go_enter Tryd.func45, Tryd.ntmps45
          go_wp2_with fail
          go_ret
          exact ⟨by rw [HQ.out]; rfl, HB.out⟩
      · by_cases k7 : k = 7
        · subst k7
          by_cases eN : N1 = N2
          · by_cases ec : c1 = c2
            · have fN : (N1 == N2) = true := by simp [eN]
              have gN : (N1 != N2) = false := by simp [eN]
              have fc : ((c1 : Int) == (c2 : Int)) = true := by simp [ec]
              have gc : ((c1 : Int) != (c2 : Int)) = false := by simp [ec]
              have HQ : Hid (r = true) := by
                show r = _
                rw [← HR.out]
                simp [alikeR, eN, ec]
              clear HR eN ec
              have HB : Hid (Below w.heap.size w ((w.alloc (.cells #[.int .i64 7, .bool n1, .slice pl1 L1.length cl1, .string S1, .int .i64 N1, .slice pk1 c1 ck1] 27)).alloc (.cells #[.int .i64 k2, .bool n2, .slice pl2 L2.length cl2, .string S2, .int .i64 N2, .slice pk2 c2 ck2] 27))) := ((Below.refl w.heap.size w).alloc (Nat.le_refl _) _).alloc (by simp) _
              go_enter Tryd.func45, Tryd.ntmps45
              go_wp2_with fail
              go_ret
              exact ⟨by rw [HQ.out]; rfl, HB.out⟩
            · have fN : (N1 == N2) = true := by simp [eN]
              have gN : (N1 != N2) = false := by simp [eN]
              have fc : ((c1 : Int) == (c2 : Int)) = false := by simp; omega
              have gc : ((c1 : Int) != (c2 : Int)) = true := by simp; omega
              have HQ : Hid (r = false) := by
                show r = _
                rw [← HR.out]
                simp [alikeR, eN, ec]
              clear HR eN ec
              have HB : Hid (Below w.heap.size w ((w.alloc (.cells #[.int .i64 7, .bool n1, .slice pl1 L1.length cl1, .string S1, .int .i64 N1, .slice pk1 c1 ck1] 27)).alloc (.cells #[.int .i64 k2, .bool n2, .slice pl2 L2.length cl2, .string S2, .int .i64 N2, .slice pk2 c2 ck2] 27))) := ((Below.refl w.heap.size w).alloc (Nat.le_refl _) _).alloc (by simp) _
              go_enter Tryd.func45, Tryd.ntmps45
              go_wp2_with fail
              go_ret
              exact ⟨by rw [HQ.out]; rfl, HB.out⟩
          · have fN : (N1 == N2) = false := by simp; omega
            have gN : (N1 != N2) = true := by simp; omega
            have HQ : Hid (r = false) := by
              show r = _
              rw [← HR.out]
              simp [alikeR, eN]
            clear HR eN
            have HB : Hid (Below w.heap.size w ((w.alloc (.cells #[.int .i64 7, .bool n1, .slice pl1 L1.length cl1, .string S1, .int .i64 N1, .slice pk1 c1 ck1] 27)).alloc (.cells #[.int .i64 k2, .bool n2, .slice pl2 L2.length cl2, .string S2, .int .i64 N2, .slice pk2 c2 ck2] 27))) := ((Below.refl w.heap.size w).alloc (Nat.le_refl _) _).alloc (by simp) _
            go_enter Tryd.func45, Tryd.ntmps45
            go_wp2_with fail
            go_ret
            exact ⟨by rw [HQ.out]; rfl, HB.out⟩
        · by_cases k4 : k = 4
          · subst k4
            by_cases ec : c1 = c2
            · have fc : ((c1 : Int) == (c2 : Int)) = true := by simp [ec]
              have gc : ((c1 : Int) != (c2 : Int)) = false := by simp [ec]
              have HQ : Hid (r = true) := by
                show r = _
                rw [← HR.out]
                simp [alikeR, ec]
              clear HR ec
              have HB : Hid (Below w.heap.size w ((w.alloc (.cells #[.int .i64 4, .bool n1, .slice pl1 L1.length cl1, .string S1, .int .i64 N1, .slice pk1 c1 ck1] 27)).alloc (.cells #[.int .i64 k2, .bool n2, .slice pl2 L2.length cl2, .string S2, .int .i64 N2, .slice pk2 c2 ck2] 27))) := ((Below.refl w.heap.size w).alloc (Nat.le_refl _) _).alloc (by simp) _
              go_enter Tryd.func45, Tryd.ntmps45
              go_wp2_with fail
              go_ret
              exact ⟨by rw [HQ.out]; rfl, HB.out⟩
            · have fc : ((c1 : Int) == (c2 : Int)) = false := by simp; omega
              have gc : ((c1 : Int) != (c2 : Int)) = true := by simp; omega
              have HQ : Hid (r = false) := by
                show r = _
                rw [← HR.out]
                simp [alikeR, ec]
              clear HR ec
              have HB : Hid (Below w.heap.size w ((w.alloc (.cells #[.int .i64 4, .bool n1, .slice pl1 L1.length cl1, .string S1, .int .i64 N1, .slice pk1 c1 ck1] 27)).alloc (.cells #[.int .i64 k2, .bool n2, .slice pl2 L2.length cl2, .string S2, .int .i64 N2, .slice pk2 c2 ck2] 27))) := ((Below.refl w.heap.size w).alloc (Nat.le_refl _) _).alloc (by simp) _
              go_enter Tryd.func45, Tryd.ntmps45
              go_wp2_with fail
              go_ret
              exact ⟨by rw [HQ.out]; rfl, HB.out⟩
          · by_cases k5 : k = 5
            · subst k5
              by_cases ec : c1 = c2
              · have fc : ((c1 : Int) == (c2 : Int)) = true := by simp [ec]
                have gc : ((c1 : Int) != (c2 : Int)) = false := by simp [ec]
                have HQ : Hid (r = true) := by
                  show r = _
                  rw [← HR.out]
                  simp [alikeR, ec]
                clear HR ec
                have HB : Hid (Below w.heap.size w ((w.alloc (.cells #[.int .i64 5, .bool n1, .slice pl1 L1.length cl1, .string S1, .int .i64 N1, .slice pk1 c1 ck1] 27)).alloc (.cells #[.int .i64 k2, .bool n2, .slice pl2 L2.length cl2, .string S2, .int .i64 N2, .slice pk2 c2 ck2] 27))) := ((Below.refl w.heap.size w).alloc (Nat.le_refl _) _).alloc (by simp) _
                go_enter Tryd.func45, Tryd.ntmps45
                go_wp2_with fail
                go_ret
                exact ⟨by rw [HQ.out]; rfl, HB.out⟩
              · have fc : ((c1 : Int) == (c2 : Int)) = false := by simp; omega
                have gc : ((c1 : Int) != (c2 : Int)) = true := by simp; omega
                have HQ : Hid (r = false) := by
                  show r = _
                  rw [← HR.out]
                  simp [alikeR, ec]
                clear HR ec
                have HB : Hid (Below w.heap.size w ((w.alloc (.cells #[.int .i64 5, .bool n1, .slice pl1 L1.length cl1, .string S1, .int .i64 N1, .slice pk1 c1 ck1] 27)).alloc (.cells #[.int .i64 k2, .bool n2, .slice pl2 L2.length cl2, .string S2, .int .i64 N2, .slice pk2 c2 ck2] 27))) := ((Below.refl w.heap.size w).alloc (Nat.le_refl _) _).alloc (by simp) _
                go_enter Tryd.func45, Tryd.ntmps45
                go_wp2_with fail
                go_ret
                exact ⟨by rw [HQ.out]; rfl, HB.out⟩
            · by_cases k8 : k = 8
              · subst k8
                by_cases eS : S1.toList = S2.toList
                · by_cases eN : N1 = N2
                  · have fS : (S1.toList == S2.toList) = true := by simp [eS]
                    have gS : (S1.toList != S2.toList) = false := by simp [eS]
                    have fN : (N1 == N2) = true := by simp [eN]
                    have gN : (N1 != N2) = false := by simp [eN]
                    have HQ : Hid (r = true) := by
                      show r = _
                      rw [← HR.out]
                      simp [alikeR, eS, eN]
                    clear HR eS eN
                    have HB : Hid (Below w.heap.size w ((w.alloc (.cells #[.int .i64 8, .bool n1, .slice pl1 L1.length cl1, .string S1, .int .i64 N1, .slice pk1 c1 ck1] 27)).alloc (.cells #[.int .i64 k2, .bool n2, .slice pl2 L2.length cl2, .string S2, .int .i64 N2, .slice pk2 c2 ck2] 27))) := ((Below.refl w.heap.size w).alloc (Nat.le_refl _) _).alloc (by simp) _
                    go_enter Tryd.func45, Tryd.ntmps45
                    go_wp2_with fail
                    go_ret
                    exact ⟨by rw [HQ.out]; rfl, HB.out⟩
                  · have fS : (S1.toList == S2.toList) = true := by simp [eS]
                    have gS : (S1.toList != S2.toList) = false := by simp [eS]
                    have fN : (N1 == N2) = false := by simp; omega
                    have gN : (N1 != N2) = true := by simp; omega
                    have HQ : Hid (r = false) := by
                      show r = _
                      rw [← HR.out]
                      simp [alikeR, eS, eN]
                    clear HR eS eN
                    have HB : Hid (Below w.heap.size w ((w.alloc (.cells #[.int .i64 8, .bool n1, .slice pl1 L1.length cl1, .string S1, .int .i64 N1, .slice pk1 c1 ck1] 27)).alloc (.cells #[.int .i64 k2, .bool n2, .slice pl2 L2.length cl2, .string S2, .int .i64 N2, .slice pk2 c2 ck2] 27))) := ((Below.refl w.heap.size w).alloc (Nat.le_refl _) _).alloc (by simp) _
                    go_enter Tryd.func45, Tryd.ntmps45
                    go_wp2_with fail
                    go_ret
                    exact ⟨by rw [HQ.out]; rfl, HB.out⟩
                · have fS : (S1.toList == S2.toList) = false := by simp [eS]
                  have gS : (S1.toList != S2.toList) = true := by simp [eS]
                  have HQ : Hid (r = false) := by
                    show r = _
                    rw [← HR.out]
                    simp [alikeR, eS]
                  clear HR eS
                  have HB : Hid (Below w.heap.size w ((w.alloc (.cells #[.int .i64 8, .bool n1, .slice pl1 L1.length cl1, .string S1, .int .i64 N1, .slice pk1 c1 ck1] 27)).alloc (.cells #[.int .i64 k2, .bool n2, .slice pl2 L2.length cl2, .string S2, .int .i64 N2, .slice pk2 c2 ck2] 27))) := ((Below.refl w.heap.size w).alloc (Nat.le_refl _) _).alloc (by simp) _
                  go_enter Tryd.func45, Tryd.ntmps45
                  go_wp2_with fail
                  go_ret
                  exact ⟨by rw [HQ.out]; rfl, HB.out⟩
              · by_cases k9 : k = 9
                · subst k9
                  by_cases eN : N1 = N2
                  · have fN : (N1 == N2) = true := by simp [eN]
                    have gN : (N1 != N2) = false := by simp [eN]
                    have HQ : Hid (r = true) := by
                      show r = _
                      rw [← HR.out]
                      simp [alikeR, eN]
                    clear HR eN
                    have HB : Hid (Below w.heap.size w ((w.alloc (.cells #[.int .i64 9, .bool n1, .slice pl1 L1.length cl1, .string S1, .int .i64 N1, .slice pk1 c1 ck1] 27)).alloc (.cells #[.int .i64 k2, .bool n2, .slice pl2 L2.length cl2, .string S2, .int .i64 N2, .slice pk2 c2 ck2] 27))) := ((Below.refl w.heap.size w).alloc (Nat.le_refl _) _).alloc (by simp) _
                    go_enter Tryd.func45, Tryd.ntmps45
                    go_wp2_with fail
                    go_ret
                    exact ⟨by rw [HQ.out]; rfl, HB.out⟩
                  · have fN : (N1 == N2) = false := by simp; omega
                    have gN : (N1 != N2) = true := by simp; omega
                    have HQ : Hid (r = false) := by
                      show r = _
                      rw [← HR.out]
                      simp [alikeR, eN]
                    clear HR eN
                    have HB : Hid (Below w.heap.size w ((w.alloc (.cells #[.int .i64 9, .bool n1, .slice pl1 L1.length cl1, .string S1, .int .i64 N1, .slice pk1 c1 ck1] 27)).alloc (.cells #[.int .i64 k2, .bool n2, .slice pl2 L2.length cl2, .string S2, .int .i64 N2, .slice pk2 c2 ck2] 27))) := ((Below.refl w.heap.size w).alloc (Nat.le_refl _) _).alloc (by simp) _
                    go_enter Tryd.func45, Tryd.ntmps45
                    go_wp2_with fail
                    go_ret
                    exact ⟨by rw [HQ.out]; rfl, HB.out⟩
                · have HQ : Hid (r = true) := by
                    show r = _
                    rw [← HR.out]
                    simp [alikeR, k1, k2e, k6, k7, k4, k5, k8, k9]
                  clear HR
                  have HB : Hid (Below w.heap.size w ((w.alloc (.cells #[.int .i64 k, .bool n1, .slice pl1 L1.length cl1, .string S1, .int .i64 N1, .slice pk1 c1 ck1] 27)).alloc (.cells #[.int .i64 k2, .bool n2, .slice pl2 L2.length cl2, .string S2, .int .i64 N2, .slice pk2 c2 ck2] 27))) := ((Below.refl w.heap.size w).alloc (Nat.le_refl _) _).alloc (by simp) _
                  go_enter Tryd.func45, Tryd.ntmps45
                  go_wp2_with fail
                  go_ret
                  exact ⟨by rw [HQ.out]; rfl, HB.out⟩
end Go.Proofs.YtfcdocgjmgpmkaaDoor
