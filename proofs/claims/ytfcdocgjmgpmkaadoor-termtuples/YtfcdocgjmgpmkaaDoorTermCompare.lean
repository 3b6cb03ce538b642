
/-
  term.compare: the order of two terms as far as their own fields go, and how many parts they have.
-/
import Derived.Test.YtfcdocgjmgpmkaaDoorTermRank
import Derived.Test.YtfcdocgjmgpmkaaDoorZTermG
import Derived.Test.YtfcdocgjmgpmkaaDoorZNumA
namespace Go.Proofs.YtfcdocgjmgpmkaaDoor
open Go.RowKit
set_option linter.unusedVariables false
set_option linter.unusedSimpArgs false

def compareR (k1 k2 : Int) (n1 n2 : Bool) (L1 L2 : List Int) (S1 S2 : ByteArray) (N1 N2 : Int) (c1 c2 : Nat) : Int :=
  if sg (rankS k1) (rankS k2) ≠ 0 then sg (rankS k1) (rankS k2)
  else if k1 = 1 then sg (val n1 L1) (val n2 L2)
  else if k1 = 2 ∨ k1 = 6 then Lib.compareBytes S1.data.toList S2.data.toList
  else if k1 = 7 then (if N1 ≠ N2 then sg N1 N2 else sg c1 c2)
  else if k1 = 5 then sg c1 c2
  else if k1 = 8 then (if S1.toList ≠ S2.toList then Lib.compareBytes S1.data.toList S2.data.toList else sg N1 N2)
  else if k1 = 9 then sg N1 N2
  else 0

set_option maxRecDepth 100000 in
set_option maxHeartbeats 8000000 in
theorem compare_raw (k1 k2 : Int) (n1 n2 : Bool) (L1 L2 : List Int) (S1 S2 : ByteArray) (N1 N2 : Int) (c1 c2 : Nat) (pl1 pl2 pk1 pk2 : Option Addr) (cl1 cl2 ck1 ck2 : Nat) (w : World) (ho : Ord w)
    (h1 : Sl w (.slice pl1 L1.length cl1) L1) (h2 : Sl w (.slice pl2 L2.length cl2) L2) :
    Calls Tryd.prog 23 #[.agg #[.int .i64 k1, .bool n1, .slice pl1 L1.length cl1, .string S1, .int .i64 N1, .slice pk1 c1 ck1], .agg #[.int .i64 k2, .bool n2, .slice pl2 L2.length cl2, .string S2, .int .i64 N2, .slice pk2 c2 ck2]] w fun e w' => e = .returned (.int .i64 (compareR k1 k2 n1 n2 L1 L2 S1 S2 N1 N2 c1 c2)) ∧ Below w.heap.size w w' := by
  obtain ⟨r, hr⟩ : ∃ r, compareR k1 k2 n1 n2 L1 L2 S1 S2 N1 N2 c1 c2 = r := ⟨_, rfl⟩
  have HR : Hid (compareR k1 k2 n1 n2 L1 L2 S1 S2 N1 N2 c1 c2 = r) := hr
  rw [hr]; clear hr
  have HB0 : Hid (Below w.heap.size w ((w.alloc (.cells #[.int .i64 k1, .bool n1, .slice pl1 L1.length cl1, .string S1, .int .i64 N1, .slice pk1 c1 ck1] 27)).alloc (.cells #[.int .i64 k2, .bool n2, .slice pl2 L2.length cl2, .string S2, .int .i64 N2, .slice pk2 c2 ck2] 27))) := ((Below.refl w.heap.size w).alloc (Nat.le_refl _) _).alloc (by simp) _
  have HO0 : Hid (Ord ((w.alloc (.cells #[.int .i64 k1, .bool n1, .slice pl1 L1.length cl1, .string S1, .int .i64 N1, .slice pk1 c1 ck1] 27)).alloc (.cells #[.int .i64 k2, .bool n2, .slice pl2 L2.length cl2, .string S2, .int .i64 N2, .slice pk2 c2 ck2] 27))) := ho.under HB0.out
  have V1 : Hid (Sl ((w.alloc (.cells #[.int .i64 k1, .bool n1, .slice pl1 L1.length cl1, .string S1, .int .i64 N1, .slice pk1 c1 ck1] 27)).alloc (.cells #[.int .i64 k2, .bool n2, .slice pl2 L2.length cl2, .string S2, .int .i64 N2, .slice pk2 c2 ck2] 27)) (.slice pl1 L1.length cl1) L1) := h1.below HB0.out
  have V2 : Hid (Sl ((w.alloc (.cells #[.int .i64 k1, .bool n1, .slice pl1 L1.length cl1, .string S1, .int .i64 N1, .slice pk1 c1 ck1] 27)).alloc (.cells #[.int .i64 k2, .bool n2, .slice pl2 L2.length cl2, .string S2, .int .i64 N2, .slice pk2 c2 ck2] 27)) (.slice pl2 L2.length cl2) L2) := h2.below HB0.out
  have U2 : Hid (Bt ((w.alloc (.cells #[.int .i64 k1, .bool n1, .slice pl1 L1.length cl1, .string S1, .int .i64 N1, .slice pk1 c1 ck1] 27)).alloc (.cells #[.int .i64 k2, .bool n2, .slice pl2 L2.length cl2, .string S2, .int .i64 N2, .slice pk2 c2 ck2] 27)) (w.heap.size + 1) k2 n2 (.slice pl2 L2.length cl2) S2 N2 (.slice pk2 c2 ck2)) := by
    have this := Bt.new (w.alloc (.cells #[.int .i64 k1, .bool n1, .slice pl1 L1.length cl1, .string S1, .int .i64 N1, .slice pk1 c1 ck1] 27)) k2 n2 (.slice pl2 L2.length cl2) S2 N2 (.slice pk2 c2 ck2) ⟨_, _, _, rfl⟩ ⟨_, _, _, rfl⟩
    have e : (w.alloc (.cells #[.int .i64 k1, .bool n1, .slice pl1 L1.length cl1, .string S1, .int .i64 N1, .slice pk1 c1 ck1] 27)).heap.size = w.heap.size + 1 := by simp
    rw [e] at this
    exact this
  have U1 : Hid (Bt ((w.alloc (.cells #[.int .i64 k1, .bool n1, .slice pl1 L1.length cl1, .string S1, .int .i64 N1, .slice pk1 c1 ck1] 27)).alloc (.cells #[.int .i64 k2, .bool n2, .slice pl2 L2.length cl2, .string S2, .int .i64 N2, .slice pk2 c2 ck2] 27)) w.heap.size k1 n1 (.slice pl1 L1.length cl1) S1 N1 (.slice pk1 c1 ck1)) :=
    (Bt.new w k1 n1 (.slice pl1 L1.length cl1) S1 N1 (.slice pk1 c1 ck1) ⟨_, _, _, rfl⟩ ⟨_, _, _, rfl⟩).under ((Below.refl _ _).alloc (Nat.le_refl _) _)
  clear h1 h2 ho
  by_cases ez : sg (rankS k1) (rankS k2) = 0
  · by_cases q1 : k1 = 1
    · have fz : (sg (rankS k1) (rankS k2) != 0) = false := by simp [ez]
      have z1 : (k1 == 1) = true := by simp [q1]
      have HQ : Hid (r = sg (val n1 L1) (val n2 L2)) := by
        show r = _
        rw [← HR.out, compareR, if_neg (not_not_intro ez)]
        simp [q1]
      clear HR ez q1
      go_enter Tryd.func23, Tryd.ntmps23
      go_wp2_with fail
      generalize ((w.alloc (.cells #[.int .i64 k1, .bool n1, .slice pl1 L1.length cl1, .string S1, .int .i64 N1, .slice pk1 c1 ck1] 27)).alloc (.cells #[.int .i64 k2, .bool n2, .slice pl2 L2.length cl2, .string S2, .int .i64 N2, .slice pk2 c2 ck2] 27)) = W at *
      obtain ⟨a0, a1, a2, a3, a4, a5⟩ := U1.out.cells
      obtain ⟨b0, b1, b2, b3, b4, b5⟩ := U2.out.cells
      go_quiet (first | (go_at_call_of 42 (Value.int .i64 k1); exact Calls.quiet_of_same (rank_any _ _ (HO0.out.under (below_drewN (Below.refl _ _) _)))) | (go_at_call_of 42 (Value.int .i64 k2); exact Calls.quiet_of_same (rank_any _ _ (HO0.out.under (below_drewN (Below.refl _ _) _)))) | (go_at_call 41; exact Calls.quiet_of_same (compare_int _ _ _)))
      go_wp2_with fail
      refine (ncmp_any _ _ (val n1 L1) (val n2 L2) _ ⟨n1, L1, ⟨_, rfl, V1.out.below (below_drewN (Below.refl _ _) _)⟩, rfl⟩ ⟨n2, L2, ⟨_, rfl, V2.out.below (below_drewN (Below.refl _ _) _)⟩, rfl⟩).mono ?_
      rintro e w' ⟨rfl, bb⟩
      go_wp2_with fail
      go_ret
      exact ⟨by rw [HQ.out]; rfl, (below_drewN HB0.out _).trans (bb.mono (below_drewN HB0.out _).size)⟩
    by_cases q2 : k1 = 2
    · have fz : (sg (rankS k1) (rankS k2) != 0) = false := by simp [ez]
      have z1 : (k1 == 1) = false := by simp [q1]
      have z2 : (k1 == 2) = true := by simp [q2]
      have HQ : Hid (r = Lib.compareBytes S1.data.toList S2.data.toList) := by
        show r = _
        rw [← HR.out, compareR, if_neg (not_not_intro ez)]
        simp [q2]
      clear HR ez q2 q1
      go_enter Tryd.func23, Tryd.ntmps23
      go_wp2_with fail
      generalize ((w.alloc (.cells #[.int .i64 k1, .bool n1, .slice pl1 L1.length cl1, .string S1, .int .i64 N1, .slice pk1 c1 ck1] 27)).alloc (.cells #[.int .i64 k2, .bool n2, .slice pl2 L2.length cl2, .string S2, .int .i64 N2, .slice pk2 c2 ck2] 27)) = W at *
      obtain ⟨a0, a1, a2, a3, a4, a5⟩ := U1.out.cells
      obtain ⟨b0, b1, b2, b3, b4, b5⟩ := U2.out.cells
      go_quiet (first | (go_at_call_of 42 (Value.int .i64 k1); exact Calls.quiet_of_same (rank_any _ _ (HO0.out.under (below_drewN (Below.refl _ _) _)))) | (go_at_call_of 42 (Value.int .i64 k2); exact Calls.quiet_of_same (rank_any _ _ (HO0.out.under (below_drewN (Below.refl _ _) _)))) | (go_at_call 41; exact Calls.quiet_of_same (compare_int _ _ _)))
      go_wp2_with fail
      refine (cmpStr_any S1 S2 _).mono ?_
      rintro e w' ⟨rfl, rfl⟩
      go_wp2_with fail
      go_ret
      exact ⟨by rw [HQ.out]; rfl, below_drewN HB0.out _⟩
    by_cases q6 : k1 = 6
    · have fz : (sg (rankS k1) (rankS k2) != 0) = false := by simp [ez]
      have z1 : (k1 == 1) = false := by simp [q1]
      have z2 : (k1 == 2) = false := by simp [q2]
      have z6 : (k1 == 6) = true := by simp [q6]
      have HQ : Hid (r = Lib.compareBytes S1.data.toList S2.data.toList) := by
        show r = _
        rw [← HR.out, compareR, if_neg (not_not_intro ez)]
        simp [q6]
      clear HR ez q6 q1 q2
      go_enter Tryd.func23, Tryd.ntmps23
      go_wp2_with fail
      generalize ((w.alloc (.cells #[.int .i64 k1, .bool n1, .slice pl1 L1.length cl1, .string S1, .int .i64 N1, .slice pk1 c1 ck1] 27)).alloc (.cells #[.int .i64 k2, .bool n2, .slice pl2 L2.length cl2, .string S2, .int .i64 N2, .slice pk2 c2 ck2] 27)) = W at *
      obtain ⟨a0, a1, a2, a3, a4, a5⟩ := U1.out.cells
      obtain ⟨b0, b1, b2, b3, b4, b5⟩ := U2.out.cells
      go_quiet (first | (go_at_call_of 42 (Value.int .i64 k1); exact Calls.quiet_of_same (rank_any _ _ (HO0.out.under (below_drewN (Below.refl _ _) _)))) | (go_at_call_of 42 (Value.int .i64 k2); exact Calls.quiet_of_same (rank_any _ _ (HO0.out.under (below_drewN (Below.refl _ _) _)))) | (go_at_call 41; exact Calls.quiet_of_same (compare_int _ _ _)))
      go_wp2_with fail
      refine (cmpStr_any S1 S2 _).mono ?_
      rintro e w' ⟨rfl, rfl⟩
      go_wp2_with fail
      go_ret
      exact ⟨by rw [HQ.out]; rfl, below_drewN HB0.out _⟩
    by_cases q7 : k1 = 7
    · by_cases e : N1 = N2
      · have fz : (sg (rankS k1) (rankS k2) != 0) = false := by simp [ez]
        have z1 : (k1 == 1) = false := by simp [q1]
        have z2 : (k1 == 2) = false := by simp [q2]
        have z6 : (k1 == 6) = false := by simp [q6]
        have z7 : (k1 == 7) = true := by simp [q7]
        have y1 : (N1 != N2) = false := by simp [e]
        have y2 : (N1 == N2) = true := by simp [e]
        have HQ : Hid (r = sg c1 c2) := by
          show r = _
          rw [← HR.out, compareR, if_neg (not_not_intro ez)]
          simp [q7, e]
        clear HR ez q7 q1 q2 q6 e
        go_enter Tryd.func23, Tryd.ntmps23
        go_wp2_with fail
        generalize ((w.alloc (.cells #[.int .i64 k1, .bool n1, .slice pl1 L1.length cl1, .string S1, .int .i64 N1, .slice pk1 c1 ck1] 27)).alloc (.cells #[.int .i64 k2, .bool n2, .slice pl2 L2.length cl2, .string S2, .int .i64 N2, .slice pk2 c2 ck2] 27)) = W at *
        obtain ⟨a0, a1, a2, a3, a4, a5⟩ := U1.out.cells
        obtain ⟨b0, b1, b2, b3, b4, b5⟩ := U2.out.cells
        go_quiet (first | (go_at_call_of 42 (Value.int .i64 k1); exact Calls.quiet_of_same (rank_any _ _ (HO0.out.under (below_drewN (Below.refl _ _) _)))) | (go_at_call_of 42 (Value.int .i64 k2); exact Calls.quiet_of_same (rank_any _ _ (HO0.out.under (below_drewN (Below.refl _ _) _)))) | (go_at_call 41; exact Calls.quiet_of_same (compare_int _ _ _)))
        go_wp2_with fail
        refine (compare_int c1 c2 _).mono ?_
        rintro e w' ⟨rfl, rfl⟩
        go_wp2_with fail
        go_ret
        exact ⟨by rw [HQ.out]; rfl, below_drewN HB0.out _⟩
      · have fz : (sg (rankS k1) (rankS k2) != 0) = false := by simp [ez]
        have z1 : (k1 == 1) = false := by simp [q1]
        have z2 : (k1 == 2) = false := by simp [q2]
        have z6 : (k1 == 6) = false := by simp [q6]
        have z7 : (k1 == 7) = true := by simp [q7]
        have y1 : (N1 != N2) = true := by simp [e]
        have y2 : (N1 == N2) = false := by simp [e]
        have HQ : Hid (r = sg N1 N2) := by
          show r = _
          rw [← HR.out, compareR, if_neg (not_not_intro ez)]
          simp [q7, e]
        clear HR ez q7 q1 q2 q6 e
        go_enter Tryd.func23, Tryd.ntmps23
        go_wp2_with fail
        generalize ((w.alloc (.cells #[.int .i64 k1, .bool n1, .slice pl1 L1.length cl1, .string S1, .int .i64 N1, .slice pk1 c1 ck1] 27)).alloc (.cells #[.int .i64 k2, .bool n2, .slice pl2 L2.length cl2, .string S2, .int .i64 N2, .slice pk2 c2 ck2] 27)) = W at *
        obtain ⟨a0, a1, a2, a3, a4, a5⟩ := U1.out.cells
        obtain ⟨b0, b1, b2, b3, b4, b5⟩ := U2.out.cells
        go_quiet (first | (go_at_call_of 42 (Value.int .i64 k1); exact Calls.quiet_of_same (rank_any _ _ (HO0.out.under (below_drewN (Below.refl _ _) _)))) | (go_at_call_of 42 (Value.int .i64 k2); exact Calls.quiet_of_same (rank_any _ _ (HO0.out.under (below_drewN (Below.refl _ _) _)))) | (go_at_call 41; exact Calls.quiet_of_same (compare_int _ _ _)))
        go_wp2_with fail
        refine (compare_int N1 N2 _).mono ?_
        rintro e w' ⟨rfl, rfl⟩
        go_wp2_with fail
        go_ret
        exact ⟨by rw [HQ.out]; rfl, below_drewN HB0.out _⟩
    by_cases q5 : k1 = 5
    · have fz : (sg (rankS k1) (rankS k2) != 0) = false := by simp [ez]
      have z1 : (k1 == 1) = false := by simp [q1]
      have z2 : (k1 == 2) = false := by simp [q2]
      have z6 : (k1 == 6) = false := by simp [q6]
      have z7 : (k1 == 7) = false := by simp [q7]
      have z5 : (k1 == 5) = true := by simp [q5]
      have HQ : Hid (r = sg c1 c2) := by
        show r = _
        rw [← HR.out, compareR, if_neg (not_not_intro ez)]
        simp [q5]
      clear HR ez q5 q1 q2 q6 q7
      go_enter Tryd.func23, Tryd.ntmps23
      go_wp2_with fail
      generalize ((w.alloc (.cells #[.int .i64 k1, .bool n1, .slice pl1 L1.length cl1, .string S1, .int .i64 N1, .slice pk1 c1 ck1] 27)).alloc (.cells #[.int .i64 k2, .bool n2, .slice pl2 L2.length cl2, .string S2, .int .i64 N2, .slice pk2 c2 ck2] 27)) = W at *
      obtain ⟨a0, a1, a2, a3, a4, a5⟩ := U1.out.cells
      obtain ⟨b0, b1, b2, b3, b4, b5⟩ := U2.out.cells
      go_quiet (first | (go_at_call_of 42 (Value.int .i64 k1); exact Calls.quiet_of_same (rank_any _ _ (HO0.out.under (below_drewN (Below.refl _ _) _)))) | (go_at_call_of 42 (Value.int .i64 k2); exact Calls.quiet_of_same (rank_any _ _ (HO0.out.under (below_drewN (Below.refl _ _) _)))) | (go_at_call 41; exact Calls.quiet_of_same (compare_int _ _ _)))
      go_wp2_with fail
      refine (compare_int c1 c2 _).mono ?_
      rintro e w' ⟨rfl, rfl⟩
      go_wp2_with fail
      go_ret
      exact ⟨by rw [HQ.out]; rfl, below_drewN HB0.out _⟩
    by_cases q8 : k1 = 8
    · by_cases e : S1.toList = S2.toList
      · have fz : (sg (rankS k1) (rankS k2) != 0) = false := by simp [ez]
        have z1 : (k1 == 1) = false := by simp [q1]
        have z2 : (k1 == 2) = false := by simp [q2]
        have z6 : (k1 == 6) = false := by simp [q6]
        have z7 : (k1 == 7) = false := by simp [q7]
        have z5 : (k1 == 5) = false := by simp [q5]
        have z8 : (k1 == 8) = true := by simp [q8]
        have y1 : (S1.toList != S2.toList) = false := by simp [e]
        have y2 : (S1.toList == S2.toList) = true := by simp [e]
        have HQ : Hid (r = sg N1 N2) := by
          show r = _
          rw [← HR.out, compareR, if_neg (not_not_intro ez)]
          simp [q8, e]
        clear HR ez q8 q1 q2 q6 q7 q5 e
        go_enter Tryd.func23, Tryd.ntmps23
        go_wp2_with fail
        generalize ((w.alloc (.cells #[.int .i64 k1, .bool n1, .slice pl1 L1.length cl1, .string S1, .int .i64 N1, .slice pk1 c1 ck1] 27)).alloc (.cells #[.int .i64 k2, .bool n2, .slice pl2 L2.length cl2, .string S2, .int .i64 N2, .slice pk2 c2 ck2] 27)) = W at *
        obtain ⟨a0, a1, a2, a3, a4, a5⟩ := U1.out.cells
        obtain ⟨b0, b1, b2, b3, b4, b5⟩ := U2.out.cells
        go_quiet (first | (go_at_call_of 42 (Value.int .i64 k1); exact Calls.quiet_of_same (rank_any _ _ (HO0.out.under (below_drewN (Below.refl _ _) _)))) | (go_at_call_of 42 (Value.int .i64 k2); exact Calls.quiet_of_same (rank_any _ _ (HO0.out.under (below_drewN (Below.refl _ _) _)))) | (go_at_call 41; exact Calls.quiet_of_same (compare_int _ _ _)))
        go_wp2_with fail
        refine (compare_int N1 N2 _).mono ?_
        rintro e w' ⟨rfl, rfl⟩
        go_wp2_with fail
        go_ret
        exact ⟨by rw [HQ.out]; rfl, below_drewN HB0.out _⟩
      · have fz : (sg (rankS k1) (rankS k2) != 0) = false := by simp [ez]
        have z1 : (k1 == 1) = false := by simp [q1]
        have z2 : (k1 == 2) = false := by simp [q2]
        have z6 : (k1 == 6) = false := by simp [q6]
        have z7 : (k1 == 7) = false := by simp [q7]
        have z5 : (k1 == 5) = false := by simp [q5]
        have z8 : (k1 == 8) = true := by simp [q8]
        have y1 : (S1.toList != S2.toList) = true := by simp [e]
        have y2 : (S1.toList == S2.toList) = false := by simp [e]
        have HQ : Hid (r = Lib.compareBytes S1.data.toList S2.data.toList) := by
          show r = _
          rw [← HR.out, compareR, if_neg (not_not_intro ez)]
          simp [q8, e]
        clear HR ez q8 q1 q2 q6 q7 q5 e
        go_enter Tryd.func23, Tryd.ntmps23
        go_wp2_with fail
        generalize ((w.alloc (.cells #[.int .i64 k1, .bool n1, .slice pl1 L1.length cl1, .string S1, .int .i64 N1, .slice pk1 c1 ck1] 27)).alloc (.cells #[.int .i64 k2, .bool n2, .slice pl2 L2.length cl2, .string S2, .int .i64 N2, .slice pk2 c2 ck2] 27)) = W at *
        obtain ⟨a0, a1, a2, a3, a4, a5⟩ := U1.out.cells
        obtain ⟨b0, b1, b2, b3, b4, b5⟩ := U2.out.cells
        go_quiet (first | (go_at_call_of 42 (Value.int .i64 k1); exact Calls.quiet_of_same (rank_any _ _ (HO0.out.under (below_drewN (Below.refl _ _) _)))) | (go_at_call_of 42 (Value.int .i64 k2); exact Calls.quiet_of_same (rank_any _ _ (HO0.out.under (below_drewN (Below.refl _ _) _)))) | (go_at_call 41; exact Calls.quiet_of_same (compare_int _ _ _)))
        go_wp2_with fail
        refine (cmpStr_any S1 S2 _).mono ?_
        rintro e w' ⟨rfl, rfl⟩
        go_wp2_with fail
        go_ret
        exact ⟨by rw [HQ.out]; rfl, below_drewN HB0.out _⟩
    by_cases q9 : k1 = 9
    · have fz : (sg (rankS k1) (rankS k2) != 0) = false := by simp [ez]
      have z1 : (k1 == 1) = false := by simp [q1]
      have z2 : (k1 == 2) = false := by simp [q2]
      have z6 : (k1 == 6) = false := by simp [q6]
      have z7 : (k1 == 7) = false := by simp [q7]
      have z5 : (k1 == 5) = false := by simp [q5]
      have z8 : (k1 == 8) = false := by simp [q8]
      have z9 : (k1 == 9) = true := by simp [q9]
      have HQ : Hid (r = sg N1 N2) := by
        show r = _
        rw [← HR.out, compareR, if_neg (not_not_intro ez)]
        simp [q9]
      clear HR ez q9 q1 q2 q6 q7 q5 q8
      go_enter Tryd.func23, Tryd.ntmps23
      go_wp2_with fail
      generalize ((w.alloc (.cells #[.int .i64 k1, .bool n1, .slice pl1 L1.length cl1, .string S1, .int .i64 N1, .slice pk1 c1 ck1] 27)).alloc (.cells #[.int .i64 k2, .bool n2, .slice pl2 L2.length cl2, .string S2, .int .i64 N2, .slice pk2 c2 ck2] 27)) = W at *
      obtain ⟨a0, a1, a2, a3, a4, a5⟩ := U1.out.cells
      obtain ⟨b0, b1, b2, b3, b4, b5⟩ := U2.out.cells
      go_quiet (first | (go_at_call_of 42 (Value.int .i64 k1); exact Calls.quiet_of_same (rank_any _ _ (HO0.out.under (below_drewN (Below.refl _ _) _)))) | (go_at_call_of 42 (Value.int .i64 k2); exact Calls.quiet_of_same (rank_any _ _ (HO0.out.under (below_drewN (Below.refl _ _) _)))) | (go_at_call 41; exact Calls.quiet_of_same (compare_int _ _ _)))
      go_wp2_with fail
      refine (compare_int N1 N2 _).mono ?_
      rintro e w' ⟨rfl, rfl⟩
      go_wp2_with fail
      go_ret
      exact ⟨by rw [HQ.out]; rfl, below_drewN HB0.out _⟩
    have fz : (sg (rankS k1) (rankS k2) != 0) = false := by simp [ez]
    have z1 : (k1 == 1) = false := by simp [q1]
    have z2 : (k1 == 2) = false := by simp [q2]
    have z6 : (k1 == 6) = false := by simp [q6]
    have z7 : (k1 == 7) = false := by simp [q7]
    have z5 : (k1 == 5) = false := by simp [q5]
    have z8 : (k1 == 8) = false := by simp [q8]
    have z9 : (k1 == 9) = false := by simp [q9]
    have HQ : Hid (r = 0) := by
      show r = _
      rw [← HR.out, compareR, if_neg (not_not_intro ez)]
      simp [q1, q2, q6, q7, q5, q8, q9]
    clear HR ez q1 q2 q6 q7 q5 q8 q9
    go_enter Tryd.func23, Tryd.ntmps23
    go_wp2_with fail
    generalize ((w.alloc (.cells #[.int .i64 k1, .bool n1, .slice pl1 L1.length cl1, .string S1, .int .i64 N1, .slice pk1 c1 ck1] 27)).alloc (.cells #[.int .i64 k2, .bool n2, .slice pl2 L2.length cl2, .string S2, .int .i64 N2, .slice pk2 c2 ck2] 27)) = W at *
    obtain ⟨a0, a1, a2, a3, a4, a5⟩ := U1.out.cells
    obtain ⟨b0, b1, b2, b3, b4, b5⟩ := U2.out.cells
    go_quiet (first | (go_at_call_of 42 (Value.int .i64 k1); exact Calls.quiet_of_same (rank_any _ _ (HO0.out.under (below_drewN (Below.refl _ _) _)))) | (go_at_call_of 42 (Value.int .i64 k2); exact Calls.quiet_of_same (rank_any _ _ (HO0.out.under (below_drewN (Below.refl _ _) _)))) | (go_at_call 41; exact Calls.quiet_of_same (compare_int _ _ _)))
    go_wp2_with fail
    go_ret
    exact ⟨by rw [HQ.out]; rfl, below_drewN HB0.out _⟩
  · have fz : (sg (rankS k1) (rankS k2) != 0) = true := by simp [ez]
    have HQ : Hid (r = sg (rankS k1) (rankS k2)) := by
      show r = _
      rw [← HR.out, compareR, if_pos ez]
    clear HR ez
    go_enter Tryd.func23, Tryd.ntmps23
    go_wp2_with fail
    generalize ((w.alloc (.cells #[.int .i64 k1, .bool n1, .slice pl1 L1.length cl1, .string S1, .int .i64 N1, .slice pk1 c1 ck1] 27)).alloc (.cells #[.int .i64 k2, .bool n2, .slice pl2 L2.length cl2, .string S2, .int .i64 N2, .slice pk2 c2 ck2] 27)) = W at *
    obtain ⟨a0, a1, a2, a3, a4, a5⟩ := U1.out.cells
    obtain ⟨b0, b1, b2, b3, b4, b5⟩ := U2.out.cells
    go_quiet (first | (go_at_call_of 42 (Value.int .i64 k1); exact Calls.quiet_of_same (rank_any _ _ (HO0.out.under (below_drewN (Below.refl _ _) _)))) | (go_at_call_of 42 (Value.int .i64 k2); exact Calls.quiet_of_same (rank_any _ _ (HO0.out.under (below_drewN (Below.refl _ _) _)))) | (go_at_call 41; exact Calls.quiet_of_same (compare_int _ _ _)))
    go_wp2_with fail
    go_ret
    exact ⟨by rw [HQ.out]; rfl, below_drewN HB0.out _⟩
end Go.Proofs.YtfcdocgjmgpmkaaDoor
