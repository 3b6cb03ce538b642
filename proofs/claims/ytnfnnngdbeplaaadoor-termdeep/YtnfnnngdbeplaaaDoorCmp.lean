/-
  cmp.Compare at int and at uint32, and limb.Cmp: -1, 0, 1 as the first number is below, the same, above: for every two slices of uint32.
-/
import Derived.Test.YtnfnnngdbeplaaaDoorTrim
import Derived.Deep.QuietTactic
import Derived.BigQuiet
namespace Go.Proofs.YtnfnnngdbeplaaaDoor
open Go.RowKit

set_option maxHeartbeats 400000 in
theorem isNaN_int (x : Int) (w : World) : Calls Tryd.prog 63 #[.int .i64 x] w fun e w' => e = .returned (.bool false) ∧ w' = w := by
  have h : (x != x) = false := by simp
  go_enter Tryd.func63, Tryd.ntmps63
  go_wp2
  go_ret
  exact ⟨rfl, rfl⟩

set_option maxHeartbeats 400000 in
theorem isNaN_u32 (x : Int) (w : World) : Calls Tryd.prog 103 #[.int .u32 x] w fun e w' => e = .returned (.bool false) ∧ w' = w := by
  have h : (x != x) = false := by simp
  go_enter Tryd.func103, Tryd.ntmps103
  go_wp2
  go_ret
  exact ⟨rfl, rfl⟩

set_option maxHeartbeats 400000 in
theorem compare_int (x y : Int) (w : World) : Calls Tryd.prog 46 #[.int .i64 x, .int .i64 y] w fun e w' => e = .returned (.int .i64 (sg x y)) ∧ w' = w := by
  by_cases h1 : x < y
  · have hs : sg x y = -1 := by simp [sg, h1]
    rw [hs]; clear hs
    go_enter Tryd.func46, Tryd.ntmps46
    go_wp2_with (go_at_call 63; refine (isNaN_int _ _).mono ?_; rintro e w' ⟨rfl, rfl⟩)
    go_ret
    exact ⟨rfl, rfl⟩
  · by_cases h2 : y < x
    · have hs : sg x y = 1 := by simp [sg, h1, h2]
      rw [hs]; clear hs
      go_enter Tryd.func46, Tryd.ntmps46
      go_wp2_with (go_at_call 63; refine (isNaN_int _ _).mono ?_; rintro e w' ⟨rfl, rfl⟩)
      go_ret
      exact ⟨rfl, rfl⟩
    · have hs : sg x y = 0 := by simp [sg, h1, h2]
      rw [hs]; clear hs
      go_enter Tryd.func46, Tryd.ntmps46
      go_wp2_with (go_at_call 63; refine (isNaN_int _ _).mono ?_; rintro e w' ⟨rfl, rfl⟩)
      go_ret
      exact ⟨rfl, rfl⟩

set_option maxHeartbeats 400000 in
theorem compare_u32 (x y : Int) (w : World) : Calls Tryd.prog 85 #[.int .u32 x, .int .u32 y] w fun e w' => e = .returned (.int .i64 (sg x y)) ∧ w' = w := by
  by_cases h1 : x < y
  · have hs : sg x y = -1 := by simp [sg, h1]
    rw [hs]; clear hs
    go_enter Tryd.func85, Tryd.ntmps85
    go_wp2_with (go_at_call 103; refine (isNaN_u32 _ _).mono ?_; rintro e w' ⟨rfl, rfl⟩)
    go_ret
    exact ⟨rfl, rfl⟩
  · by_cases h2 : y < x
    · have hs : sg x y = 1 := by simp [sg, h1, h2]
      rw [hs]; clear hs
      go_enter Tryd.func85, Tryd.ntmps85
      go_wp2_with (go_at_call 103; refine (isNaN_u32 _ _).mono ?_; rintro e w' ⟨rfl, rfl⟩)
      go_ret
      exact ⟨rfl, rfl⟩
    · have hs : sg x y = 0 := by simp [sg, h1, h2]
      rw [hs]; clear hs
      go_enter Tryd.func85, Tryd.ntmps85
      go_wp2_with (go_at_call 103; refine (isNaN_u32 _ _).mono ?_; rintro e w' ⟨rfl, rfl⟩)
      go_ret
      exact ⟨rfl, rfl⟩

def CmpPost (w : World) (x y : Int) (e : Ending) (w' : World) : Prop := e = .returned (.int .i64 (sg x y)) ∧ Below w.heap.size w w'

set_option maxHeartbeats 1000000 in
theorem cmp_any (va vb : Value) (a b : List Int) (w : World) (ha : Sl w va a) (hb : Sl w vb b) :
    Calls Tryd.prog 65 #[va, vb] w fun e w' => CmpPost w (V a) (V b) e w' := by
  obtain ⟨aa, acap, rfl⟩ := ha.shape
  obtain ⟨ba, bcap, rfl⟩ := hb.shape
  go_enter Tryd.func65, Tryd.ntmps65
  go_wp2_with fail
  refine (trim_any _ a _ ha).mono ?_
  rintro e w' ⟨rfl, v1, n1, rfl, hn1, hs1, hnm1, hv1, -⟩
  go_wp2_with fail
  refine (trim_any _ b _ hb).mono ?_
  rintro e w' ⟨rfl, v2, n2, rfl, hn2, hs2, hnm2, hv2, -⟩
  obtain ⟨ok1, p1, m1, c1, rfl, hl1, hc1, hm1, hnn1, hp1⟩ := hs1
  obtain ⟨ok2, p2, m2, c2, rfl, hl2, hc2, hm2, hnn2, hp2⟩ := hs2
  have H1 : Hid (V a = V (a.take n1)) := hv1.symm
  have H2 : Hid (V b = V (b.take n2)) := hv2.symm
  clear hv1 hv2
  generalize a.take n1 = A at *
  generalize b.take n2 = C at *
  clear ha hb hn1 hn2
  by_cases hne : m1 = m2
  · subst hne
    have hb : ((m1 : Int) != (m1 : Int)) = false := by simp
    go_wp2_with fail
    go_loopw [5] (fun i wr => ∃ k : Nat, k ≤ m1 ∧ i = .int .i64 ((k : Int) - 1) ∧ (∀ j, k ≤ j → j < m1 → A.getD j 0 = C.getD j 0) ∧ Below w.heap.size w wr) (fun i _ => ((intOf i) + 1).toNat)
    case atStart => exact ⟨m1, Nat.le_refl _, rfl, fun j h1 h2 => by omega, Below.refl _ _⟩
    case round =>
      obtain ⟨k, hk, rfl, hz, hbel⟩ := hrel
      cases k with
      | zero =>
        have heq : Hid (A = C) := by
          show A = C
          apply List.ext_getElem (by omega)
          intro j h1 h2
          have := hz j (by omega) (by omega)
          simpa [List.getD, h1, h2] using this
        clear hz
        go_wp2_with fail
        go_ret
        refine ⟨?_, hbel⟩
        rw [H1.out, H2.out, heq.out]
        simp [sg]
      | succ q =>
        obtain ⟨b1, off1, rfl, hb1, hcell1⟩ := hp1 (by omega)
        obtain ⟨b2, off2, rfl, hb2, hcell2⟩ := hp2 (by omega)
        have c1 : wr.cell? ⟨b1, off1 + q, none⟩ = some (.int .u32 (A.getD q 0)) := (hbel.cell (p := ⟨b1, off1 + q, none⟩) hb1).trans (hcell1 q (by omega))
        have c2 : wr.cell? ⟨b2, off2 + q, none⟩ = some (.int .u32 (C.getD q 0)) := (hbel.cell (p := ⟨b2, off2 + q, none⟩) hb2).trans (hcell2 q (by omega))
        have hq : (q : Int) < (m1 : Int) := by omega
        have hq0 : (0 : Int) ≤ (q : Int) := by omega
        go_wp2_with fail
        go_quiet (fail)
        go_wp2_with fail
        · have hd : (A[q]?.getD 0 != C[q]?.getD 0) = true := by assumption
          have hbel2 := below_drewN hbel nq
          have d1 : (wr.drewN nq).cell? ⟨b1, off1 + q, none⟩ = some (.int .u32 (A.getD q 0)) := c1
          have d2 : (wr.drewN nq).cell? ⟨b2, off2 + q, none⟩ = some (.int .u32 (C.getD q 0)) := c2
          clear c1 c2 hbel
          generalize wr.drewN nq = w2 at *
          go_quiet ((go_at_call 85; exact Calls.quiet_of_same (compare_u32 _ _ _)))
          go_wp2_with fail
          go_ret
          refine ⟨?_, below_drewN hbel2 _⟩
          have hd' : A.getD q 0 ≠ C.getD q 0 := by simpa using hd
          have := sg_top ok1 ok2 q (by omega) (by omega) (by rw [hl1]; exact hz) hd'
          rw [H1.out, H2.out, ← this]
          simp
        · have hd : (A[q]?.getD 0 != C[q]?.getD 0) = false := by assumption
          go_roundw
          case rel =>
            refine ⟨q, by omega, rfl, fun j h1 h2 => ?_, below_drewN hbel _⟩
            by_cases e : j = q
            · subst e; simpa using hd
            · exact hz j (by omega) h2
          case measure => simp [intOf]
  · have hb : ((m1 : Int) != (m2 : Int)) = true := by simp; omega
    go_wp2_with (go_at_call 46; refine (compare_int _ _ _).mono ?_; rintro e w' ⟨rfl, rfl⟩)
    go_ret
    refine ⟨?_, Below.refl _ _⟩
    show Ending.returned (.int .i64 (sg m1 m2)) = _
    have : sg (m1 : Int) (m2 : Int) = sg (V A) (V C) := by
      subst hl1; subst hl2; exact sg_len ok1 ok2 hnm1 hnm2 hne
    rw [this, H1.out, H2.out]
end Go.Proofs.YtnfnnngdbeplaaaDoor
