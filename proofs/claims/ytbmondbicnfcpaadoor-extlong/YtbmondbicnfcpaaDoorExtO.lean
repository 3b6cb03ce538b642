
/-
  ext: howMany.
-/
import Derived.Test.YtbmondbicnfcpaaDoorExtN
namespace Go.Proofs.YtbmondbicnfcpaaDoor
open Go.RowKit
set_option linter.unusedVariables false
set_option linter.unusedSimpArgs false

/-- howMany's answer. -/
def HmP (w : World) (g : Nat) (bv : Value) (p n : Nat) (ov : Value) (s : Sh) (R : Nat × Nat) (e : Ending) (w' : World) : Prop :=
  e = .returned (.tuple #[.int .i64 (R.2 : Int), .int .i64 (R.1 : Int)]) ∧ Grw g w w' ∧ (R.1 = 0 → RdX w' g bv ((p + s.w : Nat) : Int) n ov)

set_option maxRecDepth 100000 in
set_option maxHeartbeats 8000000 in
theorem howMany_any (W0 w : World) (g : Nat) (bv : Value) (l : List UInt8) (p n : Nat) (ov : Value) (s : Sh) (hx : RdX w g bv p n ov) (hy : By W0 bv l) (hW : Below W0.heap.size W0 w) (hg : W0.heap.size ≤ g) (hp : p ≤ l.length) (hl : l.length ≤ 1000000000)
    (h1 : s.w ≤ 4) (h2 : s.lo ≤ 1) (h3 : s.hi ≤ 2000) (h4 : s.tag = 108 → n ≤ s.hi) (h5 : s.tag ≤ 255) (hn : n ≤ 2000) :
    Calls Tryd.prog 129 #[.pointer (some ⟨g, 0, none⟩), shV s] w fun e w' => HmP w g bv p n ov s (manR l p n s) e w' := by
  obtain ⟨R, hR⟩ : ∃ R, manR l p n s = R := ⟨_, rfl⟩
  have HR : Hid (manR l p n s = R) := hR
  rw [hR]
  clear hR
  unfold shV
  obtain ⟨wA, hwA⟩ : ∃ wA, w.alloc (.cells #[.int .u8 (s.tag : Int), .int .i64 (s.w : Int), .int .i64 (s.lo : Int), .int .i64 (s.hi : Int), .int .i64 (s.al : Int), .int .i64 (s.ea : Int)] 140) = wA := ⟨_, rfl⟩
  have hbA : Below w.heap.size w wA := by rw [← hwA]; exact (Below.refl _ _).alloc (Nat.le_refl _) _
  have hSA : BxS wA w.heap.size s := by rw [← hwA]; exact BxS.new w s
  have hxA := hx.under hbA
  have hWA : Below W0.heap.size W0 wA := hW.trans (hbA.mono hW.size)
  have hgl := hx.lt
  have hbs := hbA.size
  have hWs := hW.size
  obtain ⟨t0, t1, t2, t3, t4, t5⟩ := hSA.cells
  have HSA : Hid (BxS wA w.heap.size s) := hSA
  have HXA : Hid (RdX wA g bv p n ov) := hxA
  have HWA : Hid (Below W0.heap.size W0 wA) := hWA
  have HBA : Hid (Below w.heap.size w wA) := hbA
  clear hx hW hbA hSA hxA hWA
  go_enter Tryd.func129, Tryd.ntmps129
  go_wp2_with fail
  refine (takeX_any W0 wA g bv l p n ov s.w HXA.out hy hp (by omega) hl).mono ?_
  rintro e w1 ⟨v, k, rfl, hsS, hgr, hcase⟩
  obtain ⟨sa, sn, sc, rfl⟩ := hsS
  have hb1 : BxS w1 w.heap.size s := HSA.out.block (hgr.block _ HSA.out.lt (by omega))
  have HB1 : Hid (BxS w1 w.heap.size s) := hb1
  have HW1 : Hid (Below W0.heap.size W0 w1) := HWA.out.trans (hgr.below hg (by omega))
  have HGW : Hid (Grw g w w1) := (Grw.ofBelow HBA.out).trans hgr
  clear t0 t1 t2 t3 t4 t5
  obtain ⟨t0, t1, t2, t3, t4, t5⟩ := hb1.cells
  rcases hcase with ⟨q1, rfl, hys, hx1⟩ | ⟨q1, rfl, hse⟩
  · obtain ⟨c, hcd⟩ : ∃ c, c = highL ((l.drop p).take s.w) := ⟨_, rfl⟩
    have hD : ((l.drop p).take s.w).length ≤ 4 := by simp; omega
    have hc32 : c < 4294967296 := by
      have h6 := high_lt ((l.drop p).take s.w).length ((l.drop p).take s.w) rfl
      have h7 : 256 ^ ((l.drop p).take s.w).length ≤ 256 ^ 4 := Nat.pow_le_pow_right (by omega) hD
      have h8 : (256 : Nat) ^ 4 = 4294967296 := by decide
      omega
    have HHF : Hid (∀ wx, Below w1.heap.size w1 wx → Calls Tryd.prog 156 #[.slice sa sn sc] wx fun e w' => e = .returned (.int .i64 (c : Int)) ∧ w' = wx) := fun wx hb => by
      rw [hcd]
      exact highFirst_any _ _ wx ((hys.under HW1.out).under hb) hD
    have HX1 : Hid (RdX w1 g bv ((p + s.w : Nat) : Int) n ov) := hx1
    obtain ⟨⟨d0, d1, d2, d3⟩, -⟩ := hx1.facts
    have HR' : Hid ((if c < s.lo ∨ (if s.tag = 108 then s.hi - n else s.hi) < c then (4, 0) else (0, c)) = R) := by
      have h := HR.out
      unfold manR at h
      rw [if_neg (by omega), ← hcd] at h
      exact h
    have hci : (c : Int) < 4294967296 := by omega
    clear hys hx1 hcd hD hgr hb1 HR HXA HSA HWA HBA
    obtain ⟨hi', hhi⟩ : ∃ hi', hi' = if s.tag = 108 then s.hi - n else s.hi := ⟨_, rfl⟩
    rw [← hhi] at HR'
    have hni : (n : Int) ≤ 2000 := by omega
    have h3i : (s.hi : Int) ≤ 2000 := by omega
    go_wp2_with fail
    go_quiet (first | (go_at_call 156; exact Calls.quiet_of_same (HHF.out _ (by first | exact Below.refl _ _ | exact below_drewN (Below.refl _ _) _))))
    by_cases ht : s.tag = 108
    · have hti : ((s.tag : Int) == 108) = true := by simp [ht]
      have hle := h4 ht
      rw [if_pos ht] at hhi
      have hhi2 : (s.hi : Int) - (n : Int) = (hi' : Int) := by omega
      clear ht hhi h4
      by_cases hlo : c < s.lo
      · have hloi : (c : Int) < (s.lo : Int) := by omega
        have HE : Hid (R = (4, 0)) := by unfold Hid; rw [← HR'.out, if_pos (.inl hlo)]
        clear hlo
        go_wp2_with fail
        go_ret2
        rw [HE.out]
        exact ⟨rfl, HGW.out.drewN _, fun h => absurd h (by decide)⟩
      · have hloi : ¬ (c : Int) < (s.lo : Int) := by omega
        by_cases hh : hi' < c
        · have hhI : (hi' : Int) < (c : Int) := by omega
          have HE : Hid (R = (4, 0)) := by unfold Hid; rw [← HR'.out, if_pos (.inr hh)]
          clear hlo hh
          go_wp2_with fail
          go_ret2
          rw [HE.out]
          exact ⟨rfl, HGW.out.drewN _, fun h => absurd h (by decide)⟩
        · have hhI : ¬ (hi' : Int) < (c : Int) := by omega
          have HE : Hid (R = (0, c)) := by unfold Hid; rw [← HR'.out, if_neg (fun h => h.elim hlo hh)]
          clear hlo hh
          go_wp2_with fail
          go_ret2
          rw [HE.out]
          exact ⟨rfl, HGW.out.drewN _, fun _ => HX1.out.drewN _⟩
    · have hti : ((s.tag : Int) == 108) = false := by rw [beq_eq_false_iff_ne]; omega
      rw [if_neg ht] at hhi
      subst hhi
      clear ht h4
      by_cases hlo : c < s.lo
      · have hloi : (c : Int) < (s.lo : Int) := by omega
        have HE : Hid (R = (4, 0)) := by unfold Hid; rw [← HR'.out, if_pos (.inl hlo)]
        clear hlo
        go_wp2_with fail
        go_ret2
        rw [HE.out]
        exact ⟨rfl, HGW.out.drewN _, fun h => absurd h (by decide)⟩
      · have hloi : ¬ (c : Int) < (s.lo : Int) := by omega
        by_cases hh : s.hi < c
        · have hhI : (s.hi : Int) < (c : Int) := by omega
          have HE : Hid (R = (4, 0)) := by unfold Hid; rw [← HR'.out, if_pos (.inr hh)]
          clear hlo hh
          go_wp2_with fail
          go_ret2
          rw [HE.out]
          exact ⟨rfl, HGW.out.drewN _, fun h => absurd h (by decide)⟩
        · have hhI : ¬ (s.hi : Int) < (c : Int) := by omega
          have HE : Hid (R = (0, c)) := by unfold Hid; rw [← HR'.out, if_neg (fun h => h.elim hlo hh)]
          clear hlo hh
          go_wp2_with fail
          go_ret2
          rw [HE.out]
          exact ⟨rfl, HGW.out.drewN _, fun _ => HX1.out.drewN _⟩
  · have HE : Hid (R = (3, 0)) := by unfold Hid; rw [← HR.out]; unfold manR; rw [if_pos q1]
    rw [hse]
    clear hgr hb1 q1 hse
    go_wp2_with fail
    go_ret2
    rw [HE.out]
    exact ⟨rfl, HGW.out, fun h => absurd h (by decide)⟩
end Go.Proofs.YtbmondbicnfcpaaDoor
