
/-
  ext.Get.
-/
import Derived.Test.YtbmondbicnfcpaaDoorExtZ
namespace Go.Proofs.YtbmondbicnfcpaaDoor
open Go.RowKit
set_option linter.unusedVariables false
set_option linter.unusedSimpArgs false

/-- Get's answer, plain. -/
def getR (l : List UInt8) (at' : Int) : Rs := if at' < 0 ∨ (l.length : Int) < at' then Rs.bad 1 else RT l at'.toNat 0 1
/-- Get's answer: the term, the place, what is wrong. -/
def GtP (w : World) (R : Rs) (e : Ending) (w' : World) : Prop :=
  ∃ v, e = .returned (.tuple #[v, .int .i64 (if R.e = 0 then (R.p : Int) else 0), .int .i64 (R.e : Int)]) ∧ Below w.heap.size w w' ∧ IsT w' (if R.e = 0 then R.t else tmZ) v
theorem isT_zero (w : World) : IsT w tmZ (tmV 0 false (.slice none 0 0) ⟨#[]⟩ 0 (.slice none 0 0)) := IsT.shut (by omega) (by omega) (by decide) (Sl.nil w) (Ts.nil w)

theorem isT_laid {P : Nat → Bool} {w3 w4 W5 : World} {g b0 : Nat} {t : Tm} {v : Value} (hi : IsT (veil P w3) t v) (hP : ∀ b, P b = true → g < b) (hB : Below w3.heap.size w3 w4) (hu : But b0 w4 W5) (hg : b0 < g) : IsT W5.drew t v :=
  (hi.veiled (Q := P) (w' := W5.drew) (by show w3.heap.size ≤ W5.heap.size; rw [hu.size]; exact hB.size) (fun b hb hlt => ⟨(hu.block b (by have := hP b hb; omega)).trans (hB.block b hlt), hb⟩)).unveil

set_option maxRecDepth 100000 in
set_option maxHeartbeats 8000000 in
theorem eget_any (w : World) (bv : Value) (l : List UInt8) (at' : Int) (hS : Shp w) (hy : By w bv l) (hl : l.length ≤ 1000000000) (h1 : -9223372036854775808 ≤ at') (h2 : at' ≤ 9223372036854775807) (hG : (0 : Nat) < w.heap.size) :
    Calls Tryd.prog 19 #[bv, .int .i64 at'] w fun e w' => GtP w (getR l at') e w' := by
  obtain ⟨wA, hwA⟩ : ∃ wA, w.alloc (.cells #[.int .i64 0, .bool false, .slice none 0 0, .string ⟨#[]⟩, .int .i64 0, .slice none 0 0] 29) = wA := ⟨_, rfl⟩
  have hBt : Bt wA w.heap.size 0 false (.slice none 0 0) ⟨#[]⟩ 0 (.slice none 0 0) := by rw [← hwA]; exact Bt.new w _ _ _ _ _ _ ⟨_, _, _, rfl⟩ ⟨_, _, _, rfl⟩
  have hBA : Below w.heap.size w wA := by rw [← hwA]; exact (Below.refl _ _).alloc (Nat.le_refl _) _
  have hszA : wA.heap.size = w.heap.size + 1 := by rw [← hwA]; simp
  have HBt : Hid (Bt wA w.heap.size 0 false (.slice none 0 0) ⟨#[]⟩ 0 (.slice none 0 0)) := hBt
  obtain ⟨a0, a1, a2, a3, a4, a5⟩ := hBt.cells
  obtain ⟨f0, f1, f2, f3, f4, f5⟩ := hBt.froz
  clear hBt
  obtain ⟨pb, cb, rfl, hcb, hcm, -⟩ := hy.shape
  have HY : Hid (By w (.slice pb l.length cb) l) := hy
  have hli : (l.length : Int) ≤ 1000000000 := by omega
  clear hy
  by_cases hat : at' < 0 ∨ (l.length : Int) < at'
  · have HR : Hid (getR l at' = Rs.bad 1) := by show _ = _; unfold getR; rw [if_pos hat]
    rw [HR.out]
    have hend : ∀ (wx : World), wx = setBt wA w.heap.size 0 false (.slice none 0 0) ⟨#[]⟩ 0 (.slice none 0 0) → GtP w (Rs.bad 1) (.returned (.tuple #[tmV 0 false (.slice none 0 0) ⟨#[]⟩ 0 (.slice none 0 0), .int .i64 0, .int .i64 1])) wx := fun wx hx => by
      subst hx
      exact ⟨_, rfl, hBA.trans ((setBt_but wA w.heap.size 0 false (.slice none 0 0) ⟨#[]⟩ 0 (.slice none 0 0)).below (Nat.le_refl _)), isT_zero _⟩
    have HE : Hid (∀ (wx : World), wx = setBt wA w.heap.size 0 false (.slice none 0 0) ⟨#[]⟩ 0 (.slice none 0 0) → GtP w (Rs.bad 1) (.returned (.tuple #[tmV 0 false (.slice none 0 0) ⟨#[]⟩ 0 (.slice none 0 0), .int .i64 0, .int .i64 1])) wx) := hend
    clear hend HR
    by_cases hn : at' < 0
    · clear hat
      go_enter Tryd.func19, Tryd.ntmps19
      go_wp2_with fail
      try simp only [Exit.noGoto]
      refine bodyPost_ret (results_bt3 rfl _ _ w.heap.size 0 false (.slice none 0 0) ⟨#[]⟩ 0 (.slice none 0 0) rfl (Bt.set HBt.out 0 false (.slice none 0 0) ⟨#[]⟩ 0 (.slice none 0 0) ⟨_, _, _, rfl⟩ ⟨_, _, _, rfl⟩)) rfl ?_
      exact HE.out _ rfl
    · have hg : (l.length : Int) < at' := by omega
      clear hat
      go_enter Tryd.func19, Tryd.ntmps19
      go_wp2_with fail
      try simp only [Exit.noGoto]
      refine bodyPost_ret (results_bt3 rfl _ _ w.heap.size 0 false (.slice none 0 0) ⟨#[]⟩ 0 (.slice none 0 0) rfl (Bt.set HBt.out 0 false (.slice none 0 0) ⟨#[]⟩ 0 (.slice none 0 0) ⟨_, _, _, rfl⟩ ⟨_, _, _, rfl⟩)) rfl ?_
      exact HE.out _ rfl
  · obtain ⟨p, rfl⟩ := Int.eq_ofNat_of_zero_le (show 0 ≤ at' by omega)
    have hn : ¬ (p : Int) < 0 := by omega
    have hg : ¬ (l.length : Int) < (p : Int) := by omega
    have HR : Hid (getR l (p : Int) = RT l p 0 1) := by show _ = _; unfold getR; rw [if_neg hat]; rfl
    have hpl : p ≤ l.length := by omega
    clear hat
    obtain ⟨wB, hwB⟩ : ∃ wB, wA.alloc (.cells #[.slice pb l.length cb, .int .i64 (p : Int), .int .i64 0, .slice none 0 0] 80) = wB := ⟨_, rfl⟩
    have hBB : Below wA.heap.size wA wB := by rw [← hwB]; exact (Below.refl _ _).alloc (Nat.le_refl _) _
    have hBwB : Below w.heap.size w wB := hBA.trans (hBB.mono hBA.size)
    have hX : RdX wB wA.heap.size (.slice pb l.length cb) (p : Int) (0 : Nat) (.slice none 0 0) := by rw [← hwB]; exact RdX.new wA _ _ _ _ ⟨_, _, _, rfl⟩ ⟨_, _, _, rfl⟩
    have HC : Hid (Calls Tryd.prog 46 #[.pointer (some ⟨wA.heap.size, 0, none⟩)] wB fun e w' => RePost wA wA.heap.size (.slice pb l.length cb) (RT l p 0 1) e w') := read_any wA wB wA.heap.size (.slice pb l.length cb) l p (hS.under hBwB) hX (HY.out.under hBA) hBB (Nat.le_refl _) hpl hl (by omega)
    have HBB : Hid (Below wA.heap.size wA wB) := hBB
    have HBwB : Hid (Below w.heap.size w wB) := hBwB
    rw [HR.out]
    generalize RT l p 0 1 = R at *
    clear hX hBB hBwB HR
    rw [hszA] at HC
    have HBA : Hid (Below w.heap.size w wA) := hBA
    clear hBA
    subst hwB
    go_enter Tryd.func19, Tryd.ntmps19
    go_wp2_with fail
    refine HC.out.mono ?_
    clear HC hS hwA
    rintro e w3 ⟨v, rfl, ⟨k, ng, sl, S, N, sk, rfl, ⟨sa, sn, sc, rfl⟩, ⟨ka, kn, kc, rfl⟩⟩, hb3, hok⟩
    have hB3 := HBt.out.under (hb3.mono (Nat.le_refl _))
    have HW3 : Hid (Below w.heap.size w w3) := HBA.out.trans (hb3.mono HBA.out.size)
    obtain ⟨w4, hw4⟩ : ∃ w4, w3.alloc (.cells #[.int .i64 k, .bool ng, .slice sa sn sc, .string S, .int .i64 N, .slice ka kn kc] 29) = w4 := ⟨_, rfl⟩
    have hB34 : Below w3.heap.size w3 w4 := by rw [← hw4]; exact (Below.refl _ _).alloc (Nat.le_refl _) _
    have hT4 : Bt w4 w3.heap.size k ng (.slice sa sn sc) S N (.slice ka kn kc) := by rw [← hw4]; exact Bt.new w3 _ _ _ _ _ _ ⟨_, _, _, rfl⟩ ⟨_, _, _, rfl⟩
    have HB4 : Hid (Bt w4 w.heap.size 0 false (.slice none 0 0) ⟨#[]⟩ 0 (.slice none 0 0)) := hB3.under hB34
    have HB34 : Hid (Below w3.heap.size w3 w4) := hB34
    have hsz3 := hb3.size
    obtain ⟨t0, t1, t2, t3, t4, t5⟩ := hT4.cells
    obtain ⟨z0, z1, z2, z3, z4, z5⟩ := HB4.out.cells
    obtain ⟨y0, y1, y2, y3, y4, y5⟩ := HB4.out.froz
    have HOK : Hid (R.e = 0 → ∃ P n ov, RdX w3 (w.heap.size + 1) (.slice pb l.length cb) R.p n ov ∧ IsT (veil P w3) R.t (tmV k ng (.slice sa sn sc) S N (.slice ka kn kc)) ∧ ∀ b, P b = true → (w.heap.size + 1) < b) := hok
    clear hok hb3 hB3 hB34 hT4 a0 a1 a2 a3 a4 a5 f0 f1 f2 f3 f4 f5
    simp only [tmV]
    by_cases hre : R.e = 0
    · have hki : ((R.e : Int) != 0) = false := by rw [hre]; rfl
      obtain ⟨P, n, ov, h1, h2, h3⟩ := HOK.out hre
      have HE : Hid (R.e = 0) := hre
      obtain ⟨⟨-, d1, -, -⟩, -⟩ := (h1.under HB34.out).facts
      have HIT : Hid (IsT (veil P w3) R.t (tmV k ng (.slice sa sn sc) S N (.slice ka kn kc)) ∧ ∀ b, P b = true → (w.heap.size + 1) < b) := ⟨h2, h3⟩
      clear HOK h1 h2 h3 hre
      go_wp2_with fail
      go_region
      all_goals
        go_wp2_with fail
        try simp only [Exit.noGoto]
        refine bodyPost_ret (results_bt3 rfl _ _ w.heap.size k ng (.slice sa sn sc) S N (.slice ka kn kc) rfl (Bt.set HB4.out k ng (.slice sa sn sc) S N (.slice ka kn kc) ⟨_, _, _, rfl⟩ ⟨_, _, _, rfl⟩).drew) rfl ?_
        have hbu := setBt_but w4 w.heap.size k ng (.slice sa sn sc) S N (.slice ka kn kc)
        refine ⟨tmV k ng (.slice sa sn sc) S N (.slice ka kn kc), ?_, ?_, ?_⟩
        · rw [if_pos HE.out, HE.out]; rfl
        · exact ((HW3.out.trans (HB34.out.mono HW3.out.size)).trans (hbu.below (Nat.le_refl _))).drew
        · rw [if_pos HE.out]
          exact isT_laid HIT.out.1 HIT.out.2 HB34.out hbu (by omega)
    · have hki : ((R.e : Int) != 0) = true := by rw [bne_iff_ne]; omega
      have HNE : Hid (R.e ≠ 0) := hre
      clear HOK hre
      go_wp2_with fail
      try simp only [Exit.noGoto]
      refine bodyPost_ret (results_bt3 rfl _ _ w.heap.size 0 false (.slice none 0 0) ⟨#[]⟩ 0 (.slice none 0 0) rfl (Bt.set HB4.out 0 false (.slice none 0 0) ⟨#[]⟩ 0 (.slice none 0 0) ⟨_, _, _, rfl⟩ ⟨_, _, _, rfl⟩)) rfl ?_
      have hbu := setBt_but w4 w.heap.size 0 false (.slice none 0 0) ⟨#[]⟩ 0 (.slice none 0 0)
      refine ⟨tmV 0 false (.slice none 0 0) ⟨#[]⟩ 0 (.slice none 0 0), ?_, (HW3.out.trans (HB34.out.mono HW3.out.size)).trans (hbu.below (Nat.le_refl _)), ?_⟩
      · rw [if_neg HNE.out]; rfl
      · rw [if_neg HNE.out]; exact isT_zero _
end Go.Proofs.YtbmondbicnfcpaaDoor
