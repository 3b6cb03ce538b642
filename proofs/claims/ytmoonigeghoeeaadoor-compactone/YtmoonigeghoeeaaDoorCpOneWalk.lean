/-
  relictlaw06.CompactOne: the walk.
-/
import Derived.Test.YtmoonigeghoeeaaDoorCpL
import Derived.Test.YtmoonigeghoeeaaDoorCpP
import Derived.Deep.RegionHeld3
namespace Go.Proofs.YtmoonigeghoeeaaDoor
open Go.RowKit
set_option linter.unusedVariables false
set_option linter.unusedSimpArgs false

def Tok6 (n : Nat) : Prop := True
set_option maxRecDepth 100000 in
set_option maxHeartbeats 4000000 in
theorem compactOne_walk (v : Value) (l : List UInt8) (w : World) (hS : Spn w) (hv : By w v l) :
    Calls Tryd.prog 6 #[v] w fun e w' => e = .returned (.bool true) ∧ Below w.heap.size w w' := by
  have HS : Hid (Spn w) := hS
  clear hS
  obtain ⟨av, cap, rfl, hc1, hc2, hc3⟩ := hv.shape
  have HV : Hid (By w (.slice av l.length cap) l) := hv
  clear hv
  by_cases hbig : (2000 : Int) < (l.length : Int)
  · go_enter Tryd.func6, Tryd.ntmps6
    go_wp2_with fail
    refine (awake6 _ HS.out).mono ?_
    rintro e w4 ⟨rfl, b4⟩
    have HB4 : Hid (Below w.heap.size w w4) := b4
    clear b4
    go_wp2_with fail
    go_ret
    exact ⟨rfl, HB4.out⟩
  have her := op_err l
  have hrd := @op_read l
  have hg := get_zero l
  obtain ⟨O, hO⟩ : ∃ O, O = opR l := ⟨_, rfl⟩
  rw [← hO] at her hrd hg
  clear hO
  by_cases h0 : O.1 = 0
  · obtain ⟨r1, r2, r3, r4⟩ := hrd h0
    rw [if_pos h0] at hg
    obtain ⟨A, hA⟩ : ∃ A, A = O.2.1 := ⟨_, rfl⟩
    obtain ⟨k, hk⟩ : ∃ k, k = O.2.2 := ⟨_, rfl⟩
    rw [← hA, ← hk] at hg
    rw [← hA] at r1 r2
    rw [← hk] at r2 r3 r4
    have HG : Hid (getS l 0 = (A, (k : Int), 0)) := hg
    have HOK : Hid (A.ok = true) := r1
    have HPUT : Hid (A.put = l.take k) := r2
    clear her hrd hg h0 hA hk r1 r2
    have hk1 : (1 : Int) ≤ (k : Int) := by omega
    have hk2 : (k : Int) ≤ (l.length : Int) := by omega
    have hk3 : (k : Int) ≤ (cap : Int) := by omega
    have HTX : Hid (∀ W, Below w.heap.size w W → (convert 22 9 (.slice av k cap)).run Tryd.prog W = .ok (.string ⟨(l.take k).toArray⟩) W) := fun W hW => ((HV.out.take k cap r4 (by omega) (Nat.le_refl _)).under hW).text
    go_enter Tryd.func6, Tryd.ntmps6
    go_wp2_with fail
    refine (bytes_any _ l _ HV.out (by omega)).mono ?_
    rintro e w1 ⟨v1, rfl, o1, b1⟩
    have HY1 : Hid (By w1 v1 l) := o1.by
    have HB1 : Hid (Below w.heap.size w w1) := b1
    clear o1 b1
    go_wp2_with fail
    refine (get_any w1 v1 l 0 (HS.out.under HB1.out) HY1.out).mono ?_
    rw [HG.out]
    rintro e w2 ⟨sl, rfl, hrw, ⟨sa, sc, rfl, -⟩, b2⟩
    unfold agV
    dsimp only at hrw ⊢
    have bC := (Below.refl w2.heap.size w2).alloc (Nat.le_refl _) (.cells #[.int .i64 A.t, .int .i64 A.n, .slice sa A.l.length sc] 25)
    have HB3 : Hid (Below w.heap.size w (w2.alloc (.cells #[.int .i64 A.t, .int .i64 A.n, .slice sa A.l.length sc] 25))) := (HB1.out.trans (b2.mono HB1.out.size)).trans (bC.mono (by have := HB1.out.size; have := b2.size; omega))
    have HX3 : Hid (BxA (w2.alloc (.cells #[.int .i64 A.t, .int .i64 A.n, .slice sa A.l.length sc] 25)) w2.heap.size A.t A.n (.slice sa A.l.length sc)) := BxA.new _ _ _ _
    have HR3 : Hid (Rw3 (w2.alloc (.cells #[.int .i64 A.t, .int .i64 A.n, .slice sa A.l.length sc] 25)) (.slice sa A.l.length sc) (A.l.map elOf)) := hrw.under bC
    obtain ⟨_, _, he, hs1, hs2, -⟩ := hrw.shape
    injection he with e1 e2 e3
    subst e3
    rw [List.length_map] at hs1
    have hfit := el_fit HOK.out sa sc hs1 hs2
    clear hrw b2 bC HY1 HB1 HG e1 e2
    go_wp2_with fail
    generalize w2.alloc (.cells #[.int .i64 A.t, .int .i64 A.n, .slice sa A.l.length sc] 25) = w3 at *
    generalize w2.heap.size = gx at *
    have HCK : Hid (∀ W, Below w3.heap.size w3 W → Calls Tryd.prog 10 #[.agg #[.int .i64 A.t, .int .i64 A.n, .slice sa A.l.length sc]] W fun e w' => e = .returned (.bool true) ∧ Below W.heap.size W w') := by
      intro W hW
      have := check_any (A.el sa sc) (A.l.map elOf) W (HS.out.under (HB3.out.trans (hW.mono HB3.out.size))) hfit (HR3.out.under hW) (by rw [List.length_map]; rfl)
      rw [el_ok HOK.out] at this
      exact this
    have HTK : Hid ((l.take k).length = k) := by unfold Hid; simp; omega
    have HPT : Hid (∀ W, Below w3.heap.size w3 W → Calls Tryd.prog 13 #[.slice none 0 0, .agg #[.int .i64 A.t, .int .i64 A.n, .slice sa A.l.length sc]] W fun e w' => ∃ p2 c2, e = .returned (.slice p2 k c2) ∧ (convert 22 9 (.slice p2 k c2)).run Tryd.prog w' = .ok (.string ⟨(l.take k).toArray⟩) w' ∧ Below W.heap.size W w') := by
      intro W hW
      have := put_any (.slice none 0 0) [] (A.el sa sc) (A.l.map elOf) W (HS.out.under (HB3.out.trans (hW.mono HB3.out.size))) (By.nil _) (by simp) hfit (HR3.out.under hW) (by rw [List.length_map]; rfl)
      rw [el_put HOK.out, HPUT.out] at this
      refine this.mono ?_
      rintro e w' ⟨v2, rfl, y2, b2⟩
      rw [List.nil_append] at y2
      obtain ⟨p2, c2, rfl, -⟩ := y2.shape
      have t2 := y2.text
      rw [HTK.out] at t2 ⊢
      exact ⟨p2, c2, rfl, t2, b2⟩
    have HAW : Hid (∀ W, Below w3.heap.size w3 W → Calls Tryd.prog 9 #[] W fun e w' => e = .returned (.bool true) ∧ Below W.heap.size W w') := fun W hW => awake6 W (HS.out.under (HB3.out.trans (hW.mono HB3.out.size)))
    have HTW : Hid (∀ W, Below w3.heap.size w3 W → (convert 22 9 (.slice av k cap)).run Tryd.prog W = .ok (.string ⟨(l.take k).toArray⟩) W) := fun W hW => HTX.out W (HB3.out.trans (hW.mono HB3.out.size))
    have HKP : Hid (∀ W, Below w3.heap.size w3 W → W.cell? ⟨gx, 0, none⟩ = some (.int .i64 A.t) ∧ W.cell? ⟨gx, 1, none⟩ = some (.int .i64 A.n) ∧ W.cell? ⟨gx, 2, none⟩ = some (.slice sa A.l.length sc)) := fun W hW => by
      obtain ⟨a, b, c, -⟩ := (HX3.out.under hW).facts
      exact ⟨a, b, c⟩
    obtain ⟨z0, z1, z2⟩ := HKP.out w3 (Below.refl _ _)
    clear hfit hs1 hs2 hc3 hbig HV HTX
    have tb0 := HTW.out _ ((Below.refl w3.heap.size w3).drew)
    have notok : Tok6 0 := trivial
    go_region_law (first
      | (go_simp; have := notok; go_at_call 10; refine (HCK.out _ ((Below.refl _ _).drew)).mono ?_; rintro e x1 ⟨rfl, b1⟩; have hq1 : Below w3.heap.size w3 x1 := ((Below.refl _ _).drew).trans (b1.mono (Nat.le_refl _)); clear notok; have tb1 := HTW.out _ hq1; obtain ⟨y0, y1, y2⟩ := HKP.out _ hq1)
      | (go_simp; go_at_call 13; refine (HPT.out _ hq1).mono ?_; rintro e x2 ⟨p2, c2, rfl, tp2, b2⟩; have hq2 : Below w3.heap.size w3 x2 := hq1.trans (b2.mono hq1.size); have tb2 := HTW.out _ hq2; obtain ⟨u0, u1, u2⟩ := HKP.out _ hq2)
      | (go_simp; go_at_call 9; refine (HAW.out _ hq2).mono ?_; rintro e x3 ⟨rfl, b3⟩; have hq3 : Below w3.heap.size w3 x3 := hq2.trans (b3.mono hq2.size)))
    all_goals
      have HBF : Hid (Below w.heap.size w x3) := HB3.out.trans (hq3.mono HB3.out.size)
      go_wp2_with fail
      go_ret
      exact ⟨rfl, HBF.out⟩
  · rw [if_neg h0] at hg
    obtain ⟨oe, hoe⟩ : ∃ oe, oe = O.1 := ⟨_, rfl⟩
    rw [← hoe] at her h0 hg
    have HG : Hid (getS l 0 = (Ar.zero, 0, oe)) := hg
    have hcs : oe = 3 ∨ oe = 4 := by omega
    clear her hrd hg hoe h0
    rcases hcs with rfl | rfl
    all_goals
      go_enter Tryd.func6, Tryd.ntmps6
      go_wp2_with fail
      refine (bytes_any _ l _ HV.out (by omega)).mono ?_
      rintro e w1 ⟨v1, rfl, o1, b1⟩
      have HY1 : Hid (By w1 v1 l) := o1.by
      have HB1 : Hid (Below w.heap.size w w1) := b1
      clear o1 b1
      go_wp2_with fail
      refine (get_any w1 v1 l 0 (HS.out.under HB1.out) HY1.out).mono ?_
      rw [HG.out]
      rintro e w2 ⟨sl, rfl, hrw, ⟨sa, sc, rfl, -⟩, b2⟩
      unfold agV Ar.zero
      dsimp only [List.length_nil]
      have bC := (Below.refl w2.heap.size w2).alloc (Nat.le_refl _) (.cells #[.int .i64 0, .int .i64 0, .slice sa 0 sc] 25)
      have HB3 : Hid (Below w.heap.size w (w2.alloc (.cells #[.int .i64 0, .int .i64 0, .slice sa 0 sc] 25))) := (HB1.out.trans (b2.mono HB1.out.size)).trans (bC.mono (by have := HB1.out.size; have := b2.size; omega))
      clear hrw b2 bC HY1
      go_wp2_with fail
      refine (awake6 _ (HS.out.under HB3.out)).mono ?_
      rintro e w4 ⟨rfl, b4⟩
      have HB4 : Hid (Below w.heap.size w w4) := HB3.out.trans (b4.mono HB3.out.size)
      clear b4
      go_wp2_with fail
      go_ret
      exact ⟨rfl, HB4.out⟩
end Go.Proofs.YtmoonigeghoeeaaDoor
