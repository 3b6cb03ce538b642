/-
  compact: Get.
-/
import Derived.Test.YtfjibcldghnjcaaDoorCpZ
namespace Go.Proofs.YtfjibcldghnjcaaDoor
open Go.RowKit
set_option linter.unusedVariables false
set_option linter.unusedSimpArgs false

/-- What Get answers. -/
def GetPost (w : World) (G : Ar × Int × Int) (e : Ending) (w' : World) : Prop :=
  ∃ sl, e = .returned (.tuple #[agV G.1.t G.1.n sl, .int .i64 G.2.1, .int .i64 G.2.2]) ∧ Rw3 w' sl (G.1.l.map elOf) ∧ (∃ a c, sl = .slice a G.1.l.length c ∧ ∀ x, a = some x → w.heap.size ≤ x.block) ∧ Below w.heap.size w w'
theorem GetPost.bad {w : World} {k : Int} {w' : World} (ho : Below w.heap.size w w') : GetPost w (Ar.zero, 0, k) (.returned (.tuple #[agV 0 0 (.slice none 0 0), .int .i64 0, .int .i64 k])) w' :=
  ⟨_, rfl, Rw3.nil _, ⟨none, 0, rfl, fun x h => by cases h⟩, ho⟩

set_option maxRecDepth 100000 in
set_option maxHeartbeats 1000000 in
theorem get_any (w : World) (v : Value) (l : List UInt8) (at' : Int) (hS : Spn w) (hv : By w v l) :
    Calls Tryd.prog 28 #[v, .int .i64 at'] w fun e w' => GetPost w (getS l at') e w' := by
  obtain ⟨R, hR⟩ : ∃ R, getS l at' = R := ⟨_, rfl⟩
  have HR : Hid (getS l at' = R) := hR
  rw [hR]; clear hR
  obtain ⟨av, cap, rfl, hc1, hc2, hc3⟩ := hv.shape
  have bA := (Below.refl w.heap.size w).alloc (Nat.le_refl _) (.cells #[.int .i64 0, .int .i64 0, .slice none 0 0] 30)
  have HBW1 : Hid (Below w.heap.size w (w.alloc (.cells #[.int .i64 0, .int .i64 0, .slice none 0 0] 30))) := bA
  have HX1 : Hid (BxA (w.alloc (.cells #[.int .i64 0, .int .i64 0, .slice none 0 0] 30)) w.heap.size 0 0 (.slice none 0 0)) := BxA.new w 0 0 _
  have HV1 : Hid (By (w.alloc (.cells #[.int .i64 0, .int .i64 0, .slice none 0 0] 30)) (.slice av l.length cap) l) := hv.under bA
  have HS1 : Hid (Spn (w.alloc (.cells #[.int .i64 0, .int .i64 0, .slice none 0 0] 30))) := hS.under bA
  have hz1 : (w.alloc (.cells #[.int .i64 0, .int .i64 0, .slice none 0 0] 30)).heap.size = w.heap.size + 1 := by simp
  clear bA hS hv
  by_cases h1 : at' < 0 ∨ (l.length : Int) < at'
  · have HE : Hid (R = (Ar.zero, 0, 1)) := by unfold Hid; rw [← HR.out]; unfold getS; rw [if_pos h1]
    have h1' : at' < 0 ∨ (¬ at' < 0 ∧ (l.length : Int) < at') := by omega
    obtain ⟨e0, e1, e2, f0, f1, f2⟩ := HX1.out.facts
    clear HR h1 hz1
    rcases h1' with h | ⟨h, h'⟩
    all_goals
      go_enter Tryd.func28, Tryd.ntmps28
      go_wp2_with fail
      refine bodyPost_ret (results_a3 rfl _ _ w.heap.size 0 0 (.slice none 0 0) rfl HX1.out) rfl ?_
      rw [HE.out]
      exact GetPost.bad HBW1.out
  · have ha0 : ¬ at' < 0 := by omega
    have ha1 : ¬ (l.length : Int) < at' := by omega
    obtain ⟨p, rfl⟩ : ∃ p : Nat, at' = (p : Int) := ⟨at'.toNat, by omega⟩
    have hp : p ≤ l.length := by omega
    obtain ⟨O, hO⟩ : ∃ O, opR (l.drop p) = O := ⟨_, rfl⟩
    have HE : Hid (R = if O.1 = 0 then (O.2.1, (p : Int) + O.2.2, 0) else (Ar.zero, 0, O.1)) := by unfold Hid; rw [← HR.out]; unfold getS; rw [if_neg h1, Int.toNat_natCast, hO]
    generalize hw1d : w.alloc (.cells #[.int .i64 0, .int .i64 0, .slice none 0 0] 30) = w1 at *
    have bB := (Below.refl w1.heap.size w1).alloc (Nat.le_refl _) (.cells #[.slice av l.length cap, .int .i64 (p : Int)] 69)
    have HB2 : Hid (BxR (w1.alloc (.cells #[.slice av l.length cap, .int .i64 (p : Int)] 69)) (w.heap.size + 1) (.slice av l.length cap) (p : Int)) := by
      have := BxR.new w1 av l.length cap (p : Int)
      rw [hz1] at this
      exact this
    have HX2 : Hid (BxA (w1.alloc (.cells #[.slice av l.length cap, .int .i64 (p : Int)] 69)) w.heap.size 0 0 (.slice none 0 0)) := HX1.out.under bB
    have HV2 : Hid (By (w1.alloc (.cells #[.slice av l.length cap, .int .i64 (p : Int)] 69)) (.slice av l.length cap) l) := HV1.out.under bB
    have HS2 : Hid (Spn (w1.alloc (.cells #[.slice av l.length cap, .int .i64 (p : Int)] 69))) := HS1.out.under bB
    have HBW2 : Hid (Below w.heap.size w (w1.alloc (.cells #[.slice av l.length cap, .int .i64 (p : Int)] 69))) := HBW1.out.trans (bB.mono (by omega))
    have HOP : Hid (Calls Tryd.prog 34 #[.pointer (some ⟨w.heap.size + 1, 0, none⟩)] (w1.alloc (.cells #[.slice av l.length cap, .int .i64 (p : Int)] 69)) fun e w' => OpPost (w1.alloc (.cells #[.slice av l.length cap, .int .i64 (p : Int)] 69)) (w.heap.size + 1) (.slice av l.length cap) p O e w') := by
      have := operand_any _ (w.heap.size + 1) (.slice av l.length cap) l p HS2.out HB2.out HV2.out hp
      rw [hO] at this
      exact this
    have hz2 : (w1.alloc (.cells #[.slice av l.length cap, .int .i64 (p : Int)] 69)).heap.size = w.heap.size + 2 := by simp [hz1]
    generalize hw2d : w1.alloc (.cells #[.slice av l.length cap, .int .i64 (p : Int)] 69) = w2 at *
    clear bB HR hO h1 HV1 HS1 HX1 HBW1 HV2 HS2
    generalize hgrd : w.heap.size = gr at *
    go_enter Tryd.func28, Tryd.ntmps28
    go_wp2_with fail
    refine HOP.out.mono ?_
    rintro e w3 ⟨sl, rfl, hrw, ⟨sa, sc, rfl, hnew⟩, hb3, ho3⟩
    unfold agV
    have bC := (Below.refl w3.heap.size w3).alloc (Nat.le_refl _) (.cells #[.int .i64 O.2.1.t, .int .i64 O.2.1.n, .slice sa O.2.1.l.length sc] 30)
    have HX3 : Hid (BxA (w3.alloc (.cells #[.int .i64 O.2.1.t, .int .i64 O.2.1.n, .slice sa O.2.1.l.length sc] 30)) gr 0 0 (.slice none 0 0)) := (HX2.out.oth ho3 (by omega)).under bC
    have HA3 : Hid (BxA (w3.alloc (.cells #[.int .i64 O.2.1.t, .int .i64 O.2.1.n, .slice sa O.2.1.l.length sc] 30)) w3.heap.size O.2.1.t O.2.1.n (.slice sa O.2.1.l.length sc)) := BxA.new _ _ _ _
    have HBW3 : Hid (Below gr w (w3.alloc (.cells #[.int .i64 O.2.1.t, .int .i64 O.2.1.n, .slice sa O.2.1.l.length sc] 30))) := (HBW2.out.trans (ho3.below.mono (by omega))).trans (bC.mono (by have := ho3.size; omega))
    have HRW3 : Hid (Rw3 (w3.alloc (.cells #[.int .i64 O.2.1.t, .int .i64 O.2.1.n, .slice sa O.2.1.l.length sc] 30)) (.slice sa O.2.1.l.length sc) (O.2.1.l.map elOf)) := hrw.under bC
    have HB3 : Hid (O.1 = 0 → BxR (w3.alloc (.cells #[.int .i64 O.2.1.t, .int .i64 O.2.1.n, .slice sa O.2.1.l.length sc] 30)) (gr + 1) (.slice av l.length cap) ((p + O.2.2 : Nat) : Int)) := fun h => (hb3 h).under bC
    have HNEW : Hid (∀ x, sa = some x → gr + 2 ≤ x.block) := fun x hx => by have := hnew x hx; omega
    clear bC hrw hnew hb3 ho3 HOP HX2 HB2 HBW2
    obtain ⟨e0, e1, e2, f0, f1, f2⟩ := HX3.out.facts
    by_cases hO1 : O.1 = 0
    · have HE2 : Hid (R = (O.2.1, (p : Int) + O.2.2, 0)) := by unfold Hid; rw [HE.out, if_pos hO1]
      have hb4 := HB3.out hO1
      obtain ⟨b0, b1, -⟩ := hb4.facts
      obtain ⟨a0, a1, a2, -⟩ := HA3.out.facts
      rw [hO1]
      clear HB3 HE hb4
      go_wp2_with fail
      generalize hgx : w3.heap.size = gx at *
      generalize w3.alloc (.cells #[.int .i64 O.2.1.t, .int .i64 O.2.1.n, .slice sa O.2.1.l.length sc] 30) = w4 at *
      have HXD : Hid (BxA w4.drew gr 0 0 (.slice none 0 0)) := HX3.out
      have HWD : Hid (Below gr w w4.drew) := HBW3.out.drew
      have HRD : Hid (Rw3 w4.drew (.slice sa O.2.1.l.length sc) (O.2.1.l.map elOf)) := HRW3.out.under ((Below.refl _ _).drew)
      have HPO : Hid (((p + O.2.2 : Nat) : Int) = (p : Int) + O.2.2) := by unfold Hid; omega
      clear hgx hw1d hw2d hz1 hz2
      go_region
      all_goals
        go_wp2_with fail
        refine bodyPost_ret (results_a3 rfl _ _ gr O.2.1.t O.2.1.n (.slice sa O.2.1.l.length sc) rfl (HXD.out.set O.2.1.t O.2.1.n _)) rfl ?_
        rw [HE2.out]
        refine ⟨.slice sa O.2.1.l.length sc, ?_, Rw3.setA HRD.out (fun x hx => by have := HNEW.out x hx; omega) _ _ _, ⟨_, _, rfl, fun x hx => by have := HNEW.out x hx; omega⟩, ?_⟩
        · show Ending.returned (.tuple #[agV O.2.1.t O.2.1.n (.slice sa O.2.1.l.length sc), .int .i64 ((p + O.2.2 : Nat) : Int), .int .i64 0]) = _
          rw [HPO.out]
        · rw [hgrd]
          exact Below.setA HWD.out (Nat.le_refl _) _ _ _
    · have HE2 : Hid (R = (Ar.zero, 0, O.1)) := by unfold Hid; rw [HE.out, if_neg hO1]
      obtain ⟨oe, hoe⟩ : ∃ oe, oe = O.1 := ⟨_, rfl⟩
      rw [← hoe] at hO1 HE2 ⊢
      have hqb : (oe != 0) = true := by simp [hO1]
      clear HB3 HE hoe
      go_wp2_with fail
      refine bodyPost_ret (results_a3 rfl _ _ gr 0 0 (.slice none 0 0) rfl (HX3.out.set 0 0 _)) rfl ?_
      rw [HE2.out]
      refine GetPost.bad ?_
      rw [hgrd]
      exact Below.setA HBW3.out (Nat.le_refl _) _ _ _
end Go.Proofs.YtfjibcldghnjcaaDoor
