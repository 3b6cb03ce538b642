
/-
  relictlaw08: awake, CodeOne.
-/
import Derived.Test.YtfjibcldghnjcaaDoorZCdB
import Derived.Test.YtfjibcldghnjcaaDoorZCdC
import Derived.Test.YtfjibcldghnjcaaDoorCpL
import Derived.Test.YtfjibcldghnjcaaDoorOpRefD
namespace Go.Proofs.YtfjibcldghnjcaaDoor
open Go.RowKit
set_option linter.unusedVariables false
set_option linter.unusedSimpArgs false

theorem is_end1 (w : World) : Is (w.alloc (.cells #[.int .i64 3, .slice none 0 0] 27)) (.slice (some ⟨w.heap.size, 0, none⟩) 1 1) [⟨3, []⟩] := by
  refine ⟨some ⟨w.heap.size, 0, none⟩, 1, [⟨3, none, 0, 0⟩], rfl, rfl, Nat.le_refl _, by decide, fun e => (by cases e), fun _ => ⟨w.heap.size, 0, rfl, by simp, fun i hi => ?_⟩, fun i hi hi' => ?_⟩
  · have : i = 0 := by simpa using hi
    subst this
    refine ⟨?_, ?_⟩ <;> (rw [World.cell?_alloc_mark]; rfl)
  · have : i = 0 := by simpa using hi
    subst this
    exact ⟨rfl, none, 0, [], rfl, rfl, Rw3.nil _, fun i h => absurd h (by simp)⟩
theorem fits_e3 : fitsI 3 [] = true := by decide +kernel
theorem ref_e1 : refS [⟨3, []⟩] = 0 := by
  unfold refS endsS
  simp [In.fits, fits_e3]
theorem codeB_e1 : codeB [⟨3, []⟩] = [3] := by decide +kernel
theorem ins_e3 : insR [3] = (0, ⟨3, []⟩, 1) := by
  unfold insR
  have h1 : nmS ((([3] : List UInt8).getD 0 0).toNat : Int) ≠ [] := by decide +kernel
  have h2 : (sigS ((([3] : List UInt8).getD 0 0).toNat : Int)).length = 0 := by decide +kernel
  rw [if_neg (by simp), if_neg h1, h2]
  unfold argsR
  rw [if_neg (by simp), if_pos (by exact fits_e3)]
  rfl
theorem code_e1 (m : Nat) : codeR (m + 1) [3] = (0, [⟨3, []⟩], 0) := by
  rw [codeR, ins_e3]
  simp

set_option maxRecDepth 100000 in
set_option maxHeartbeats 2000000 in
theorem awake8 (w : World) (hN : Nam w) (hS : Spn w) : Calls Tryd.prog 8 #[] w (RBool true w) := by
  have HN : Hid (Nam w) := hN
  have HS : Hid (Spn w) := hS
  have b0 := box_below w #[.int .i64 3, .slice none 0 0] 27
  have HB0 : Hid (Below w.heap.size w (w.alloc (.cells #[.int .i64 3, .slice none 0 0] 27))) := b0
  have HP : Hid (Calls Tryd.prog 15 #[.slice (some ⟨w.heap.size, 0, none⟩) 1 1] (w.alloc (.cells #[.int .i64 3, .slice none 0 0] 27)) (CPostR (w.alloc (.cells #[.int .i64 3, .slice none 0 0] 27)) 0 [3])) := by
    have := codePut_any _ _ _ (hS.under b0) (is_end1 w) (by rw [codeB_e1]; decide)
    unfold CPost at this
    rw [ref_e1, codeB_e1] at this
    exact this
  clear hN hS b0
  go_enter Tryd.func8, Tryd.ntmps8
  go_wp2_with fail
  refine HP.out.mono ?_
  rintro e w1 ⟨v1, rfl, y1, b1⟩
  rw [if_pos rfl] at y1
  have HB1 : Hid (Below w.heap.size w w1) := HB0.out.trans (b1.mono HB0.out.size)
  obtain ⟨a1, c1, rfl, -⟩ := y1.shape
  have HY1 : Hid (By w1 (.slice a1 1 c1) [3]) := y1
  have b2 := box_below w1 #[.int .u8 3] 5
  have HB2 : Hid (Below w.heap.size w (w1.alloc (.cells #[.int .u8 3] 5))) := HB1.out.trans (b2.mono HB1.out.size)
  have HG : Hid (Calls Tryd.prog 16 #[.slice (some ⟨w1.heap.size, 0, none⟩) 1 1] (w1.alloc (.cells #[.int .u8 3] 5)) (CodePost (w1.alloc (.cells #[.int .u8 3] 5)) (0, [⟨3, []⟩], 0))) := by
    have := codeGet_any _ _ _ (HN.out.under HB2.out) (HS.out.under HB2.out) (By.lit w1 3 (by decide) (by decide))
    rw [show ([ub8 3] : List UInt8) = [3] by decide +kernel, code_e1 399] at this
    exact this
  clear y1 b1 b2 HP HB0
  dsimp only [List.length_cons, List.length_nil]
  go_wp2_with fail
  refine HG.out.mono ?_
  rintro e w3 ⟨sl, rfl, hi, b3⟩
  obtain ⟨a3, c3, rfl, -⟩ := hi.shape
  have HB3 : Hid (Below w.heap.size w w3) := HB2.out.trans (b3.mono HB2.out.size)
  have t1 := ((HY1.out.under (box_below w1 #[.int .u8 3] 5)).under b3).text
  clear hi b3 HG HB2
  dsimp only [List.length_cons, List.length_nil]
  go_wp2_with fail
  go_ret
  exact ⟨rfl, HB3.out⟩

end Go.Proofs.YtfjibcldghnjcaaDoor
