/-
  relictlaw07.OpsThrows.
-/
import Derived.Test.YtbekdcalhkgdjaaDoorOpJ
import Derived.Test.YtbekdcalhkgdjaaDoorPlaceB
namespace Go.Proofs.YtbekdcalhkgdjaaDoor
open Go.RowKit
set_option linter.unusedVariables false
set_option linter.unusedSimpArgs false

theorem thr_fits35 {l : Int} (h1 : 0 ≤ l) (h2 : l < 5) : fitsI 35 [agS (5, l), agS (0, 0), agS (0, 1), agS (1, 1), agS (1, 2), agS (3, 0)] = true ∧ thrI 35 [agS (5, l), agS (0, 0), agS (0, 1), agS (1, 1), agS (1, 2), agS (3, 0)] = decide (l = 0) := by
  rcases (show l = 0 ∨ l = 1 ∨ l = 2 ∨ l = 3 ∨ l = 4 by omega) with rfl | rfl | rfl | rfl | rfl <;> decide +kernel
theorem thr_fits36 {l : Int} (h1 : 0 ≤ l) (h2 : l < 5) : fitsI 36 [agS (5, l), agS (0, 1), agS (3, 0), agS (3, 0)] = true ∧ thrI 36 [agS (5, l), agS (0, 1), agS (3, 0), agS (3, 0)] = decide (l = 0) := by
  rcases (show l = 0 ∨ l = 1 ∨ l = 2 ∨ l = 3 ∨ l = 4 by omega) with rfl | rfl | rfl | rfl | rfl <;> decide +kernel
theorem thr_fits37 {l : Int} (h1 : 0 ≤ l) (h2 : l < 5) : fitsI 37 [agS (5, l), agS (0, 1), agS (3, 0), agS (3, 1), agS (3, 0)] = true ∧ thrI 37 [agS (5, l), agS (0, 1), agS (3, 0), agS (3, 1), agS (3, 0)] = decide (l = 0) := by
  rcases (show l = 0 ∨ l = 1 ∨ l = 2 ∨ l = 3 ∨ l = 4 by omega) with rfl | rfl | rfl | rfl | rfl <;> decide +kernel
set_option maxRecDepth 100000 in
set_option maxHeartbeats 8000000 in
theorem opsThrows_walk (x0 x1 : Int) (w : World) (hN : Nam w) (a1 : -9223372036854775808 ≤ x0) (a2 : x0 ≤ 9223372036854775807) (b1 : -9223372036854775808 ≤ x1) (b2 : x1 ≤ 9223372036854775807) :
    Calls Tryd.prog 6 #[.int .i64 x0, .int .i64 x1] w (RB true w) := by
  have HN : Hid (Nam w) := hN
  clear hN
  have hk1 := Int.emod_nonneg x0 (show (3 : Int) ≠ 0 by decide)
  have hk2 := Int.emod_lt_of_pos x0 (show (0 : Int) < 3 by decide)
  have hl1 := Int.emod_nonneg x1 (show (5 : Int) ≠ 0 by decide)
  have hl2 := Int.emod_lt_of_pos x1 (show (0 : Int) < 5 by decide)
  have HP0 : Hid (∀ W, Calls Tryd.prog 17 #[.int .i64 x0, .int .i64 3] W fun e w' => e = .returned (.int .i64 (x0 % 3)) ∧ W = w') := fun W => place_any x0 3 W (by decide) (by decide) a1 a2
  have HP1 : Hid (∀ W, Calls Tryd.prog 17 #[.int .i64 x1, .int .i64 5] W fun e w' => e = .returned (.int .i64 (x1 % 5)) ∧ W = w') := fun W => place_any x1 5 W (by decide) (by decide) b1 b2
  generalize x0 % 3 = k at *
  generalize x1 % 5 = l at *
  clear a1 a2 b1 b2
  have hl3 : -9223372036854775808 ≤ l ∧ l ≤ 9223372036854775807 := by omega
  go_enter Tryd.func6, Tryd.ntmps6
  go_wp2_with fail
  refine (HP0.out _).mono ?_
  rintro e w1 ⟨rfl, rfl⟩
  go_wp2_with fail
  refine (HP1.out _).mono ?_
  rintro e w1 ⟨rfl, rfl⟩
  clear HP0 HP1
  go_wp2_with fail
  refine (F_any (l) _).mono ?_
  rintro e w00 ⟨rfl, bb⟩
  have HBw00 : Hid (Below w.heap.size w w00) := bb
  clear bb
  go_wp2_with fail
  refine (U_any (0) _).mono ?_
  rintro e w01 ⟨rfl, bb⟩
  have HBw01 : Hid (Below w.heap.size w w01) := HBw00.out.trans (bb.mono HBw00.out.size)
  clear bb HBw00
  go_wp2_with fail
  refine (U_any (1) _).mono ?_
  rintro e w02 ⟨rfl, bb⟩
  have HBw02 : Hid (Below w.heap.size w w02) := HBw01.out.trans (bb.mono HBw01.out.size)
  clear bb HBw01
  go_wp2_with fail
  refine (I_any (1) _).mono ?_
  rintro e w03 ⟨rfl, bb⟩
  have HBw03 : Hid (Below w.heap.size w w03) := HBw02.out.trans (bb.mono HBw02.out.size)
  clear bb HBw02
  go_wp2_with fail
  refine (I_any (2) _).mono ?_
  rintro e w04 ⟨rfl, bb⟩
  have HBw04 : Hid (Below w.heap.size w w04) := HBw03.out.trans (bb.mono HBw03.out.size)
  clear bb HBw03
  go_wp2_with fail
  refine (X_any (0) _).mono ?_
  rintro e w05 ⟨rfl, bb⟩
  have HBw05 : Hid (Below w.heap.size w w05) := HBw04.out.trans (bb.mono HBw04.out.size)
  clear bb HBw04
  have HL : Hid (Gs (w05.alloc (.cells #[.int .i64 5, .int .i64 l, .slice none 0 0, .int .i64 0, .int .i64 0, .slice none 0 0, .int .i64 0, .int .i64 1, .slice none 0 0, .int .i64 1, .int .i64 1, .slice none 0 0, .int .i64 1, .int .i64 2, .slice none 0 0, .int .i64 3, .int .i64 0, .slice none 0 0] 33)) (.slice (some ⟨w05.heap.size, 0, none⟩) 6 6) [agS (5, l), agS (0, 0), agS (0, 1), agS (1, 1), agS (1, 2), agS (3, 0)]) := gs_lit w05 [(5, l), (0, 0), (0, 1), (1, 1), (1, 2), (3, 0)] (fun p hp => by simp only [List.mem_cons, List.not_mem_nil, or_false] at hp; rcases hp with rfl | rfl | rfl | rfl | rfl | rfl <;> exact elS_fit (by dsimp only; omega) (by dsimp only; omega)) (by simp)
  have HBL : Hid (Below w.heap.size w (w05.alloc (.cells #[.int .i64 5, .int .i64 l, .slice none 0 0, .int .i64 0, .int .i64 0, .slice none 0 0, .int .i64 0, .int .i64 1, .slice none 0 0, .int .i64 1, .int .i64 1, .slice none 0 0, .int .i64 1, .int .i64 2, .slice none 0 0, .int .i64 3, .int .i64 0, .slice none 0 0] 33))) := HBw05.out.trans ((box_below _ _ _).mono HBw05.out.size)
  clear HBw05
  go_wp2_with fail
  refine (Op_any 35 [agS (5, l), agS (0, 0), agS (0, 1), agS (1, 1), agS (1, 2), agS (3, 0)] _ 6 _ HL.out (by simp)).mono ?_
  generalize w05.alloc (.cells #[.int .i64 5, .int .i64 l, .slice none 0 0, .int .i64 0, .int .i64 0, .slice none 0 0, .int .i64 0, .int .i64 1, .slice none 0 0, .int .i64 1, .int .i64 1, .slice none 0 0, .int .i64 1, .int .i64 2, .slice none 0 0, .int .i64 3, .int .i64 0, .slice none 0 0] 33) = wl at *
  generalize w05.heap.size = gl at *
  rintro e wo0 ⟨p0, c0, rfl, gg, bb⟩
  have HG0 : Hid (Gs wo0 (.slice p0 6 c0) [agS (5, l), agS (0, 0), agS (0, 1), agS (1, 1), agS (1, 2), agS (3, 0)]) := gg
  have HBo0 : Hid (Below w.heap.size w wo0) := HBL.out.trans (bb.mono HBL.out.size)
  clear gg bb HL HBL
  dsimp only [List.length_cons, List.length_nil]
  go_wp2_with fail
  refine (F_any (l) _).mono ?_
  rintro e w10 ⟨rfl, bb⟩
  have HBw10 : Hid (Below w.heap.size w w10) := HBo0.out.trans (bb.mono HBo0.out.size)
  have HG0 : Hid (Gs w10 (.slice p0 6 c0) [agS (5, l), agS (0, 0), agS (0, 1), agS (1, 1), agS (1, 2), agS (3, 0)]) := HG0.out.under bb
  clear bb HBo0
  go_wp2_with fail
  refine (U_any (1) _).mono ?_
  rintro e w11 ⟨rfl, bb⟩
  have HBw11 : Hid (Below w.heap.size w w11) := HBw10.out.trans (bb.mono HBw10.out.size)
  have HG0 : Hid (Gs w11 (.slice p0 6 c0) [agS (5, l), agS (0, 0), agS (0, 1), agS (1, 1), agS (1, 2), agS (3, 0)]) := HG0.out.under bb
  clear bb HBw10
  go_wp2_with fail
  refine (X_any (0) _).mono ?_
  rintro e w12 ⟨rfl, bb⟩
  have HBw12 : Hid (Below w.heap.size w w12) := HBw11.out.trans (bb.mono HBw11.out.size)
  have HG0 : Hid (Gs w12 (.slice p0 6 c0) [agS (5, l), agS (0, 0), agS (0, 1), agS (1, 1), agS (1, 2), agS (3, 0)]) := HG0.out.under bb
  clear bb HBw11
  go_wp2_with fail
  refine (X_any (0) _).mono ?_
  rintro e w13 ⟨rfl, bb⟩
  have HBw13 : Hid (Below w.heap.size w w13) := HBw12.out.trans (bb.mono HBw12.out.size)
  have HG0 : Hid (Gs w13 (.slice p0 6 c0) [agS (5, l), agS (0, 0), agS (0, 1), agS (1, 1), agS (1, 2), agS (3, 0)]) := HG0.out.under bb
  clear bb HBw12
  have HL : Hid (Gs (w13.alloc (.cells #[.int .i64 5, .int .i64 l, .slice none 0 0, .int .i64 0, .int .i64 1, .slice none 0 0, .int .i64 3, .int .i64 0, .slice none 0 0, .int .i64 3, .int .i64 0, .slice none 0 0] 33)) (.slice (some ⟨w13.heap.size, 0, none⟩) 4 4) [agS (5, l), agS (0, 1), agS (3, 0), agS (3, 0)]) := gs_lit w13 [(5, l), (0, 1), (3, 0), (3, 0)] (fun p hp => by simp only [List.mem_cons, List.not_mem_nil, or_false] at hp; rcases hp with rfl | rfl | rfl | rfl <;> exact elS_fit (by dsimp only; omega) (by dsimp only; omega)) (by simp)
  have HBL : Hid (Below w.heap.size w (w13.alloc (.cells #[.int .i64 5, .int .i64 l, .slice none 0 0, .int .i64 0, .int .i64 1, .slice none 0 0, .int .i64 3, .int .i64 0, .slice none 0 0, .int .i64 3, .int .i64 0, .slice none 0 0] 33))) := HBw13.out.trans ((box_below _ _ _).mono HBw13.out.size)
  have HG0 : Hid (Gs (w13.alloc (.cells #[.int .i64 5, .int .i64 l, .slice none 0 0, .int .i64 0, .int .i64 1, .slice none 0 0, .int .i64 3, .int .i64 0, .slice none 0 0, .int .i64 3, .int .i64 0, .slice none 0 0] 33)) (.slice p0 6 c0) [agS (5, l), agS (0, 0), agS (0, 1), agS (1, 1), agS (1, 2), agS (3, 0)]) := HG0.out.under (box_below _ _ _)
  clear HBw13
  go_wp2_with fail
  refine (Op_any 36 [agS (5, l), agS (0, 1), agS (3, 0), agS (3, 0)] _ 4 _ HL.out (by simp)).mono ?_
  generalize w13.alloc (.cells #[.int .i64 5, .int .i64 l, .slice none 0 0, .int .i64 0, .int .i64 1, .slice none 0 0, .int .i64 3, .int .i64 0, .slice none 0 0, .int .i64 3, .int .i64 0, .slice none 0 0] 33) = wl at *
  generalize w13.heap.size = gl at *
  rintro e wo1 ⟨p1, c1, rfl, gg, bb⟩
  have HG1 : Hid (Gs wo1 (.slice p1 4 c1) [agS (5, l), agS (0, 1), agS (3, 0), agS (3, 0)]) := gg
  have HBo1 : Hid (Below w.heap.size w wo1) := HBL.out.trans (bb.mono HBL.out.size)
  have HG0 : Hid (Gs wo1 (.slice p0 6 c0) [agS (5, l), agS (0, 0), agS (0, 1), agS (1, 1), agS (1, 2), agS (3, 0)]) := HG0.out.under bb
  clear gg bb HL HBL
  dsimp only [List.length_cons, List.length_nil]
  go_wp2_with fail
  refine (F_any (l) _).mono ?_
  rintro e w20 ⟨rfl, bb⟩
  have HBw20 : Hid (Below w.heap.size w w20) := HBo1.out.trans (bb.mono HBo1.out.size)
  have HG0 : Hid (Gs w20 (.slice p0 6 c0) [agS (5, l), agS (0, 0), agS (0, 1), agS (1, 1), agS (1, 2), agS (3, 0)]) := HG0.out.under bb
  have HG1 : Hid (Gs w20 (.slice p1 4 c1) [agS (5, l), agS (0, 1), agS (3, 0), agS (3, 0)]) := HG1.out.under bb
  clear bb HBo1
  go_wp2_with fail
  refine (U_any (1) _).mono ?_
  rintro e w21 ⟨rfl, bb⟩
  have HBw21 : Hid (Below w.heap.size w w21) := HBw20.out.trans (bb.mono HBw20.out.size)
  have HG0 : Hid (Gs w21 (.slice p0 6 c0) [agS (5, l), agS (0, 0), agS (0, 1), agS (1, 1), agS (1, 2), agS (3, 0)]) := HG0.out.under bb
  have HG1 : Hid (Gs w21 (.slice p1 4 c1) [agS (5, l), agS (0, 1), agS (3, 0), agS (3, 0)]) := HG1.out.under bb
  clear bb HBw20
  go_wp2_with fail
  refine (X_any (0) _).mono ?_
  rintro e w22 ⟨rfl, bb⟩
  have HBw22 : Hid (Below w.heap.size w w22) := HBw21.out.trans (bb.mono HBw21.out.size)
  have HG0 : Hid (Gs w22 (.slice p0 6 c0) [agS (5, l), agS (0, 0), agS (0, 1), agS (1, 1), agS (1, 2), agS (3, 0)]) := HG0.out.under bb
  have HG1 : Hid (Gs w22 (.slice p1 4 c1) [agS (5, l), agS (0, 1), agS (3, 0), agS (3, 0)]) := HG1.out.under bb
  clear bb HBw21
  go_wp2_with fail
  refine (X_any (1) _).mono ?_
  rintro e w23 ⟨rfl, bb⟩
  have HBw23 : Hid (Below w.heap.size w w23) := HBw22.out.trans (bb.mono HBw22.out.size)
  have HG0 : Hid (Gs w23 (.slice p0 6 c0) [agS (5, l), agS (0, 0), agS (0, 1), agS (1, 1), agS (1, 2), agS (3, 0)]) := HG0.out.under bb
  have HG1 : Hid (Gs w23 (.slice p1 4 c1) [agS (5, l), agS (0, 1), agS (3, 0), agS (3, 0)]) := HG1.out.under bb
  clear bb HBw22
  go_wp2_with fail
  refine (X_any (0) _).mono ?_
  rintro e w24 ⟨rfl, bb⟩
  have HBw24 : Hid (Below w.heap.size w w24) := HBw23.out.trans (bb.mono HBw23.out.size)
  have HG0 : Hid (Gs w24 (.slice p0 6 c0) [agS (5, l), agS (0, 0), agS (0, 1), agS (1, 1), agS (1, 2), agS (3, 0)]) := HG0.out.under bb
  have HG1 : Hid (Gs w24 (.slice p1 4 c1) [agS (5, l), agS (0, 1), agS (3, 0), agS (3, 0)]) := HG1.out.under bb
  clear bb HBw23
  have HL : Hid (Gs (w24.alloc (.cells #[.int .i64 5, .int .i64 l, .slice none 0 0, .int .i64 0, .int .i64 1, .slice none 0 0, .int .i64 3, .int .i64 0, .slice none 0 0, .int .i64 3, .int .i64 1, .slice none 0 0, .int .i64 3, .int .i64 0, .slice none 0 0] 33)) (.slice (some ⟨w24.heap.size, 0, none⟩) 5 5) [agS (5, l), agS (0, 1), agS (3, 0), agS (3, 1), agS (3, 0)]) := gs_lit w24 [(5, l), (0, 1), (3, 0), (3, 1), (3, 0)] (fun p hp => by simp only [List.mem_cons, List.not_mem_nil, or_false] at hp; rcases hp with rfl | rfl | rfl | rfl | rfl <;> exact elS_fit (by dsimp only; omega) (by dsimp only; omega)) (by simp)
  have HBL : Hid (Below w.heap.size w (w24.alloc (.cells #[.int .i64 5, .int .i64 l, .slice none 0 0, .int .i64 0, .int .i64 1, .slice none 0 0, .int .i64 3, .int .i64 0, .slice none 0 0, .int .i64 3, .int .i64 1, .slice none 0 0, .int .i64 3, .int .i64 0, .slice none 0 0] 33))) := HBw24.out.trans ((box_below _ _ _).mono HBw24.out.size)
  have HG0 : Hid (Gs (w24.alloc (.cells #[.int .i64 5, .int .i64 l, .slice none 0 0, .int .i64 0, .int .i64 1, .slice none 0 0, .int .i64 3, .int .i64 0, .slice none 0 0, .int .i64 3, .int .i64 1, .slice none 0 0, .int .i64 3, .int .i64 0, .slice none 0 0] 33)) (.slice p0 6 c0) [agS (5, l), agS (0, 0), agS (0, 1), agS (1, 1), agS (1, 2), agS (3, 0)]) := HG0.out.under (box_below _ _ _)
  have HG1 : Hid (Gs (w24.alloc (.cells #[.int .i64 5, .int .i64 l, .slice none 0 0, .int .i64 0, .int .i64 1, .slice none 0 0, .int .i64 3, .int .i64 0, .slice none 0 0, .int .i64 3, .int .i64 1, .slice none 0 0, .int .i64 3, .int .i64 0, .slice none 0 0] 33)) (.slice p1 4 c1) [agS (5, l), agS (0, 1), agS (3, 0), agS (3, 0)]) := HG1.out.under (box_below _ _ _)
  clear HBw24
  go_wp2_with fail
  refine (Op_any 37 [agS (5, l), agS (0, 1), agS (3, 0), agS (3, 1), agS (3, 0)] _ 5 _ HL.out (by simp)).mono ?_
  generalize w24.alloc (.cells #[.int .i64 5, .int .i64 l, .slice none 0 0, .int .i64 0, .int .i64 1, .slice none 0 0, .int .i64 3, .int .i64 0, .slice none 0 0, .int .i64 3, .int .i64 1, .slice none 0 0, .int .i64 3, .int .i64 0, .slice none 0 0] 33) = wl at *
  generalize w24.heap.size = gl at *
  rintro e wo2 ⟨p2, c2, rfl, gg, bb⟩
  have HG2 : Hid (Gs wo2 (.slice p2 5 c2) [agS (5, l), agS (0, 1), agS (3, 0), agS (3, 1), agS (3, 0)]) := gg
  have HBo2 : Hid (Below w.heap.size w wo2) := HBL.out.trans (bb.mono HBL.out.size)
  have HG0 : Hid (Gs wo2 (.slice p0 6 c0) [agS (5, l), agS (0, 0), agS (0, 1), agS (1, 1), agS (1, 2), agS (3, 0)]) := HG0.out.under bb
  have HG1 : Hid (Gs wo2 (.slice p1 4 c1) [agS (5, l), agS (0, 1), agS (3, 0), agS (3, 0)]) := HG1.out.under bb
  clear gg bb HL HBL
  dsimp only [List.length_cons, List.length_nil]
  have HFT35 := thr_fits35 hl1 hl2
  have HFT36 := thr_fits36 hl1 hl2
  have HFT37 := thr_fits37 hl1 hl2
  have HT35 : Hid _ := HFT35
  have HT36 : Hid _ := HFT36
  have HT37 : Hid _ := HFT37
  clear HFT35 HFT36 HFT37
  rcases (show k = 0 ∨ k = 1 ∨ k = 2 by omega) with rfl | rfl | rfl
  · have x0 : ∀ wx : World, (Instr.index 40 (.agg #[.int .i64 35, .slice p0 6 c0, .int .i64 36, .slice p1 4 c1, .int .i64 37, .slice p2 5 c2]) (.int .i64 0)).run Tryd.prog wx = .ok (.agg #[.int .i64 35, .slice p0 6 c0]) wx := fun wx => by kernel_rfl
    have HX : Hid (BxI (wo2.alloc (.cells #[.int .i64 35, .slice p0 6 c0] 27)) wo2.heap.size 35 (.slice p0 6 c0)) := BxI.new _ _ _
    have HBX : Hid (Below w.heap.size w (wo2.alloc (.cells #[.int .i64 35, .slice p0 6 c0] 27))) := HBo2.out.trans ((box_below _ _ _).mono HBo2.out.size)
    have HGX : Hid (Gs (wo2.alloc (.cells #[.int .i64 35, .slice p0 6 c0] 27)) (.slice p0 6 c0) [agS (5, l), agS (0, 0), agS (0, 1), agS (1, 1), agS (1, 2), agS (3, 0)]) := HG0.out.under (box_below _ _ _)
    clear HG0 HG1 HG2 HBo2
    go_wp2_with fail
    clear x0
    generalize wo2.alloc (.cells #[.int .i64 35, .slice p0 6 c0] 27) = wx at *
    generalize wo2.heap.size = gx at *
    refine (Fits_any 35 [agS (5, l), agS (0, 0), agS (0, 1), agS (1, 1), agS (1, 2), agS (3, 0)] _ _ HGX.out).mono ?_
    rw [HT35.out.1]
    rintro e wf ⟨rfl, bb⟩
    have HBF : Hid (Below w.heap.size w wf) := HBX.out.trans (bb.mono HBX.out.size)
    have HGF : Hid (Gs wf (.slice p0 6 c0) [agS (5, l), agS (0, 0), agS (0, 1), agS (1, 1), agS (1, 2), agS (3, 0)]) := HGX.out.under bb
    have HXF : Hid (BxI wf gx 35 (.slice p0 6 c0)) := HX.out.under bb
    clear bb HBX HGX HX
    obtain ⟨y0, y1, y2⟩ := HXF.out.facts
    go_wp2_with fail
    refine (Throws_any 35 [agS (5, l), agS (0, 0), agS (0, 1), agS (1, 1), agS (1, 2), agS (3, 0)] _ _ HGF.out).mono ?_
    rw [HT35.out.2]
    obtain ⟨q1, hq1⟩ : ∃ q1, decide (l = 0) = q1 := ⟨_, rfl⟩
    have hq2 : (l == 0) = q1 := by rw [← hq1]; by_cases h : l = 0 <;> simp [h]
    rw [hq1]
    rintro e wt ⟨rfl, bb⟩
    have HBT : Hid (Below w.heap.size w wt) := HBF.out.trans (bb.mono HBF.out.size)
    have HXT : Hid (BxI wt gx 35 (.slice p0 6 c0)) := HXF.out.under bb
    clear bb HBF HGF HXF y0 y1 y2
    obtain ⟨y0, y1, y2⟩ := HXT.out.facts
    have HEN : Hid (Calls Tryd.prog 11 #[.int .i64 35] wt fun e w' => e = .returned (.bool false) ∧ w' = wt) := ends_any 35 wt
    clear hq1
    cases q1
    all_goals
      go_wp2_with fail
      refine HEN.out.mono ?_
      rintro e wu ⟨rfl, rfl⟩
      clear y0 y1 y2 HEN
      go_wp2_with fail
      refine (awake7 _ (HN.out.under HBT.out)).mono ?_
      rintro e wv ⟨rfl, bb⟩
      have HBV : Hid (Below w.heap.size w wv) := HBT.out.trans (bb.mono HBT.out.size)
      clear bb HBT
      go_wp2_with fail
      go_ret
      exact ⟨rfl, HBV.out⟩
  · have x0 : ∀ wx : World, (Instr.index 40 (.agg #[.int .i64 35, .slice p0 6 c0, .int .i64 36, .slice p1 4 c1, .int .i64 37, .slice p2 5 c2]) (.int .i64 1)).run Tryd.prog wx = .ok (.agg #[.int .i64 36, .slice p1 4 c1]) wx := fun wx => by kernel_rfl
    have HX : Hid (BxI (wo2.alloc (.cells #[.int .i64 36, .slice p1 4 c1] 27)) wo2.heap.size 36 (.slice p1 4 c1)) := BxI.new _ _ _
    have HBX : Hid (Below w.heap.size w (wo2.alloc (.cells #[.int .i64 36, .slice p1 4 c1] 27))) := HBo2.out.trans ((box_below _ _ _).mono HBo2.out.size)
    have HGX : Hid (Gs (wo2.alloc (.cells #[.int .i64 36, .slice p1 4 c1] 27)) (.slice p1 4 c1) [agS (5, l), agS (0, 1), agS (3, 0), agS (3, 0)]) := HG1.out.under (box_below _ _ _)
    clear HG0 HG1 HG2 HBo2
    go_wp2_with fail
    clear x0
    generalize wo2.alloc (.cells #[.int .i64 36, .slice p1 4 c1] 27) = wx at *
    generalize wo2.heap.size = gx at *
    refine (Fits_any 36 [agS (5, l), agS (0, 1), agS (3, 0), agS (3, 0)] _ _ HGX.out).mono ?_
    rw [HT36.out.1]
    rintro e wf ⟨rfl, bb⟩
    have HBF : Hid (Below w.heap.size w wf) := HBX.out.trans (bb.mono HBX.out.size)
    have HGF : Hid (Gs wf (.slice p1 4 c1) [agS (5, l), agS (0, 1), agS (3, 0), agS (3, 0)]) := HGX.out.under bb
    have HXF : Hid (BxI wf gx 36 (.slice p1 4 c1)) := HX.out.under bb
    clear bb HBX HGX HX
    obtain ⟨y0, y1, y2⟩ := HXF.out.facts
    go_wp2_with fail
    refine (Throws_any 36 [agS (5, l), agS (0, 1), agS (3, 0), agS (3, 0)] _ _ HGF.out).mono ?_
    rw [HT36.out.2]
    obtain ⟨q1, hq1⟩ : ∃ q1, decide (l = 0) = q1 := ⟨_, rfl⟩
    have hq2 : (l == 0) = q1 := by rw [← hq1]; by_cases h : l = 0 <;> simp [h]
    rw [hq1]
    rintro e wt ⟨rfl, bb⟩
    have HBT : Hid (Below w.heap.size w wt) := HBF.out.trans (bb.mono HBF.out.size)
    have HXT : Hid (BxI wt gx 36 (.slice p1 4 c1)) := HXF.out.under bb
    clear bb HBF HGF HXF y0 y1 y2
    obtain ⟨y0, y1, y2⟩ := HXT.out.facts
    have HEN : Hid (Calls Tryd.prog 11 #[.int .i64 36] wt fun e w' => e = .returned (.bool false) ∧ w' = wt) := ends_any 36 wt
    clear hq1
    cases q1
    all_goals
      go_wp2_with fail
      refine HEN.out.mono ?_
      rintro e wu ⟨rfl, rfl⟩
      clear y0 y1 y2 HEN
      go_wp2_with fail
      refine (awake7 _ (HN.out.under HBT.out)).mono ?_
      rintro e wv ⟨rfl, bb⟩
      have HBV : Hid (Below w.heap.size w wv) := HBT.out.trans (bb.mono HBT.out.size)
      clear bb HBT
      go_wp2_with fail
      go_ret
      exact ⟨rfl, HBV.out⟩
  · have x0 : ∀ wx : World, (Instr.index 40 (.agg #[.int .i64 35, .slice p0 6 c0, .int .i64 36, .slice p1 4 c1, .int .i64 37, .slice p2 5 c2]) (.int .i64 2)).run Tryd.prog wx = .ok (.agg #[.int .i64 37, .slice p2 5 c2]) wx := fun wx => by kernel_rfl
    have HX : Hid (BxI (wo2.alloc (.cells #[.int .i64 37, .slice p2 5 c2] 27)) wo2.heap.size 37 (.slice p2 5 c2)) := BxI.new _ _ _
    have HBX : Hid (Below w.heap.size w (wo2.alloc (.cells #[.int .i64 37, .slice p2 5 c2] 27))) := HBo2.out.trans ((box_below _ _ _).mono HBo2.out.size)
    have HGX : Hid (Gs (wo2.alloc (.cells #[.int .i64 37, .slice p2 5 c2] 27)) (.slice p2 5 c2) [agS (5, l), agS (0, 1), agS (3, 0), agS (3, 1), agS (3, 0)]) := HG2.out.under (box_below _ _ _)
    clear HG0 HG1 HG2 HBo2
    go_wp2_with fail
    clear x0
    generalize wo2.alloc (.cells #[.int .i64 37, .slice p2 5 c2] 27) = wx at *
    generalize wo2.heap.size = gx at *
    refine (Fits_any 37 [agS (5, l), agS (0, 1), agS (3, 0), agS (3, 1), agS (3, 0)] _ _ HGX.out).mono ?_
    rw [HT37.out.1]
    rintro e wf ⟨rfl, bb⟩
    have HBF : Hid (Below w.heap.size w wf) := HBX.out.trans (bb.mono HBX.out.size)
    have HGF : Hid (Gs wf (.slice p2 5 c2) [agS (5, l), agS (0, 1), agS (3, 0), agS (3, 1), agS (3, 0)]) := HGX.out.under bb
    have HXF : Hid (BxI wf gx 37 (.slice p2 5 c2)) := HX.out.under bb
    clear bb HBX HGX HX
    obtain ⟨y0, y1, y2⟩ := HXF.out.facts
    go_wp2_with fail
    refine (Throws_any 37 [agS (5, l), agS (0, 1), agS (3, 0), agS (3, 1), agS (3, 0)] _ _ HGF.out).mono ?_
    rw [HT37.out.2]
    obtain ⟨q1, hq1⟩ : ∃ q1, decide (l = 0) = q1 := ⟨_, rfl⟩
    have hq2 : (l == 0) = q1 := by rw [← hq1]; by_cases h : l = 0 <;> simp [h]
    rw [hq1]
    rintro e wt ⟨rfl, bb⟩
    have HBT : Hid (Below w.heap.size w wt) := HBF.out.trans (bb.mono HBF.out.size)
    have HXT : Hid (BxI wt gx 37 (.slice p2 5 c2)) := HXF.out.under bb
    clear bb HBF HGF HXF y0 y1 y2
    obtain ⟨y0, y1, y2⟩ := HXT.out.facts
    have HEN : Hid (Calls Tryd.prog 11 #[.int .i64 37] wt fun e w' => e = .returned (.bool false) ∧ w' = wt) := ends_any 37 wt
    clear hq1
    cases q1
    all_goals
      go_wp2_with fail
      refine HEN.out.mono ?_
      rintro e wu ⟨rfl, rfl⟩
      clear y0 y1 y2 HEN
      go_wp2_with fail
      refine (awake7 _ (HN.out.under HBT.out)).mono ?_
      rintro e wv ⟨rfl, bb⟩
      have HBV : Hid (Below w.heap.size w wv) := HBT.out.trans (bb.mono HBT.out.size)
      clear bb HBT
      go_wp2_with fail
      go_ret
      exact ⟨rfl, HBV.out⟩
end Go.Proofs.YtbekdcalhkgdjaaDoor
