
/-
  What a tied row says of the variable shapes: its 48 cells.
-/
import Derived.Test.YtbmondbicnfcpaaDoorZExtB
import Derived.Test.YtbmondbicnfcpaaDoorRows
import Derived.LaidMore
import Derived.LaidLaws
import Derived.ProofKit
import Derived.OpenShut
import Derived.Stop.Joined
namespace Go.Proofs.YtbmondbicnfcpaaDoor
open Go.ChangeShapes Go.WideShapes Go.ChangeAt Go.RowKit
set_option linter.unusedVariables false
set_option linter.unusedSimpArgs false

theorem gShapes : Tryd.prog.globalNamed "relict/ext.shapes" = some 0 := by kernel_rfl
theorem tShapes : (Tryd.prog.globals[0]?).map (·.type) = some 157 := by kernel_rfl
theorem cShape : Tryd.prog.cellsOf 140 = 6 := by kernel_rfl
theorem cShapeI : Tryd.prog.cellsOf 3 = 1 := by kernel_rfl
theorem cShapeB : Tryd.prog.cellsOf 5 = 1 := by kernel_rfl
theorem list6s {α : Type} {cs : List α} (h : cs.length = 6) : ∃ c0 c1 c2 c3 c4 c5, cs = [c0, c1, c2, c3, c4, c5] := by
  match cs, h with
  | [c0, c1, c2, c3, c4, c5], _ => exact ⟨c0, c1, c2, c3, c4, c5, rfl⟩
theorem shape_row {H : Type} {enc : TypeId × Value → H} {W : World} {m base : Nat} {sp : Nat → Bool} {held : Bool} {cs : List Value} {x : DataW H × List MemPlace} (h : DataW.trod enc Tryd.prog W base sp held m 140 cs = some x) :
    ∃ a b c d e f : Int, cs = [.int .u8 a, .int .i64 b, .int .i64 c, .int .i64 d, .int .i64 e, .int .i64 f] ∧ x.1 = .agg [.lit (.int .u8 a), .lit (.int .i64 b), .lit (.int .i64 c), .lit (.int .i64 d), .lit (.int .i64 e), .lit (.int .i64 f)] := by
  obtain ⟨xs, k, hn, hx, hl, hlen, hf⟩ := DataW.trod_struct Tryd.underlying140 h
  rw [cShape] at hl
  obtain ⟨c0, c1, c2, c3, c4, c5, rfl⟩ := list6s hl
  match xs, hlen with
  | [y0, y1, y2, y3, y4, y5], _ =>
    have f0 : DataW.trod enc Tryd.prog W base sp held k 5 [c0] = some y0 := by simpa [cShapeI, cShapeB] using hf 0 _ rfl
    have f1 : DataW.trod enc Tryd.prog W base sp held k 3 [c1] = some y1 := by simpa [cShapeI, cShapeB] using hf 1 _ rfl
    have f2 : DataW.trod enc Tryd.prog W base sp held k 3 [c2] = some y2 := by simpa [cShapeI, cShapeB] using hf 2 _ rfl
    have f3 : DataW.trod enc Tryd.prog W base sp held k 3 [c3] = some y3 := by simpa [cShapeI, cShapeB] using hf 3 _ rfl
    have f4 : DataW.trod enc Tryd.prog W base sp held k 3 [c4] = some y4 := by simpa [cShapeI, cShapeB] using hf 4 _ rfl
    have f5 : DataW.trod enc Tryd.prog W base sp held k 3 [c5] = some y5 := by simpa [cShapeI, cShapeB] using hf 5 _ rfl
    obtain ⟨a, e0, d0, -⟩ := DataW.trod_int Tryd.underlying5 f0
    obtain ⟨b, e1, d1, -⟩ := DataW.trod_int Tryd.underlying3 f1
    obtain ⟨c, e2, d2, -⟩ := DataW.trod_int Tryd.underlying3 f2
    obtain ⟨d, e3, d3, -⟩ := DataW.trod_int Tryd.underlying3 f3
    obtain ⟨e, e4, d4, -⟩ := DataW.trod_int Tryd.underlying3 f4
    obtain ⟨g, e5, d5, -⟩ := DataW.trod_int Tryd.underlying3 f5
    simp only [List.cons.injEq, and_true] at e0 e1 e2 e3 e4 e5
    subst e0 e1 e2 e3 e4 e5
    refine ⟨a, b, c, d, e, g, rfl, ?_⟩
    rw [hx]
    simp [d0, d1, d2, d3, d4, d5]

set_option maxRecDepth 100000 in
theorem shp_of_row {cs0 : Array Value} {W : World} (key : ∀ (j : Nat) (u : Value), cs0[j]? = some u → W.cell? ⟨0, j, none⟩ = some u)
    (e0 : List.take 6 (List.drop (0 * 6) cs0.toList) = [.int .u8 97, .int .i64 0, .int .i64 0, .int .i64 0, .int .i64 1, .int .i64 0])
    (e1 : List.take 6 (List.drop (1 * 6) cs0.toList) = [.int .u8 98, .int .i64 0, .int .i64 0, .int .i64 0, .int .i64 4, .int .i64 0])
    (e2 : List.take 6 (List.drop (2 * 6) cs0.toList) = [.int .u8 110, .int .i64 1, .int .i64 1, .int .i64 48, .int .i64 1, .int .i64 1])
    (e3 : List.take 6 (List.drop (3 * 6) cs0.toList) = [.int .u8 119, .int .i64 1, .int .i64 1, .int .i64 40, .int .i64 0, .int .i64 1])
    (e4 : List.take 6 (List.drop (4 * 6) cs0.toList) = [.int .u8 106, .int .i64 0, .int .i64 0, .int .i64 0, .int .i64 0, .int .i64 0])
    (e5 : List.take 6 (List.drop (5 * 6) cs0.toList) = [.int .u8 108, .int .i64 4, .int .i64 1, .int .i64 2000, .int .i64 0, .int .i64 0])
    (e6 : List.take 6 (List.drop (6 * 6) cs0.toList) = [.int .u8 104, .int .i64 1, .int .i64 0, .int .i64 40, .int .i64 0, .int .i64 0])
    (e7 : List.take 6 (List.drop (7 * 6) cs0.toList) = [.int .u8 109, .int .i64 4, .int .i64 0, .int .i64 400, .int .i64 0, .int .i64 1]) : Shp W := by
  have g : ∀ (j : Nat) (i : Nat) (u : Value), (List.take 6 (List.drop (i * 6) cs0.toList))[j]? = some u → j < 6 → cs0[i * 6 + j]? = some u := by
    intro j i u hu hj
    rw [List.getElem?_take_of_lt hj, List.getElem?_drop] at hu
    rw [← Array.getElem?_toList]
    exact hu
  intro j u hj
  have hl : j < 48 := (List.getElem?_eq_some_iff.1 hj).1
  match j, hl, hj with
  | 0, _, hj => exact key 0 _ (g 0 0 _ (by rw [e0, ← hj]; rfl) (by decide))
  | 1, _, hj => exact key 1 _ (g 1 0 _ (by rw [e0, ← hj]; rfl) (by decide))
  | 2, _, hj => exact key 2 _ (g 2 0 _ (by rw [e0, ← hj]; rfl) (by decide))
  | 3, _, hj => exact key 3 _ (g 3 0 _ (by rw [e0, ← hj]; rfl) (by decide))
  | 4, _, hj => exact key 4 _ (g 4 0 _ (by rw [e0, ← hj]; rfl) (by decide))
  | 5, _, hj => exact key 5 _ (g 5 0 _ (by rw [e0, ← hj]; rfl) (by decide))
  | 6, _, hj => exact key 6 _ (g 0 1 _ (by rw [e1, ← hj]; rfl) (by decide))
  | 7, _, hj => exact key 7 _ (g 1 1 _ (by rw [e1, ← hj]; rfl) (by decide))
  | 8, _, hj => exact key 8 _ (g 2 1 _ (by rw [e1, ← hj]; rfl) (by decide))
  | 9, _, hj => exact key 9 _ (g 3 1 _ (by rw [e1, ← hj]; rfl) (by decide))
  | 10, _, hj => exact key 10 _ (g 4 1 _ (by rw [e1, ← hj]; rfl) (by decide))
  | 11, _, hj => exact key 11 _ (g 5 1 _ (by rw [e1, ← hj]; rfl) (by decide))
  | 12, _, hj => exact key 12 _ (g 0 2 _ (by rw [e2, ← hj]; rfl) (by decide))
  | 13, _, hj => exact key 13 _ (g 1 2 _ (by rw [e2, ← hj]; rfl) (by decide))
  | 14, _, hj => exact key 14 _ (g 2 2 _ (by rw [e2, ← hj]; rfl) (by decide))
  | 15, _, hj => exact key 15 _ (g 3 2 _ (by rw [e2, ← hj]; rfl) (by decide))
  | 16, _, hj => exact key 16 _ (g 4 2 _ (by rw [e2, ← hj]; rfl) (by decide))
  | 17, _, hj => exact key 17 _ (g 5 2 _ (by rw [e2, ← hj]; rfl) (by decide))
  | 18, _, hj => exact key 18 _ (g 0 3 _ (by rw [e3, ← hj]; rfl) (by decide))
  | 19, _, hj => exact key 19 _ (g 1 3 _ (by rw [e3, ← hj]; rfl) (by decide))
  | 20, _, hj => exact key 20 _ (g 2 3 _ (by rw [e3, ← hj]; rfl) (by decide))
  | 21, _, hj => exact key 21 _ (g 3 3 _ (by rw [e3, ← hj]; rfl) (by decide))
  | 22, _, hj => exact key 22 _ (g 4 3 _ (by rw [e3, ← hj]; rfl) (by decide))
  | 23, _, hj => exact key 23 _ (g 5 3 _ (by rw [e3, ← hj]; rfl) (by decide))
  | 24, _, hj => exact key 24 _ (g 0 4 _ (by rw [e4, ← hj]; rfl) (by decide))
  | 25, _, hj => exact key 25 _ (g 1 4 _ (by rw [e4, ← hj]; rfl) (by decide))
  | 26, _, hj => exact key 26 _ (g 2 4 _ (by rw [e4, ← hj]; rfl) (by decide))
  | 27, _, hj => exact key 27 _ (g 3 4 _ (by rw [e4, ← hj]; rfl) (by decide))
  | 28, _, hj => exact key 28 _ (g 4 4 _ (by rw [e4, ← hj]; rfl) (by decide))
  | 29, _, hj => exact key 29 _ (g 5 4 _ (by rw [e4, ← hj]; rfl) (by decide))
  | 30, _, hj => exact key 30 _ (g 0 5 _ (by rw [e5, ← hj]; rfl) (by decide))
  | 31, _, hj => exact key 31 _ (g 1 5 _ (by rw [e5, ← hj]; rfl) (by decide))
  | 32, _, hj => exact key 32 _ (g 2 5 _ (by rw [e5, ← hj]; rfl) (by decide))
  | 33, _, hj => exact key 33 _ (g 3 5 _ (by rw [e5, ← hj]; rfl) (by decide))
  | 34, _, hj => exact key 34 _ (g 4 5 _ (by rw [e5, ← hj]; rfl) (by decide))
  | 35, _, hj => exact key 35 _ (g 5 5 _ (by rw [e5, ← hj]; rfl) (by decide))
  | 36, _, hj => exact key 36 _ (g 0 6 _ (by rw [e6, ← hj]; rfl) (by decide))
  | 37, _, hj => exact key 37 _ (g 1 6 _ (by rw [e6, ← hj]; rfl) (by decide))
  | 38, _, hj => exact key 38 _ (g 2 6 _ (by rw [e6, ← hj]; rfl) (by decide))
  | 39, _, hj => exact key 39 _ (g 3 6 _ (by rw [e6, ← hj]; rfl) (by decide))
  | 40, _, hj => exact key 40 _ (g 4 6 _ (by rw [e6, ← hj]; rfl) (by decide))
  | 41, _, hj => exact key 41 _ (g 5 6 _ (by rw [e6, ← hj]; rfl) (by decide))
  | 42, _, hj => exact key 42 _ (g 0 7 _ (by rw [e7, ← hj]; rfl) (by decide))
  | 43, _, hj => exact key 43 _ (g 1 7 _ (by rw [e7, ← hj]; rfl) (by decide))
  | 44, _, hj => exact key 44 _ (g 2 7 _ (by rw [e7, ← hj]; rfl) (by decide))
  | 45, _, hj => exact key 45 _ (g 3 7 _ (by rw [e7, ← hj]; rfl) (by decide))
  | 46, _, hj => exact key 46 _ (g 4 7 _ (by rw [e7, ← hj]; rfl) (by decide))
  | 47, _, hj => exact key 47 _ (g 5 7 _ (by rw [e7, ← hj]; rfl) (by decide))

set_option maxRecDepth 100000 in
theorem shp_of_laid {W : World} (h : laidMetH Tryd.prog Rows.extLongRow.laid W) : Shp W ∧ (0 : Nat) < W.heap.size := by
  rw [MakeChecks.laidMetH_plain _ _ _ (by kernel_rfl)] at h
  obtain ⟨ps, ⟨g0, t0, cs0, f0, p0, q0, hg0, ht0, hv0, hd0, _, _⟩, _⟩ := h
  obtain rfl := Option.some.inj (gShapes.symm.trans hg0)
  obtain rfl := Option.some.inj (tShapes.symm.trans ht0)
  obtain ⟨xs, m1, rfl, hx1, hlen, hn3, hel⟩ := DataW.trod_array Tryd.underlying157 hd0
  have h0 := hel 0 (by decide)
  have h1 := hel 1 (by decide)
  have h2 := hel 2 (by decide)
  have h3 := hel 3 (by decide)
  have h4 := hel 4 (by decide)
  have h5 := hel 5 (by decide)
  have h6 := hel 6 (by decide)
  have h7 := hel 7 (by decide)
  rw [cShape] at h0 h1 h2 h3 h4 h5 h6 h7
  match xs, hlen with
  | [x0, x1, x2, x3, x4, x5, x6, x7], _ =>
    obtain ⟨a0, b0, c0, d0, k0, g0, e0, r0⟩ := shape_row h0
    obtain ⟨a1, b1, c1, d1, k1, g1, e1, r1⟩ := shape_row h1
    obtain ⟨a2, b2, c2, d2, k2, g2, e2, r2⟩ := shape_row h2
    obtain ⟨a3, b3, c3, d3, k3, g3, e3, r3⟩ := shape_row h3
    obtain ⟨a4, b4, c4, d4, k4, g4, e4, r4⟩ := shape_row h4
    obtain ⟨a5, b5, c5, d5, k5, g5, e5, r5⟩ := shape_row h5
    obtain ⟨a6, b6, c6, d6, k6, g6, e6, r6⟩ := shape_row h6
    obtain ⟨a7, b7, c7, d7, k7, g7, e7, r7⟩ := shape_row h7
    simp only [Prod.mk.injEq, Rows.laid_relict_ext_shapes, DataW.agg.injEq, List.map_cons, List.map_nil, r0, r1, r2, r3, r4, r5, r6, r7, List.cons.injEq, and_true, DataW.lit.injEq, Lit.int.injEq, true_and] at hx1
    have key : ∀ (j : Nat) (u : Value), cs0[j]? = some u → W.cell? ⟨0, j, none⟩ = some u := by
      intro j u hu
      rw [World.var?_cell hg0 hv0, hu]
    have v0 : a0 = 97 ∧ b0 = 0 ∧ c0 = 0 ∧ d0 = 0 ∧ k0 = 1 ∧ g0 = 0 := by omega
    have v1 : a1 = 98 ∧ b1 = 0 ∧ c1 = 0 ∧ d1 = 0 ∧ k1 = 4 ∧ g1 = 0 := by omega
    have v2 : a2 = 110 ∧ b2 = 1 ∧ c2 = 1 ∧ d2 = 48 ∧ k2 = 1 ∧ g2 = 1 := by omega
    have v3 : a3 = 119 ∧ b3 = 1 ∧ c3 = 1 ∧ d3 = 40 ∧ k3 = 0 ∧ g3 = 1 := by omega
    have v4 : a4 = 106 ∧ b4 = 0 ∧ c4 = 0 ∧ d4 = 0 ∧ k4 = 0 ∧ g4 = 0 := by omega
    have v5 : a5 = 108 ∧ b5 = 4 ∧ c5 = 1 ∧ d5 = 2000 ∧ k5 = 0 ∧ g5 = 0 := by omega
    have v6 : a6 = 104 ∧ b6 = 1 ∧ c6 = 0 ∧ d6 = 40 ∧ k6 = 0 ∧ g6 = 0 := by omega
    have v7 : a7 = 109 ∧ b7 = 4 ∧ c7 = 0 ∧ d7 = 400 ∧ k7 = 0 ∧ g7 = 1 := by omega
    obtain ⟨rfl, rfl, rfl, rfl, rfl, rfl⟩ := v0
    obtain ⟨rfl, rfl, rfl, rfl, rfl, rfl⟩ := v1
    obtain ⟨rfl, rfl, rfl, rfl, rfl, rfl⟩ := v2
    obtain ⟨rfl, rfl, rfl, rfl, rfl, rfl⟩ := v3
    obtain ⟨rfl, rfl, rfl, rfl, rfl, rfl⟩ := v4
    obtain ⟨rfl, rfl, rfl, rfl, rfl, rfl⟩ := v5
    obtain ⟨rfl, rfl, rfl, rfl, rfl, rfl⟩ := v6
    obtain ⟨rfl, rfl, rfl, rfl, rfl, rfl⟩ := v7
    have hS : Shp W := shp_of_row key e0 e1 e2 e3 e4 e5 e6 e7
    exact ⟨hS, World.block_lt_of_cell? W _ (hS 0 _ rfl)⟩
end Go.Proofs.YtbmondbicnfcpaaDoor
