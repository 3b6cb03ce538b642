
/-
  What a tied row says of the variables names and spans.
-/
import Derived.Test.YtfjibcldghnjcaaDoorOpB
import Derived.Test.YtfjibcldghnjcaaDoorCpC
import Derived.Test.YtfjibcldghnjcaaDoorRows
import Derived.LaidMore
import Derived.LaidLaws
import Derived.ProofKit
import Derived.OpenShut
import Derived.Stop.Joined
namespace Go.Proofs.YtfjibcldghnjcaaDoor
open Go.ChangeShapes Go.WideShapes Go.ChangeAt Go.RowKit
set_option linter.unusedVariables false
set_option linter.unusedSimpArgs false

theorem gNames : Tryd.prog.globalNamed "relict/ops.names" = some 0 := by kernel_rfl
theorem tNames : (Tryd.prog.globals[0]?).map (·.type) = some 67 := by kernel_rfl
theorem cName : Tryd.prog.cellsOf 9 = 1 := by kernel_rfl
theorem names_data {H : Type} : (Rows.laid_relict_ops_names : DataW H) = .agg ((List.range 52).map fun i : Nat => .lit (.string (nmS (i : Int)))) := rfl

theorem gSpans : Tryd.prog.globalNamed "relict/compact.spans" = some 1 := by kernel_rfl
theorem tSpans : (Tryd.prog.globals[1]?).map (·.type) = some 73 := by kernel_rfl
theorem cSpan : Tryd.prog.cellsOf 72 = 4 := by kernel_rfl
theorem cSpanI : Tryd.prog.cellsOf 3 = 1 := by kernel_rfl

theorem list4 {α : Type} {cs : List α} (h : cs.length = 4) : ∃ c0 c1 c2 c3, cs = [c0, c1, c2, c3] := by
  match cs, h with
  | [c0, c1, c2, c3], _ => exact ⟨c0, c1, c2, c3, rfl⟩
theorem span_row {H : Type} {enc : TypeId × Value → H} {W : World} {m base : Nat} {sp : Nat → Bool} {held : Bool} {cs : List Value} {x : DataW H × List MemPlace} (h : DataW.trod enc Tryd.prog W base sp held m 72 cs = some x) :
    ∃ a b c d : Int, cs = [.int .i64 a, .int .i64 b, .int .i64 c, .int .i64 d] ∧ x.1 = .agg [.lit (.int .i64 a), .lit (.int .i64 b), .lit (.int .i64 c), .lit (.int .i64 d)] := by
  obtain ⟨xs, k, hn, hx, hl, hlen, hf⟩ := DataW.trod_struct Tryd.underlying72 h
  rw [cSpan] at hl
  obtain ⟨c0, c1, c2, c3, rfl⟩ := list4 hl
  match xs, hlen with
  | [y0, y1, y2, y3], _ =>
    have f0 : DataW.trod enc Tryd.prog W base sp held k 3 [c0] = some y0 := by simpa [cSpanI] using hf 0 _ rfl
    have f1 : DataW.trod enc Tryd.prog W base sp held k 3 [c1] = some y1 := by simpa [cSpanI] using hf 1 _ rfl
    have f2 : DataW.trod enc Tryd.prog W base sp held k 3 [c2] = some y2 := by simpa [cSpanI] using hf 2 _ rfl
    have f3 : DataW.trod enc Tryd.prog W base sp held k 3 [c3] = some y3 := by simpa [cSpanI] using hf 3 _ rfl
    obtain ⟨a, e0, d0, -⟩ := DataW.trod_int Tryd.underlying3 f0
    obtain ⟨b, e1, d1, -⟩ := DataW.trod_int Tryd.underlying3 f1
    obtain ⟨c, e2, d2, -⟩ := DataW.trod_int Tryd.underlying3 f2
    obtain ⟨d, e3, d3, -⟩ := DataW.trod_int Tryd.underlying3 f3
    simp only [List.cons.injEq, and_true] at e0 e1 e2 e3
    subst e0 e1 e2 e3
    refine ⟨a, b, c, d, rfl, ?_⟩
    rw [hx]
    simp [d0, d1, d2, d3]

theorem cd_of_laid {W : World} (h : laidMetH Tryd.prog Rows.codeLabelsRow.laid W) : Nam W ∧ Spn W := by
  rw [MakeChecks.laidMetH_plain _ _ _ (by kernel_rfl)] at h
  obtain ⟨ps, ⟨g3, t3, cs3, f3, p3, q3, hg3, ht3, hv3, hd3, ⟨g0, t0, cs0, f0, p0, q0, hg0, ht0, hv0, hd0, _, _⟩, _⟩, _⟩ := h
  constructor
  · clear hg0 ht0 hv0 hd0
    obtain rfl := Option.some.inj (gNames.symm.trans hg3)
    obtain rfl := Option.some.inj (tNames.symm.trans ht3)
    obtain ⟨xs, m1, rfl, hx1, hlen, hn3, hel⟩ := DataW.trod_array Tryd.underlying67 hd3
    intro i hi
    have h0 := hel i hi
    rw [cName, Nat.mul_one] at h0
    have hxi : i < xs.length := by omega
    rw [List.getElem?_eq_getElem hxi] at h0
    obtain ⟨S, e1, e2, _⟩ := DataW.trod_string Tryd.underlying9 h0
    rw [names_data] at hx1
    simp only [Prod.mk.injEq, DataW.agg.injEq] at hx1
    have hk := congrArg (fun l => l[i]?) hx1.1
    simp only [List.getElem?_map, List.getElem?_eq_getElem hxi, e2, Option.map_some, List.getElem?_range hi, Option.some.injEq, DataW.lit.injEq, Lit.string.injEq] at hk
    have hc : cs3.toList[i]? = some (.string S) := by
      have := congrArg (fun l => l[0]?) e1
      simpa [List.getElem?_take, List.getElem?_drop] using this
    have hS : S = ⟨(nmS (i : Int)).toArray⟩ := by
      obtain ⟨d⟩ := S
      simp only at hk
      rw [hk]
    rw [World.var?_cell hg3 hv3, ← Array.getElem?_toList, hc, hS]
    rfl
  · clear hg3 ht3 hv3 hd3
    obtain rfl := Option.some.inj (gSpans.symm.trans hg0)
    obtain rfl := Option.some.inj (tSpans.symm.trans ht0)
    obtain ⟨xs, m1, rfl, hx1, hlen, hn3, hel⟩ := DataW.trod_array Tryd.underlying73 hd0
    have h0 := hel 0 (by decide)
    have h1 := hel 1 (by decide)
    have h2 := hel 2 (by decide)
    rw [cSpan] at h0 h1 h2
    match xs, hlen with
    | [x0, x1, x2], _ =>
      obtain ⟨a0, b0, c0, d0, e0, r0⟩ := span_row h0
      obtain ⟨a1, b1, c1, d1, e1, r1⟩ := span_row h1
      obtain ⟨a2, b2, c2, d2, e2, r2⟩ := span_row h2
      simp only [Prod.mk.injEq, Rows.laid_relict_compact_spans, DataW.agg.injEq, List.map_cons, List.map_nil, r0, r1, r2, List.cons.injEq, and_true, DataW.lit.injEq, Lit.int.injEq, true_and] at hx1
      have g : ∀ (j : Nat) (i : Nat) (u : Value), (List.take 4 (List.drop (i * 4) cs0.toList))[j]? = some u → j < 4 → cs0[i * 4 + j]? = some u := by
        intro j i u hu hj
        rw [List.getElem?_take_of_lt hj, List.getElem?_drop] at hu
        rw [← Array.getElem?_toList]
        exact hu
      have key : ∀ (j : Nat) (u : Value), cs0[j]? = some u → W.cell? ⟨1, j, none⟩ = some u := by
        intro j u hu
        rw [World.var?_cell hg0 hv0, hu]
      have v0 : a0 = 0 ∧ b0 = 0 ∧ c0 = 0 ∧ d0 = 268435455 := by omega
      have v1 : a1 = 1 ∧ b1 = 1 ∧ c1 = -576460752303423488 ∧ d1 = 576460752303423487 := by omega
      have v2 : a2 = 2 ∧ b2 = 6 ∧ c2 = 0 ∧ d2 = 268435455 := by omega
      obtain ⟨rfl, rfl, rfl, rfl⟩ := v0
      obtain ⟨rfl, rfl, rfl, rfl⟩ := v1
      obtain ⟨rfl, rfl, rfl, rfl⟩ := v2
      refine ⟨?_, ?_, ?_, ?_, ?_, ?_, ?_, ?_, ?_, ?_, ?_, ?_⟩
      · exact key 0 _ (g 0 0 _ (by rw [e0]; rfl) (by decide))
      · exact key 1 _ (g 1 0 _ (by rw [e0]; rfl) (by decide))
      · exact key 2 _ (g 2 0 _ (by rw [e0]; rfl) (by decide))
      · exact key 3 _ (g 3 0 _ (by rw [e0]; rfl) (by decide))
      · exact key 4 _ (g 0 1 _ (by rw [e1]; rfl) (by decide))
      · exact key 5 _ (g 1 1 _ (by rw [e1]; rfl) (by decide))
      · exact key 6 _ (g 2 1 _ (by rw [e1]; rfl) (by decide))
      · exact key 7 _ (g 3 1 _ (by rw [e1]; rfl) (by decide))
      · exact key 8 _ (g 0 2 _ (by rw [e2]; rfl) (by decide))
      · exact key 9 _ (g 1 2 _ (by rw [e2]; rfl) (by decide))
      · exact key 10 _ (g 2 2 _ (by rw [e2]; rfl) (by decide))
      · exact key 11 _ (g 3 2 _ (by rw [e2]; rfl) (by decide))
end Go.Proofs.YtfjibcldghnjcaaDoor
