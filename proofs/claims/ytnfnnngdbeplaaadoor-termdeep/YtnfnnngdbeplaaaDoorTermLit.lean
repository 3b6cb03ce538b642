
/-
  Terms that are written out in the text.
-/
import Derived.Test.YtnfnnngdbeplaaaDoorTermBox
namespace Go.Proofs.YtnfnnngdbeplaaaDoor
open Go.RowKit
set_option linter.unusedVariables false
set_option linter.unusedSimpArgs false

theorem Ts.lit1 {W : World} {g : Nat} {c0 c1 c2 c3 c4 c5 : Value} {t : Tm} (h : W.heap[g]? = some (.cells #[c0, c1, c2, c3, c4, c5] 27 (0, 0))) (ht : IsT W t (.agg #[c0, c1, c2, c3, c4, c5])) : Ts W (.slice (some ⟨g, 0, none⟩) 1 1) [t] := by
  refine ⟨some ⟨g, 0, none⟩, 1, fun _ => .agg #[c0, c1, c2, c3, c4, c5], rfl, ⟨by simp, by decide, (fun e => by cases e), fun _ => ⟨g, 0, rfl, (Array.getElem?_eq_some_iff.1 h).1, fun i hi => ?_⟩⟩, fun i hi => ?_⟩
  · obtain rfl : i = 0 := by simp at hi; omega
    exact ⟨c0, c1, c2, c3, c4, c5, rfl, by simp [World.cell?, h], by simp [World.cell?, h], by simp [World.cell?, h], by simp [World.cell?, h], by simp [World.cell?, h], by simp [World.cell?, h]⟩
  · obtain rfl : i = 0 := by simp at hi; omega
    exact ht
theorem Ts.lit2 {W : World} {g : Nat} {c0 c1 c2 c3 c4 c5 d0 d1 d2 d3 d4 d5 : Value} {t u : Tm} (h : W.heap[g]? = some (.cells #[c0, c1, c2, c3, c4, c5, d0, d1, d2, d3, d4, d5] 27 (0, 0))) (ht : IsT W t (.agg #[c0, c1, c2, c3, c4, c5])) (hu : IsT W u (.agg #[d0, d1, d2, d3, d4, d5])) : Ts W (.slice (some ⟨g, 0, none⟩) 2 2) [t, u] := by
  refine ⟨some ⟨g, 0, none⟩, 2, fun i => if i = 0 then .agg #[c0, c1, c2, c3, c4, c5] else .agg #[d0, d1, d2, d3, d4, d5], rfl, ⟨by simp, by decide, (fun e => by cases e), fun _ => ⟨g, 0, rfl, (Array.getElem?_eq_some_iff.1 h).1, fun i hi => ?_⟩⟩, fun i hi => ?_⟩
  · have : i = 0 ∨ i = 1 := by simp at hi; omega
    rcases this with rfl | rfl
    · exact ⟨c0, c1, c2, c3, c4, c5, rfl, by simp [World.cell?, h], by simp [World.cell?, h], by simp [World.cell?, h], by simp [World.cell?, h], by simp [World.cell?, h], by simp [World.cell?, h]⟩
    · exact ⟨d0, d1, d2, d3, d4, d5, rfl, by simp [World.cell?, h], by simp [World.cell?, h], by simp [World.cell?, h], by simp [World.cell?, h], by simp [World.cell?, h], by simp [World.cell?, h]⟩
  · have : i = 0 ∨ i = 1 := by simp at hi; omega
    rcases this with rfl | rfl
    · exact ht
    · exact hu
/-- Nil, as it is written out. -/
theorem nil_is (W : World) : IsT W tmNil (.agg #[.int .i64 3, .bool false, .slice none 0 0, .string ⟨#[]⟩, .int .i64 0, .slice none 0 0]) :=
  IsT.shut (by omega) (by omega) (by decide) (Sl.nil W) (Ts.nil W)
end Go.Proofs.YtnfnnngdbeplaaaDoor
