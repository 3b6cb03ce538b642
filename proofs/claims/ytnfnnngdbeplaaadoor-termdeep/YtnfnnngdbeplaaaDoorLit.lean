
/-
  Slices that came in or are written out in the text, as the walks want them.
-/
import Derived.Test.YtnfnnngdbeplaaaDoorTake
namespace Go.Proofs.YtnfnnngdbeplaaaDoor
open Go.RowKit
set_option linter.unusedVariables false

/-- A slice of uint32 that came in, as the row's step tells it, is a slice whose numbers are known. -/
theorem sl_of_row {w : World} {a : Option Addr} {len cap : Nat} {zs : List Int}
    (h : (a = none ∧ len = 0 ∧ cap = 0 ∧ zs = []) ∨
      ∃ x, a = some x ∧ len ≤ cap ∧ cap ≤ maxLen ∧ zs.length = cap ∧ (∀ i, i < zs.length → w.cell? (x.add i) = some (.int .u32 (zs.getD i 0))) ∧ ∀ n ∈ zs, (Lit.int .u32 n).wf = true) :
    Sl w (.slice a len cap) (zs.take len) := by
  rcases h with ⟨rfl, rfl, rfl, rfl⟩ | ⟨x, rfl, hl, hm, hz, hc, hw⟩
  · exact Sl.nil w
  · refine ⟨?_, _, len, cap, rfl, by simp; omega, hl, by simpa [maxLen] using hm, fun e => (by cases e), fun h0 => ?_⟩
    · intro z hz'
      have h1 := hw z (List.mem_of_mem_take hz')
      simp [Lit.wf, IntKind.min, IntKind.max, IntKind.signed, IntKind.bits] at h1
      omega
    · obtain ⟨b, off, spot⟩ := x
      have h1 := hc 0 (by omega)
      have hspot : spot = none := by simpa [Addr.add] using World.cell?_spot h1
      subst hspot
      have hlt : b < w.heap.size := by
        have := World.block_lt_of_cell? w _ h1
        simpa [Addr.add] using this
      refine ⟨b, off, rfl, hlt, fun i hi => ?_⟩
      have h2 := hc i (by omega)
      rw [show (⟨b, off, none⟩ : Addr).add i = ⟨b, off + i, none⟩ by unfold Addr.add; split <;> simp_all] at h2
      rw [h2]
      simp [List.getD, hi]

theorem bd64 {n : Int} (h : (Lit.int .i64 n).wf = true) : -9223372036854775808 ≤ n ∧ n ≤ 9223372036854775807 := by
  simp [Lit.wf, IntKind.min, IntKind.max, IntKind.signed, IntKind.bits] at h
  omega

theorem row_lit (w : World) (z : Int) : Row (w.alloc (.cells #[.int .u32 z] 49)) w.heap.size [z] := by
  unfold Row
  exact heap_alloc_new w _

theorem sl_lit (w : World) (z : Int) (h0 : 0 ≤ z) (h1 : z < 4294967296) : Sl (w.alloc (.cells #[.int .u32 z] 49)) (.slice (some ⟨w.heap.size, 0, none⟩) 1 1) [z] :=
  (row_lit w z).all (by intro y hy; simp at hy; omega) (by simp)
end Go.Proofs.YtnfnnngdbeplaaaDoor
