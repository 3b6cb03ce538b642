/-
  Slices of ints, to be read.
-/
import Derived.Test.YtfjibcldghnjcaaDoorProg
import Derived.WalkKit
import Derived.WalkSpells
import Derived.WalkLawsBesides
import Derived.Below
import Derived.OpenShut
namespace Go.Proofs.YtfjibcldghnjcaaDoor
open Go.RowKit
set_option linter.unusedVariables false

theorem slI_bd {n : Int} (h : (Lit.int .i64 n).wf = true) : -9223372036854775808 ≤ n ∧ n ≤ 9223372036854775807 := by
  simp [Lit.wf, IntKind.min, IntKind.max, IntKind.signed, IntKind.bits] at h
  omega
/-- A slice of ints that is known. -/
def SlI (w : World) (v : Value) (zs : List Int) : Prop :=
  ∃ a n cap, v = .slice a n cap ∧ zs.length = n ∧ (∀ z ∈ zs, -9223372036854775808 ≤ z ∧ z ≤ 9223372036854775807) ∧ (0 < n → ∃ b off, a = some ⟨b, off, none⟩ ∧ b < w.heap.size ∧ ∀ i, i < n → w.cell? ⟨b, off + i, none⟩ = some (.int .i64 (zs.getD i 0)))

theorem SlI.below {w w' : World} {v : Value} {zs : List Int} (h : SlI w v zs) (hb : Below w.heap.size w w') : SlI w' v zs := by
  obtain ⟨a, n, cap, rfl, hl, hw, hp⟩ := h
  refine ⟨a, n, cap, rfl, hl, hw, fun h0 => ?_⟩
  obtain ⟨b, off, rfl, hlt, hcell⟩ := hp h0
  refine ⟨b, off, rfl, Nat.lt_of_lt_of_le hlt hb.size, fun i hi => ?_⟩
  rw [hb.cell (p := ⟨b, off + i, none⟩) hlt]
  exact hcell i hi

theorem slI_of_row {w : World} {a : Option Addr} {len cap : Nat} {zs : List Int}
    (h : (a = none ∧ len = 0 ∧ cap = 0 ∧ zs = []) ∨
      ∃ x, a = some x ∧ len ≤ cap ∧ cap ≤ maxLen ∧ zs.length = cap ∧ (∀ i, i < zs.length → w.cell? (x.add i) = some (.int .i64 (zs.getD i 0))) ∧ ∀ n ∈ zs, (Lit.int .i64 n).wf = true) :
    SlI w (.slice a len cap) (zs.take len) := by
  rcases h with ⟨rfl, rfl, rfl, rfl⟩ | ⟨x, rfl, hl, hm, hz, hc, hw⟩
  · exact ⟨none, 0, 0, rfl, rfl, fun z hz => by simp at hz, fun h => by omega⟩
  · refine ⟨_, len, cap, rfl, by simp; omega, fun z hz => slI_bd (hw z (List.mem_of_mem_take hz)), fun h0 => ?_⟩
    obtain ⟨b, off, spot⟩ := x
    have h1 := hc 0 (by omega)
    have hspot : spot = none := by simpa [Addr.add] using World.cell?_spot h1
    subst hspot
    have hlt : b < w.heap.size := by
      have := World.block_lt_of_cell? w _ h1
      simpa [Addr.add] using this
    refine ⟨b, off, rfl, hlt, fun i hi => ?_⟩
    have h2 := hc i (by omega)
    rw [show (⟨b, off, none⟩ : Addr).add i = ⟨b, off + i, none⟩ by unfold Addr.add; split <;> simp_all] at h2
    rw [h2]
    simp [List.getD, hi]

theorem SlI.at {w : World} {a : Option Addr} {n cap : Nat} {zs : List Int} (h : SlI w (.slice a n cap) zs) (k : Nat) (hk : k < zs.length) :
    ∃ b off, a = some ⟨b, off, none⟩ ∧ w.cell? ⟨b, off + k, none⟩ = some (.int .i64 (zs.getD k 0)) := by
  obtain ⟨a', n', cap', he, hl, _, hp⟩ := h
  injection he with e1 e2 e3
  subst e1; subst e2; subst e3
  obtain ⟨b, off, rfl, _, hc⟩ := hp (by omega)
  exact ⟨b, off, rfl, hc k (by omega)⟩
theorem SlI.shape {w : World} {v : Value} {zs : List Int} (h : SlI w v zs) : ∃ a cap, v = .slice a zs.length cap := by
  obtain ⟨a, n, cap, rfl, rfl, _⟩ := h
  exact ⟨a, cap, rfl⟩
theorem SlI.bd {w : World} {v : Value} {zs : List Int} (h : SlI w v zs) (k : Nat) (hk : k < zs.length) : -9223372036854775808 ≤ zs.getD k 0 ∧ zs.getD k 0 ≤ 9223372036854775807 := by
  obtain ⟨a, n, cap, rfl, rfl, hw, _⟩ := h
  refine hw _ ?_
  simp [List.getD, hk]
end Go.Proofs.YtfjibcldghnjcaaDoor
