/-
  Bytes that came in, where what came in is of so much bulk.
-/
import Derived.Test.YtbmondbicnfcpaaDoorCpOpen
import Derived.Test.YtbmondbicnfcpaaDoorRows
namespace Go.Proofs.YtbmondbicnfcpaaDoor
open Go.ChangeShapes Go.WideShapes Go.ChangeAt Go.RowKit Go.Joins
set_option linter.unusedVariables false
set_option linter.unusedSimpArgs false

theorem bulk_lits {H : Type} (k : IntKind) : ∀ zs : List Int, Rows.uptoBulkAll (lits (H := H) k zs) = zs.length
  | [] => by simp [lits, Rows.uptoBulkAll]
  | z :: r => by
    have ih := bulk_lits (H := H) k r
    unfold lits at ih ⊢
    simp only [List.map_cons, Rows.uptoBulkAll, ih, Rows.uptoBulk, List.length_cons]
    omega
theorem bytes_bulk {H : Type} {enc : TypeId × Value → H} {W : World} {n : Nat} {cs : List Value} {x : DataW H × List MemPlace} (h : DataW.trod enc Tryd.prog W 0 (fun _ => true) true n 35 cs = some x)
    (hb : Rows.uptoBulk x.1 ≤ 1048576) : ∃ v t, cs = [v] ∧ By W v t ∧ List.length t ≤ 2000000 := by
  rcases open_ints Tryd.underlying35 Tryd.underlying5 (by kernel_rfl) h with ⟨hcs, _⟩ | ⟨a, l, c, zs, hcs, hbb, hl, hm, hz, hx, hcell, hwz⟩
  · exact ⟨_, [], hcs, By.nil W, Nat.zero_le _⟩
  · refine ⟨_, _, hcs, by_of_row (.inr ⟨_, rfl, hl, hm, by simpa using hz, hcell, hwz⟩), ?_⟩
    rw [hx] at hb
    simp only [Rows.uptoBulk, bulk_lits] at hb
    simp at hb ⊢
    omega
end Go.Proofs.YtbmondbicnfcpaaDoor
