/-
  Rows of terms: what stands at a place.
-/
import Derived.Test.YtbmondbicnfcpaaDoorTermList
import Derived.Maps.AppendAt
namespace Go.Proofs.YtbmondbicnfcpaaDoor
open Go.RowKit
set_option linter.unusedVariables false
set_option linter.unusedSimpArgs false

theorem flat_got : ∀ (ps : List (Value × Tm)), (∀ p ∈ ps, (cells6 p.1).length = 6) → ∀ (i j : Nat) (hi : i < ps.length), j < 6 → (flat ps)[i * 6 + j]? = (cells6 ps[i].1)[j]?
  | [], _, i, j, hi, _ => by simp at hi
  | p :: ps, h, 0, j, hi, hj => by
    have h6 := h p (by simp)
    have : flat (p :: ps) = cells6 p.1 ++ flat ps := by simp [flat]
    rw [this, List.getElem?_append_left (by omega)]
    simp
  | p :: ps, h, i + 1, j, hi, hj => by
    have h6 := h p (by simp)
    have : flat (p :: ps) = cells6 p.1 ++ flat ps := by simp [flat]
    rw [this, List.getElem?_append_right (by omega), h6, show (i + 1) * 6 + j - 6 = i * 6 + j by omega, flat_got ps (fun q hq => h q (List.mem_cons_of_mem _ hq)) i j (by simpa using hi) hj]
    simp

theorem tmV_one {k k' : Int} {n n' : Bool} {sl sl' : Value} {S S' : ByteArray} {N N' : Int} {sk sk' : Value} (h : tmV k n sl S N sk = tmV k' n' sl' S' N' sk') : k = k' ∧ n = n' ∧ sl = sl' ∧ S = S' ∧ N = N' ∧ sk = sk' := by
  simpa [tmV] using h
theorem part_facts {w wr w5 : World} {k : Int} {n : Bool} {sl : Value} {S : ByteArray} {N : Int} {sk v : Value} {ps : List (Value × Tm)} {o : Obj} (hB : Below w.heap.size w wr) (hBt : Bt wr w.heap.size k n sl S N sk) (hW : WaitT wr (w.heap.size + 1) v ps) (hgr : (wr.alloc o).grownBy w5 v.ownBlock) :
    Bt w5 w.heap.size k n sl S N sk ∧ Below w.heap.size w w5 := by
  have hlt := hBt.lt
  have b1 := (Below.refl wr.heap.size wr).alloc (Nat.le_refl _) o
  have u1 := hBt.under b1
  have hr : ∀ j, v.ownBlock = some j → w.heap.size + 1 ≤ j := fun j hj => (World.ownsRow.lt hW j hj).1
  refine ⟨⟨?_, u1.2⟩, (hB.alloc hB.size o).grown hgr (by have := hB.size; simp; omega) (fun j hj => by have := hr j hj; omega)⟩
  rw [hgr.block _ u1.lt (fun e => by have := hr _ e.symm; omega)]
  exact u1.1
end Go.Proofs.YtbmondbicnfcpaaDoor
