
/-
  num.sum: the sum of two numbers that may be, as a sign and limbs (it may have no room).
-/
import Derived.Test.YtnfnnngdbeplaaaDoorNumInt
namespace Go.Proofs.YtnfnnngdbeplaaaDoor
open Go.RowKit
set_option linter.unusedVariables false
set_option linter.unusedSimpArgs false

/-- A sign and limbs without a 0 at their top are answered: z. -/
def RawPost (w : World) (z : Int) (e : Ending) (w' : World) : Prop := ∃ neg zs s, e = .returned (.agg #[.bool (neg && decide (0 < zs.length)), s]) ∧ Sl w' s zs ∧ Nm zs ∧ Z neg (V zs) = z ∧ Below w.heap.size w w'

theorem raw_end {w w4 : World} {g n c : Nat} {neg n0 : Bool} {s0 : Value} {p : Option Addr} {zs : List Int} {z : Int} (hB : Below w.heap.size w w4) (hu : Bx w4 g n0 s0) (hg : w.heap.size ≤ g) (t : Sl w4 (.slice p n c) zs) (hn : Nm zs) (hz : Z neg (V zs) = z) :
    RawPost w z (.returned (.agg #[.bool (neg && decide (0 < zs.length)), .slice p n c])) (setBx w4 g (neg && decide (0 < zs.length)) (.slice p n c)) :=
  ⟨neg, zs, _, rfl, t.box hu (setBx_but _ _ _ _), hn, hz, hB.trans ((setBx_but _ _ _ _).below hg)⟩

/-- What a walk has of an argument that may be. -/
theorem IsN.open {w : World} {v : Value} {x : Int} (h : IsN w v x) : ∃ n p zs c, v = .agg #[.bool n, .slice p (List.length zs) c] ∧ Sl w (.slice p zs.length c) zs ∧ Good n zs ∧ Z n (V zs) = x := by
  obtain ⟨n, zs, ⟨s, rfl, hs⟩, hg, hx⟩ := h
  obtain ⟨p, c, rfl⟩ := hs.shape
  exact ⟨n, p, zs, c, rfl, hs, hg, hx⟩

end Go.Proofs.YtnfnnngdbeplaaaDoor
