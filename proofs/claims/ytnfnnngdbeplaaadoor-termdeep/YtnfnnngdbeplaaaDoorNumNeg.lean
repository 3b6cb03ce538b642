
/-
  num.Neg, num.Of.
-/
import Derived.Test.YtnfnnngdbeplaaaDoorNumBase
namespace Go.Proofs.YtnfnnngdbeplaaaDoor
open Go.RowKit
set_option linter.unusedVariables false

theorem abs_Z (n : Bool) {zs : List Int} (h : Ok zs) : ((Z n (V zs)).natAbs : Int) = V zs := by
  have := V_nonneg h
  cases n <;> simp [Z] <;> omega

theorem row_lit2 (w : World) (y z : Int) : Row (w.alloc (.cells #[.int .u32 y, .int .u32 z] 49)) w.heap.size [y, z] := by
  unfold Row
  exact heap_alloc_new w _
theorem sl_lit2 (w : World) (y z : Int) (h0 : 0 ≤ y) (h1 : y < 4294967296) (h2 : 0 ≤ z) (h3 : z < 4294967296) : Sl (w.alloc (.cells #[.int .u32 y, .int .u32 z] 49)) (.slice (some ⟨w.heap.size, 0, none⟩) 2 2) [y, z] :=
  (row_lit2 w y z).all (by intro q hq; simp at hq; omega) (by simp)

/-- The result's box, and a list of two behind it. -/
theorem box_lit (w : World) (y : Int) : Below w.heap.size w ((w.alloc (.cells #[.bool false, .slice none 0 0] 24)).alloc (.cells #[.int .u32 (y % 4294967296), .int .u32 (y / 4294967296)] 49)) ∧
    Bx ((w.alloc (.cells #[.bool false, .slice none 0 0] 24)).alloc (.cells #[.int .u32 (y % 4294967296), .int .u32 (y / 4294967296)] 49)) w.heap.size false (.slice none 0 0) ∧ True :=
  ⟨((Below.refl w.heap.size w).alloc (Nat.le_refl _) _).alloc (by simp) _, (Bx.new w false none 0 0).below ((Below.refl _ _).alloc (Nat.le_refl _) _) (by simp), trivial⟩

end Go.Proofs.YtnfnnngdbeplaaaDoor
