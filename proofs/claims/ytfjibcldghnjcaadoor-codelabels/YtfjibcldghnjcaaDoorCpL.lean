
/-
  relictlaw06.awake; relictlaw00.Bytes, relictlaw00.Place.
-/
import Derived.Test.YtfjibcldghnjcaaDoorCpGet
import Derived.Test.YtfjibcldghnjcaaDoorZCpN
import Derived.Test.YtfjibcldghnjcaaDoorPlaceB
namespace Go.Proofs.YtfjibcldghnjcaaDoor
open Go.RowKit
set_option linter.unusedVariables false
set_option linter.unusedSimpArgs false

def ByPost (w : World) (l : List UInt8) (e : Ending) (w' : World) : Prop := ∃ v, e = .returned v ∧ OB w' w.heap.size v l ∧ Below w.heap.size w w'

theorem put_x3 : ([] ++ El.putS ⟨3, 3, none, 0, 0⟩ [] : List UInt8) = [51] := by decide +kernel
theorem put_i1 : ([] ++ El.putS ⟨1, -1, none, 0, 0⟩ [] : List UInt8) = [25, 255, 255] := by decide +kernel
theorem chk_l0 : El.ok ⟨6, 0, none, 0, 0⟩ [] = true := by decide +kernel
/-- Put of an operand that is no list behind nothing. -/
theorem put_one (w : World) (hS : Spn w) (t n : Int) (h1 : 0 ≤ t) (h2 : t ≤ 7) (h3 : -9223372036854775808 ≤ n) (h4 : n ≤ 9223372036854775807) : Calls Tryd.prog 18 #[.slice none 0 0, .agg #[.int .i64 t, .int .i64 n, .slice none 0 0]] w fun e w' => PutA w [] (El.putS ⟨t, n, none, 0, 0⟩ []) e w' :=
  put_any (.slice none 0 0) [] ⟨t, n, none, 0, 0⟩ [] w hS (By.nil _) (by simp) (fit_mk h1 h2 ⟨h3, h4⟩) (Rw3.nil _) rfl

end Go.Proofs.YtfjibcldghnjcaaDoor
