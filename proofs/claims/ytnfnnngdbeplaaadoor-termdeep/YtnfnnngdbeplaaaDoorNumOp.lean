
/-
  num.Op: two numbers put together.
-/
import Derived.Test.YtnfnnngdbeplaaaDoorNumShift
namespace Go.Proofs.YtnfnnngdbeplaaaDoor
open Go.RowKit
set_option linter.unusedVariables false
attribute [local go_sem ↓] Go.wp_at_zero Go.wp_at_succ

/-- What Op answers: the number, if it has room, and there is one. -/
def opS (op x y : Int) : Option Int :=
  if op = 1 then fitS (x + y) else if op = 2 then fitS (x - y) else if op = 3 then fitS (x * y) else if op = 4 ∨ op = 5 then divS op x y
  else if op = 6 ∨ op = 7 ∨ op = 8 then fitS (bitS op x y) else if op = 9 then fitS (shS x y) else if op = 10 then fitS (shS x (-y)) else none

theorem opS_1 (x y : Int) : opS 1 x y = fitS (x + y) := by simp [opS]
theorem opS_2 (x y : Int) : opS 2 x y = fitS (x - y) := by simp [opS]
theorem opS_3 (x y : Int) : opS 3 x y = fitS (x * y) := by simp [opS]
theorem opS_4 (x y : Int) : opS 4 x y = divS 4 x y := by simp [opS]
theorem opS_5 (x y : Int) : opS 5 x y = divS 5 x y := by simp [opS]
theorem opS_6 (x y : Int) : opS 6 x y = fitS (bitS 6 x y) := by simp [opS]
theorem opS_7 (x y : Int) : opS 7 x y = fitS (bitS 7 x y) := by simp [opS]
theorem opS_8 (x y : Int) : opS 8 x y = fitS (bitS 8 x y) := by simp [opS]
theorem opS_9 (x y : Int) : opS 9 x y = fitS (shS x y) := by simp [opS]
theorem opS_10 (x y : Int) : opS 10 x y = fitS (shS x (-y)) := by simp [opS]

/-- Behind the beginning: two boxes hold numbers that may be, the third is the result's. -/
def Three (w : World) (g : Nat) (x y : Int) (wc : World) : Prop := Two w g x y wc ∧ Bx wc (g + 1 + 1) false (.slice none 0 0)

end Go.Proofs.YtnfnnngdbeplaaaDoor
