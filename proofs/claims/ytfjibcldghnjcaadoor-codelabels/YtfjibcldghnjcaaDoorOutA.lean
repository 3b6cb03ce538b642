/-
  Ways out of blocks.
-/
import Derived.Test.YtfjibcldghnjcaaDoorProg
import Derived.WalkKit
import Derived.WalkSpells
import Derived.WalkLawsBesides
namespace Go.Proofs.YtfjibcldghnjcaaDoor
open Go.RowKit
set_option linter.unusedVariables false

/-- Ways out of blocks, law by law (the kernel's check of the reckoned form grows with each block). -/
theorem then_exit {K : Act → World → Prop} {Q : Exit → Act → World → Prop} {n : Nat} {a : Act} {w : World} (h : Q (.exit n) a w) : Exit.then K Q (.exit n) a w := h
theorem then_ret {K : Act → World → Prop} {Q : Exit → Act → World → Prop} {a : Act} {w : World} (h : Q .ret a w) : Exit.then K Q .ret a w := h
theorem then_normal {K : Act → World → Prop} {Q : Exit → Act → World → Prop} {a : Act} {w : World} (h : K a w) : Exit.then K Q .normal a w := h
theorem inb_ret {Q : Exit → Act → World → Prop} {m : Nat} {a : Act} {w : World} (h : Q .ret a w) : Exit.inBlock m Q .ret a w := h
theorem inb_normal {Q : Exit → Act → World → Prop} {m : Nat} {a : Act} {w : World} (h : Q .normal a w) : Exit.inBlock m Q .normal a w := h
theorem inb_ne {Q : Exit → Act → World → Prop} {m n : Nat} {a : Act} {w : World} (hne : ¬ n = m) (h : Q (.exit n) a w) : Exit.inBlock m Q (.exit n) a w := by
  show (if n = m then Q .normal a w else Q (.exit n) a w)
  rw [if_neg hne]
  exact h
theorem inb_eq {Q : Exit → Act → World → Prop} {m : Nat} {a : Act} {w : World} (h : Q .normal a w) : Exit.inBlock m Q (.exit m) a w := by
  show (if m = m then Q .normal a w else Q (.exit m) a w)
  rw [if_pos rfl]
  exact h

end Go.Proofs.YtfjibcldghnjcaaDoor
