/-
  relictlaw00.SameArg, SameArgs: of operands alike, none deeper than a list of singles.
-/
import Derived.Test.YtmoonigeghoeeaaDoorCgBase
namespace Go.Proofs.YtmoonigeghoeeaaDoor
open Go.RowKit
set_option linter.unusedVariables false
set_option linter.unusedSimpArgs false

set_option maxRecDepth 100000 in
set_option maxHeartbeats 2000000 in
theorem sameArgs_nil (w : World) (a b : Option Addr) (c d : Nat) : Calls Tryd.prog 28 #[.slice a 0 c, .slice b 0 d] w fun e w' => e = .returned (.bool true) ∧ Below w.heap.size w w' := by
  go_enter Tryd.func28, Tryd.ntmps28
  go_wp2_with fail
  go_loopg [5] 0 (fun gk s5 wr => s5 = .int .i64 0 ∧ w = wr)
  case atStart => exact ⟨rfl, rfl⟩
  case round =>
    obtain ⟨rfl, rfl⟩ := hrel
    go_wp2_with fail
    go_ret
    exact ⟨rfl, Below.refl _ _⟩

set_option maxRecDepth 100000 in
set_option maxHeartbeats 2000000 in
theorem sameArg_with (w : World) (t n : Int) (a b : Option Addr) (m c d : Nat)
    (h : ∀ W, Below w.heap.size w W → Calls Tryd.prog 28 #[.slice a m c, .slice b m d] W fun e w' => e = .returned (.bool true) ∧ Below W.heap.size W w') :
    Calls Tryd.prog 17 #[agV t n (.slice a m c), agV t n (.slice b m d)] w fun e w' => e = .returned (.bool true) ∧ Below w.heap.size w w' := by
  unfold agV
  have HB : Hid (Below w.heap.size w ((w.alloc (.cells #[.int .i64 t, .int .i64 n, .slice a m c] 25)).alloc (.cells #[.int .i64 t, .int .i64 n, .slice b m d] 25))) := ((Below.refl _ _).alloc (Nat.le_refl _) _).alloc (by simp) _
  have HC := h _ HB.out
  have HC2 : Hid (Calls Tryd.prog 28 #[.slice a m c, .slice b m d] ((w.alloc (.cells #[.int .i64 t, .int .i64 n, .slice a m c] 25)).alloc (.cells #[.int .i64 t, .int .i64 n, .slice b m d] 25)) fun e w' => e = .returned (.bool true) ∧ Below ((w.alloc (.cells #[.int .i64 t, .int .i64 n, .slice a m c] 25)).alloc (.cells #[.int .i64 t, .int .i64 n, .slice b m d] 25)).heap.size ((w.alloc (.cells #[.int .i64 t, .int .i64 n, .slice a m c] 25)).alloc (.cells #[.int .i64 t, .int .i64 n, .slice b m d] 25)) w') := HC
  clear h HC
  go_enter Tryd.func17, Tryd.ntmps17
  go_wp2_with fail
  refine HC2.out.mono ?_
  rintro e w2 ⟨rfl, b2⟩
  have HB2 : Hid (Below w.heap.size w w2) := HB.out.trans (b2.mono HB.out.size)
  clear b2
  go_wp2_with fail
  go_ret
  exact ⟨rfl, HB2.out⟩
end Go.Proofs.YtmoonigeghoeeaaDoor
