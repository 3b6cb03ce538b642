/-
  term.Check.
-/
import Derived.Test.YtbmondbicnfcpaaDoorTermFits
namespace Go.Proofs.YtbmondbicnfcpaaDoor
open Go.RowKit
set_option linter.unusedVariables false
set_option linter.unusedSimpArgs false

/-- A term that may be. -/
def Tm.ok (t : Tm) : Bool := (chk t 1 2000).isSome

set_option maxHeartbeats 1000000 in
theorem tcheck_any (t : Tm) (v : Value) (w : World) (h : IsT w t v) : Calls Tryd.prog 13 #[v] w fun e w' => e = .returned (.bool t.ok) ∧ Below w.heap.size w w' := by
  have h0 := h
  obtain ⟨sl, sk, rfl, hl, hk, -, -, -⟩ := h.open
  obtain ⟨pl, cl, rfl⟩ := hl.shape
  obtain ⟨pk, ck, rfl, -⟩ := hk.shape
  simp only [tmV] at *
  have hB1 := (Below.refl w.heap.size w).alloc (Nat.le_refl _) (.cells #[.int .i64 t.kind, .bool t.neg, .slice pl t.limbs.length cl, .string t.str, .int .i64 t.num, .slice pk t.kids.length ck] 29)
  have hL : Lft ((w.alloc (.cells #[.int .i64 t.kind, .bool t.neg, .slice pl t.limbs.length cl, .string t.str, .int .i64 t.num, .slice pk t.kids.length ck] 29)).alloc (.cells #[.int .i64 2000] 3)) (w.heap.size + 1) 2000 := by
    have := heap_alloc_new (w.alloc (.cells #[.int .i64 t.kind, .bool t.neg, .slice pl t.limbs.length cl, .string t.str, .int .i64 t.num, .slice pk t.kids.length ck] 29)) (.cells #[.int .i64 2000] 3)
    rw [World.size_alloc] at this
    exact this
  have hB2 := hB1.alloc hB1.size (.cells #[.int .i64 2000] 3)
  go_enter Tryd.func13, Tryd.ntmps13
  go_wp2_with fail
  refine (fits_any t.nodes t _ 1 2000 (w.heap.size + 1) w _ (Nat.le_refl _) h0 hB2 (by omega) hL (by omega) (by omega)).mono ?_
  rintro e w1 ⟨rfl, hG, -⟩
  have hB3 := hB2.trans (hG.below (by omega) hB2.size)
  clear hB1 hB2 hL hG
  go_wp2_with fail
  go_ret
  exact ⟨rfl, hB3⟩
end Go.Proofs.YtbmondbicnfcpaaDoor
