
/-
  relictlaw04.awake: the document's example.
-/
import Derived.Test.YtbmondbicnfcpaaDoorExtI
import Derived.Test.YtbmondbicnfcpaaDoorZTermE
namespace Go.Proofs.YtbmondbicnfcpaaDoor
open Go.RowKit
set_option linter.unusedVariables false
set_option linter.unusedSimpArgs false

def tA1 : Tm := .mk 1 false [1] ⟨#[]⟩ 0 []
def tA4 : Tm := .mk 4 false [] ⟨#[]⟩ 0 [tA1, tmNil]
theorem tA4_ok : tA4.ok = true := by
  simp only [tA4, tA1, tmNil, Tm.ok, chk_mk, chkL, chkC, chkH]
  decide +kernel
theorem tA4_put : putO tA4 = [108, 0, 0, 0, 1, 97, 1, 106] := by
  unfold putO
  rw [if_pos tA4_ok]
  have h := putT_list tmNil (by decide) [tA1] (by decide)
  have e : listT [tA1] tmNil = tA4 := rfl
  rw [← e, h]
  have h1 : putT tA1 = [97, 1] := by
    rw [putT_1 (show tA1.kind = 1 from rfl)]
    decide +kernel
  have h2 : putT tmNil = [106] := putT_3 rfl
  rw [putK_app, putK_one, putK_one, h1, h2]
  rfl
/-- The example lies in memory. -/
theorem aw4_is (w : World) : ∃ W, W = (((w.alloc (.cells #[.int .u32 1] 59)).alloc (.cells #[.int .i64 1, .bool false, .slice (some ⟨w.heap.size, 0, none⟩) 1 1, .string ⟨#[]⟩, .int .i64 0, .slice none 0 0, .int .i64 3, .bool false, .slice none 0 0, .string ⟨#[]⟩, .int .i64 0, .slice none 0 0] 29)).alloc (.cells #[.int .i64 4, .bool false, .slice none 0 0, .string ⟨#[]⟩, .int .i64 0, .slice (some ⟨w.heap.size + 1, 0, none⟩) 2 2] 29)) ∧ IsT W tA4 (.agg #[.int .i64 4, .bool false, .slice none 0 0, .string ⟨#[]⟩, .int .i64 0, .slice (some ⟨w.heap.size + 1, 0, none⟩) 2 2]) ∧ Bt W (w.heap.size + 1 + 1) 4 false (.slice none 0 0) ⟨#[]⟩ 0 (.slice (some ⟨w.heap.size + 1, 0, none⟩) 2 2) ∧ Below w.heap.size w W := by
  refine ⟨_, rfl, ?_, ?_, ?_⟩
  · have s1 : Sl (w.alloc (.cells #[.int .u32 1] 59)) (.slice (some ⟨w.heap.size, 0, none⟩) 1 1) [1] := sl_lit w 1 (by decide) (by decide)
    have b2 := (Below.refl _ (w.alloc (.cells #[.int .u32 1] 59))).alloc (Nat.le_refl _) (.cells #[.int .i64 1, .bool false, .slice (some ⟨w.heap.size, 0, none⟩) 1 1, .string ⟨#[]⟩, .int .i64 0, .slice none 0 0, .int .i64 3, .bool false, .slice none 0 0, .string ⟨#[]⟩, .int .i64 0, .slice none 0 0] 29)
    have b3 := (Below.refl _ ((w.alloc (.cells #[.int .u32 1] 59)).alloc (.cells #[.int .i64 1, .bool false, .slice (some ⟨w.heap.size, 0, none⟩) 1 1, .string ⟨#[]⟩, .int .i64 0, .slice none 0 0, .int .i64 3, .bool false, .slice none 0 0, .string ⟨#[]⟩, .int .i64 0, .slice none 0 0] 29))).alloc (Nat.le_refl _) (.cells #[.int .i64 4, .bool false, .slice none 0 0, .string ⟨#[]⟩, .int .i64 0, .slice (some ⟨w.heap.size + 1, 0, none⟩) 2 2] 29)
    have c2 := heap_alloc_new (w.alloc (.cells #[.int .u32 1] 59)) (.cells #[.int .i64 1, .bool false, .slice (some ⟨w.heap.size, 0, none⟩) 1 1, .string ⟨#[]⟩, .int .i64 0, .slice none 0 0, .int .i64 3, .bool false, .slice none 0 0, .string ⟨#[]⟩, .int .i64 0, .slice none 0 0] 29)
    rw [World.size_alloc] at c2
    have i1 : IsT ((w.alloc (.cells #[.int .u32 1] 59)).alloc (.cells #[.int .i64 1, .bool false, .slice (some ⟨w.heap.size, 0, none⟩) 1 1, .string ⟨#[]⟩, .int .i64 0, .slice none 0 0, .int .i64 3, .bool false, .slice none 0 0, .string ⟨#[]⟩, .int .i64 0, .slice none 0 0] 29)) tA1 (.agg #[.int .i64 1, .bool false, .slice (some ⟨w.heap.size, 0, none⟩) 1 1, .string ⟨#[]⟩, .int .i64 0, .slice none 0 0]) := IsT.shut (by omega) (by omega) (by decide) (s1.below b2) (Ts.nil _)
    have t2 : Ts ((w.alloc (.cells #[.int .u32 1] 59)).alloc (.cells #[.int .i64 1, .bool false, .slice (some ⟨w.heap.size, 0, none⟩) 1 1, .string ⟨#[]⟩, .int .i64 0, .slice none 0 0, .int .i64 3, .bool false, .slice none 0 0, .string ⟨#[]⟩, .int .i64 0, .slice none 0 0] 29)) (.slice (some ⟨w.heap.size + 1, 0, none⟩) 2 2) [tA1, tmNil] := Ts.lit2 c2 i1 (nil_is _)
    exact IsT.shut (by omega) (by omega) (by decide) (Sl.nil _) (t2.under b3)
  · have := Bt.new ((w.alloc (.cells #[.int .u32 1] 59)).alloc (.cells #[.int .i64 1, .bool false, .slice (some ⟨w.heap.size, 0, none⟩) 1 1, .string ⟨#[]⟩, .int .i64 0, .slice none 0 0, .int .i64 3, .bool false, .slice none 0 0, .string ⟨#[]⟩, .int .i64 0, .slice none 0 0] 29)) 4 false (.slice none 0 0) ⟨#[]⟩ 0 (.slice (some ⟨w.heap.size + 1, 0, none⟩) 2 2) ⟨_, _, _, rfl⟩ ⟨_, _, _, rfl⟩
    rwa [World.size_alloc, World.size_alloc] at this
  · exact (((Below.refl w.heap.size w).alloc (Nat.le_refl _) _).alloc (by simp) _).alloc (by simp; omega) _

set_option maxRecDepth 100000 in
set_option maxHeartbeats 4000000 in
theorem awake4 (w : World) : Calls Tryd.prog 15 #[] w fun e w' => e = .returned (.bool true) ∧ Below w.heap.size w w' := by
  obtain ⟨W, hW, hI, hT, hB⟩ := aw4_is w
  have HWW : Hid (W = (((w.alloc (.cells #[.int .u32 1] 59)).alloc (.cells #[.int .i64 1, .bool false, .slice (some ⟨w.heap.size, 0, none⟩) 1 1, .string ⟨#[]⟩, .int .i64 0, .slice none 0 0, .int .i64 3, .bool false, .slice none 0 0, .string ⟨#[]⟩, .int .i64 0, .slice none 0 0] 29)).alloc (.cells #[.int .i64 4, .bool false, .slice none 0 0, .string ⟨#[]⟩, .int .i64 0, .slice (some ⟨w.heap.size + 1, 0, none⟩) 2 2] 29))) := hW
  clear hW
  have HB : Hid (Below w.heap.size w W) := hB
  clear hB hT
  go_enter Tryd.func15, Tryd.ntmps15
  go_wp2_with fail
  rw [← HWW.out]
  clear HWW
  refine (eput_any _ _ [] tA4 W (By.nil W) (by decide) hI).mono ?_
  rintro e w1 ⟨v1, rfl, hr, -, b1⟩
  rw [tA4_put, List.nil_append] at hr
  have hy := hr.by
  obtain ⟨a1, c1, rfl, -⟩ := hy.shape
  have t1 := hy.text
  have HB1 : Hid (Below w.heap.size w w1) := HB.out.trans (b1.mono HB.out.size)
  simp only [List.length_cons, List.length_nil] at t1
  clear hy b1 hr hI
  go_wp2_with fail
  go_ret
  exact ⟨rfl, HB1.out⟩
end Go.Proofs.YtbmondbicnfcpaaDoor
