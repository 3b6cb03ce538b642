
/-
  relictlaw03.awake: the document's example.
-/
import Derived.Test.YtfcdocgjmgpmkaaDoorZTermE
import Derived.Test.YtfcdocgjmgpmkaaDoorZTermD
import Derived.Test.YtfcdocgjmgpmkaaDoorZTermI
namespace Go.Proofs.YtfcdocgjmgpmkaaDoor
open Go.RowKit
set_option linter.unusedVariables false
set_option linter.unusedSimpArgs false

def tOne : Tm := .mk 1 false [1] ⟨#[]⟩ 0 []
def tCons : Tm := .mk 4 false [] ⟨#[]⟩ 0 [tOne, tmNil]
def tAw : Tm := .mk 5 false [] ⟨#[]⟩ 0 [tmMark ⟨#[97]⟩, tCons]
theorem aw_nodes : tAw.nodes = 5 := by simp [tAw, tCons, tOne, tmMark, tmNil, Tm.nodes_mk, nodesL]
theorem aw_words : tAw.words = 5 := by
  have hs : smallB (val false [1]) = true := by decide +kernel
  simp [Tm.words, tAw, tCons, tOne, tmMark, tmNil, Tm.sum_mk, sumL, ownW, Tm.kind, Tm.neg, Tm.limbs, Tm.kids, Tm.str, hs]
theorem aw_ok : tAw.ok = true := by
  simp only [tAw, tCons, tOne, tmMark, tmNil, Tm.ok, chk_mk, chkL, chkC, chkH]
  decide +kernel
theorem aw_txt : txt tAw = [123, 97, 44, 91, 49, 124, 91, 93, 93, 125] := by
  simp only [tAw, tCons, tOne, tmMark, tmNil, txt_mk, txtL, txtC, txtM]
  decide +kernel
theorem aw_spk : spk tAw := by simp [tAw, tCons, tOne, tmMark, tmNil, spk_mk, spkL]
theorem aw_wt : wt tAw ≤ 100000 := by simp [tAw, tCons, tOne, tmMark, tmNil, wt_mk, wtL]

/-- The example lies in memory. -/
theorem aw_is (w : World) : ∃ W, W = ((((w.alloc (.cells #[.int .u32 1] 47)).alloc (.cells #[.int .i64 1, .bool false, .slice (some ⟨w.heap.size, 0, none⟩) 1 1, .string ⟨#[]⟩, .int .i64 0, .slice none 0 0, .int .i64 3, .bool false, .slice none 0 0, .string ⟨#[]⟩, .int .i64 0, .slice none 0 0] 27)).alloc (.cells #[.int .i64 2, .bool false, .slice none 0 0, .string ⟨#[97]⟩, .int .i64 0, .slice none 0 0, .int .i64 4, .bool false, .slice none 0 0, .string ⟨#[]⟩, .int .i64 0, .slice (some ⟨w.heap.size + 1, 0, none⟩) 2 2] 27)).alloc (.cells #[.int .i64 5, .bool false, .slice none 0 0, .string ⟨#[]⟩, .int .i64 0, .slice (some ⟨w.heap.size + 1 + 1, 0, none⟩) 2 2] 27)) ∧ IsT W tAw (.agg #[.int .i64 5, .bool false, .slice none 0 0, .string ⟨#[]⟩, .int .i64 0, .slice (some ⟨w.heap.size + 1 + 1, 0, none⟩) 2 2]) ∧ Bt W (w.heap.size + 1 + 1 + 1) 5 false (.slice none 0 0) ⟨#[]⟩ 0 (.slice (some ⟨w.heap.size + 1 + 1, 0, none⟩) 2 2) ∧ Below w.heap.size w W := by
  refine ⟨_, rfl, ?_, ?_, ?_⟩
  · have s1 : Sl (w.alloc (.cells #[.int .u32 1] 47)) (.slice (some ⟨w.heap.size, 0, none⟩) 1 1) [1] := sl_lit w 1 (by decide) (by decide)
    have b2 := (Below.refl _ (w.alloc (.cells #[.int .u32 1] 47))).alloc (Nat.le_refl _) (.cells #[.int .i64 1, .bool false, .slice (some ⟨w.heap.size, 0, none⟩) 1 1, .string ⟨#[]⟩, .int .i64 0, .slice none 0 0, .int .i64 3, .bool false, .slice none 0 0, .string ⟨#[]⟩, .int .i64 0, .slice none 0 0] 27)
    have b3 := (Below.refl _ ((w.alloc (.cells #[.int .u32 1] 47)).alloc (.cells #[.int .i64 1, .bool false, .slice (some ⟨w.heap.size, 0, none⟩) 1 1, .string ⟨#[]⟩, .int .i64 0, .slice none 0 0, .int .i64 3, .bool false, .slice none 0 0, .string ⟨#[]⟩, .int .i64 0, .slice none 0 0] 27))).alloc (Nat.le_refl _) (.cells #[.int .i64 2, .bool false, .slice none 0 0, .string ⟨#[97]⟩, .int .i64 0, .slice none 0 0, .int .i64 4, .bool false, .slice none 0 0, .string ⟨#[]⟩, .int .i64 0, .slice (some ⟨w.heap.size + 1, 0, none⟩) 2 2] 27)
    have b4 := (Below.refl _ (((w.alloc (.cells #[.int .u32 1] 47)).alloc (.cells #[.int .i64 1, .bool false, .slice (some ⟨w.heap.size, 0, none⟩) 1 1, .string ⟨#[]⟩, .int .i64 0, .slice none 0 0, .int .i64 3, .bool false, .slice none 0 0, .string ⟨#[]⟩, .int .i64 0, .slice none 0 0] 27)).alloc (.cells #[.int .i64 2, .bool false, .slice none 0 0, .string ⟨#[97]⟩, .int .i64 0, .slice none 0 0, .int .i64 4, .bool false, .slice none 0 0, .string ⟨#[]⟩, .int .i64 0, .slice (some ⟨w.heap.size + 1, 0, none⟩) 2 2] 27))).alloc (Nat.le_refl _) (.cells #[.int .i64 5, .bool false, .slice none 0 0, .string ⟨#[]⟩, .int .i64 0, .slice (some ⟨w.heap.size + 1 + 1, 0, none⟩) 2 2] 27)
    have c2 := heap_alloc_new (w.alloc (.cells #[.int .u32 1] 47)) (.cells #[.int .i64 1, .bool false, .slice (some ⟨w.heap.size, 0, none⟩) 1 1, .string ⟨#[]⟩, .int .i64 0, .slice none 0 0, .int .i64 3, .bool false, .slice none 0 0, .string ⟨#[]⟩, .int .i64 0, .slice none 0 0] 27)
    rw [World.size_alloc] at c2
    have i1 : IsT ((w.alloc (.cells #[.int .u32 1] 47)).alloc (.cells #[.int .i64 1, .bool false, .slice (some ⟨w.heap.size, 0, none⟩) 1 1, .string ⟨#[]⟩, .int .i64 0, .slice none 0 0, .int .i64 3, .bool false, .slice none 0 0, .string ⟨#[]⟩, .int .i64 0, .slice none 0 0] 27)) tOne (.agg #[.int .i64 1, .bool false, .slice (some ⟨w.heap.size, 0, none⟩) 1 1, .string ⟨#[]⟩, .int .i64 0, .slice none 0 0]) := IsT.shut (by omega) (by omega) (by decide) (s1.below b2) (Ts.nil _)
    have t2 : Ts ((w.alloc (.cells #[.int .u32 1] 47)).alloc (.cells #[.int .i64 1, .bool false, .slice (some ⟨w.heap.size, 0, none⟩) 1 1, .string ⟨#[]⟩, .int .i64 0, .slice none 0 0, .int .i64 3, .bool false, .slice none 0 0, .string ⟨#[]⟩, .int .i64 0, .slice none 0 0] 27)) (.slice (some ⟨w.heap.size + 1, 0, none⟩) 2 2) [tOne, tmNil] := Ts.lit2 c2 i1 (nil_is _)
    have i2 : IsT (((w.alloc (.cells #[.int .u32 1] 47)).alloc (.cells #[.int .i64 1, .bool false, .slice (some ⟨w.heap.size, 0, none⟩) 1 1, .string ⟨#[]⟩, .int .i64 0, .slice none 0 0, .int .i64 3, .bool false, .slice none 0 0, .string ⟨#[]⟩, .int .i64 0, .slice none 0 0] 27)).alloc (.cells #[.int .i64 2, .bool false, .slice none 0 0, .string ⟨#[97]⟩, .int .i64 0, .slice none 0 0, .int .i64 4, .bool false, .slice none 0 0, .string ⟨#[]⟩, .int .i64 0, .slice (some ⟨w.heap.size + 1, 0, none⟩) 2 2] 27)) tCons (.agg #[.int .i64 4, .bool false, .slice none 0 0, .string ⟨#[]⟩, .int .i64 0, .slice (some ⟨w.heap.size + 1, 0, none⟩) 2 2]) := IsT.shut (by omega) (by omega) (by decide) (Sl.nil _) (t2.under b3)
    have c3 := heap_alloc_new ((w.alloc (.cells #[.int .u32 1] 47)).alloc (.cells #[.int .i64 1, .bool false, .slice (some ⟨w.heap.size, 0, none⟩) 1 1, .string ⟨#[]⟩, .int .i64 0, .slice none 0 0, .int .i64 3, .bool false, .slice none 0 0, .string ⟨#[]⟩, .int .i64 0, .slice none 0 0] 27)) (.cells #[.int .i64 2, .bool false, .slice none 0 0, .string ⟨#[97]⟩, .int .i64 0, .slice none 0 0, .int .i64 4, .bool false, .slice none 0 0, .string ⟨#[]⟩, .int .i64 0, .slice (some ⟨w.heap.size + 1, 0, none⟩) 2 2] 27)
    rw [World.size_alloc, World.size_alloc] at c3
    have t3 : Ts (((w.alloc (.cells #[.int .u32 1] 47)).alloc (.cells #[.int .i64 1, .bool false, .slice (some ⟨w.heap.size, 0, none⟩) 1 1, .string ⟨#[]⟩, .int .i64 0, .slice none 0 0, .int .i64 3, .bool false, .slice none 0 0, .string ⟨#[]⟩, .int .i64 0, .slice none 0 0] 27)).alloc (.cells #[.int .i64 2, .bool false, .slice none 0 0, .string ⟨#[97]⟩, .int .i64 0, .slice none 0 0, .int .i64 4, .bool false, .slice none 0 0, .string ⟨#[]⟩, .int .i64 0, .slice (some ⟨w.heap.size + 1, 0, none⟩) 2 2] 27)) (.slice (some ⟨w.heap.size + 1 + 1, 0, none⟩) 2 2) [tmMark ⟨#[97]⟩, tCons] := Ts.lit2 c3 (mark_is _ _ (by decide)) i2
    exact IsT.shut (by omega) (by omega) (by decide) (Sl.nil _) (t3.under b4)
  · have := Bt.new (((w.alloc (.cells #[.int .u32 1] 47)).alloc (.cells #[.int .i64 1, .bool false, .slice (some ⟨w.heap.size, 0, none⟩) 1 1, .string ⟨#[]⟩, .int .i64 0, .slice none 0 0, .int .i64 3, .bool false, .slice none 0 0, .string ⟨#[]⟩, .int .i64 0, .slice none 0 0] 27)).alloc (.cells #[.int .i64 2, .bool false, .slice none 0 0, .string ⟨#[97]⟩, .int .i64 0, .slice none 0 0, .int .i64 4, .bool false, .slice none 0 0, .string ⟨#[]⟩, .int .i64 0, .slice (some ⟨w.heap.size + 1, 0, none⟩) 2 2] 27)) 5 false (.slice none 0 0) ⟨#[]⟩ 0 (.slice (some ⟨w.heap.size + 1 + 1, 0, none⟩) 2 2) ⟨_, _, _, rfl⟩ ⟨_, _, _, rfl⟩
    rwa [World.size_alloc, World.size_alloc, World.size_alloc] at this
  · exact ((((Below.refl w.heap.size w).alloc (Nat.le_refl _) _).alloc (by simp) _).alloc (by simp; omega) _).alloc (by simp; omega) _

set_option maxRecDepth 100000 in
set_option maxHeartbeats 4000000 in
theorem tawake_any (w : World) : Calls Tryd.prog 9 #[] w fun e w' => e = .returned (.bool true) ∧ Below w.heap.size w w' := by
  obtain ⟨W, hW, hI, hT, hB⟩ := aw_is w
  have HWW : Hid (W = ((((w.alloc (.cells #[.int .u32 1] 47)).alloc (.cells #[.int .i64 1, .bool false, .slice (some ⟨w.heap.size, 0, none⟩) 1 1, .string ⟨#[]⟩, .int .i64 0, .slice none 0 0, .int .i64 3, .bool false, .slice none 0 0, .string ⟨#[]⟩, .int .i64 0, .slice none 0 0] 27)).alloc (.cells #[.int .i64 2, .bool false, .slice none 0 0, .string ⟨#[97]⟩, .int .i64 0, .slice none 0 0, .int .i64 4, .bool false, .slice none 0 0, .string ⟨#[]⟩, .int .i64 0, .slice (some ⟨w.heap.size + 1, 0, none⟩) 2 2] 27)).alloc (.cells #[.int .i64 5, .bool false, .slice none 0 0, .string ⟨#[]⟩, .int .i64 0, .slice (some ⟨w.heap.size + 1 + 1, 0, none⟩) 2 2] 27))) := hW
  clear hW
  go_enter Tryd.func9, Tryd.ntmps9
  go_wp2_with fail
  rw [← HWW.out]
  clear HWW
  refine (ttext_any tAw _ _ hI aw_spk aw_wt (by rw [aw_txt]; decide)).mono ?_
  rw [aw_txt]
  rintro e w1 ⟨rfl, b1⟩
  replace hI := hI.under b1
  replace hT := hT.under b1
  replace hB := hB.trans (b1.mono hB.size)
  clear b1
  obtain ⟨a0, a1, a2, a3, a4, a5⟩ := hT.cells
  go_wp2_with fail
  refine (tcheck_any tAw _ _ hI).mono ?_
  rw [aw_ok]
  rintro e w2 ⟨rfl, b2⟩
  replace hI := hI.under b2
  replace hT := hT.under b2
  replace hB := hB.trans (b2.mono hB.size)
  clear b2 a0 a1 a2 a3 a4 a5
  obtain ⟨a0, a1, a2, a3, a4, a5⟩ := hT.cells
  go_wp2_with fail
  refine (words_any tAw _ _ hI (by rw [aw_nodes]; decide) (by rw [aw_words]; decide)).mono ?_
  rw [aw_words]
  rintro e w3 ⟨rfl, b3⟩
  replace hI := hI.under b3
  replace hT := hT.under b3
  replace hB := hB.trans (b3.mono hB.size)
  clear b3 a0 a1 a2 a3 a4 a5
  obtain ⟨a0, a1, a2, a3, a4, a5⟩ := hT.cells
  go_wp2_with fail
  refine (nodes_any tAw _ _ hI (by rw [aw_nodes]; decide)).mono ?_
  rw [aw_nodes]
  rintro e w4 ⟨rfl, b4⟩
  replace hB := hB.trans (b4.mono hB.size)
  clear b4 a0 a1 a2 a3 a4 a5 hI hT
  go_wp2_with fail
  go_ret
  exact ⟨rfl, hB⟩
end Go.Proofs.YtfcdocgjmgpmkaaDoor
