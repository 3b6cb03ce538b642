/-
  An operand's box, written and answered.
-/
import Derived.Test.YtfjibcldghnjcaaDoorCpG
namespace Go.Proofs.YtfjibcldghnjcaaDoor
open Go.RowKit
set_option linter.unusedVariables false
set_option linter.unusedSimpArgs false

def setBxA (w : World) (g : Nat) (t n : Int) (sl : Value) : World := ((w.setCell ⟨g, 0, none⟩ (.int .i64 t)).setCell ⟨g, 1, none⟩ (.int .i64 n)).setCell ⟨g, 2, none⟩ sl
theorem BxA.set {w : World} {g : Nat} {t' n' : Int} {sl' : Value} (h : BxA w g t' n' sl') (t n : Int) (sl : Value) : BxA (setBxA w g t n sl) g t n sl := by
  unfold BxA at h ⊢
  simp [setBxA, World.setCell, Array.getElem?_modify, h]
theorem BxA.set1 {w : World} {g : Nat} {t n' : Int} {sl : Value} (h : BxA w g t n' sl) (n : Int) : BxA (w.setCell ⟨g, 1, none⟩ (.int .i64 n)) g t n sl := by
  unfold BxA at h ⊢
  simp [World.setCell, Array.getElem?_modify, h]
theorem set_block (w : World) (g j : Nat) (u : Value) (b : Nat) (h : b ≠ g) : (w.setCell ⟨g, j, none⟩ u).heap[b]? = w.heap[b]? := by
  simp only [World.setCell, Array.getElem?_modify]
  rw [if_neg (fun e => h e.symm)]
theorem setA_block (w : World) (g : Nat) (t n : Int) (sl : Value) (b : Nat) (h : b ≠ g) : (setBxA w g t n sl).heap[b]? = w.heap[b]? := by
  unfold setBxA
  rw [set_block _ _ _ _ _ h, set_block _ _ _ _ _ h, set_block _ _ _ _ _ h]
theorem set_size (w : World) (g j : Nat) (u : Value) : (w.setCell ⟨g, j, none⟩ u).heap.size = w.heap.size := by simp [World.setCell]
theorem setA_size (w : World) (g : Nat) (t n : Int) (sl : Value) : (setBxA w g t n sl).heap.size = w.heap.size := by simp [setBxA, World.setCell]
theorem BxA.other {w : World} {g g' j : Nat} {t n : Int} {sl u : Value} (h : BxA w g t n sl) (hne : g ≠ g') : BxA (w.setCell ⟨g', j, none⟩ u) g t n sl := by
  unfold BxA at h ⊢
  rw [set_block _ _ _ _ _ hne]; exact h
theorem BxA.otherA {w : World} {g g' : Nat} {t n t' n' : Int} {sl sl' : Value} (h : BxA w g t n sl) (hne : g ≠ g') : BxA (setBxA w g' t' n' sl') g t n sl := by
  unfold BxA at h ⊢
  rw [setA_block _ _ _ _ _ _ hne]; exact h
theorem Below.setA {B : Nat} {a w : World} (h : Below B a w) {g : Nat} (hp : B ≤ g) (t n : Int) (sl : Value) : Below B a (setBxA w g t n sl) := ((h.setCell (by exact hp) _).setCell (by exact hp) _).setCell (by exact hp) _
theorem BxA.load {w : World} {g : Nat} {t n : Int} {sl : Value} (h : BxA w g t n sl) : (loadVar 30 ⟨g, 0, none⟩).run Tryd.prog w = .ok (agV t n sl) w := by
  obtain ⟨c0, c1, c2, -⟩ := h.facts
  simp [loadVar, go_sem, c0, c1, c2, agV]
theorem results_a1 {fn : Func} {q : Tmp} (h : fn.results = #[.cell q 30]) (tmps : Array Value) (w : World) (g : Nat) (t n : Int) (sl : Value) (hq : tmps.getD q undef = .pointer (some ⟨g, 0, none⟩)) (hb : BxA w g t n sl) :
    (results fn tmps).run Tryd.prog w = .ok (agV t n sl) w := by
  have hl := hb.load
  simp only [Array.getD_eq_getD_getElem?] at hq
  simp only [results, h]
  simp [hq, asAddr, hl]
theorem results_a2 {fn : Func} {q u : Tmp} (h : fn.results = #[.cell q 30, .tmp u]) (tmps : Array Value) (w : World) (g : Nat) (t n : Int) (sl : Value) (hq : tmps.getD q undef = .pointer (some ⟨g, 0, none⟩)) (hb : BxA w g t n sl) :
    (results fn tmps).run Tryd.prog w = .ok (.tuple #[agV t n sl, tmps.getD u undef]) w := by
  have hl := hb.load
  simp only [Array.getD_eq_getD_getElem?] at hq
  simp only [results, h]
  simp [hq, asAddr, hl]
theorem results_a3 {fn : Func} {q u u' : Tmp} (h : fn.results = #[.cell q 30, .tmp u, .tmp u']) (tmps : Array Value) (w : World) (g : Nat) (t n : Int) (sl : Value) (hq : tmps.getD q undef = .pointer (some ⟨g, 0, none⟩)) (hb : BxA w g t n sl) :
    (results fn tmps).run Tryd.prog w = .ok (.tuple #[agV t n sl, tmps.getD u undef, tmps.getD u' undef]) w := by
  have hl := hb.load
  simp only [Array.getD_eq_getD_getElem?] at hq
  simp only [results, h]
  simp [hq, asAddr, hl]
end Go.Proofs.YtfjibcldghnjcaaDoor
