import Derived.Test.YtbmondbicnfcpaaDoorZTermA
import Derived.RangeFuncOwn
/-
  Terms that are written out in the text.
-/
namespace Go.Proofs.YtbmondbicnfcpaaDoor
open Go.RowKit
set_option linter.unusedVariables false
set_option linter.unusedSimpArgs false

theorem Ts.lit1 {W : World} {g : Nat} {c0 c1 c2 c3 c4 c5 : Value} {t : Tm} (h : W.heap[g]? = some (.cells #[c0, c1, c2, c3, c4, c5] 29 (0, 0))) (ht : IsT W t (.agg #[c0, c1, c2, c3, c4, c5])) : Ts W (.slice (some ⟨g, 0, none⟩) 1 1) [t] := by
  refine ⟨some ⟨g, 0, none⟩, 1, fun _ => .agg #[c0, c1, c2, c3, c4, c5], rfl, ⟨by simp, by decide, (fun e => by cases e), fun _ => ⟨g, 0, rfl, (Array.getElem?_eq_some_iff.1 h).1, fun i hi => ?_⟩⟩, fun i hi => ?_⟩
  · obtain rfl : i = 0 := by simp at hi; omega
    exact ⟨c0, c1, c2, c3, c4, c5, rfl, by simp [World.cell?, h], by simp [World.cell?, h], by simp [World.cell?, h], by simp [World.cell?, h], by simp [World.cell?, h], by simp [World.cell?, h]⟩
  · obtain rfl : i = 0 := by simp at hi; omega
    exact ht
theorem Ts.lit2 {W : World} {g : Nat} {c0 c1 c2 c3 c4 c5 d0 d1 d2 d3 d4 d5 : Value} {t u : Tm} (h : W.heap[g]? = some (.cells #[c0, c1, c2, c3, c4, c5, d0, d1, d2, d3, d4, d5] 29 (0, 0))) (ht : IsT W t (.agg #[c0, c1, c2, c3, c4, c5])) (hu : IsT W u (.agg #[d0, d1, d2, d3, d4, d5])) : Ts W (.slice (some ⟨g, 0, none⟩) 2 2) [t, u] := by
  refine ⟨some ⟨g, 0, none⟩, 2, fun i => if i = 0 then .agg #[c0, c1, c2, c3, c4, c5] else .agg #[d0, d1, d2, d3, d4, d5], rfl, ⟨by simp, by decide, (fun e => by cases e), fun _ => ⟨g, 0, rfl, (Array.getElem?_eq_some_iff.1 h).1, fun i hi => ?_⟩⟩, fun i hi => ?_⟩
  · have : i = 0 ∨ i = 1 := by simp at hi; omega
    rcases this with rfl | rfl
    · exact ⟨c0, c1, c2, c3, c4, c5, rfl, by simp [World.cell?, h], by simp [World.cell?, h], by simp [World.cell?, h], by simp [World.cell?, h], by simp [World.cell?, h], by simp [World.cell?, h]⟩
    · exact ⟨d0, d1, d2, d3, d4, d5, rfl, by simp [World.cell?, h], by simp [World.cell?, h], by simp [World.cell?, h], by simp [World.cell?, h], by simp [World.cell?, h], by simp [World.cell?, h]⟩
  · have : i = 0 ∨ i = 1 := by simp at hi; omega
    rcases this with rfl | rfl
    · exact ht
    · exact hu
/-- Nil, as it is written out. -/
theorem nil_is (W : World) : IsT W tmNil (.agg #[.int .i64 3, .bool false, .slice none 0 0, .string ⟨#[]⟩, .int .i64 0, .slice none 0 0]) :=
  IsT.shut (by omega) (by omega) (by decide) (Sl.nil W) (Ts.nil W)
end Go.Proofs.YtbmondbicnfcpaaDoor

/-
  A term that is read without one block: it stays, whatever is written there.
-/
namespace Go.Proofs.YtbmondbicnfcpaaDoor
open Go.RowKit
set_option linter.unusedVariables false
set_option linter.unusedSimpArgs false

theorem Sl.cells {w w' : World} {v : Value} {zs : List Int} (h : Sl w v zs) (hs : w.heap.size ≤ w'.heap.size) (hc : ∀ a u, w.cell? a = some u → w'.cell? a = some u) : Sl w' v zs := by
  obtain ⟨hok, a, n, cap, rfl, hl, hcp, hm, hn, hp⟩ := h
  refine ⟨hok, a, n, cap, rfl, hl, hcp, hm, hn, fun h0 => ?_⟩
  obtain ⟨b, off, rfl, hlt, hcell⟩ := hp h0
  exact ⟨b, off, rfl, Nat.lt_of_lt_of_le hlt hs, fun i hi => hc _ _ (hcell i hi)⟩
theorem At6.cells {w w' : World} {b off : Nat} {v : Value} (h : At6 w b off v) (hc : ∀ a u, w.cell? a = some u → w'.cell? a = some u) : At6 w' b off v := by
  obtain ⟨c0, c1, c2, c3, c4, c5, rfl, h0, h1, h2, h3, h4, h5⟩ := h
  exact ⟨c0, c1, c2, c3, c4, c5, rfl, hc _ _ h0, hc _ _ h1, hc _ _ h2, hc _ _ h3, hc _ _ h4, hc _ _ h5⟩
theorem IsT.cells {w w' : World} {t : Tm} {v : Value} (h : IsT w t v) (hs : w.heap.size ≤ w'.heap.size) (hc : ∀ a u, w.cell? a = some u → w'.cell? a = some u) : IsT w' t v := by
  refine IsT.ind (P := fun t v => IsT w' t v) ?_ t v h
  intro k neg L S N K sl a cap el hk hN hS hL hh hr ih
  refine IsT.mk k neg L S N K sl a cap el hk hN hS (hL.cells hs hc) ?_ ih
  obtain ⟨h1, h2, h3, h4⟩ := hh
  refine ⟨h1, h2, h3, fun h0 => ?_⟩
  obtain ⟨b, off, rfl, hlt, hcl⟩ := h4 h0
  exact ⟨b, off, rfl, Nat.lt_of_lt_of_le hlt hs, fun i hi => (hcl i hi).cells hc⟩

/-- The world without the cells of block b. -/
def blank (b : Nat) (w : World) : World := w.putObj b (.deferred none)
theorem blank_size (b : Nat) (w : World) : (blank b w).heap.size = w.heap.size := by simp [blank]
theorem blank_other {b k : Nat} {w : World} (h : k ≠ b) : (blank b w).heap[k]? = w.heap[k]? := World.putObj_heap_other h
theorem blank_none (b : Nat) (w : World) (a : Addr) (ha : a.block = b) (hb : b < w.heap.size) : (blank b w).cell? a = none := by
  have : (blank b w).heap[a.block]? = some (.deferred none) := by rw [ha]; simp [blank, World.putObj, hb]
  simp [World.cell?, this]
theorem blank_cell {b : Nat} {w : World} (hb : b < w.heap.size) {a : Addr} {u : Value} (h : (blank b w).cell? a = some u) : a.block ≠ b ∧ w.cell? a = some u := by
  by_cases e : a.block = b
  · rw [blank_none b w a e hb] at h
    cases h
  · refine ⟨e, ?_⟩
    rw [← World.cell?_of_block (w := w) (w' := blank b w) (blank_other e)]
    exact h
theorem IsT.unblank {b : Nat} {w : World} {t : Tm} {v : Value} (h : IsT (blank b w) t v) (hb : b < w.heap.size) : IsT w t v :=
  h.cells (by rw [blank_size]; exact Nat.le_refl _) (fun a u ha => (blank_cell hb ha).2)
/-- Whatever is written into block b. -/
theorem IsT.blankBut {b : Nat} {w w' : World} {t : Tm} {v : Value} (h : IsT (blank b w) t v) (hb : b < w.heap.size) (hw : But b w w') : IsT (blank b w') t v := by
  refine h.cells (by rw [blank_size, blank_size, hw.size]; exact Nat.le_refl _) (fun a u ha => ?_)
  obtain ⟨h1, h2⟩ := blank_cell hb ha
  rw [World.cell?_of_block (w := w') (w' := blank b w') (blank_other h1), World.cell?_of_block (w := w) (hw.block _ h1)]
  exact h2
theorem IsT.blankAlloc {b : Nat} {w : World} {t : Tm} {v : Value} (h : IsT (blank b w) t v) (hb : b < w.heap.size) (o : Obj) : IsT (blank b (w.alloc o)) t v := by
  refine h.cells (by rw [blank_size, blank_size]; simp) (fun a u ha => ?_)
  obtain ⟨h1, h2⟩ := blank_cell hb ha
  have hlt := World.block_lt_of_cell? w a h2
  rw [World.cell?_of_block (w := w.alloc o) (w' := blank b (w.alloc o)) (blank_other h1), World.cell?_of_block (w := w) (Below.heap_alloc _ _ _ hlt)]
  exact h2
end Go.Proofs.YtbmondbicnfcpaaDoor
