
/-
  A box of six cells: a term of the call's own.
-/
import Derived.Test.YtnfnnngdbeplaaaDoorTermBase
namespace Go.Proofs.YtnfnnngdbeplaaaDoor
open Go.RowKit
set_option linter.unusedVariables false
set_option linter.unusedSimpArgs false

/-- A value that is a slice. -/
def IsS (v : Value) : Prop := ∃ p n c, v = .slice p n c
/-- Block g is a box of six cells. -/
def Bt (w : World) (g : Nat) (k : Int) (neg : Bool) (sl : Value) (S : ByteArray) (N : Int) (sk : Value) : Prop := w.heap[g]? = some (.cells #[.int .i64 k, .bool neg, sl, .string S, .int .i64 N, sk] 27 (0, 0)) ∧ IsS sl ∧ IsS sk

theorem Bt.lt {w : World} {g : Nat} {k : Int} {neg : Bool} {sl : Value} {S : ByteArray} {N : Int} {sk : Value} (h : Bt w g k neg sl S N sk) : g < w.heap.size := (Array.getElem?_eq_some_iff.1 h.1).1
theorem Bt.cells {w : World} {g : Nat} {k : Int} {neg : Bool} {sl : Value} {S : ByteArray} {N : Int} {sk : Value} (h : Bt w g k neg sl S N sk) : w.cell? ⟨g, 0, none⟩ = some (.int .i64 k) ∧ w.cell? ⟨g, 1, none⟩ = some (.bool neg) ∧ w.cell? ⟨g, 2, none⟩ = some (sl) ∧ w.cell? ⟨g, 3, none⟩ = some (.string S) ∧ w.cell? ⟨g, 4, none⟩ = some (.int .i64 N) ∧ w.cell? ⟨g, 5, none⟩ = some (sk) := by
  obtain ⟨h, _⟩ := h
  refine ⟨?_, ?_, ?_, ?_, ?_, ?_⟩ <;> simp [World.cell?, h]
theorem Bt.froz {w : World} {g : Nat} {k : Int} {neg : Bool} {sl : Value} {S : ByteArray} {N : Int} {sk : Value} (h : Bt w g k neg sl S N sk) : w.frozen? ⟨g, 0, none⟩ = false ∧ w.frozen? ⟨g, 1, none⟩ = false ∧ w.frozen? ⟨g, 2, none⟩ = false ∧ w.frozen? ⟨g, 3, none⟩ = false ∧ w.frozen? ⟨g, 4, none⟩ = false ∧ w.frozen? ⟨g, 5, none⟩ = false := by
  obtain ⟨h, _⟩ := h
  refine ⟨?_, ?_, ?_, ?_, ?_, ?_⟩ <;> simp [World.frozen?, h]
theorem Bt.below {w w' : World} {g B : Nat} {k : Int} {neg : Bool} {sl : Value} {S : ByteArray} {N : Int} {sk : Value} (h : Bt w g k neg sl S N sk) (hb : Below B w w') (hg : g < B) : Bt w' g k neg sl S N sk := ⟨by rw [hb.block g hg]; exact h.1, h.2⟩
theorem Bt.under {w w' : World} {g : Nat} {k : Int} {neg : Bool} {sl : Value} {S : ByteArray} {N : Int} {sk : Value} (h : Bt w g k neg sl S N sk) (hb : Below w.heap.size w w') : Bt w' g k neg sl S N sk := h.below hb h.lt
theorem Bt.other {w w' : World} {g g' : Nat} {k : Int} {neg : Bool} {sl : Value} {S : ByteArray} {N : Int} {sk : Value} (h : Bt w g k neg sl S N sk) (hb : But g' w w') (hne : g ≠ g') : Bt w' g k neg sl S N sk := ⟨by rw [hb.block g hne]; exact h.1, h.2⟩
theorem Bt.grw {w w' : World} {g g' : Nat} {k : Int} {neg : Bool} {sl : Value} {S : ByteArray} {N : Int} {sk : Value} (h : Bt w g k neg sl S N sk) (hb : Grw g' w w') (hne : g ≠ g') : Bt w' g k neg sl S N sk := ⟨by rw [hb.block g h.lt hne]; exact h.1, h.2⟩
theorem Bt.new (w : World) (k : Int) (neg : Bool) (sl : Value) (S : ByteArray) (N : Int) (sk : Value) (h1 : IsS sl) (h2 : IsS sk) : Bt (w.alloc (.cells #[.int .i64 k, .bool neg, sl, .string S, .int .i64 N, sk] 27)) w.heap.size k neg sl S N sk := ⟨heap_alloc_new w _, h1, h2⟩
/-- The world behind a store of a term into its box. -/
def setBt (w : World) (g : Nat) (k : Int) (neg : Bool) (sl : Value) (S : ByteArray) (N : Int) (sk : Value) : World := (((((w.setCell ⟨g, 0, none⟩ (.int .i64 k)).setCell ⟨g, 1, none⟩ (.bool neg)).setCell ⟨g, 2, none⟩ (sl)).setCell ⟨g, 3, none⟩ (.string S)).setCell ⟨g, 4, none⟩ (.int .i64 N)).setCell ⟨g, 5, none⟩ (sk)
theorem setBt_but (w : World) (g : Nat) (k : Int) (neg : Bool) (sl : Value) (S : ByteArray) (N : Int) (sk : Value) : But g w (setBt w g k neg sl S N sk) := ((((((But.refl g w).setCell 0 _).setCell 1 _).setCell 2 _).setCell 3 _).setCell 4 _).setCell 5 _
theorem Bt.set {w : World} {g : Nat} {k' : Int} {neg' : Bool} {sl' : Value} {S' : ByteArray} {N' : Int} {sk' : Value} (h : Bt w g k' neg' sl' S' N' sk') (k : Int) (neg : Bool) (sl : Value) (S : ByteArray) (N : Int) (sk : Value) (h1 : IsS sl) (h2 : IsS sk) : Bt (setBt w g k neg sl S N sk) g k neg sl S N sk := by
  refine ⟨?_, h1, h2⟩
  simp [setBt, World.setCell, Array.getElem?_modify, h.1]
theorem Bt.load {w : World} {g : Nat} {k : Int} {neg : Bool} {sl : Value} {S : ByteArray} {N : Int} {sk : Value} (h : Bt w g k neg sl S N sk) : (loadVar 27 ⟨g, 0, none⟩).run Tryd.prog w = .ok (.agg #[.int .i64 k, .bool neg, sl, .string S, .int .i64 N, sk]) w := by
  obtain ⟨c0, c1, c2, c3, c4, c5⟩ := h.cells
  simp [loadVar, go_sem, c0, c1, c2, c3, c4, c5]
theorem Sl.isS {w : World} {v : Value} {zs : List Int} (h : Sl w v zs) : IsS v := by
  obtain ⟨a, c, rfl⟩ := h.shape
  exact ⟨_, _, _, rfl⟩
theorem Ts.isS {w : World} {v : Value} {K : List Tm} (h : Ts w v K) : IsS v := by
  obtain ⟨a, c, rfl, _⟩ := h.shape
  exact ⟨_, _, _, rfl⟩
end Go.Proofs.YtnfnnngdbeplaaaDoor
