/-
  What the walks say of slices of uint32: Sl (a slice value whose numbers are known, to be read), Row (a block of the call's own, known whole, to be written).
-/
import Derived.Test.YtnfnnngdbeplaaaDoorProg
import Derived.Test.YtnfnnngdbeplaaaDoorMath
import Derived.WalkKit
import Derived.WalkSpells
import Derived.WalkLawsBesides
import Derived.Laws.CopyOwn
namespace Go.Proofs.YtnfnnngdbeplaaaDoor
open Go.RowKit

/-- The slice value v has in w the numbers zs. -/
def Sl (w : World) (v : Value) (zs : List Int) : Prop :=
  Ok zs ∧ ∃ a n cap, v = .slice a n cap ∧ zs.length = n ∧ n ≤ cap ∧ cap ≤ 9223372036854775807 ∧ (a = none → cap = 0) ∧
    (0 < n → ∃ b off, a = some ⟨b, off, none⟩ ∧ b < w.heap.size ∧ ∀ i, i < n → w.cell? ⟨b, off + i, none⟩ = some (.int .u32 (zs.getD i 0)))

theorem Sl.nil (w : World) : Sl w (.slice none 0 0) [] :=
  ⟨Ok.nil, none, 0, 0, rfl, rfl, Nat.le_refl _, by decide, fun _ => rfl, fun h => absurd h (by decide)⟩

theorem Sl.shape {w : World} {v : Value} {zs : List Int} (h : Sl w v zs) : ∃ a cap, v = .slice a zs.length cap := by
  obtain ⟨_, a, n, cap, rfl, rfl, _⟩ := h
  exact ⟨a, cap, rfl⟩

theorem Sl.below {w w' : World} {v : Value} {zs : List Int} (h : Sl w v zs) (hb : Below w.heap.size w w') : Sl w' v zs := by
  obtain ⟨hok, a, n, cap, rfl, hl, hc, hm, hn, hp⟩ := h
  refine ⟨hok, a, n, cap, rfl, hl, hc, hm, hn, fun h0 => ?_⟩
  obtain ⟨b, off, rfl, hlt, hcell⟩ := hp h0
  refine ⟨b, off, rfl, Nat.lt_of_lt_of_le hlt hb.size, fun i hi => ?_⟩
  rw [hb.cell (p := ⟨b, off + i, none⟩) hlt]
  exact hcell i hi

/-- A block of the call's own: its numbers are all known, none is frozen. -/
def Row (w : World) (g : Nat) (Z : List Int) : Prop := w.heap[g]? = some (.cells (Z.map (Value.int .u32)).toArray 49 (0, 0))

theorem Row.lt {w : World} {g : Nat} {Z : List Int} (h : Row w g Z) : g < w.heap.size := (Array.getElem?_eq_some_iff.1 h).1

theorem Row.cell {w : World} {g : Nat} {Z : List Int} (h : Row w g Z) (j : Nat) (hj : j < Z.length) : w.cell? ⟨g, j, none⟩ = some (.int .u32 (Z.getD j 0)) := by
  rw [cell_of_row w g j _ _ _ h]
  simp [List.getD, hj]

theorem Row.frozen {w : World} {g : Nat} {Z : List Int} (h : Row w g Z) (j : Nat) : w.frozen? ⟨g, j, none⟩ = false := by
  unfold Row at h
  simp [World.frozen?, h]

theorem Row.set {w : World} {g : Nat} {Z : List Int} (h : Row w g Z) (j : Nat) (z : Int) : Row (w.setCell ⟨g, j, none⟩ (.int .u32 z)) g (Z.set j z) := by
  unfold Row at h ⊢
  simp [World.setCell, Array.getElem?_modify, h, List.map_set]

/-- All blocks but g are as they were. -/
structure But (g : Nat) (w w' : World) : Prop where
  os : w'.os = w.os
  tape : w'.tape = w.tape
  output : w'.output = w.output
  size : w'.heap.size = w.heap.size
  block : ∀ k, k ≠ g → w'.heap[k]? = w.heap[k]?

theorem But.refl (g : Nat) (w : World) : But g w w := ⟨rfl, rfl, rfl, rfl, fun _ _ => rfl⟩
theorem But.trans {g : Nat} {a b c : World} (h : But g a b) (k : But g b c) : But g a c :=
  ⟨k.os.trans h.os, k.tape.trans h.tape, k.output.trans h.output, k.size.trans h.size, fun i hi => (k.block i hi).trans (h.block i hi)⟩
theorem But.drew {g : Nat} {a w : World} (h : But g a w) : But g a w.drew := ⟨h.os, h.tape, h.output, h.size, h.block⟩
theorem But.setCell {g : Nat} {a w : World} (h : But g a w) (j : Nat) (u : Value) : But g a (w.setCell ⟨g, j, none⟩ u) :=
  h.trans ⟨rfl, rfl, rfl, by simp [World.setCell], fun k hk => Below.heap_setCell _ _ _ _ hk⟩
theorem But.below {g B : Nat} {a w : World} (h : But g a w) (hB : B ≤ g) : Below B a w :=
  ⟨h.os, h.tape, h.output, Nat.le_of_eq h.size.symm, fun k hk => h.block k (by omega)⟩
theorem But.row {g g' : Nat} {a w : World} {Z : List Int} (h : But g a w) (hr : Row a g' Z) (hne : g' ≠ g) : Row w g' Z := by
  unfold Row at hr ⊢
  rw [h.block g' hne]; exact hr

theorem Row.below {w w' : World} {g B : Nat} {Z : List Int} (h : Row w g Z) (hb : Below B w w') (hg : g < B) : Row w' g Z := by
  unfold Row at h ⊢
  rw [hb.block g hg]; exact h

/-- A slice that does not lie in block g is read as ever, whatever is written there. -/
theorem Sl.but {g : Nat} {w w' : World} {v : Value} {zs : List Int} (h : Sl w v zs) (hb : But g w w') (hne : v.ownBlock ≠ some g) : Sl w' v zs := by
  obtain ⟨hok, a, n, cap, rfl, hl, hc, hm, hn, hp⟩ := h
  refine ⟨hok, a, n, cap, rfl, hl, hc, hm, hn, fun h0 => ?_⟩
  obtain ⟨b, off, rfl, hlt, hcell⟩ := hp h0
  refine ⟨b, off, rfl, by rw [hb.size]; exact hlt, fun i hi => ?_⟩
  have hbg : b ≠ g := by intro e; subst e; exact hne rfl
  rw [World.cell?_of_block (w := w) (a := ⟨b, off + i, none⟩) (hb.block b hbg)]
  exact hcell i hi

/-- A piece of a block of the call's own, read. -/
theorem Row.sl {w : World} {g : Nat} {Z : List Int} (h : Row w g Z) (hok : Ok Z) (off n cap : Nat) (hn : off + n ≤ Z.length) (hc : n ≤ cap) (hm : cap ≤ 9223372036854775807) :
    Sl w (.slice (some ⟨g, off, none⟩) n cap) ((Z.drop off).take n) := by
  refine ⟨(hok.drop _).take _, _, n, cap, rfl, by simp; omega, hc, hm, fun e => (by cases e), fun h0 => ⟨g, off, rfl, h.lt, fun i hi => ?_⟩⟩
  rw [h.cell (off + i) (by omega)]
  simp [List.getD, hi]

theorem Row.all {w : World} {g : Nat} {Z : List Int} (h : Row w g Z) (hok : Ok Z) (hm : Z.length ≤ 9223372036854775807) : Sl w (.slice (some ⟨g, 0, none⟩) Z.length Z.length) Z := by
  have := h.sl hok 0 Z.length Z.length (by omega) (Nat.le_refl _) hm
  simpa using this

theorem getD_in (P X S : List Int) (i : Nat) (hi : i < X.length) : (P ++ (X ++ S)).getD (P.length + i) 0 = X.getD i 0 := by
  simp only [List.getD_eq_getElem?_getD]
  rw [List.getElem?_append_right (by omega), show P.length + i - P.length = i by omega, List.getElem?_append_left hi]

theorem set_in (P X S : List Int) (i : Nat) (z : Int) (hi : i < X.length) : (P ++ (X ++ S)).set (P.length + i) z = P ++ (X.set i z ++ S) := by
  rw [List.set_append_right _ _ (by omega), show P.length + i - P.length = i by omega, List.set_append_left _ _ hi]

theorem Row.cellIn {w : World} {g : Nat} {P X S : List Int} (h : Row w g (P ++ (X ++ S))) (i : Nat) (hi : i < X.length) : w.cell? ⟨g, P.length + i, none⟩ = some (.int .u32 (X.getD i 0)) := by
  rw [h.cell _ (by simp; omega), getD_in _ _ _ _ hi]

theorem Row.setIn {w : World} {g : Nat} {P X S : List Int} (h : Row w g (P ++ (X ++ S))) (i : Nat) (hi : i < X.length) (z : Int) : Row (w.setCell ⟨g, P.length + i, none⟩ (.int .u32 z)) g (P ++ (X.set i z ++ S)) := by
  rw [← set_in _ _ _ _ _ hi]; exact h.set _ z

theorem wu64 {n : Int} (h0 : 0 ≤ n) (h1 : n ≤ 18446744073709551615) : IntKind.u64.wrap n = n := by rw [IntKind.wrap_u64]; omega
theorem wu32 {n : Int} (h0 : 0 ≤ n) (h1 : n ≤ 4294967295) : IntKind.u32.wrap n = n := by rw [IntKind.wrap_u32]; omega

/-- What stands in a slice at a place, as the walk wants it: the value's shape, and its cell. -/
theorem Sl.at {w : World} {a : Option Addr} {n cap : Nat} {zs : List Int} (h : Sl w (.slice a n cap) zs) (k : Nat) (hk : k < zs.length) :
    ∃ b off, a = some ⟨b, off, none⟩ ∧ w.cell? ⟨b, off + k, none⟩ = some (.int .u32 (zs.getD k 0)) := by
  obtain ⟨_, a', n', cap', he, hl, _, _, _, hp⟩ := h
  injection he with e1 e2 e3
  subst e1; subst e2; subst e3
  obtain ⟨b, off, rfl, _, hc⟩ := hp (by omega)
  exact ⟨b, off, rfl, hc k (by omega)⟩

theorem Sl.block {w : World} {v : Value} {zs : List Int} (h : Sl w v zs) (h0 : 0 < zs.length) : ∃ k, v.ownBlock = some k ∧ k < w.heap.size := by
  obtain ⟨_, a, n, cap, rfl, hl, _, _, _, hp⟩ := h
  obtain ⟨b, off, rfl, hb, _⟩ := hp (by omega)
  exact ⟨b, rfl, hb⟩

/-- What trim leaves of a slice lies where the slice lay: in memory that was there when the slice was. -/
theorem Sl.old {w : World} {v v' : Value} {zs : List Int} (h : Sl w v zs) (ho : v'.ownBlock = none ∨ (v'.ownBlock = v.ownBlock ∧ 0 < zs.length)) : ∀ k, v'.ownBlock = some k → k < w.heap.size := by
  intro k hk
  rcases ho with h1 | ⟨h1, h2⟩
  · rw [hk] at h1; cases h1
  · obtain ⟨k', h3, h4⟩ := h.block h2
    rw [hk, h3] at h1
    injection h1 with e
    omega

theorem Sl.ok {w : World} {v : Value} {zs : List Int} (h : Sl w v zs) : Ok zs := h.1
theorem Sl.len {w : World} {a : Option Addr} {n cap : Nat} {zs : List Int} (h : Sl w (.slice a n cap) zs) : zs.length = n ∧ n ≤ cap ∧ cap ≤ 9223372036854775807 ∧ (a = none → cap = 0) := by
  obtain ⟨_, a', n', cap', he, hl, h1, h2, h3, hp⟩ := h
  injection he with e1 e2 e3
  subst e1; subst e2; subst e3
  exact ⟨hl, h1, h2, h3⟩

/-- 'l[q:]'. -/
theorem Sl.cut {w : World} {b off n cap q : Nat} {zs : List Int} (h : Sl w (.slice (some ⟨b, off, none⟩) n cap) zs) (hq : q < n) : Sl w (.slice (some ⟨b, off + q, none⟩) (n - q) (cap - q)) (zs.drop q) := by
  obtain ⟨hok, a', n', cap', he, hl, h1, h2, h3, hp⟩ := h
  injection he with e1 e2 e3
  subst e1; subst e2; subst e3
  obtain ⟨b', off', he, hb, hc⟩ := hp (by omega)
  simp at he
  obtain ⟨rfl, rfl⟩ := he
  refine ⟨hok.drop q, _, _, _, rfl, by simp; omega, by omega, by omega, fun e => (by cases e), fun _ => ⟨b, off + q, rfl, hb, fun i hi => ?_⟩⟩
  have := hc (q + i) (by omega)
  rw [show off + q + i = off + (q + i) by omega, this]
  simp [List.getD]

end Go.Proofs.YtnfnnngdbeplaaaDoor
