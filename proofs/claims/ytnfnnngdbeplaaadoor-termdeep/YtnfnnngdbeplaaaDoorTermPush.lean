
/-
  A term laid on those that wait, world by world.
-/
import Derived.Test.YtnfnnngdbeplaaaDoorTermSpellA
import Derived.Test.YtnfnnngdbeplaaaDoorRoundHeld
import Derived.Maps.AppendAt
import Derived.Deep.AppendLies
namespace Go.Proofs.YtnfnnngdbeplaaaDoor
open Go.RowKit Go.Shelf
set_option linter.unusedVariables false
set_option linter.unusedSimpArgs false

/-- A term's zero value, cell by cell. -/
def zc : List Value := [.int .i64 0, .bool false, .slice none 0 0, .string ⟨#[]⟩, .int .i64 0, .slice none 0 0]

/-- The boxes of what waits and of the mark between, and the row itself. -/
def Pz (B : Nat) (w : World) (g0 bw : Nat) (m : ByteArray) (bv : Value) (g cap n : Nat) (xs : List Value) (W : World) : Prop :=
  W.heap[bw]? = some (.cells #[bv] 25 (0, 0)) ∧ W.heap[bw + 1]? = some (.cells #[.string m] 9 (0, 0)) ∧
  W.ownsRow B 27 6 (.slice (some ⟨g, 0, none⟩) n cap) n xs ∧ w.grownBy W (some g0) ∧ (g = g0 ∨ w.heap.size ≤ g) ∧ w.heap.size ≤ bw

section
variable {B : Nat} {w : World} {g0 bw : Nat} {m : ByteArray} {bv : Value} {g cap n : Nat} {xs : List Value} {W W' : World}

theorem Pz.cells (h : Pz B w g0 bw m bv g cap n xs W) : W.cell? ⟨bw, 0, none⟩ = some bv ∧ W.frozen? ⟨bw, 0, none⟩ = false ∧ W.cell? ⟨bw + 1, 0, none⟩ = some (.string m) ∧ bw < W.heap.size ∧ bw + 1 < W.heap.size := by
  obtain ⟨h1, h2, -⟩ := h
  refine ⟨?_, ?_, ?_, (Array.getElem?_eq_some_iff.1 h1).1, (Array.getElem?_eq_some_iff.1 h2).1⟩
  · simp [World.cell?, h1]
  · simp [World.frozen?, h1]
  · simp [World.cell?, h2]
theorem Pz.row (h : Pz B w g0 bw m bv g cap n xs W) : ∃ cur, W.heap[g]? = some (.cells cur 27 (0, 0)) ∧ n ≤ cap ∧ cap ≤ maxLen ∧ B ≤ g := by
  rcases h.2.2.1.2 with ⟨h', _⟩ | ⟨g', cap', cur, h', hb, hg, h1, h2, _⟩
  · simp at h'
  · simp only [Value.slice.injEq, Option.some.injEq, Addr.mk.injEq, and_true, true_and] at h'
    obtain ⟨rfl, rfl⟩ := h'
    exact ⟨cur, hg, h1, h2, hb⟩
theorem Pz.ne (h : Pz B w g0 bw m bv g cap n xs W) : bw ≠ g ∧ bw + 1 ≠ g := by
  obtain ⟨cur, hg, -⟩ := h.row
  refine ⟨fun e => ?_, fun e => ?_⟩
  · have := h.1
    rw [e, hg] at this
    simp at this
  · have := h.2.1
    rw [e, hg] at this
    simp at this
theorem Pz.below (h : Pz B w g0 bw m bv g cap n xs W) (hb : Below W.heap.size W W') : Pz B w g0 bw m bv g cap n xs W' := by
  obtain ⟨-, -, -, l1, l2⟩ := h.cells
  obtain ⟨cur, hg, -⟩ := h.row
  obtain ⟨h1, h2, h3, h4, h5, h6⟩ := h
  refine ⟨by rw [hb.block bw l1]; exact h1, by rw [hb.block (bw + 1) l2]; exact h2, ?_, ?_, h5, h6⟩
  · exact World.ownsRow.kept (row := none) h3 ⟨hb.os, hb.tape, hb.output, hb.size, fun k hk _ => hb.block k hk⟩ (Or.inr (by simp [Value.ownBlock]))
  · exact ⟨hb.os.trans h4.os, hb.tape.trans h4.tape, hb.output.trans h4.output, Nat.le_trans h4.size hb.size, fun k hk hne => (hb.block k (Nat.lt_of_lt_of_le hk h4.size)).trans (h4.block k hk hne)⟩
theorem Pz.alloc (h : Pz B w g0 bw m bv g cap n xs W) (o : Obj) : Pz B w g0 bw m bv g cap n xs (W.alloc o) := h.below ((Below.refl _ _).alloc (Nat.le_refl _) o)
theorem Pz.drew (h : Pz B w g0 bw m bv g cap n xs W) : Pz B w g0 bw m bv g cap n xs W.drew := h.below ((Below.refl _ _).drew)
theorem Pz.grown {g' cap' n' : Nat} {xs' : List Value} (h : Pz B w g0 bw m bv g cap n xs W) (hg : W.grownBy W' (some g)) (ho : W'.ownsRow B 27 6 (.slice (some ⟨g', 0, none⟩) n' cap') n' xs') (hat : some g = some g' ∨ g' = W.heap.size) :
    Pz B w g0 bw m bv g' cap' n' xs' W' := by
  obtain ⟨-, -, -, l1, l2⟩ := h.cells
  obtain ⟨n1, n2⟩ := h.ne
  obtain ⟨h1, h2, h3, h4, h5, h6⟩ := h
  refine ⟨by rw [hg.block bw l1 (by simpa using n1)]; exact h1, by rw [hg.block (bw + 1) l2 (by simpa using n2)]; exact h2, ho, ?_, ?_, h6⟩
  · refine ⟨hg.os.trans h4.os, hg.tape.trans h4.tape, hg.output.trans h4.output, Nat.le_trans h4.size hg.size, fun k hk hne => ?_⟩
    rw [← h4.block k hk hne]
    refine hg.block k (Nat.lt_of_lt_of_le hk h4.size) ?_
    rcases h5 with rfl | h5
    · exact hne
    · intro e
      injection e with e
      omega
  · rcases hat with e | e
    · injection e with e
      rw [← e]; exact h5
    · right
      rw [e]; exact h4.size
theorem Pz.box (h : Pz B w g0 bw m bv g cap n xs W) (bv' : Value) : Pz B w g0 bw m bv' g cap n xs (W.setCell ⟨bw, 0, none⟩ bv') := by
  obtain ⟨-, -, -, l1, l2⟩ := h.cells
  obtain ⟨n1, n2⟩ := h.ne
  obtain ⟨h1, h2, h3, h4, h5, h6⟩ := h
  have hbut := (But.refl bw W).setCell 0 bv'
  refine ⟨?_, by rw [hbut.block (bw + 1) (by omega)]; exact h2, ?_, ?_, h5, h6⟩
  · simp [World.setCell, Array.getElem?_modify, h1]
  · exact World.ownsRow.kept (row := some bw) h3 ⟨rfl, rfl, rfl, by simp [World.setCell], fun k _ hk => hbut.block k (by simpa using hk)⟩ (Or.inr (by simpa [Value.ownBlock] using fun e => n1 e.symm))
  · exact ⟨h4.os, h4.tape, h4.output, by simpa [World.setCell] using h4.size, fun k hk hne => (hbut.block k (by omega)).trans (h4.block k hk hne)⟩

/-- Six cells of the row are laid anew. -/
def setT (W : World) (g o : Nat) (v0 v1 v2 v3 v4 v5 : Value) : World := (((((W.setCell ⟨g, o, none⟩ v0).setCell ⟨g, o + 1, none⟩ v1).setCell ⟨g, o + 2, none⟩ v2).setCell ⟨g, o + 3, none⟩ v3).setCell ⟨g, o + 4, none⟩ v4).setCell ⟨g, o + 5, none⟩ v5

theorem Pz.put (h : Pz B w g0 bw m bv g cap n xs W) (o : Nat) (v0 v1 v2 v3 v4 v5 : Value) :
    Pz B w g0 bw m bv g cap n ((((((xs.set o v0).set (o + 1) v1).set (o + 2) v2).set (o + 3) v3).set (o + 4) v4).set (o + 5) v5) (setT W g o v0 v1 v2 v3 v4 v5) := by
  have s0 := h.2.2.1.stored o v0
  have s1 := s0.1.stored (o + 1) v1
  have s2 := s1.1.stored (o + 2) v2
  have s3 := s2.1.stored (o + 3) v3
  have s4 := s3.1.stored (o + 4) v4
  have s5 := s4.1.stored (o + 5) v5
  refine h.grown (W' := setT W g o v0 v1 v2 v3 v4 v5) ?_ s5.1 (Or.inl rfl)
  have hbut : But g W (setT W g o v0 v1 v2 v3 v4 v5) := ((((((But.refl g W).setCell o _).setCell (o + 1) _).setCell (o + 2) _).setCell (o + 3) _).setCell (o + 4) _).setCell (o + 5) _
  exact ⟨hbut.os, hbut.tape, hbut.output, Nat.le_of_eq hbut.size.symm, fun k _ hk => hbut.block k (by simpa using hk)⟩

/-- The zero cells at the row's end, as they are found. -/
theorem Pz.tail {ys : List Value} (h : Pz B w g0 bw m bv g cap (n + 1) (ys ++ zc) W) (hy : ys.length = n * 6) :
    (W.cell? ⟨g, n * 6, none⟩ = some (.int .i64 0) ∧ W.cell? ⟨g, n * 6 + 1, none⟩ = some (.bool false) ∧ W.cell? ⟨g, n * 6 + 2, none⟩ = some (.slice none 0 0) ∧ W.cell? ⟨g, n * 6 + 3, none⟩ = some (.string ⟨#[]⟩) ∧ W.cell? ⟨g, n * 6 + 4, none⟩ = some (.int .i64 0) ∧ W.cell? ⟨g, n * 6 + 5, none⟩ = some (.slice none 0 0)) ∧
    (W.frozen? ⟨g, n * 6, none⟩ = false ∧ W.frozen? ⟨g, n * 6 + 1, none⟩ = false ∧ W.frozen? ⟨g, n * 6 + 2, none⟩ = false ∧ W.frozen? ⟨g, n * 6 + 3, none⟩ = false ∧ W.frozen? ⟨g, n * 6 + 4, none⟩ = false ∧ W.frozen? ⟨g, n * 6 + 5, none⟩ = false) := by
  have ho := h.2.2.1
  have hget : ∀ j, j < 6 → W.cell? ⟨g, n * 6 + j, none⟩ = zc[j]? := fun j hj => by
    rw [ho.cellAt (n * 6 + j) (by omega), List.getElem?_append_right (by omega), show n * 6 + j - ys.length = j by omega]
  exact ⟨⟨hget 0 (by omega), hget 1 (by omega), hget 2 (by omega), hget 3 (by omega), hget 4 (by omega), hget 5 (by omega)⟩, ho.frozenAt _, ho.frozenAt _, ho.frozenAt _, ho.frozenAt _, ho.frozenAt _, ho.frozenAt _⟩

theorem set_tail (ys : List Value) (o : Nat) (ho : ys.length = o) (v0 v1 v2 v3 v4 v5 : Value) : (((((((ys ++ zc).set o v0).set (o + 1) v1).set (o + 2) v2).set (o + 3) v3).set (o + 4) v4).set (o + 5) v5) = ys ++ [v0, v1, v2, v3, v4, v5] := by
  subst ho
  simp [zc, List.set_append_right]
end

/-- Those that wait in spell: the box holds the row. -/
def Sp (B : Nat) (w : World) (g0 bw : Nat) (m : ByteArray) (ps : List (Value × Tm)) (W : World) : Prop :=
  ∃ g cap, Pz B w g0 bw m (.slice (some ⟨g, 0, none⟩) ps.length cap) g cap ps.length (flat ps) W

/-- The k-th operation of a region. -/
def nth : List Oper → Nat → Option Oper
  | [], _ => none
  | o :: _, 0 => some o
  | _ :: l, k + 1 => nth l k
theorem nth_eq : ∀ (l : List Oper) (k : Nat), nth l k = l[k]?
  | [], _ => rfl
  | _ :: _, 0 => rfl
  | _ :: l, k + 1 => by simp [nth, nth_eq l k]
theorem nth_ops {ops : Array Oper} {i : Nat} {o : Oper} (h : nth ops.toList i = some o) : ops[i]? = some o := by
  rw [nth_eq] at h
  simpa using h
theorem zc_one : ∀ u ∈ zc, u.oneCell' = true := by
  intro u hu
  simp only [zc, List.mem_cons, List.not_mem_nil, or_false] at hu
  rcases hu with rfl | rfl | rfl | rfl | rfl | rfl <;> rfl

/-- What a round leaves as it was: all below m, the block Bn, whatever is no cells. -/
structure KB (m Bn : Nat) (vl : Value) (W0 W : World) : Prop where
  os : W.os = W0.os
  tape : W.tape = W0.tape
  output : W.output = W0.output
  size : W0.heap.size ≤ W.heap.size
  low : ∀ k : Nat, k < m → W.heap[k]? = W0.heap[k]?
  bn : W.heap[Bn]? = some (.cells #[vl] 25 (0, 0))
  oth : ∀ (k : Nat) (o : Obj), W0.heap[k]? = some o → o.isCells = false → W.heap[k]? = some o
  hm : m ≤ W0.heap.size
  hbn : W0.heap[Bn]? = some (.cells #[vl] 25 (0, 0))

theorem KB.start {m Bn : Nat} {vl : Value} {W : World} (hm : m ≤ W.heap.size) (h : W.heap[Bn]? = some (.cells #[vl] 25 (0, 0))) : KB m Bn vl W W :=
  ⟨rfl, rfl, rfl, Nat.le_refl _, fun _ _ => rfl, h, fun _ _ h _ => h, hm, h⟩
theorem KB.below {m Bn : Nat} {vl : Value} {W0 W W' : World} (h : KB m Bn vl W0 W) (b : Below W.heap.size W W') : KB m Bn vl W0 W' := by
  refine ⟨b.os.trans h.os, b.tape.trans h.tape, b.output.trans h.output, Nat.le_trans h.size b.size, fun k hk => ?_, ?_, fun k o hk ho => ?_, h.hm, h.hbn⟩
  · rw [b.block k (by have := h.hm; have := h.size; omega)]; exact h.low k hk
  · rw [b.block Bn (Array.getElem?_eq_some_iff.1 h.bn).1]; exact h.bn
  · rw [b.block k (Array.getElem?_eq_some_iff.1 (h.oth k o hk ho)).1]; exact h.oth k o hk ho
theorem KB.grown {m Bn : Nat} {vl : Value} {W0 W W' : World} {r : Nat} {cur : Array Value} {t : TypeId} {fr : Nat × Nat} (h : KB m Bn vl W0 W) (hg : W.grownBy W' (some r)) (hr : m ≤ r) (hc : W.heap[r]? = some (.cells cur t fr)) (hne : r ≠ Bn) : KB m Bn vl W0 W' := by
  refine ⟨hg.os.trans h.os, hg.tape.trans h.tape, hg.output.trans h.output, Nat.le_trans h.size hg.size, fun k hk => ?_, ?_, fun k o hk ho => ?_, h.hm, h.hbn⟩
  · rw [hg.block k (by have := h.hm; have := h.size; omega) (by intro e; injection e with e; omega)]; exact h.low k hk
  · rw [hg.block Bn (Array.getElem?_eq_some_iff.1 h.bn).1 (by intro e; injection e with e; exact hne e.symm)]; exact h.bn
  · have h1 := h.oth k o hk ho
    rw [hg.block k (Array.getElem?_eq_some_iff.1 h1).1 ?_]
    · exact h1
    · intro e
      injection e with e
      subst e
      rw [hc] at h1
      injection h1 with h1
      subst h1
      cases ho
/-- A row of terms is not the block Bn. -/
theorem KB.row {m Bn : Nat} {vl : Value} {W0 W W' : World} {r : Nat} {cur : Array Value} {fr : Nat × Nat} (h : KB m Bn vl W0 W) (hg : W.grownBy W' (some r)) (hr : m ≤ r) (hc : W.heap[r]? = some (.cells cur 27 fr)) : KB m Bn vl W0 W' :=
  h.grown hg hr hc (fun e => by have := h.bn; rw [← e, hc] at this; simp at this)
theorem grownBy_set (W : World) (b o : Nat) (v : Value) : W.grownBy (W.setCell ⟨b, o, none⟩ v) (some b) := by
  have hbut := (But.refl b W).setCell o v
  exact ⟨hbut.os, hbut.tape, hbut.output, Nat.le_of_eq hbut.size.symm, fun k _ hk => hbut.block k (by simpa using hk)⟩
theorem grownBy_setT (W : World) (g o : Nat) (v0 v1 v2 v3 v4 v5 : Value) : W.grownBy (setT W g o v0 v1 v2 v3 v4 v5) (some g) := by
  have hbut : But g W (setT W g o v0 v1 v2 v3 v4 v5) := ((((((But.refl g W).setCell o _).setCell (o + 1) _).setCell (o + 2) _).setCell (o + 3) _).setCell (o + 4) _).setCell (o + 5) _
  exact ⟨hbut.os, hbut.tape, hbut.output, Nat.le_of_eq hbut.size.symm, fun k _ hk => hbut.block k (by simpa using hk)⟩
section
variable {B : Nat} {w : World} {g0 bw : Nat} {m : ByteArray} {bv : Value} {g cap n : Nat} {xs : List Value} {W W' : World} {Bn : Nat} {vl : Value} {W0 : World}
theorem KB.app (h : KB B Bn vl W0 W) (hP : Pz B w g0 bw m bv g cap n xs W) (hg : W.grownBy W' (some g)) : KB B Bn vl W0 W' := by
  obtain ⟨cur, hc, -, -, hb⟩ := hP.row
  exact h.row hg hb hc
theorem KB.put (h : KB B Bn vl W0 W) (hP : Pz B w g0 bw m bv g cap n xs W) (o : Nat) (v0 v1 v2 v3 v4 v5 : Value) : KB B Bn vl W0 (setT W g o v0 v1 v2 v3 v4 v5) := h.app hP (grownBy_setT W g o v0 v1 v2 v3 v4 v5)
theorem KB.box (h : KB B Bn vl W0 W) (hP : Pz B w g0 bw m bv g cap n xs W) (v : Value) (hB : B ≤ bw) (hne : bw ≠ Bn) : KB B Bn vl W0 (W.setCell ⟨bw, 0, none⟩ v) := h.grown (grownBy_set W bw 0 v) hB hP.1 hne
end

theorem s6 {W : World} {bt : Nat} {c0 c1 c2 c3 c4 c5 : Value} {t : TypeId} (h : W.heap[bt]? = some (.cells #[c0, c1, c2, c3, c4, c5] t (0, 0))) :
    W.cell? ⟨bt, 0, none⟩ = some c0 ∧ W.cell? ⟨bt, 1, none⟩ = some c1 ∧ W.cell? ⟨bt, 2, none⟩ = some c2 ∧ W.cell? ⟨bt, 3, none⟩ = some c3 ∧ W.cell? ⟨bt, 4, none⟩ = some c4 ∧ W.cell? ⟨bt, 5, none⟩ = some c5 := by
  refine ⟨?_, ?_, ?_, ?_, ?_, ?_⟩ <;> simp [World.cell?, h]

/-- What a round lays: the term, and a mark behind it, if it is not the first one. -/
def spiece {w0 : World} (m : ByteArray) (x : El w0) : List (Value × Tm) := (x.v, x.t) :: (if 0 < x.i then [(mkV m, tmMark m)] else [])
def spieces {w0 : World} (m : ByteArray) (pre : List (El w0)) : List (Value × Tm) := pre.flatMap (spiece m)
theorem spieces_snoc {w0 : World} (m : ByteArray) (pre : List (El w0)) (x : El w0) : spieces m (pre ++ [x]) = spieces m pre ++ spiece m x := by simp [spieces]
theorem spieces_len {w0 : World} (m : ByteArray) (pre : List (El w0)) : (spieces m pre).length ≤ 2 * pre.length := by
  induction pre with
  | nil => simp [spieces]
  | cons x r ih =>
    have : spieces m (x :: r) = spiece m x ++ spieces m r := by simp [spieces]
    rw [this]
    have h2 : (spiece m x).length ≤ 2 := by unfold spiece; split <;> simp
    simp; omega
/-- What waits when so many rounds are over. -/
def stk {w0 : World} (ps : List (Value × Tm)) (e m : ByteArray) (pre : List (El w0)) : List (Value × Tm) := ps ++ [(mkV e, tmMark e)] ++ spieces m pre
theorem stk_nil {w0 : World} (ps : List (Value × Tm)) (e m : ByteArray) : stk (w0 := w0) ps e m [] = ps ++ [(mkV e, tmMark e)] := by simp [stk, spieces]
theorem stk_snoc {w0 : World} (ps : List (Value × Tm)) (e m : ByteArray) (pre : List (El w0)) (x : El w0) : stk ps e m (pre ++ [x]) = stk ps e m pre ++ spiece m x := by simp [stk, spieces]
theorem stk_len {w0 : World} (ps : List (Value × Tm)) (e m : ByteArray) (pre : List (El w0)) : (stk ps e m pre).length ≤ ps.length + 1 + 2 * pre.length := by
  have := spieces_len m pre
  simp [stk]; omega

section
variable {B : Nat} {w : World} {g0 bw : Nat} {m : ByteArray} {bv : Value} {g cap n : Nat} {xs : List Value} {W W' : World}
theorem cells_not {W : World} {r k : Nat} {row : Option Nat} {cur : Array Value} {t : TypeId} {fr : Nat × Nat} (hr : ∀ r, row = some r → ∃ o : Obj, W.heap[r]? = some o ∧ o.isCells = false) (hk : W.heap[k]? = some (.cells cur t fr)) : some k ≠ row := by
  intro e
  obtain ⟨o, h1, h2⟩ := hr k e.symm
  rw [hk] at h1
  injection h1 with h1
  subst h1
  cases h2
theorem Pz.own {row : Option Nat} (h : Pz B w g0 bw m bv g cap n xs W) (hg : W.grownBy W' row) (hr : ∀ r, row = some r → w.heap.size ≤ r ∧ ∃ o : Obj, W.heap[r]? = some o ∧ o.isCells = false) : Pz B w g0 bw m bv g cap n xs W' := by
  obtain ⟨-, -, -, l1, l2⟩ := h.cells
  obtain ⟨cur, hc, -⟩ := h.row
  have hr2 : ∀ r, row = some r → ∃ o : Obj, W.heap[r]? = some o ∧ o.isCells = false := fun r e => (hr r e).2
  obtain ⟨h1, h2, h3, h4, h5, h6⟩ := h
  refine ⟨by rw [hg.block bw l1 (cells_not (r := 0) hr2 h1)]; exact h1, by rw [hg.block (bw + 1) l2 (cells_not (r := 0) hr2 h2)]; exact h2, ?_, ?_, h5, h6⟩
  · exact World.ownsRow.kept h3 hg (Or.inr (cells_not (r := 0) hr2 hc))
  · refine ⟨hg.os.trans h4.os, hg.tape.trans h4.tape, hg.output.trans h4.output, Nat.le_trans h4.size hg.size, fun k hk hne => ?_⟩
    rw [← h4.block k hk hne]
    refine hg.block k (Nat.lt_of_lt_of_le hk h4.size) (fun e => ?_)
    have := (hr k e.symm).1
    omega
theorem Pz.new {ps : List (Value × Tm)} (h : WaitT w B (.slice (some ⟨g, 0, none⟩) n cap) ps) (hn : ps.length = n) (hg : g < w.heap.size) :
    Pz B w g w.heap.size m (.slice (some ⟨g, 0, none⟩) n cap) g cap n (flat ps) ((w.alloc (.cells #[.slice (some ⟨g, 0, none⟩) n cap] 25)).alloc (.cells #[.string m] 9)) := by
  subst hn
  refine ⟨?_, ?_, World.ownsRow.alloc (World.ownsRow.alloc h _) _, ?_, Or.inl rfl, Nat.le_refl _⟩
  · rw [Below.heap_alloc _ _ _ (by simp)]; exact heap_alloc_new w _
  · have := heap_alloc_new (w.alloc (.cells #[.slice (some ⟨g, 0, none⟩) ps.length cap] 25)) (.cells #[.string m] 9)
    rwa [World.size_alloc] at this
  · have hb := ((Below.refl w.heap.size w).alloc (Nat.le_refl _) (.cells #[.slice (some ⟨g, 0, none⟩) ps.length cap] 25)).alloc (by simp) (.cells #[.string m] 9)
    exact ⟨hb.os, hb.tape, hb.output, hb.size, fun k hk _ => hb.block k hk⟩
end
end Go.Proofs.YtnfnnngdbeplaaaDoor
