
/-
  The mathematics of limb.divide: guessed limbs are never too small; one limb of the quotient; the frame of what is written.
-/
import Derived.Test.YtnfnnngdbeplaaaDoorGuess
namespace Go.Proofs.YtnfnnngdbeplaaaDoor
open Go.RowKit
set_option linter.unusedVariables false

theorem ltge (a b : Int) : a < b ∨ b ≤ a := by omega

theorem V_two (X : List Int) (n : Nat) (h : X.length = n + 2) : V X = V (X.take n) + B n * (X.getD (n + 1) 0 * 4294967296 + X.getD n 0) := by
  rw [V_split X n (by omega), V_drop X n (by omega), V_drop X (n + 1) (by omega)]
  have hz : X.drop (n + 1 + 1) = [] := by apply List.drop_eq_nil_of_le; omega
  rw [hz]
  simp only [V]
  have e : X.getD n 0 + 4294967296 * (X.getD (n + 1) 0 + 4294967296 * 0) = X.getD (n + 1) 0 * 4294967296 + X.getD n 0 := by omega
  rw [e]

theorem V_one (Y : List Int) (n : Nat) (h : Y.length = n + 1) : V Y = V (Y.take n) + B n * Y.getD n 0 := by
  rw [V_split Y n (by omega), V_drop Y n (by omega)]
  have hz : Y.drop (n + 1) = [] := by apply List.drop_eq_nil_of_le; omega
  rw [hz]
  simp only [V, Int.mul_zero, Int.add_zero]

theorem guess_ge (X Y : List Int) (hX : Ok X) (hY : Ok Y) (hl : X.length = Y.length + 1) (h0 : 0 < Y.length) (hy : 0 < Y.getD (Y.length - 1) 0) (q : Int) (hq0 : 0 ≤ q) (hq : q * V Y ≤ V X) (hlt : V X < V Y * 4294967296) : q ≤ gs X Y := by
  obtain ⟨n, hn⟩ : ∃ n, Y.length = n + 1 := ⟨Y.length - 1, by omega⟩
  unfold gs
  rw [hn, show n + 1 - 1 = n by omega] at hy ⊢
  have eX := V_two X n (by omega)
  have eY := V_one Y n hn
  have lX := V_lt (hX.take n)
  rw [show (X.take n).length = n by simp; omega] at lX
  have nY := V_nonneg (hY.take n)
  have hB := B_pos n
  generalize X.getD (n + 1) 0 * 4294967296 + X.getD n 0 = H at *
  generalize Y.getD n 0 = y at *
  have hvpos : 0 < V Y := by
    have := Int.mul_pos hB hy
    omega
  have h1 : q < 4294967296 := by
    rcases ltge q 4294967296 with h | h
    · exact h
    · have := Int.mul_le_mul_of_nonneg_right h (Int.le_of_lt hvpos)
      rw [Int.mul_comm (V Y)] at hlt
      omega
  have h2 : q * y ≤ H := by
    rcases ltge H (q * y) with h | h
    · have k1 : B n * (H + 1) ≤ B n * (q * y) := Int.mul_le_mul_of_nonneg_left (by omega) (Int.le_of_lt hB)
      have k2 : q * (B n * y) ≤ q * V Y := Int.mul_le_mul_of_nonneg_left (by omega) hq0
      rw [Int.mul_left_comm] at k2
      rw [Int.mul_add, Int.mul_one] at k1
      omega
    · exact h
  have h3 : q ≤ H / y := (Int.le_ediv_iff_mul_le hy).2 h2
  omega

theorem gs_bd (X Y : List Int) (hX : Ok X) (hy : 0 < Y.getD (Y.length - 1) 0) : 0 ≤ gs X Y ∧ gs X Y ≤ 4294967295 := by
  unfold gs
  have h1 := hX.getD Y.length
  have h2 := hX.getD (Y.length - 1)
  have h3 := Int.ediv_nonneg (show 0 ≤ X.getD Y.length 0 * 4294967296 + X.getD (Y.length - 1) 0 by omega) (Int.le_of_lt hy)
  omega

/-- What takeTimes leaves: it was enough just where the carry is 0. -/
theorem take_enough (X X' Y : List Int) (q c : Int) (hX' : Ok X') (hl : X.length = Y.length + 1) (hl' : X'.length = X.length) (hc0 : 0 ≤ c) (h : V X' + V (Y.take X.length) * q = V X + B X.length * c) :
    (c = 0 → V X' = V X - V Y * q ∧ 0 ≤ V X - V Y * q) ∧ (c ≠ 0 → V X < V Y * q) := by
  rw [List.take_of_length_le (by omega)] at h
  have h1 := V_nonneg hX'
  have h2 := V_lt hX'
  rw [hl'] at h2
  refine ⟨fun e => ?_, fun e => ?_⟩
  · subst e; omega
  · have : B X.length * 1 ≤ B X.length * c := Int.mul_le_mul_of_nonneg_left (by omega) (Int.le_of_lt (B_pos _))
    omega

theorem mul_one_eq {b x y c d : Int} (hb : 0 < b) (hx0 : 0 ≤ x) (hx : x < b) (hy0 : 0 ≤ y) (hy : y < b) (h : x + b * c = y + b * d) : x = y := by
  have e1 : (x + b * c) % b = x := by rw [Int.add_mul_emod_self_left]; exact Int.emod_eq_of_lt hx0 hx
  have e2 : (y + b * d) % b = y := by rw [Int.add_mul_emod_self_left]; exact Int.emod_eq_of_lt hy0 hy
  rw [← e1, ← e2, h]

/-- What was taken too much, and is brought back, is what it was. -/
theorem back (X X' X'' Y : List Int) (q c d : Int) (hX : Ok X) (hX'' : Ok X'') (hl' : X'.length = X.length) (hl'' : X''.length = X'.length)
    (h1 : V X' + V (Y.take X.length) * q = V X + B X.length * c) (h2 : V X'' + B X'.length * d = V X' + V (Y.take X'.length) * q) : X'' = X := by
  rw [hl'] at h2
  refine V_inj hX'' hX (by omega) ?_
  have l1 := V_lt hX
  have l2 := V_lt hX''
  rw [hl'', hl'] at l2
  exact mul_one_eq (c := d) (d := c) (B_pos X.length) (V_nonneg hX'') l2 (V_nonneg hX) l1 (by omega)

/-- A limb of the quotient: what is known of the piece. -/
theorem piece (L Y : List Int) (k : Nat) (hL : Ok L) (hY : Ok Y) (hk : k + (Y.length + 1) ≤ L.length) (h : V L < V Y * B (k + 1)) :
    V ((L.drop k).take (Y.length + 1)) < V Y * 4294967296 ∧ V (L.drop (k + (Y.length + 1))) = 0 := by
  have s1 := V_split L k (by omega)
  have s2 := V_split (L.drop k) (Y.length + 1) (by simp; omega)
  rw [List.drop_drop] at s2
  have n1 := V_nonneg (hL.take k)
  have n2 := V_nonneg (hL.drop (k + (Y.length + 1)))
  have n3 := V_nonneg ((hL.drop k).take (Y.length + 1))
  have l1 := V_lt hY
  have hB := B_pos k
  have hd : V (L.drop k) < V Y * 4294967296 := by
    rcases ltge (V (L.drop k)) (V Y * 4294967296) with h' | h'
    · exact h'
    · have := Int.mul_le_mul_of_nonneg_left h' (Int.le_of_lt hB)
      simp only [B] at h
      rw [Int.mul_left_comm, Int.mul_comm (B k)] at this
      omega
  have hz : V (L.drop (k + (Y.length + 1))) = 0 := by
    rcases ltge 0 (V (L.drop (k + (Y.length + 1)))) with h' | h'
    · have := Int.mul_le_mul_of_nonneg_left (show 1 ≤ V (L.drop (k + (Y.length + 1))) by omega) (Int.le_of_lt (B_pos (Y.length + 1)))
      simp only [B] at this s2
      omega
    · omega
  rw [hz, Int.mul_zero, Int.add_zero] at s2
  exact ⟨by omega, hz⟩

theorem div_step (L Y Q X' : List Int) (k : Nat) (q U : Int) (hL : Ok L) (hY : Ok Y) (hk : k + (Y.length + 1) ≤ L.length) (hkQ : k < Q.length) (hl : X'.length = Y.length + 1)
    (hU : V L + V Y * V Q = U) (h : V L < V Y * B (k + 1)) (hQ : Q.getD k 0 = 0) (hX0 : 0 ≤ V X') (hX1 : V X' < V Y) (hX : V X' = V ((L.drop k).take (Y.length + 1)) - V Y * q) :
    V (L.take k ++ (X' ++ L.drop (k + (Y.length + 1)))) + V Y * V (Q.set k q) = U ∧ V (L.take k ++ (X' ++ L.drop (k + (Y.length + 1)))) < V Y * B k := by
  obtain ⟨p1, p2⟩ := piece L Y k hL hY hk h
  have s1 := V_split L k (by omega)
  have s2 := V_split (L.drop k) (Y.length + 1) (by simp; omega)
  rw [List.drop_drop, p2, Int.mul_zero, Int.add_zero] at s2
  have l1 := V_lt (hL.take k)
  rw [show (L.take k).length = k by simp; omega] at l1
  rw [V_append, V_append, p2, Int.mul_zero, Int.add_zero, show (L.take k).length = k by simp; omega, V_set Q k q hkQ, hQ]
  rw [s2] at s1
  refine ⟨?_, ?_⟩
  · rw [hX, Int.mul_sub, ← hU, s1, Int.mul_add, Int.sub_zero, Int.mul_left_comm]
    omega
  · have := Int.mul_le_mul_of_nonneg_left (show V X' + 1 ≤ V Y by omega) (Int.le_of_lt (B_pos k))
    rw [Int.mul_add, Int.mul_one, Int.mul_comm (B k) (V Y)] at this
    omega

/-- All blocks that were there are as they were, but block g. -/
structure Grw (g : Nat) (w w' : World) : Prop where
  os : w'.os = w.os
  tape : w'.tape = w.tape
  output : w'.output = w.output
  size : w.heap.size ≤ w'.heap.size
  block : ∀ k, k < w.heap.size → k ≠ g → w'.heap[k]? = w.heap[k]?

theorem Grw.refl (g : Nat) (w : World) : Grw g w w := ⟨rfl, rfl, rfl, Nat.le_refl _, fun _ _ _ => rfl⟩
theorem Grw.ofBelow {g : Nat} {w w' : World} (h : Below w.heap.size w w') : Grw g w w' := ⟨h.os, h.tape, h.output, h.size, fun k hk _ => h.block k hk⟩
theorem Grw.more {g : Nat} {w a b : World} (h : Grw g w a) (k : Below a.heap.size a b) : Grw g w b :=
  ⟨k.os.trans h.os, k.tape.trans h.tape, k.output.trans h.output, Nat.le_trans h.size k.size, fun i hi hn => (k.block i (Nat.lt_of_lt_of_le hi h.size)).trans (h.block i hi hn)⟩
theorem Grw.but {g g' : Nat} {w a b : World} (h : Grw g w a) (k : But g' a b) (hg : g' = g ∨ w.heap.size ≤ g') : Grw g w b :=
  ⟨k.os.trans h.os, k.tape.trans h.tape, k.output.trans h.output, by rw [k.size]; exact h.size, fun i hi hn => (k.block i (by omega)).trans (h.block i hi hn)⟩
theorem Grw.below {g B : Nat} {w a : World} (h : Grw g w a) (hB : B ≤ g) (hw : B ≤ w.heap.size) : Below B w a :=
  ⟨h.os, h.tape, h.output, h.size, fun k hk => h.block k (by omega) (by omega)⟩
theorem Sl.grw {g : Nat} {w w' : World} {v : Value} {zs : List Int} (h : Sl w v zs) (hb : Grw g w w') (hne : v.ownBlock ≠ some g) : Sl w' v zs := by
  obtain ⟨hok, a, n, cap, rfl, hl, hc, hm, hn, hp⟩ := h
  refine ⟨hok, a, n, cap, rfl, hl, hc, hm, hn, fun h0 => ?_⟩
  obtain ⟨b, off, rfl, hlt, hcell⟩ := hp h0
  refine ⟨b, off, rfl, Nat.lt_of_lt_of_le hlt hb.size, fun i hi => ?_⟩
  have hbg : b ≠ g := by intro e; subst e; exact hne rfl
  rw [World.cell?_of_block (w := w) (a := ⟨b, off + i, none⟩) (hb.block b hlt hbg)]
  exact hcell i hi
end Go.Proofs.YtnfnnngdbeplaaaDoor
