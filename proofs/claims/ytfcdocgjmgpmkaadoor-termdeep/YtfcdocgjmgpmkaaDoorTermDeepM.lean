
/-
  Terms as deep or as long as asked: what their check says, and the boxes that hold them.
-/
import Derived.Test.YtfcdocgjmgpmkaaDoorZTermE
import Derived.Test.YtfcdocgjmgpmkaaDoorTermAwake
import Derived.Test.YtfcdocgjmgpmkaaDoorPlaceA
namespace Go.Proofs.YtfcdocgjmgpmkaaDoor
open Go.RowKit
set_option linter.unusedVariables false
set_option linter.unusedSimpArgs false

def deepT : Nat → Tm
  | 0 => tmNil
  | d + 1 => .mk 5 false [] ⟨#[]⟩ 0 [deepT d]
def longT : Nat → Tm
  | 0 => tmNil
  | m + 1 => .mk 4 false [] ⟨#[]⟩ 0 [tmNil, longT m]
theorem long_nodes (m : Nat) : (longT m).nodes = 2 * m + 1 := by
  induction m with
  | zero => simp [longT, tmNil, Tm.nodes_mk, nodesL]
  | succ m ih => simp only [longT, Tm.nodes_mk, nodesL, ih]; simp [tmNil, Tm.nodes_mk, nodesL]; omega
theorem nil_chk (d n : Nat) (hd : d ≤ 60) : chk tmNil d n = if n = 0 then none else some (n - 1) := by
  by_cases hn : n = 0
  · rw [hn, chk_zero]; rfl
  · rw [chk_other tmNil d n hd (by omega) (by decide +kernel) (by decide), if_neg hn]
    rfl
theorem deep_alone (d : Nat) : (deepT (d + 1)).alone = true := by
  simp only [Tm.alone, deepT, Tm.kind, Tm.neg, Tm.limbs, Tm.str, Tm.num, Tm.kids, List.length_cons, List.length_nil]
  decide +kernel
theorem long_alone (m : Nat) : (longT (m + 1)).alone = true := by
  simp only [Tm.alone, longT, Tm.kind, Tm.neg, Tm.limbs, Tm.str, Tm.num, Tm.kids, List.length_cons, List.length_nil]
  decide +kernel
theorem deep_chk : ∀ (d dd n : Nat), chk (deepT d) dd n = if dd + d ≤ 60 ∧ d + 1 ≤ n then some (n - (d + 1)) else none
  | 0, dd, n => by
    by_cases h : dd ≤ 60
    · rw [deepT, nil_chk dd n h]
      by_cases hn : n = 0
      · rw [if_pos hn, if_neg (by omega)]
      · rw [if_neg hn, if_pos (by omega)]
    · rw [chk_deep _ _ _ (by omega), if_neg (by omega)]
  | d + 1, dd, n => by
    by_cases h : dd ≤ 60
    · by_cases hn : n = 0
      · rw [hn, chk_zero, if_neg (by omega)]
      · rw [chk_other _ dd n h (by omega) (deep_alone d) (by simp [deepT, Tm.kind])]
        simp only [deepT, Tm.kids, chkL]
        rw [deep_chk d (dd + 1) (n - 1)]
        by_cases h2 : dd + (d + 1) ≤ 60 ∧ d + 1 + 1 ≤ n
        · rw [if_pos (by omega), if_pos h2]
          simp; omega
        · rw [if_neg (by omega), if_neg h2]
    · rw [chk_deep _ _ _ (by omega), if_neg (by omega)]
theorem long_chk : ∀ (m n : Nat), chk (longT m) 1 n = if 2 * m + 1 ≤ n then some (n - (2 * m + 1)) else none
  | 0, n => by
    rw [longT, nil_chk 1 n (by decide)]
    by_cases hn : n = 0
    · rw [if_pos hn, if_neg (by omega)]
    · rw [if_neg hn, if_pos (by omega)]
  | m + 1, n => by
    by_cases hn : n = 0
    · rw [hn, chk_zero, if_neg (by omega)]
    · rw [chk_cons _ tmNil (longT m) 1 n (by decide) (by omega) (long_alone m) (by simp [longT, Tm.kind]) (by simp [longT, Tm.kids])]
      have e : chkL ((longT (m + 1)).kids.take 1) (1 + 1) (n - 1) = if n - 1 = 0 then none else some (n - 1 - 1) := by
        simp only [longT, Tm.kids, List.take_succ_cons, List.take_zero, chkL]
        rw [nil_chk 2 (n - 1) (by decide)]
        split <;> (rename_i h; exact h.symm)
      rw [e]
      by_cases h1 : n - 1 = 0
      · rw [if_pos h1, if_neg (by omega)]; rfl
      · rw [if_neg h1, Option.bind_some, long_chk m (n - 1 - 1)]
        by_cases h2 : 2 * (m + 1) + 1 ≤ n
        · rw [if_pos (by omega), if_pos h2]
          simp; omega
        · rw [if_neg (by omega), if_neg h2]
theorem deep_ok (d : Nat) (hd : d < 80) : (deepT d).ok = decide ((d : Int) + 1 ≤ 60) := by
  unfold Tm.ok
  rw [deep_chk]
  by_cases h : d + 1 ≤ 60
  · rw [if_pos (by omega)]; simp; omega
  · rw [if_neg (by omega)]; simp; omega
theorem long_ok (m : Nat) : (longT m).ok = decide (2 * (m : Int) + 1 ≤ 2000) := by
  unfold Tm.ok
  rw [long_chk]
  by_cases h : 2 * m + 1 ≤ 2000
  · rw [if_pos h]; simp; omega
  · rw [if_neg h]; simp; omega

/-- A box that holds a term, read without the box. -/
def Held (w : World) (b : Nat) (t : Tm) : Prop := ∃ k pk nk ck, Bt w b k false (.slice none 0 0) ⟨#[]⟩ 0 (.slice pk nk ck) ∧ IsT (blank b w) t (.agg #[.int .i64 k, .bool false, .slice none 0 0, .string ⟨#[]⟩, .int .i64 0, .slice pk nk ck])

theorem Held.new (w : World) : Held (w.alloc (.cells #[.int .i64 3, .bool false, .slice none 0 0, .string ⟨#[]⟩, .int .i64 0, .slice none 0 0] 27)) w.heap.size tmNil :=
  ⟨3, none, 0, 0, Bt.new w 3 false (.slice none 0 0) ⟨#[]⟩ 0 (.slice none 0 0) ⟨_, _, _, rfl⟩ ⟨_, _, _, rfl⟩, nil_is _⟩

def setH (w : World) (b : Nat) (k : Int) (sk : Value) : World := setBt w b k false (.slice none 0 0) ⟨#[]⟩ 0 sk

theorem Held.tup {w : World} {b : Nat} {t : Tm} {k : Int} {sk : Value} (u : Bt w b k false (.slice none 0 0) ⟨#[]⟩ 0 sk) (hi : IsT (blank b w) t (.agg #[.int .i64 k, .bool false, .slice none 0 0, .string ⟨#[]⟩, .int .i64 0, sk])) :
    Held (setH (w.alloc (.cells #[.int .i64 k, .bool false, .slice none 0 0, .string ⟨#[]⟩, .int .i64 0, sk] 27)) b 5 (.slice (some ⟨w.heap.size, 0, none⟩) 1 1)) b (.mk 5 false [] ⟨#[]⟩ 0 [t]) := by
  have hlt := u.lt
  have u2 := u.under ((Below.refl _ w).alloc (Nat.le_refl _) (.cells #[.int .i64 k, .bool false, .slice none 0 0, .string ⟨#[]⟩, .int .i64 0, sk] 27))
  refine ⟨5, some ⟨w.heap.size, 0, none⟩, 1, 1, u2.set 5 false (.slice none 0 0) ⟨#[]⟩ 0 _ ⟨_, _, _, rfl⟩ ⟨_, _, _, rfl⟩, ?_⟩
  refine IsT.blankBut (w := w.alloc (.cells #[.int .i64 k, .bool false, .slice none 0 0, .string ⟨#[]⟩, .int .i64 0, sk] 27)) ?_ (by simp; omega) (setBt_but _ _ _ _ _ _ _ _)
  have hh : (blank b (w.alloc (.cells #[.int .i64 k, .bool false, .slice none 0 0, .string ⟨#[]⟩, .int .i64 0, sk] 27))).heap[w.heap.size]? = some (.cells #[.int .i64 k, .bool false, .slice none 0 0, .string ⟨#[]⟩, .int .i64 0, sk] 27 (0, 0)) := by
    rw [blank_other (by omega)]; exact heap_alloc_new w _
  exact IsT.shut (by omega) (by omega) (by decide) (Sl.nil _) (Ts.lit1 hh (hi.blankAlloc hlt _))

theorem Held.con {w : World} {b : Nat} {t : Tm} {k : Int} {sk : Value} (u : Bt w b k false (.slice none 0 0) ⟨#[]⟩ 0 sk) (hi : IsT (blank b w) t (.agg #[.int .i64 k, .bool false, .slice none 0 0, .string ⟨#[]⟩, .int .i64 0, sk])) :
    Held (setH (w.alloc (.cells #[.int .i64 3, .bool false, .slice none 0 0, .string ⟨#[]⟩, .int .i64 0, .slice none 0 0, .int .i64 k, .bool false, .slice none 0 0, .string ⟨#[]⟩, .int .i64 0, sk] 27)) b 4 (.slice (some ⟨w.heap.size, 0, none⟩) 2 2)) b (.mk 4 false [] ⟨#[]⟩ 0 [tmNil, t]) := by
  have hlt := u.lt
  have u2 := u.under ((Below.refl _ w).alloc (Nat.le_refl _) (.cells #[.int .i64 3, .bool false, .slice none 0 0, .string ⟨#[]⟩, .int .i64 0, .slice none 0 0, .int .i64 k, .bool false, .slice none 0 0, .string ⟨#[]⟩, .int .i64 0, sk] 27))
  refine ⟨4, some ⟨w.heap.size, 0, none⟩, 2, 2, u2.set 4 false (.slice none 0 0) ⟨#[]⟩ 0 _ ⟨_, _, _, rfl⟩ ⟨_, _, _, rfl⟩, ?_⟩
  refine IsT.blankBut (w := w.alloc (.cells #[.int .i64 3, .bool false, .slice none 0 0, .string ⟨#[]⟩, .int .i64 0, .slice none 0 0, .int .i64 k, .bool false, .slice none 0 0, .string ⟨#[]⟩, .int .i64 0, sk] 27)) ?_ (by simp; omega) (setBt_but _ _ _ _ _ _ _ _)
  have hh : (blank b (w.alloc (.cells #[.int .i64 3, .bool false, .slice none 0 0, .string ⟨#[]⟩, .int .i64 0, .slice none 0 0, .int .i64 k, .bool false, .slice none 0 0, .string ⟨#[]⟩, .int .i64 0, sk] 27))).heap[w.heap.size]? = some (.cells #[.int .i64 3, .bool false, .slice none 0 0, .string ⟨#[]⟩, .int .i64 0, .slice none 0 0, .int .i64 k, .bool false, .slice none 0 0, .string ⟨#[]⟩, .int .i64 0, sk] 27 (0, 0)) := by
    rw [blank_other (by omega)]; exact heap_alloc_new w _
  exact IsT.shut (by omega) (by omega) (by decide) (Sl.nil _) (Ts.lit2 hh (nil_is _) (hi.blankAlloc hlt _))

theorem Held.under {w w' : World} {b : Nat} {t : Tm} (h : Held w b t) (hb : Below w.heap.size w w') : Held w' b t := by
  obtain ⟨k, pk, nk, ck, h1, h2⟩ := h
  refine ⟨k, pk, nk, ck, h1.under hb, h2.cells (by rw [blank_size, blank_size]; exact hb.size) (fun a u ha => ?_)⟩
  obtain ⟨e1, e2⟩ := blank_cell h1.lt ha
  have hlt := World.block_lt_of_cell? w a e2
  rw [World.cell?_of_block (w := w') (w' := blank b w') (blank_other e1), hb.cell hlt]
  exact e2
theorem Held.is {w : World} {b : Nat} {t : Tm} (h : Held w b t) : ∃ k pk nk ck, Bt w b k false (.slice none 0 0) ⟨#[]⟩ 0 (.slice pk nk ck) ∧ IsT w t (.agg #[.int .i64 k, .bool false, .slice none 0 0, .string ⟨#[]⟩, .int .i64 0, .slice pk nk ck]) := by
  obtain ⟨k, pk, nk, ck, h1, h2⟩ := h
  exact ⟨k, pk, nk, ck, h1, h2.unblank h1.lt⟩

theorem setH_past {w : World} {b : Nat} (hb : b < w.heap.size) (o : Obj) (k : Int) (sk : Value) : setH (w.alloc o) b k sk = (setH w b k sk).alloc o := by
  simp [setH, setBt, World.setCell_alloc_past, hb]
theorem setH_below {B : Nat} {w0 w : World} {b : Nat} (h : Below B w0 w) (hb : B ≤ b) (hlt : b < w.heap.size) (o : Obj) (k : Int) (sk : Value) : Below B w0 ((setH w b k sk).alloc o) := by
  rw [← setH_past hlt]
  exact (h.alloc (by omega) _).trans ((setBt_but _ _ _ _ _ _ _ _).below hb)
/-- The step of the loop that wraps a term into a tuple of one. -/
theorem Held.tupP {w : World} {b : Nat} {t : Tm} {k : Int} {sk : Value} (u : Bt w b k false (.slice none 0 0) ⟨#[]⟩ 0 sk) (hi : IsT (blank b w) t (.agg #[.int .i64 k, .bool false, .slice none 0 0, .string ⟨#[]⟩, .int .i64 0, sk])) :
    Held ((setH w b 5 (.slice (some ⟨w.heap.size, 0, none⟩) 1 1)).alloc (.cells #[.int .i64 k, .bool false, .slice none 0 0, .string ⟨#[]⟩, .int .i64 0, sk] 27)) b (.mk 5 false [] ⟨#[]⟩ 0 [t]) := by
  rw [← setH_past u.lt]; exact Held.tup u hi
/-- The step of the loop that makes a list longer. -/
theorem Held.conP {w : World} {b : Nat} {t : Tm} {k : Int} {sk : Value} (u : Bt w b k false (.slice none 0 0) ⟨#[]⟩ 0 sk) (hi : IsT (blank b w) t (.agg #[.int .i64 k, .bool false, .slice none 0 0, .string ⟨#[]⟩, .int .i64 0, sk])) :
    Held ((setH w b 4 (.slice (some ⟨w.heap.size, 0, none⟩) 2 2)).alloc (.cells #[.int .i64 3, .bool false, .slice none 0 0, .string ⟨#[]⟩, .int .i64 0, .slice none 0 0, .int .i64 k, .bool false, .slice none 0 0, .string ⟨#[]⟩, .int .i64 0, sk] 27)) b (.mk 4 false [] ⟨#[]⟩ 0 [tmNil, t]) := by
  rw [← setH_past u.lt]; exact Held.con u hi
end Go.Proofs.YtfcdocgjmgpmkaaDoor
