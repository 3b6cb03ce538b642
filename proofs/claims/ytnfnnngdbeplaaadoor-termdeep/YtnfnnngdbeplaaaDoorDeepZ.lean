import Derived.Test.YtnfnnngdbeplaaaDoorShlShr
import Derived.Test.YtnfnnngdbeplaaaDoorLitZ
import Derived.Test.YtnfnnngdbeplaaaDoorTermAwake

/-
  relictlaw00.Place.
-/
namespace Go.Proofs.YtnfnnngdbeplaaaDoor
open Go.RowKit
set_option linter.unusedVariables false

set_option maxHeartbeats 1000000 in
/-- A number as one from 0 to m - 1. -/
theorem place_any (v m : Int) (w : World) (hm : 0 < m) (hm2 : m ≤ 1073741824) (hv1 : -9223372036854775808 ≤ v) (hv2 : v ≤ 9223372036854775807) :
    Calls Tryd.prog 18 #[.int .i64 v, .int .i64 m] w fun e w' => e = .returned (.int .i64 (v % m)) ∧ w = w' := by
  obtain ⟨t1, t2, t3⟩ := tmod_place v m hm
  have T1 : Hid _ := t1
  have T2 : Hid _ := t2
  clear t1 t2
  by_cases h : v.tmod m < 0
  · go_enter Tryd.func18, Tryd.ntmps18
    go_wp2_with fail
    go_ret
    exact ⟨congrArg Ending.returned (congrArg (Value.int IntKind.i64) (T1.out h)), rfl⟩
  · go_enter Tryd.func18, Tryd.ntmps18
    go_wp2_with fail
    go_ret
    exact ⟨congrArg Ending.returned (congrArg (Value.int IntKind.i64) (T2.out h)), rfl⟩
end Go.Proofs.YtnfnnngdbeplaaaDoor


/-
  Terms as deep or as long as asked: what their check says, and the boxes that hold them.
-/
namespace Go.Proofs.YtnfnnngdbeplaaaDoor
open Go.RowKit
set_option linter.unusedVariables false
set_option linter.unusedSimpArgs false

def deepT : Nat → Tm
  | 0 => tmNil
  | d + 1 => .mk 5 false [] ⟨#[]⟩ 0 [deepT d]
def longT : Nat → Tm
  | 0 => tmNil
  | m + 1 => .mk 4 false [] ⟨#[]⟩ 0 [tmNil, longT m]
theorem long_nodes (m : Nat) : (longT m).nodes = 2 * m + 1 := by
  induction m with
  | zero => simp [longT, tmNil, Tm.nodes, nodesL]
  | succ m ih => simp only [longT, Tm.nodes, nodesL, ih]; simp [tmNil, Tm.nodes, nodesL]; omega
theorem nil_chk (d n : Nat) (hd : d ≤ 60) : chk tmNil d n = if n = 0 then none else some (n - 1) := by
  by_cases hn : n = 0
  · rw [hn, chk_zero]; rfl
  · rw [chk_other tmNil d n hd (by omega) (by decide +kernel) (by decide), if_neg hn]
    rfl
theorem deep_alone (d : Nat) : (deepT (d + 1)).alone = true := by
  simp only [Tm.alone, deepT, Tm.kind, Tm.neg, Tm.limbs, Tm.str, Tm.num, Tm.kids, List.length_cons, List.length_nil]
  decide +kernel
theorem long_alone (m : Nat) : (longT (m + 1)).alone = true := by
  simp only [Tm.alone, longT, Tm.kind, Tm.neg, Tm.limbs, Tm.str, Tm.num, Tm.kids, List.length_cons, List.length_nil]
  decide +kernel
theorem deep_chk : ∀ (d dd n : Nat), chk (deepT d) dd n = if dd + d ≤ 60 ∧ d + 1 ≤ n then some (n - (d + 1)) else none
  | 0, dd, n => by
    by_cases h : dd ≤ 60
    · rw [deepT, nil_chk dd n h]
      by_cases hn : n = 0
      · rw [if_pos hn, if_neg (by omega)]
      · rw [if_neg hn, if_pos (by omega)]
    · rw [chk_deep _ _ _ (by omega), if_neg (by omega)]
  | d + 1, dd, n => by
    by_cases h : dd ≤ 60
    · by_cases hn : n = 0
      · rw [hn, chk_zero, if_neg (by omega)]
      · rw [chk_other _ dd n h (by omega) (deep_alone d) (by simp [deepT, Tm.kind])]
        simp only [deepT, Tm.kids, chkL]
        rw [deep_chk d (dd + 1) (n - 1)]
        by_cases h2 : dd + (d + 1) ≤ 60 ∧ d + 1 + 1 ≤ n
        · rw [if_pos (by omega), if_pos h2]
          simp; omega
        · rw [if_neg (by omega), if_neg h2]
    · rw [chk_deep _ _ _ (by omega), if_neg (by omega)]
theorem long_chk : ∀ (m n : Nat), chk (longT m) 1 n = if 2 * m + 1 ≤ n then some (n - (2 * m + 1)) else none
  | 0, n => by
    rw [longT, nil_chk 1 n (by decide)]
    by_cases hn : n = 0
    · rw [if_pos hn, if_neg (by omega)]
    · rw [if_neg hn, if_pos (by omega)]
  | m + 1, n => by
    by_cases hn : n = 0
    · rw [hn, chk_zero, if_neg (by omega)]
    · rw [chk_cons _ tmNil (longT m) 1 n (by decide) (by omega) (long_alone m) (by simp [longT, Tm.kind]) (by simp [longT, Tm.kids])]
      have e : chkL ((longT (m + 1)).kids.take 1) (1 + 1) (n - 1) = if n - 1 = 0 then none else some (n - 1 - 1) := by
        simp only [longT, Tm.kids, List.take_succ_cons, List.take_zero, chkL]
        rw [nil_chk 2 (n - 1) (by decide)]
        split <;> (rename_i h; exact h.symm)
      rw [e]
      by_cases h1 : n - 1 = 0
      · rw [if_pos h1, if_neg (by omega)]; rfl
      · rw [if_neg h1, Option.bind_some, long_chk m (n - 1 - 1)]
        by_cases h2 : 2 * (m + 1) + 1 ≤ n
        · rw [if_pos (by omega), if_pos h2]
          simp; omega
        · rw [if_neg (by omega), if_neg h2]
theorem deep_ok (d : Nat) (hd : d < 80) : (deepT d).ok = decide ((d : Int) + 1 ≤ 60) := by
  unfold Tm.ok
  rw [deep_chk]
  by_cases h : d + 1 ≤ 60
  · rw [if_pos (by omega)]; simp; omega
  · rw [if_neg (by omega)]; simp; omega
theorem long_ok (m : Nat) : (longT m).ok = decide (2 * (m : Int) + 1 ≤ 2000) := by
  unfold Tm.ok
  rw [long_chk]
  by_cases h : 2 * m + 1 ≤ 2000
  · rw [if_pos h]; simp; omega
  · rw [if_neg h]; simp; omega

/-- A box that holds a term, read without the box. -/
def Held (w : World) (b : Nat) (t : Tm) : Prop := ∃ k pk nk ck, Bt w b k false (.slice none 0 0) ⟨#[]⟩ 0 (.slice pk nk ck) ∧ IsT (blank b w) t (.agg #[.int .i64 k, .bool false, .slice none 0 0, .string ⟨#[]⟩, .int .i64 0, .slice pk nk ck])

theorem Held.new (w : World) : Held (w.alloc (.cells #[.int .i64 3, .bool false, .slice none 0 0, .string ⟨#[]⟩, .int .i64 0, .slice none 0 0] 27)) w.heap.size tmNil :=
  ⟨3, none, 0, 0, Bt.new w 3 false (.slice none 0 0) ⟨#[]⟩ 0 (.slice none 0 0) ⟨_, _, _, rfl⟩ ⟨_, _, _, rfl⟩, nil_is _⟩

def setH (w : World) (b : Nat) (k : Int) (sk : Value) : World := setBt w b k false (.slice none 0 0) ⟨#[]⟩ 0 sk

theorem Held.tup {w : World} {b : Nat} {t : Tm} {k : Int} {sk : Value} (u : Bt w b k false (.slice none 0 0) ⟨#[]⟩ 0 sk) (hi : IsT (blank b w) t (.agg #[.int .i64 k, .bool false, .slice none 0 0, .string ⟨#[]⟩, .int .i64 0, sk])) :
    Held (setH (w.alloc (.cells #[.int .i64 k, .bool false, .slice none 0 0, .string ⟨#[]⟩, .int .i64 0, sk] 27)) b 5 (.slice (some ⟨w.heap.size, 0, none⟩) 1 1)) b (.mk 5 false [] ⟨#[]⟩ 0 [t]) := by
  have hlt := u.lt
  have u2 := u.under ((Below.refl _ w).alloc (Nat.le_refl _) (.cells #[.int .i64 k, .bool false, .slice none 0 0, .string ⟨#[]⟩, .int .i64 0, sk] 27))
  refine ⟨5, some ⟨w.heap.size, 0, none⟩, 1, 1, u2.set 5 false (.slice none 0 0) ⟨#[]⟩ 0 _ ⟨_, _, _, rfl⟩ ⟨_, _, _, rfl⟩, ?_⟩
  refine IsT.blankBut (w := w.alloc (.cells #[.int .i64 k, .bool false, .slice none 0 0, .string ⟨#[]⟩, .int .i64 0, sk] 27)) ?_ (by simp; omega) (setBt_but _ _ _ _ _ _ _ _)
  have hh : (blank b (w.alloc (.cells #[.int .i64 k, .bool false, .slice none 0 0, .string ⟨#[]⟩, .int .i64 0, sk] 27))).heap[w.heap.size]? = some (.cells #[.int .i64 k, .bool false, .slice none 0 0, .string ⟨#[]⟩, .int .i64 0, sk] 27 (0, 0)) := by
    rw [blank_other (by omega)]; exact heap_alloc_new w _
  exact IsT.shut (by omega) (by omega) (by decide) (Sl.nil _) (Ts.lit1 hh (hi.blankAlloc hlt _))

theorem Held.con {w : World} {b : Nat} {t : Tm} {k : Int} {sk : Value} (u : Bt w b k false (.slice none 0 0) ⟨#[]⟩ 0 sk) (hi : IsT (blank b w) t (.agg #[.int .i64 k, .bool false, .slice none 0 0, .string ⟨#[]⟩, .int .i64 0, sk])) :
    Held (setH (w.alloc (.cells #[.int .i64 3, .bool false, .slice none 0 0, .string ⟨#[]⟩, .int .i64 0, .slice none 0 0, .int .i64 k, .bool false, .slice none 0 0, .string ⟨#[]⟩, .int .i64 0, sk] 27)) b 4 (.slice (some ⟨w.heap.size, 0, none⟩) 2 2)) b (.mk 4 false [] ⟨#[]⟩ 0 [tmNil, t]) := by
  have hlt := u.lt
  have u2 := u.under ((Below.refl _ w).alloc (Nat.le_refl _) (.cells #[.int .i64 3, .bool false, .slice none 0 0, .string ⟨#[]⟩, .int .i64 0, .slice none 0 0, .int .i64 k, .bool false, .slice none 0 0, .string ⟨#[]⟩, .int .i64 0, sk] 27))
  refine ⟨4, some ⟨w.heap.size, 0, none⟩, 2, 2, u2.set 4 false (.slice none 0 0) ⟨#[]⟩ 0 _ ⟨_, _, _, rfl⟩ ⟨_, _, _, rfl⟩, ?_⟩
  refine IsT.blankBut (w := w.alloc (.cells #[.int .i64 3, .bool false, .slice none 0 0, .string ⟨#[]⟩, .int .i64 0, .slice none 0 0, .int .i64 k, .bool false, .slice none 0 0, .string ⟨#[]⟩, .int .i64 0, sk] 27)) ?_ (by simp; omega) (setBt_but _ _ _ _ _ _ _ _)
  have hh : (blank b (w.alloc (.cells #[.int .i64 3, .bool false, .slice none 0 0, .string ⟨#[]⟩, .int .i64 0, .slice none 0 0, .int .i64 k, .bool false, .slice none 0 0, .string ⟨#[]⟩, .int .i64 0, sk] 27))).heap[w.heap.size]? = some (.cells #[.int .i64 3, .bool false, .slice none 0 0, .string ⟨#[]⟩, .int .i64 0, .slice none 0 0, .int .i64 k, .bool false, .slice none 0 0, .string ⟨#[]⟩, .int .i64 0, sk] 27 (0, 0)) := by
    rw [blank_other (by omega)]; exact heap_alloc_new w _
  exact IsT.shut (by omega) (by omega) (by decide) (Sl.nil _) (Ts.lit2 hh (nil_is _) (hi.blankAlloc hlt _))

theorem Held.under {w w' : World} {b : Nat} {t : Tm} (h : Held w b t) (hb : Below w.heap.size w w') : Held w' b t := by
  obtain ⟨k, pk, nk, ck, h1, h2⟩ := h
  refine ⟨k, pk, nk, ck, h1.under hb, h2.cells (by rw [blank_size, blank_size]; exact hb.size) (fun a u ha => ?_)⟩
  obtain ⟨e1, e2⟩ := blank_cell h1.lt ha
  have hlt := World.block_lt_of_cell? w a e2
  rw [World.cell?_of_block (w := w') (w' := blank b w') (blank_other e1), hb.cell hlt]
  exact e2
theorem Held.is {w : World} {b : Nat} {t : Tm} (h : Held w b t) : ∃ k pk nk ck, Bt w b k false (.slice none 0 0) ⟨#[]⟩ 0 (.slice pk nk ck) ∧ IsT w t (.agg #[.int .i64 k, .bool false, .slice none 0 0, .string ⟨#[]⟩, .int .i64 0, .slice pk nk ck]) := by
  obtain ⟨k, pk, nk, ck, h1, h2⟩ := h
  exact ⟨k, pk, nk, ck, h1, h2.unblank h1.lt⟩

theorem setH_past {w : World} {b : Nat} (hb : b < w.heap.size) (o : Obj) (k : Int) (sk : Value) : setH (w.alloc o) b k sk = (setH w b k sk).alloc o := by
  simp [setH, setBt, World.setCell_alloc_past, hb]
theorem setH_below {B : Nat} {w0 w : World} {b : Nat} (h : Below B w0 w) (hb : B ≤ b) (hlt : b < w.heap.size) (o : Obj) (k : Int) (sk : Value) : Below B w0 ((setH w b k sk).alloc o) := by
  rw [← setH_past hlt]
  exact (h.alloc (by omega) _).trans ((setBt_but _ _ _ _ _ _ _ _).below hb)
/-- The step of the loop that wraps a term into a tuple of one. -/
theorem Held.tupP {w : World} {b : Nat} {t : Tm} {k : Int} {sk : Value} (u : Bt w b k false (.slice none 0 0) ⟨#[]⟩ 0 sk) (hi : IsT (blank b w) t (.agg #[.int .i64 k, .bool false, .slice none 0 0, .string ⟨#[]⟩, .int .i64 0, sk])) :
    Held ((setH w b 5 (.slice (some ⟨w.heap.size, 0, none⟩) 1 1)).alloc (.cells #[.int .i64 k, .bool false, .slice none 0 0, .string ⟨#[]⟩, .int .i64 0, sk] 27)) b (.mk 5 false [] ⟨#[]⟩ 0 [t]) := by
  rw [← setH_past u.lt]; exact Held.tup u hi
/-- The step of the loop that makes a list longer. -/
theorem Held.conP {w : World} {b : Nat} {t : Tm} {k : Int} {sk : Value} (u : Bt w b k false (.slice none 0 0) ⟨#[]⟩ 0 sk) (hi : IsT (blank b w) t (.agg #[.int .i64 k, .bool false, .slice none 0 0, .string ⟨#[]⟩, .int .i64 0, sk])) :
    Held ((setH w b 4 (.slice (some ⟨w.heap.size, 0, none⟩) 2 2)).alloc (.cells #[.int .i64 3, .bool false, .slice none 0 0, .string ⟨#[]⟩, .int .i64 0, .slice none 0 0, .int .i64 k, .bool false, .slice none 0 0, .string ⟨#[]⟩, .int .i64 0, sk] 27)) b (.mk 4 false [] ⟨#[]⟩ 0 [tmNil, t]) := by
  rw [← setH_past u.lt]; exact Held.con u hi
end Go.Proofs.YtnfnnngdbeplaaaDoor


/-
  The law TermDeep: for every two ints it returns true.
-/
namespace Go.Proofs.YtnfnnngdbeplaaaDoor
open Go.RowKit
set_option linter.unusedVariables false
set_option linter.unusedSimpArgs false

set_option maxRecDepth 100000 in
set_option maxHeartbeats 8000000 in
theorem termDeep_walk (n k : Int) (w : World) (hn0 : -9223372036854775808 ≤ n) (hn1 : n ≤ 9223372036854775807) (hk0 : -9223372036854775808 ≤ k) (hk1 : k ≤ 9223372036854775807) :
    Calls Tryd.prog 5 #[.int .i64 n, .int .i64 k] w fun e w' => e = .returned (.bool true) ∧ Below w.heap.size w w' := by
  go_enter Tryd.func5, Tryd.ntmps5
  go_wp2_with fail
  refine (place_any n 80 _ (by decide) (by decide) hn0 hn1).mono ?_
  rintro e w1 ⟨rfl, rfl⟩
  obtain ⟨d, hd⟩ := Int.eq_ofNat_of_zero_le (show 0 ≤ n % 80 by omega)
  have hd80 : d < 80 := by omega
  rw [hd]
  clear hd
  have hdi : (d : Int) < 80 := by omega
  go_wp2_with fail
  have hst : Held (w.alloc (.cells #[.int .i64 3, .bool false, .slice none 0 0, .string ⟨#[]⟩, .int .i64 0, .slice none 0 0] 27)) w.heap.size (deepT 0) := Held.new w
  have hbs : Below w.heap.size w (w.alloc (.cells #[.int .i64 3, .bool false, .slice none 0 0, .string ⟨#[]⟩, .int .i64 0, .slice none 0 0] 27)) := (Below.refl _ _).alloc (Nat.le_refl _) _
  generalize w.alloc (.cells #[.int .i64 3, .bool false, .slice none 0 0, .string ⟨#[]⟩, .int .i64 0, .slice none 0 0] 27) = wa at *
  go_loopg [7] d (fun gk s7 wr => ∃ i : Nat, i + gk = d ∧ s7 = .int .i64 (i : Int) ∧ Held wr w.heap.size (deepT i) ∧ Below w.heap.size w wr)
  case atStart => exact ⟨0, by omega, rfl, hst, hbs⟩
  case round =>
    obtain ⟨i, hi, rfl, hH, hB⟩ := hrel
    clear hst hbs
    cases gk with
    | succ q =>
      have hid : (i : Int) < (d : Int) := by omega
      obtain ⟨kk, pk, nk, ck, u, hI⟩ := hH
      obtain ⟨a0, a1, a2, a3, a4, a5⟩ := u.cells
      obtain ⟨f0, f1, f2, f3, f4, f5⟩ := u.froz
      have hlt := u.lt
      have HI : Hid (IsT (blank w.heap.size wr) (deepT i) (.agg #[.int .i64 kk, .bool false, .slice none 0 0, .string ⟨#[]⟩, .int .i64 0, .slice pk nk ck])) := hI
      have HB : Hid (Below w.heap.size w wr) := hB
      have HU : Hid (Bt wr w.heap.size kk false (.slice none 0 0) ⟨#[]⟩ 0 (.slice pk nk ck)) := u
      clear hB u hI
      go_wp2_with fail
      go_roundg q
      case measure => omega
      case rel => exact ⟨i + 1, by omega, by go_num, Held.tupP HU.out HI.out, setH_below HB.out (Nat.le_refl _) hlt _ _ _⟩
    | zero =>
      obtain rfl : i = d := by omega
      have hid : ¬ (i : Int) < (i : Int) := by omega
      go_wp2_with fail
      refine (place_any k 1200 _ (by decide) (by decide) hk0 hk1).mono ?_
      rintro e w2 ⟨rfl, rfl⟩
      obtain ⟨m, hm⟩ := Int.eq_ofNat_of_zero_le (show 0 ≤ k % 1200 by omega)
      have hm12 : m < 1200 := by omega
      rw [hm]
      clear hm
      have hmi : (m : Int) < 1200 := by omega
      go_wp2_with fail
      have hst : Held (wr.alloc (.cells #[.int .i64 3, .bool false, .slice none 0 0, .string ⟨#[]⟩, .int .i64 0, .slice none 0 0] 27)) wr.heap.size (longT 0) := Held.new wr
      have hbs : Below wr.heap.size wr (wr.alloc (.cells #[.int .i64 3, .bool false, .slice none 0 0, .string ⟨#[]⟩, .int .i64 0, .slice none 0 0] 27)) := (Below.refl _ _).alloc (Nat.le_refl _) _
      generalize wr.alloc (.cells #[.int .i64 3, .bool false, .slice none 0 0, .string ⟨#[]⟩, .int .i64 0, .slice none 0 0] 27) = wb at *
      obtain ⟨w8, hw8⟩ : ∃ x, x = wr := ⟨_, rfl⟩
      rw [← hw8] at hst hbs hH hB ⊢
      clear hw8
      go_loopg [10] m (fun gk s10 wy => ∃ j : Nat, j + gk = m ∧ s10 = .int .i64 (j : Int) ∧ Held wy w8.heap.size (longT j) ∧ Below w8.heap.size w8 wy)
      case atStart => exact ⟨0, by omega, rfl, hst, hbs⟩
      case round =>
        obtain ⟨j, hj, rfl, hL, hB2⟩ := hrel
        clear hst hbs
        cases gk with
        | succ q =>
          have hid2 : (j : Int) < (m : Int) := by omega
          obtain ⟨kk, pk, nk, ck, u, hI⟩ := hL
          obtain ⟨a0, a1, a2, a3, a4, a5⟩ := u.cells
          obtain ⟨f0, f1, f2, f3, f4, f5⟩ := u.froz
          have hlt := u.lt
          have HI : Hid (IsT (blank w8.heap.size wr) (longT j) (.agg #[.int .i64 kk, .bool false, .slice none 0 0, .string ⟨#[]⟩, .int .i64 0, .slice pk nk ck])) := hI
          have HB2 : Hid (Below w8.heap.size w8 wr) := hB2
          have HU : Hid (Bt wr w8.heap.size kk false (.slice none 0 0) ⟨#[]⟩ 0 (.slice pk nk ck)) := u
          clear hB2 u hI
          go_wp2_with fail
          go_roundg q
          case measure => omega
          case rel => exact ⟨j + 1, by omega, by go_num, Held.conP HU.out HI.out, setH_below HB2.out (Nat.le_refl _) hlt _ _ _⟩
        | zero =>
          obtain rfl : j = m := by omega
          have hid2 : ¬ (j : Int) < (j : Int) := by omega
          have hH2 := hH.under hB2
          have hBB := hB.trans (hB2.mono hB.size)
          have HO1 : Hid ((deepT i).ok = decide ((i : Int) + 1 ≤ 60)) := deep_ok i hd80
          have HO2 : Hid ((longT j).ok = decide (2 * (j : Int) + 1 ≤ 2000)) := long_ok j
          have HN : Hid ((longT j).nodes = 2 * j + 1) := long_nodes j
          obtain ⟨o1, ho1⟩ : ∃ o, decide ((i : Int) + 1 ≤ 60) = o := ⟨_, rfl⟩
          obtain ⟨o2, ho2⟩ : ∃ o, decide (2 * (j : Int) + 1 ≤ 2000) = o := ⟨_, rfl⟩
          clear hH hB hB2 hd80 hm12
          obtain ⟨k1, p1, n1, c1, u1, i1⟩ := hH2.is
          obtain ⟨k2, p2, n2, c2, u2, i2⟩ := hL.is
          clear hH2 hL
          obtain ⟨a0, a1, a2, a3, a4, a5⟩ := u1.cells
          go_wp2_with fail
          refine (tcheck_any _ _ _ i1).mono ?_
          rw [HO1.out]
          rintro e y1 ⟨rfl, b1⟩
          replace u2 := u2.under b1
          replace i2 := i2.under b1
          replace hBB := hBB.trans (b1.mono hBB.size)
          clear a0 a1 a2 a3 a4 a5 b1 u1 i1 HO1
          obtain ⟨a0, a1, a2, a3, a4, a5⟩ := u2.cells
          go_wp2_with fail
          refine (tcheck_any _ _ _ i2).mono ?_
          rw [HO2.out]
          rintro e y2 ⟨rfl, b2⟩
          replace u2 := u2.under b2
          replace i2 := i2.under b2
          replace hBB := hBB.trans (b2.mono hBB.size)
          clear a0 a1 a2 a3 a4 a5 b2 HO2
          obtain ⟨a0, a1, a2, a3, a4, a5⟩ := u2.cells
          go_wp2_with fail
          refine (nodes_any _ _ _ i2 (by rw [HN.out]; omega)).mono ?_
          rw [HN.out]
          rintro e y3 ⟨rfl, b3⟩
          replace hBB := hBB.trans (b3.mono hBB.size)
          clear a0 a1 a2 a3 a4 a5 b3 u2 i2 HN
          rw [show ((2 * j + 1 : Nat) : Int) = 2 * (j : Int) + 1 by omega]
          go_wp2_with fail
          refine (tawake_any _).mono ?_
          rintro e y4 ⟨rfl, b4⟩
          replace hBB := hBB.trans (b4.mono hBB.size)
          clear b4
          go_wp2_with fail
          go_ret
          exact ⟨rfl, hBB⟩
end Go.Proofs.YtnfnnngdbeplaaaDoor
