
/-
  The law TermDeep: for every two ints it returns true.
-/
import Derived.Test.YtfcdocgjmgpmkaaDoorTermDeepM
namespace Go.Proofs.YtfcdocgjmgpmkaaDoor
open Go.RowKit
set_option linter.unusedVariables false
set_option linter.unusedSimpArgs false

set_option maxRecDepth 100000 in
set_option maxHeartbeats 8000000 in
theorem termDeep_walk (n k : Int) (w : World) (hn0 : -9223372036854775808 ≤ n) (hn1 : n ≤ 9223372036854775807) (hk0 : -9223372036854775808 ≤ k) (hk1 : k ≤ 9223372036854775807) :
    Calls Tryd.prog 5 #[.int .i64 n, .int .i64 k] w fun e w' => e = .returned (.bool true) ∧ Below w.heap.size w w' := by
  go_enter Tryd.func5, Tryd.ntmps5
  go_wp2_with fail
  refine (place_any n 80 _ (by decide) (by decide) hn0 hn1).mono ?_
  rintro e w1 ⟨rfl, rfl⟩
  obtain ⟨d, hd⟩ := Int.eq_ofNat_of_zero_le (show 0 ≤ n % 80 by omega)
  have hd80 : d < 80 := by omega
  rw [hd]
  clear hd
  have hdi : (d : Int) < 80 := by omega
  go_wp2_with fail
  have hst : Held (w.alloc (.cells #[.int .i64 3, .bool false, .slice none 0 0, .string ⟨#[]⟩, .int .i64 0, .slice none 0 0] 27)) w.heap.size (deepT 0) := Held.new w
  have hbs : Below w.heap.size w (w.alloc (.cells #[.int .i64 3, .bool false, .slice none 0 0, .string ⟨#[]⟩, .int .i64 0, .slice none 0 0] 27)) := (Below.refl _ _).alloc (Nat.le_refl _) _
  generalize w.alloc (.cells #[.int .i64 3, .bool false, .slice none 0 0, .string ⟨#[]⟩, .int .i64 0, .slice none 0 0] 27) = wa at *
  go_loopg [7] d (fun gk s7 wr => ∃ i : Nat, i + gk = d ∧ s7 = .int .i64 (i : Int) ∧ Held wr w.heap.size (deepT i) ∧ Below w.heap.size w wr)
  case atStart => exact ⟨0, by omega, rfl, hst, hbs⟩
  case round =>
    obtain ⟨i, hi, rfl, hH, hB⟩ := hrel
    clear hst hbs
    cases gk with
    | succ q =>
      have hid : (i : Int) < (d : Int) := by omega
      obtain ⟨kk, pk, nk, ck, u, hI⟩ := hH
      obtain ⟨a0, a1, a2, a3, a4, a5⟩ := u.cells
      obtain ⟨f0, f1, f2, f3, f4, f5⟩ := u.froz
      have hlt := u.lt
      have HI : Hid (IsT (blank w.heap.size wr) (deepT i) (.agg #[.int .i64 kk, .bool false, .slice none 0 0, .string ⟨#[]⟩, .int .i64 0, .slice pk nk ck])) := hI
      have HB : Hid (Below w.heap.size w wr) := hB
      have HU : Hid (Bt wr w.heap.size kk false (.slice none 0 0) ⟨#[]⟩ 0 (.slice pk nk ck)) := u
      clear hB u hI
      go_wp2_with fail
      go_roundg q
      case measure => omega
      case rel => exact ⟨i + 1, by omega, by go_num, Held.tupP HU.out HI.out, setH_below HB.out (Nat.le_refl _) hlt _ _ _⟩
    | zero =>
      obtain rfl : i = d := by omega
      have hid : ¬ (i : Int) < (i : Int) := by omega
      go_wp2_with fail
      refine (place_any k 1200 _ (by decide) (by decide) hk0 hk1).mono ?_
      rintro e w2 ⟨rfl, rfl⟩
      obtain ⟨m, hm⟩ := Int.eq_ofNat_of_zero_le (show 0 ≤ k % 1200 by omega)
      have hm12 : m < 1200 := by omega
      rw [hm]
      clear hm
      have hmi : (m : Int) < 1200 := by omega
      go_wp2_with fail
      have hst : Held (wr.alloc (.cells #[.int .i64 3, .bool false, .slice none 0 0, .string ⟨#[]⟩, .int .i64 0, .slice none 0 0] 27)) wr.heap.size (longT 0) := Held.new wr
      have hbs : Below wr.heap.size wr (wr.alloc (.cells #[.int .i64 3, .bool false, .slice none 0 0, .string ⟨#[]⟩, .int .i64 0, .slice none 0 0] 27)) := (Below.refl _ _).alloc (Nat.le_refl _) _
      generalize wr.alloc (.cells #[.int .i64 3, .bool false, .slice none 0 0, .string ⟨#[]⟩, .int .i64 0, .slice none 0 0] 27) = wb at *
      obtain ⟨w8, hw8⟩ : ∃ x, x = wr := ⟨_, rfl⟩
      rw [← hw8] at hst hbs hH hB ⊢
      clear hw8
      go_loopg [10] m (fun gk s10 wy => ∃ j : Nat, j + gk = m ∧ s10 = .int .i64 (j : Int) ∧ Held wy w8.heap.size (longT j) ∧ Below w8.heap.size w8 wy)
      case atStart => exact ⟨0, by omega, rfl, hst, hbs⟩
      case round =>
        obtain ⟨j, hj, rfl, hL, hB2⟩ := hrel
        clear hst hbs
        cases gk with
        | succ q =>
          have hid2 : (j : Int) < (m : Int) := by omega
          obtain ⟨kk, pk, nk, ck, u, hI⟩ := hL
          obtain ⟨a0, a1, a2, a3, a4, a5⟩ := u.cells
          obtain ⟨f0, f1, f2, f3, f4, f5⟩ := u.froz
          have hlt := u.lt
          have HI : Hid (IsT (blank w8.heap.size wr) (longT j) (.agg #[.int .i64 kk, .bool false, .slice none 0 0, .string ⟨#[]⟩, .int .i64 0, .slice pk nk ck])) := hI
          have HB2 : Hid (Below w8.heap.size w8 wr) := hB2
          have HU : Hid (Bt wr w8.heap.size kk false (.slice none 0 0) ⟨#[]⟩ 0 (.slice pk nk ck)) := u
          clear hB2 u hI
          go_wp2_with fail
          go_roundg q
          case measure => omega
          case rel => exact ⟨j + 1, by omega, by go_num, Held.conP HU.out HI.out, setH_below HB2.out (Nat.le_refl _) hlt _ _ _⟩
        | zero =>
          obtain rfl : j = m := by omega
          have hid2 : ¬ (j : Int) < (j : Int) := by omega
          have hH2 := hH.under hB2
          have hBB := hB.trans (hB2.mono hB.size)
          have HO1 : Hid ((deepT i).ok = decide ((i : Int) + 1 ≤ 60)) := deep_ok i hd80
          have HO2 : Hid ((longT j).ok = decide (2 * (j : Int) + 1 ≤ 2000)) := long_ok j
          have HN : Hid ((longT j).nodes = 2 * j + 1) := long_nodes j
          obtain ⟨o1, ho1⟩ : ∃ o, decide ((i : Int) + 1 ≤ 60) = o := ⟨_, rfl⟩
          obtain ⟨o2, ho2⟩ : ∃ o, decide (2 * (j : Int) + 1 ≤ 2000) = o := ⟨_, rfl⟩
          clear hH hB hB2 hd80 hm12
          obtain ⟨k1, p1, n1, c1, u1, i1⟩ := hH2.is
          obtain ⟨k2, p2, n2, c2, u2, i2⟩ := hL.is
          clear hH2 hL
          obtain ⟨a0, a1, a2, a3, a4, a5⟩ := u1.cells
          go_wp2_with fail
          refine (tcheck_any _ _ _ i1).mono ?_
          rw [HO1.out]
          rintro e y1 ⟨rfl, b1⟩
          replace u2 := u2.under b1
          replace i2 := i2.under b1
          replace hBB := hBB.trans (b1.mono hBB.size)
          clear a0 a1 a2 a3 a4 a5 b1 u1 i1 HO1
          obtain ⟨a0, a1, a2, a3, a4, a5⟩ := u2.cells
          go_wp2_with fail
          refine (tcheck_any _ _ _ i2).mono ?_
          rw [HO2.out]
          rintro e y2 ⟨rfl, b2⟩
          replace u2 := u2.under b2
          replace i2 := i2.under b2
          replace hBB := hBB.trans (b2.mono hBB.size)
          clear a0 a1 a2 a3 a4 a5 b2 HO2
          obtain ⟨a0, a1, a2, a3, a4, a5⟩ := u2.cells
          go_wp2_with fail
          refine (nodes_any _ _ _ i2 (by rw [HN.out]; omega)).mono ?_
          rw [HN.out]
          rintro e y3 ⟨rfl, b3⟩
          replace hBB := hBB.trans (b3.mono hBB.size)
          clear a0 a1 a2 a3 a4 a5 b3 u2 i2 HN
          rw [show ((2 * j + 1 : Nat) : Int) = 2 * (j : Int) + 1 by omega]
          go_wp2_with fail
          refine (tawake_any _).mono ?_
          rintro e y4 ⟨rfl, b4⟩
          replace hBB := hBB.trans (b4.mono hBB.size)
          clear b4
          go_wp2_with fail
          go_ret
          exact ⟨rfl, hBB⟩
end Go.Proofs.YtfcdocgjmgpmkaaDoor
