/-
  relictlaw10.WordApart.
-/
import Derived.Test.YtfcphhbkmplclaaWordBackWalk
import Derived.Deep.LoopGhost
import Derived.Deep.QuietTactic
namespace Go.Proofs.Ytfcphhbkmplclaa
open Go.RowKit
set_option linter.unusedVariables false
set_option linter.unusedSimpArgs false

/-- Block g is an array of these seven words. -/
def Arr7 (w : World) (g : Nat) (L : List Int) : Prop := L.length = 7 ∧ w.heap[g]? = some (.cells (L.map (Value.int .u64)).toArray 34 (0, 0))
theorem Arr7.lt {w : World} {g : Nat} {L : List Int} (h : Arr7 w g L) : g < w.heap.size := (Array.getElem?_eq_some_iff.1 h.2).1
theorem Arr7.under {w w' : World} {g : Nat} {L : List Int} (h : Arr7 w g L) (hb : Below w.heap.size w w') : Arr7 w' g L := by
  refine ⟨h.1, ?_⟩
  rw [hb.block g h.lt]; exact h.2
theorem Arr7.cell {w : World} {g : Nat} {L : List Int} (h : Arr7 w g L) (i : Nat) (hi : i < 7) : w.cell? ⟨g, i, none⟩ = some (.int .u64 (L.getD i 0)) := by
  have hl : i < L.length := by rw [h.1]; exact hi
  simp [World.cell?, h.2, List.getD, hl]

theorem sm_inj {a b : Int} (ha : -576460752303423488 ≤ a ∧ a < 576460752303423488) (hb : -576460752303423488 ≤ b ∧ b < 576460752303423488) : smW a = smW b ↔ a = b :=
  ⟨fun h => by rw [← (sm_back ha).1, ← (sm_back hb).1, h], fun h => by rw [h]⟩
theorem at_inj {a b : Int} (ha : 0 ≤ a ∧ a < 1099511627776) (hb : 0 ≤ b ∧ b < 1099511627776) : atW a = atW b ↔ a = b := by
  unfold atW; rw [cutW_id ha, cutW_id hb]; omega
theorem po_inj {a b : Int} (ha : 0 ≤ a ∧ a < 1099511627776) (hb : 0 ≤ b ∧ b < 1099511627776) : poW 1 a = poW 1 b ↔ a = b := by
  unfold poW; rw [cutW_id ha, cutW_id hb]; omega
/-- The seven are seven. -/
theorem apart7 (a c : Int) (i k : Nat) (hi : i < 7) (hk : k < i) : ¬ ([smW a, atW c, 11, caW c, poW 1 c, poW 2 c, heW 1 c].getD i 0) = ([smW a, atW c, 11, caW c, poW 1 c, poW 2 c, heW 1 c].getD k 0) := by
  have h0 : smW a % 16 = 3 := by unfold smW; omega
  have h1 : atW c % 16 = 7 := by unfold atW; omega
  have h2 : caW c % 16 = 15 := by unfold caW; omega
  have h3 : poW 1 c % 4 = 1 := by unfold poW; omega
  have h4 : poW 2 c % 4 = 2 := by unfold poW; omega
  have h5 : heW 1 c % 4 = 0 := by unfold heW; omega
  rcases (show i = 1 ∨ i = 2 ∨ i = 3 ∨ i = 4 ∨ i = 5 ∨ i = 6 by omega) with rfl | rfl | rfl | rfl | rfl | rfl <;>
    rcases (show k = 0 ∨ k = 1 ∨ k = 2 ∨ k = 3 ∨ k = 4 ∨ k = 5 by omega) with rfl | rfl | rfl | rfl | rfl | rfl <;>
    (first | omega | (show ¬ _ = _; simp only [List.getD_cons_zero, List.getD_cons_succ]; omega))

set_option maxRecDepth 100000 in
set_option maxHeartbeats 4000000 in
theorem wordApart_walk (v x p q : Int) (w : World) (v1 : -9223372036854775808 ≤ v) (v2 : v ≤ 9223372036854775807) (x1 : -9223372036854775808 ≤ x) (x2 : x ≤ 9223372036854775807) (p1 : -9223372036854775808 ≤ p) (p2 : p ≤ 9223372036854775807) (q1 : -9223372036854775808 ≤ q) (q2 : q ≤ 9223372036854775807) :
    Calls Try.prog 5 #[.int .i64 v, .int .i64 x, .int .i64 p, .int .i64 q] w fun e w' => e = .returned (.bool true) ∧ Below w.heap.size w w' := by
  have ha : 0 ≤ v % 1152921504606846976 ∧ v % 1152921504606846976 < 1152921504606846976 := by omega
  have hb : 0 ≤ x % 1152921504606846976 ∧ x % 1152921504606846976 < 1152921504606846976 := by omega
  have hc : 0 ≤ p % 1099511627776 ∧ p % 1099511627776 < 1099511627776 := by omega
  have hd : 0 ≤ q % 1099511627776 ∧ q % 1099511627776 < 1099511627776 := by omega
  have P0 : Hid (∀ W, Calls Try.prog 30 #[.int .i64 v, .int .i64 1152921504606846976] W fun e w' => e = .returned (.int .i64 (v % 1152921504606846976)) ∧ W = w') := fun W => place_any v 1152921504606846976 W (by decide) (by decide) v1 v2
  have P1 : Hid (∀ W, Calls Try.prog 30 #[.int .i64 x, .int .i64 1152921504606846976] W fun e w' => e = .returned (.int .i64 (x % 1152921504606846976)) ∧ W = w') := fun W => place_any x 1152921504606846976 W (by decide) (by decide) x1 x2
  have P2 : Hid (∀ W, Calls Try.prog 30 #[.int .i64 p, .int .i64 1099511627776] W fun e w' => e = .returned (.int .i64 (p % 1099511627776)) ∧ W = w') := fun W => place_any p 1099511627776 W (by decide) (by decide) p1 p2
  have P3 : Hid (∀ W, Calls Try.prog 30 #[.int .i64 q, .int .i64 1099511627776] W fun e w' => e = .returned (.int .i64 (q % 1099511627776)) ∧ W = w') := fun W => place_any q 1099511627776 W (by decide) (by decide) q1 q2
  generalize v % 1152921504606846976 = qa at *
  generalize x % 1152921504606846976 = qb at *
  generalize p % 1099511627776 = c at *
  generalize q % 1099511627776 = d at *
  obtain ⟨a, hqa⟩ : ∃ a, qa - 576460752303423488 = a := ⟨_, rfl⟩
  obtain ⟨b, hqb⟩ : ∃ b, qb - 576460752303423488 = b := ⟨_, rfl⟩
  have hab : -576460752303423488 ≤ a ∧ a < 576460752303423488 := by omega
  have hbb : -576460752303423488 ≤ b ∧ b < 576460752303423488 := by omega
  have H0 : Hid (∀ W, Calls Try.prog 30 #[.int .i64 v, .int .i64 1152921504606846976] W fun e w' => e = .returned (.int .i64 qa) ∧ W = w') := fun W => P0.out W
  have H1 : Hid (∀ W, Calls Try.prog 30 #[.int .i64 x, .int .i64 1152921504606846976] W fun e w' => e = .returned (.int .i64 qb) ∧ W = w') := fun W => P1.out W
  have H2 : Hid (∀ W, Calls Try.prog 30 #[.int .i64 p, .int .i64 1099511627776] W fun e w' => e = .returned (.int .i64 c) ∧ W = w') := fun W => P2.out W
  have H3 : Hid (∀ W, Calls Try.prog 30 #[.int .i64 q, .int .i64 1099511627776] W fun e w' => e = .returned (.int .i64 d) ∧ W = w') := fun W => P3.out W
  have H4 : Hid (∀ W, Calls Try.prog 15 #[.int .i64 a] W fun e w' => e = .returned (.int .u64 (smW a)) ∧ W = w') := fun W => wsmall_any a W (by omega) (by omega)
  have H5 : Hid (∀ W, Calls Try.prog 17 #[.int .i64 c] W fun e w' => e = .returned (.int .u64 (atW c)) ∧ W = w') := fun W => watomof_any c W (by omega) (by omega)
  have H6 : Hid (∀ W, Calls Try.prog 19 #[.int .i64 c] W fun e w' => e = .returned (.int .u64 (caW c)) ∧ W = w') := fun W => wcatch_any c W (by omega) (by omega)
  have H7 : Hid (∀ W, Calls Try.prog 21 #[.int .i64 1, .int .i64 c] W fun e w' => e = .returned (.int .u64 (poW 1 c)) ∧ W = w') := fun W => wpointer_any 1 c W (by omega) (by omega) (by decide) (by decide)
  have H8 : Hid (∀ W, Calls Try.prog 21 #[.int .i64 2, .int .i64 c] W fun e w' => e = .returned (.int .u64 (poW 2 c)) ∧ W = w') := fun W => wpointer_any 2 c W (by omega) (by omega) (by decide) (by decide)
  have H9 : Hid (∀ W, Calls Try.prog 23 #[.int .i64 1, .int .i64 c] W fun e w' => e = .returned (.int .u64 (heW 1 c)) ∧ W = w') := fun W => whead_any 1 c W (by omega) (by omega) (by decide) (by decide)
  have H10 : Hid (∀ W, Calls Try.prog 15 #[.int .i64 a] W fun e w' => e = .returned (.int .u64 (smW a)) ∧ W = w') := fun W => wsmall_any a W (by omega) (by omega)
  have H11 : Hid (∀ W, Calls Try.prog 15 #[.int .i64 b] W fun e w' => e = .returned (.int .u64 (smW b)) ∧ W = w') := fun W => wsmall_any b W (by omega) (by omega)
  have H12 : Hid (∀ W, Calls Try.prog 17 #[.int .i64 c] W fun e w' => e = .returned (.int .u64 (atW c)) ∧ W = w') := fun W => watomof_any c W (by omega) (by omega)
  have H13 : Hid (∀ W, Calls Try.prog 17 #[.int .i64 d] W fun e w' => e = .returned (.int .u64 (atW d)) ∧ W = w') := fun W => watomof_any d W (by omega) (by omega)
  have H14 : Hid (∀ W, Calls Try.prog 21 #[.int .i64 1, .int .i64 c] W fun e w' => e = .returned (.int .u64 (poW 1 c)) ∧ W = w') := fun W => wpointer_any 1 c W (by omega) (by omega) (by decide) (by decide)
  have H15 : Hid (∀ W, Calls Try.prog 21 #[.int .i64 1, .int .i64 d] W fun e w' => e = .returned (.int .u64 (poW 1 d)) ∧ W = w') := fun W => wpointer_any 1 d W (by omega) (by omega) (by decide) (by decide)
  clear P0 P1 P2 P3 v1 v2 x1 x2 p1 p2 q1 q2
  have HA : Hid (∀ i k : Nat, i < 7 → k < i → ¬ ([smW a, atW c, 11, caW c, poW 1 c, poW 2 c, heW 1 c].getD i 0) = ([smW a, atW c, 11, caW c, poW 1 c, poW 2 c, heW 1 c].getD k 0)) := fun i k => apart7 a c i k
  have HD3 : Hid (smW a = smW b ↔ a = b) := sm_inj hab hbb
  have HD4 : Hid (atW c = atW d ↔ c = d) := at_inj hc hd
  have HD5 : Hid (poW 1 c = poW 1 d ↔ c = d) := po_inj hc hd
  have HAR : Hid (∀ W : World, Arr7 (W.alloc (.cells #[.int .u64 (smW a), .int .u64 (atW c), .int .u64 11, .int .u64 (caW c), .int .u64 (poW 1 c), .int .u64 (poW 2 c), .int .u64 (heW 1 c)] 34)) W.heap.size [smW a, atW c, 11, caW c, poW 1 c, poW 2 c, heW 1 c]) := fun W => ⟨rfl, heap_alloc_new W _⟩
  generalize smW a = z0 at *
  generalize smW b = y0 at *
  generalize atW c = z1 at *
  generalize atW d = y1 at *
  generalize caW c = z2 at *
  generalize poW 1 c = z3 at *
  generalize poW 1 d = y3 at *
  generalize poW 2 c = z4 at *
  generalize heW 1 c = z5 at *
  go_enter Try.func5, Try.ntmps5
  go_wp2_with fail
  refine (H0.out _).mono ?_
  clear H0
  rintro e wq ⟨rfl, rfl⟩
  go_wp2_with fail
  refine (H1.out _).mono ?_
  clear H1
  rintro e wq ⟨rfl, rfl⟩
  go_wp2_with fail
  refine (H2.out _).mono ?_
  clear H2
  rintro e wq ⟨rfl, rfl⟩
  go_wp2_with fail
  refine (H3.out _).mono ?_
  clear H3
  rintro e wq ⟨rfl, rfl⟩
  go_wp2_with fail
  refine (H4.out _).mono ?_
  clear H4
  rintro e wq ⟨rfl, rfl⟩
  go_wp2_with fail
  refine (H5.out _).mono ?_
  clear H5
  rintro e wq ⟨rfl, rfl⟩
  go_wp2_with fail
  refine (H6.out _).mono ?_
  clear H6
  rintro e wq ⟨rfl, rfl⟩
  go_wp2_with fail
  refine (H7.out _).mono ?_
  clear H7
  rintro e wq ⟨rfl, rfl⟩
  go_wp2_with fail
  refine (H8.out _).mono ?_
  clear H8
  rintro e wq ⟨rfl, rfl⟩
  go_wp2_with fail
  refine (H9.out _).mono ?_
  clear H9
  rintro e wq ⟨rfl, rfl⟩
  go_wp2_with fail
  have HG0 : Hid (Arr7 (w.alloc (.cells #[.int .u64 z0, .int .u64 z1, .int .u64 11, .int .u64 z2, .int .u64 z3, .int .u64 z4, .int .u64 z5] 34)) w.heap.size [z0, z1, 11, z2, z3, z4, z5]) := HAR.out w
  have HB0 : Hid (Below w.heap.size w (w.alloc (.cells #[.int .u64 z0, .int .u64 z1, .int .u64 11, .int .u64 z2, .int .u64 z3, .int .u64 z4, .int .u64 z5] 34))) := (Below.refl _ _).alloc (Nat.le_refl _) _
  clear HAR
  obtain ⟨L, hL⟩ : ∃ L, L = [z0, z1, 11, z2, z3, z4, z5] := ⟨_, rfl⟩
  rw [← hL] at HG0 HA
  clear hL
  generalize w.alloc (.cells #[.int .u64 z0, .int .u64 z1, .int .u64 11, .int .u64 z2, .int .u64 z3, .int .u64 z4, .int .u64 z5] 34) = w0 at *
  obtain ⟨g, hg⟩ : ∃ g, g = w.heap.size := ⟨_, rfl⟩
  rw [← hg] at HG0
  rw [← hg]
  have HGN : Hid (g = w.heap.size) := hg
  clear hg
  go_loopg [14] 7 (fun gk s wr => ∃ i : Nat, i + gk = 7 ∧ s = .int .i64 (i : Int) ∧ Arr7 wr g L ∧ Below w.heap.size w wr)
  case atStart => exact ⟨0, by omega, rfl, HG0.out, HB0.out⟩
  case round =>
    obtain ⟨i, hi, rfl, hAr, hBr⟩ := hrel
    have HAR : Hid (Arr7 _ g L) := hAr
    have HBR : Hid (Below w.heap.size w _) := hBr
    clear hAr hBr HG0 HB0
    cases gk with
    | zero =>
      obtain rfl : i = 7 := by omega
      clear HA
      have k1 : (z0 == y0) = (a == b) := by rw [Bool.eq_iff_iff]; simp only [beq_iff_eq]; exact HD3.out
      have k2 : (z1 == y1) = (c == d) := by rw [Bool.eq_iff_iff]; simp only [beq_iff_eq]; exact HD4.out
      have k3 : (z3 == y3) = (c == d) := by rw [Bool.eq_iff_iff]; simp only [beq_iff_eq]; exact HD5.out
      clear HD3 HD4 HD5
      go_wp2_with fail
      refine (H10.out _).mono ?_
      clear H10
      rintro e wq ⟨rfl, rfl⟩
      go_wp2_with fail
      refine (H11.out _).mono ?_
      clear H11
      rintro e wq ⟨rfl, rfl⟩
      go_wp2_with fail
      refine (H12.out _).mono ?_
      clear H12
      rintro e wq ⟨rfl, rfl⟩
      go_wp2_with fail
      refine (H13.out _).mono ?_
      clear H13
      rintro e wq ⟨rfl, rfl⟩
      go_wp2_with fail
      refine (H14.out _).mono ?_
      clear H14
      rintro e wq ⟨rfl, rfl⟩
      go_wp2_with fail
      refine (H15.out _).mono ?_
      clear H15
      rintro e wq ⟨rfl, rfl⟩
      go_wp2_with fail
      refine (awake10 _).mono ?_
      rintro e wq ⟨rfl, rfl⟩
      go_wp2_with fail
      go_ret
      exact ⟨rfl, HBR.out⟩
    | succ gko =>
      have hi7 : (i : Int) < 7 := by omega
      go_wp2_with fail
      go_loopg [15] i (fun gk s wr => ∃ k : Nat, k + gk = i ∧ s = .int .i64 (k : Int) ∧ Arr7 wr g L ∧ Below w.heap.size w wr)
      case atStart => exact ⟨0, by omega, rfl, HAR.out, HBR.out⟩
      case round =>
        obtain ⟨k, hk, rfl, hAr, hBr⟩ := hrel
        have HAS : Hid (Arr7 _ g L) := hAr
        have HBS : Hid (Below w.heap.size w _) := hBr
        clear hBr HAR HBR
        cases gk with
        | zero =>
          obtain rfl : k = i := by omega
          clear hAr
          go_wp2_with fail
          go_roundg gko
          case measure => omega
          case rel => exact ⟨k + 1, by omega, rfl, HAS.out, HBS.out⟩
        | succ gki =>
          have c1 := hAr.cell i (by omega)
          have c2 := hAr.cell k (by omega)
          have hne := HA.out i k (by omega) (by omega)
          have hk7 : (k : Int) < 7 := by omega
          have hki : (k : Int) < (i : Int) := by omega
          clear hAr
          generalize L.getD i 0 = y at *
          generalize L.getD k 0 = y' at *
          go_wp2_with fail
          go_quiet (fail)
          go_wp2_with fail
          go_roundg gki
          case measure => omega
          case rel => exact ⟨k + 1, by omega, rfl, HAS.out.under (below_drewN (Below.refl _ _) _), below_drewN HBS.out _⟩
end Go.Proofs.Ytfcphhbkmplclaa
