
/-
  relictref03.fields: what it says yes to.
-/
import Derived.Test.YtfcdocgjmgpmkaaDoorZTermA
import Derived.Test.YtfcdocgjmgpmkaaDoorNumSame
import Derived.Lib.Strings
import Derived.Lib.IndexBytes
namespace Go.Proofs.YtfcdocgjmgpmkaaDoor
open Go.RowKit
set_option linter.unusedVariables false
set_option linter.unusedSimpArgs false

/-- A term's own fields, as far as they are told here. -/
def fOk (k : Int) (n : Bool) (L : List Int) (c : Nat) : Prop := (k = 1 ∧ Good n L ∧ c = 0) ∨ (k = 2 ∧ c = 0) ∨ (k = 3 ∧ c = 0) ∨ (k = 4 ∧ c = 2) ∨ k = 5 ∨ (k = 6 ∧ c = 0)
def FldPost (w : World) (k : Int) (n : Bool) (L : List Int) (c : Nat) (e : Ending) (w' : World) : Prop := ∃ b, e = .returned (.bool b) ∧ Below w.heap.size w w' ∧ (b = true → fOk k n L c)

set_option maxRecDepth 100000 in
set_option maxHeartbeats 4000000 in
theorem fields_0 (k : Int) (n1 : Bool) (L : List Int) (S1 : ByteArray) (N1 : Int) (c : Nat) (pl pk : Option Addr) (cl ck : Nat) (w : World) (hL : Sl w (.slice pl L.length cl) L) (hS : (S1.size : Int) ≤ 140737488355328) (hN : N1 = 0) (hk : ¬ k = 1 ∧ ¬ k = 2 ∧ ¬ k = 3 ∧ ¬ k = 4 ∧ ¬ k = 5 ∧ ¬ k = 6) :
    Calls Tryd.prog 34 #[.agg #[.int .i64 k, .bool n1, .slice pl L.length cl, .string S1, .int .i64 N1, .slice pk c ck]] w fun e w' => FldPost w k n1 L c e w' := by
  have HB : Hid (Below w.heap.size w (w.alloc (.cells #[.int .i64 k, .bool n1, .slice pl L.length cl, .string S1, .int .i64 N1, .slice pk c ck] 27))) := (Below.refl w.heap.size w).alloc (Nat.le_refl _) _
  have HT : Hid (Bt (w.alloc (.cells #[.int .i64 k, .bool n1, .slice pl L.length cl, .string S1, .int .i64 N1, .slice pk c ck] 27)) w.heap.size k n1 (.slice pl L.length cl) S1 N1 (.slice pk c ck)) := Bt.new w k n1 (.slice pl L.length cl) S1 N1 (.slice pk c ck) ⟨_, _, _, rfl⟩ ⟨_, _, _, rfl⟩
  have HL : Hid (Sl w (.slice pl L.length cl) L) := hL
  clear hL
  have hn1 : (N1 == 0) = true := by simp [hN]
  have hn2 : (N1 != 0) = false := by simp [hN]
  clear hN
  have f1 : (k == 1) = false := by simp; omega
  have g1 : (k != 1) = true := by simp; omega
  have f2 : (k == 2) = false := by simp; omega
  have g2 : (k != 2) = true := by simp; omega
  have f3 : (k == 3) = false := by simp; omega
  have g3 : (k != 3) = true := by simp; omega
  have f4 : (k == 4) = false := by simp; omega
  have g4 : (k != 4) = true := by simp; omega
  have f5 : (k == 5) = false := by simp; omega
  have g5 : (k != 5) = true := by simp; omega
  have f6 : (k == 6) = false := by simp; omega
  have g6 : (k != 6) = true := by simp; omega
  by_cases hl : L.length = 0
  · have ll : ((L.length : Int) == 0) = true := beq_iff_eq.2 (by omega)
    clear hl
    cases n1 with
    | false =>
      cases hS0 : S1.toList.isEmpty
      · clear hk
        go_enter Tryd.func34, Tryd.ntmps34
        go_wp2_with fail
        go_ret
        exact ⟨false, rfl, HB.out, fun h => by cases h⟩
      · clear hk
        go_enter Tryd.func34, Tryd.ntmps34
        go_wp2_with fail
        go_ret
        exact ⟨false, rfl, HB.out, fun h => by cases h⟩
    | true =>
      clear hk
      go_enter Tryd.func34, Tryd.ntmps34
      go_wp2_with fail
      go_ret
      exact ⟨false, rfl, HB.out, fun h => by cases h⟩
  · have ll : ((L.length : Int) == 0) = false := beq_eq_false_iff_ne.2 (by omega)
    clear hl
    clear hk
    go_enter Tryd.func34, Tryd.ntmps34
    go_wp2_with fail
    go_ret
    exact ⟨false, rfl, HB.out, fun h => by cases h⟩

set_option maxRecDepth 100000 in
set_option maxHeartbeats 4000000 in
theorem fields_1 (k : Int) (n1 : Bool) (L : List Int) (S1 : ByteArray) (N1 : Int) (c : Nat) (pl pk : Option Addr) (cl ck : Nat) (w : World) (hL : Sl w (.slice pl L.length cl) L) (hS : (S1.size : Int) ≤ 140737488355328) (hN : N1 = 0) (hk : k = 1) :
    Calls Tryd.prog 34 #[.agg #[.int .i64 k, .bool n1, .slice pl L.length cl, .string S1, .int .i64 N1, .slice pk c ck]] w fun e w' => FldPost w k n1 L c e w' := by
  have HB : Hid (Below w.heap.size w (w.alloc (.cells #[.int .i64 k, .bool n1, .slice pl L.length cl, .string S1, .int .i64 N1, .slice pk c ck] 27))) := (Below.refl w.heap.size w).alloc (Nat.le_refl _) _
  have HT : Hid (Bt (w.alloc (.cells #[.int .i64 k, .bool n1, .slice pl L.length cl, .string S1, .int .i64 N1, .slice pk c ck] 27)) w.heap.size k n1 (.slice pl L.length cl) S1 N1 (.slice pk c ck)) := Bt.new w k n1 (.slice pl L.length cl) S1 N1 (.slice pk c ck) ⟨_, _, _, rfl⟩ ⟨_, _, _, rfl⟩
  have HL : Hid (Sl w (.slice pl L.length cl) L) := hL
  clear hL
  have hn1 : (N1 == 0) = true := by simp [hN]
  have hn2 : (N1 != 0) = false := by simp [hN]
  clear hN
  have f1 : (k == 1) = true := by simp [hk]
  have g1 : (k != 1) = false := by simp [hk]
  have f2 : (k == 2) = false := by simp; omega
  have g2 : (k != 2) = true := by simp; omega
  have f3 : (k == 3) = false := by simp; omega
  have g3 : (k != 3) = true := by simp; omega
  have f4 : (k == 4) = false := by simp; omega
  have g4 : (k != 4) = true := by simp; omega
  have f5 : (k == 5) = false := by simp; omega
  have g5 : (k != 5) = true := by simp; omega
  have f6 : (k == 6) = false := by simp; omega
  have g6 : (k != 6) = true := by simp; omega
  by_cases hl : L.length = 0
  · have ll : ((L.length : Int) == 0) = true := beq_iff_eq.2 (by omega)
    clear hl
    cases hS0 : S1.toList.isEmpty
    · clear hk
      go_enter Tryd.func34, Tryd.ntmps34
      go_wp2_with fail
      go_ret
      exact ⟨false, rfl, HB.out, fun h => by cases h⟩
    · by_cases hg : Good n1 L
      · by_cases h0 : c = 0
        · have kl : ((c : Int) == 0) = true := beq_iff_eq.2 (by omega)
          have HP : Hid (fOk k n1 L c) := Or.inl ⟨hk, hg, h0⟩
          clear hk h0
          go_enter Tryd.func34, Tryd.ntmps34
          go_wp2_with fail
          refine (rcheck_yes n1 _ L _ (HL.out.below HB.out) hg).mono ?_
          rintro e w1 ⟨rfl, b1⟩
          have u1 := HT.out.under b1
          obtain ⟨a0, a1, a2, a3, a4, a5⟩ := u1.cells
          have hb := HB.out.trans (b1.mono HB.out.size)
          clear b1 u1
          go_wp2_with fail
          go_ret
          exact ⟨true, rfl, hb, fun _ => HP.out⟩
        · have kl : ((c : Int) == 0) = false := beq_eq_false_iff_ne.2 (by omega)
          clear hk h0
          go_enter Tryd.func34, Tryd.ntmps34
          go_wp2_with fail
          refine (rcheck_yes n1 _ L _ (HL.out.below HB.out) hg).mono ?_
          rintro e w1 ⟨rfl, b1⟩
          have u1 := HT.out.under b1
          obtain ⟨a0, a1, a2, a3, a4, a5⟩ := u1.cells
          have hb := HB.out.trans (b1.mono HB.out.size)
          clear b1 u1
          go_wp2_with fail
          go_ret
          exact ⟨false, rfl, hb, fun h => by cases h⟩
      · clear hk
        go_enter Tryd.func34, Tryd.ntmps34
        go_wp2_with fail
        refine (rcheck_no n1 _ L _ (HL.out.below HB.out) hg).mono ?_
        rintro e w1 ⟨rfl, b1⟩
        have u1 := HT.out.under b1
        obtain ⟨a0, a1, a2, a3, a4, a5⟩ := u1.cells
        have hb := HB.out.trans (b1.mono HB.out.size)
        clear b1 u1
        go_wp2_with fail
        go_ret
        exact ⟨false, rfl, hb, fun h => by cases h⟩
  · have ll : ((L.length : Int) == 0) = false := beq_eq_false_iff_ne.2 (by omega)
    clear hl
    cases hS0 : S1.toList.isEmpty
    · clear hk
      go_enter Tryd.func34, Tryd.ntmps34
      go_wp2_with fail
      go_ret
      exact ⟨false, rfl, HB.out, fun h => by cases h⟩
    · by_cases hg : Good n1 L
      · by_cases h0 : c = 0
        · have kl : ((c : Int) == 0) = true := beq_iff_eq.2 (by omega)
          have HP : Hid (fOk k n1 L c) := Or.inl ⟨hk, hg, h0⟩
          clear hk h0
          go_enter Tryd.func34, Tryd.ntmps34
          go_wp2_with fail
          refine (rcheck_yes n1 _ L _ (HL.out.below HB.out) hg).mono ?_
          rintro e w1 ⟨rfl, b1⟩
          have u1 := HT.out.under b1
          obtain ⟨a0, a1, a2, a3, a4, a5⟩ := u1.cells
          have hb := HB.out.trans (b1.mono HB.out.size)
          clear b1 u1
          go_wp2_with fail
          go_ret
          exact ⟨true, rfl, hb, fun _ => HP.out⟩
        · have kl : ((c : Int) == 0) = false := beq_eq_false_iff_ne.2 (by omega)
          clear hk h0
          go_enter Tryd.func34, Tryd.ntmps34
          go_wp2_with fail
          refine (rcheck_yes n1 _ L _ (HL.out.below HB.out) hg).mono ?_
          rintro e w1 ⟨rfl, b1⟩
          have u1 := HT.out.under b1
          obtain ⟨a0, a1, a2, a3, a4, a5⟩ := u1.cells
          have hb := HB.out.trans (b1.mono HB.out.size)
          clear b1 u1
          go_wp2_with fail
          go_ret
          exact ⟨false, rfl, hb, fun h => by cases h⟩
      · clear hk
        go_enter Tryd.func34, Tryd.ntmps34
        go_wp2_with fail
        refine (rcheck_no n1 _ L _ (HL.out.below HB.out) hg).mono ?_
        rintro e w1 ⟨rfl, b1⟩
        have u1 := HT.out.under b1
        obtain ⟨a0, a1, a2, a3, a4, a5⟩ := u1.cells
        have hb := HB.out.trans (b1.mono HB.out.size)
        clear b1 u1
        go_wp2_with fail
        go_ret
        exact ⟨false, rfl, hb, fun h => by cases h⟩

set_option maxRecDepth 100000 in
set_option maxHeartbeats 4000000 in
theorem fields_2 (k : Int) (n1 : Bool) (L : List Int) (S1 : ByteArray) (N1 : Int) (c : Nat) (pl pk : Option Addr) (cl ck : Nat) (w : World) (hL : Sl w (.slice pl L.length cl) L) (hS : (S1.size : Int) ≤ 140737488355328) (hN : N1 = 0) (hk : k = 2) :
    Calls Tryd.prog 34 #[.agg #[.int .i64 k, .bool n1, .slice pl L.length cl, .string S1, .int .i64 N1, .slice pk c ck]] w fun e w' => FldPost w k n1 L c e w' := by
  have HB : Hid (Below w.heap.size w (w.alloc (.cells #[.int .i64 k, .bool n1, .slice pl L.length cl, .string S1, .int .i64 N1, .slice pk c ck] 27))) := (Below.refl w.heap.size w).alloc (Nat.le_refl _) _
  have HT : Hid (Bt (w.alloc (.cells #[.int .i64 k, .bool n1, .slice pl L.length cl, .string S1, .int .i64 N1, .slice pk c ck] 27)) w.heap.size k n1 (.slice pl L.length cl) S1 N1 (.slice pk c ck)) := Bt.new w k n1 (.slice pl L.length cl) S1 N1 (.slice pk c ck) ⟨_, _, _, rfl⟩ ⟨_, _, _, rfl⟩
  have HL : Hid (Sl w (.slice pl L.length cl) L) := hL
  clear hL
  have hn1 : (N1 == 0) = true := by simp [hN]
  have hn2 : (N1 != 0) = false := by simp [hN]
  clear hN
  have f1 : (k == 1) = false := by simp; omega
  have g1 : (k != 1) = true := by simp; omega
  have f2 : (k == 2) = true := by simp [hk]
  have g2 : (k != 2) = false := by simp [hk]
  have f3 : (k == 3) = false := by simp; omega
  have g3 : (k != 3) = true := by simp; omega
  have f4 : (k == 4) = false := by simp; omega
  have g4 : (k != 4) = true := by simp; omega
  have f5 : (k == 5) = false := by simp; omega
  have g5 : (k != 5) = true := by simp; omega
  have f6 : (k == 6) = false := by simp; omega
  have g6 : (k != 6) = true := by simp; omega
  by_cases hl : L.length = 0
  · have ll : ((L.length : Int) == 0) = true := beq_iff_eq.2 (by omega)
    clear hl
    cases n1 with
    | false =>
      have HK2 : Hid (k = 2) := hk
      clear hk
      go_enter Tryd.func34, Tryd.ntmps34
      go_wp2_with fail
      go_loop [4] (fun i => ∃ j : Nat, j ≤ S1.size ∧ i = .int .i64 j) (fun i => S1.size - (intOf i).toNat)
      case atStart => exact ⟨0, Nat.zero_le _, rfl⟩
      case round =>
        obtain ⟨j, hj, rfl⟩ := hrel
        by_cases hlt : j < S1.size
        · have hlt' : (j : Int) < (S1.size : Int) := by omega
          have hidx : ∀ wx, (Instr.index 9 (.string S1) (.int .i64 (j : Int))).run Tryd.prog wx = .ok (.int .u8 ((S1[j].toNat : Nat) : Int)) wx := fun wx => by
            rw [run_index_string _ _ _ _ _ Tryd.underlying9]
            simp [hlt]
          generalize ((S1[j].toNat : Nat) : Int) = cb at hidx
          by_cases hb1 : cb < 33
          · go_wp2_with fail
            go_ret
            exact ⟨false, rfl, HB.out, fun h => by cases h⟩
          · by_cases hb2 : 126 < cb
            · go_wp2_with fail
              go_ret
              exact ⟨false, rfl, HB.out, fun h => by cases h⟩
            · go_wp2_with fail
              go_round
              case measure => simp [intOf]; omega
              case rel => exact ⟨j + 1, by omega, by go_num⟩
        · obtain rfl : j = S1.size := by omega
          by_cases h1 : (1 : Int) ≤ (S1.size : Int)
          · by_cases h2 : (S1.size : Int) ≤ 40
            · by_cases h0 : c = 0
              · have kl : ((c : Int) == 0) = true := beq_iff_eq.2 (by omega)
                have HP : Hid (fOk k false L c) := Or.inr (Or.inl ⟨HK2.out, h0⟩)
                clear h0
                go_wp2_with fail
                go_ret
                exact ⟨true, rfl, HB.out, fun _ => HP.out⟩
              · have kl : ((c : Int) == 0) = false := beq_eq_false_iff_ne.2 (by omega)
                clear h0
                go_wp2_with fail
                go_ret
                exact ⟨false, rfl, HB.out, fun h => by cases h⟩
            · go_wp2_with fail
              go_ret
              exact ⟨false, rfl, HB.out, fun h => by cases h⟩
          · go_wp2_with fail
            go_ret
            exact ⟨false, rfl, HB.out, fun h => by cases h⟩
    | true =>
      clear hk
      go_enter Tryd.func34, Tryd.ntmps34
      go_wp2_with fail
      go_ret
      exact ⟨false, rfl, HB.out, fun h => by cases h⟩
  · have ll : ((L.length : Int) == 0) = false := beq_eq_false_iff_ne.2 (by omega)
    clear hl
    clear hk
    go_enter Tryd.func34, Tryd.ntmps34
    go_wp2_with fail
    go_ret
    exact ⟨false, rfl, HB.out, fun h => by cases h⟩

set_option maxRecDepth 100000 in
set_option maxHeartbeats 4000000 in
theorem fields_3 (k : Int) (n1 : Bool) (L : List Int) (S1 : ByteArray) (N1 : Int) (c : Nat) (pl pk : Option Addr) (cl ck : Nat) (w : World) (hL : Sl w (.slice pl L.length cl) L) (hS : (S1.size : Int) ≤ 140737488355328) (hN : N1 = 0) (hk : k = 3) :
    Calls Tryd.prog 34 #[.agg #[.int .i64 k, .bool n1, .slice pl L.length cl, .string S1, .int .i64 N1, .slice pk c ck]] w fun e w' => FldPost w k n1 L c e w' := by
  have HB : Hid (Below w.heap.size w (w.alloc (.cells #[.int .i64 k, .bool n1, .slice pl L.length cl, .string S1, .int .i64 N1, .slice pk c ck] 27))) := (Below.refl w.heap.size w).alloc (Nat.le_refl _) _
  have HT : Hid (Bt (w.alloc (.cells #[.int .i64 k, .bool n1, .slice pl L.length cl, .string S1, .int .i64 N1, .slice pk c ck] 27)) w.heap.size k n1 (.slice pl L.length cl) S1 N1 (.slice pk c ck)) := Bt.new w k n1 (.slice pl L.length cl) S1 N1 (.slice pk c ck) ⟨_, _, _, rfl⟩ ⟨_, _, _, rfl⟩
  have HL : Hid (Sl w (.slice pl L.length cl) L) := hL
  clear hL
  have hn1 : (N1 == 0) = true := by simp [hN]
  have hn2 : (N1 != 0) = false := by simp [hN]
  clear hN
  have f1 : (k == 1) = false := by simp; omega
  have g1 : (k != 1) = true := by simp; omega
  have f2 : (k == 2) = false := by simp; omega
  have g2 : (k != 2) = true := by simp; omega
  have f3 : (k == 3) = true := by simp [hk]
  have g3 : (k != 3) = false := by simp [hk]
  have f4 : (k == 4) = false := by simp; omega
  have g4 : (k != 4) = true := by simp; omega
  have f5 : (k == 5) = false := by simp; omega
  have g5 : (k != 5) = true := by simp; omega
  have f6 : (k == 6) = false := by simp; omega
  have g6 : (k != 6) = true := by simp; omega
  by_cases hl : L.length = 0
  · have ll : ((L.length : Int) == 0) = true := beq_iff_eq.2 (by omega)
    clear hl
    cases n1 with
    | false =>
      cases hS0 : S1.toList.isEmpty
      · clear hk
        go_enter Tryd.func34, Tryd.ntmps34
        go_wp2_with fail
        go_ret
        exact ⟨false, rfl, HB.out, fun h => by cases h⟩
      · by_cases h0 : c = 0
        · have kl : ((c : Int) == 0) = true := beq_iff_eq.2 (by omega)
          have HP : Hid (fOk k false L c) := Or.inr (Or.inr (Or.inl ⟨hk, h0⟩))
          clear hk h0
          go_enter Tryd.func34, Tryd.ntmps34
          go_wp2_with fail
          go_ret
          exact ⟨true, rfl, HB.out, fun _ => HP.out⟩
        · have kl : ((c : Int) == 0) = false := beq_eq_false_iff_ne.2 (by omega)
          clear hk h0
          go_enter Tryd.func34, Tryd.ntmps34
          go_wp2_with fail
          go_ret
          exact ⟨false, rfl, HB.out, fun h => by cases h⟩
    | true =>
      clear hk
      go_enter Tryd.func34, Tryd.ntmps34
      go_wp2_with fail
      go_ret
      exact ⟨false, rfl, HB.out, fun h => by cases h⟩
  · have ll : ((L.length : Int) == 0) = false := beq_eq_false_iff_ne.2 (by omega)
    clear hl
    clear hk
    go_enter Tryd.func34, Tryd.ntmps34
    go_wp2_with fail
    go_ret
    exact ⟨false, rfl, HB.out, fun h => by cases h⟩

set_option maxRecDepth 100000 in
set_option maxHeartbeats 4000000 in
theorem fields_4 (k : Int) (n1 : Bool) (L : List Int) (S1 : ByteArray) (N1 : Int) (c : Nat) (pl pk : Option Addr) (cl ck : Nat) (w : World) (hL : Sl w (.slice pl L.length cl) L) (hS : (S1.size : Int) ≤ 140737488355328) (hN : N1 = 0) (hk : k = 4) :
    Calls Tryd.prog 34 #[.agg #[.int .i64 k, .bool n1, .slice pl L.length cl, .string S1, .int .i64 N1, .slice pk c ck]] w fun e w' => FldPost w k n1 L c e w' := by
  have HB : Hid (Below w.heap.size w (w.alloc (.cells #[.int .i64 k, .bool n1, .slice pl L.length cl, .string S1, .int .i64 N1, .slice pk c ck] 27))) := (Below.refl w.heap.size w).alloc (Nat.le_refl _) _
  have HT : Hid (Bt (w.alloc (.cells #[.int .i64 k, .bool n1, .slice pl L.length cl, .string S1, .int .i64 N1, .slice pk c ck] 27)) w.heap.size k n1 (.slice pl L.length cl) S1 N1 (.slice pk c ck)) := Bt.new w k n1 (.slice pl L.length cl) S1 N1 (.slice pk c ck) ⟨_, _, _, rfl⟩ ⟨_, _, _, rfl⟩
  have HL : Hid (Sl w (.slice pl L.length cl) L) := hL
  clear hL
  have hn1 : (N1 == 0) = true := by simp [hN]
  have hn2 : (N1 != 0) = false := by simp [hN]
  clear hN
  have f1 : (k == 1) = false := by simp; omega
  have g1 : (k != 1) = true := by simp; omega
  have f2 : (k == 2) = false := by simp; omega
  have g2 : (k != 2) = true := by simp; omega
  have f3 : (k == 3) = false := by simp; omega
  have g3 : (k != 3) = true := by simp; omega
  have f4 : (k == 4) = true := by simp [hk]
  have g4 : (k != 4) = false := by simp [hk]
  have f5 : (k == 5) = false := by simp; omega
  have g5 : (k != 5) = true := by simp; omega
  have f6 : (k == 6) = false := by simp; omega
  have g6 : (k != 6) = true := by simp; omega
  by_cases hl : L.length = 0
  · have ll : ((L.length : Int) == 0) = true := beq_iff_eq.2 (by omega)
    clear hl
    cases n1 with
    | false =>
      cases hS0 : S1.toList.isEmpty
      · clear hk
        go_enter Tryd.func34, Tryd.ntmps34
        go_wp2_with fail
        go_ret
        exact ⟨false, rfl, HB.out, fun h => by cases h⟩
      · by_cases h0 : c = 2
        · have kl : ((c : Int) == 2) = true := beq_iff_eq.2 (by omega)
          have HP : Hid (fOk k false L c) := Or.inr (Or.inr (Or.inr (Or.inl ⟨hk, h0⟩)))
          clear hk h0
          go_enter Tryd.func34, Tryd.ntmps34
          go_wp2_with fail
          go_ret
          exact ⟨true, rfl, HB.out, fun _ => HP.out⟩
        · have kl : ((c : Int) == 2) = false := beq_eq_false_iff_ne.2 (by omega)
          clear hk h0
          go_enter Tryd.func34, Tryd.ntmps34
          go_wp2_with fail
          go_ret
          exact ⟨false, rfl, HB.out, fun h => by cases h⟩
    | true =>
      clear hk
      go_enter Tryd.func34, Tryd.ntmps34
      go_wp2_with fail
      go_ret
      exact ⟨false, rfl, HB.out, fun h => by cases h⟩
  · have ll : ((L.length : Int) == 0) = false := beq_eq_false_iff_ne.2 (by omega)
    clear hl
    clear hk
    go_enter Tryd.func34, Tryd.ntmps34
    go_wp2_with fail
    go_ret
    exact ⟨false, rfl, HB.out, fun h => by cases h⟩

set_option maxRecDepth 100000 in
set_option maxHeartbeats 4000000 in
theorem fields_5 (k : Int) (n1 : Bool) (L : List Int) (S1 : ByteArray) (N1 : Int) (c : Nat) (pl pk : Option Addr) (cl ck : Nat) (w : World) (hL : Sl w (.slice pl L.length cl) L) (hS : (S1.size : Int) ≤ 140737488355328) (hN : N1 = 0) (hk : k = 5) :
    Calls Tryd.prog 34 #[.agg #[.int .i64 k, .bool n1, .slice pl L.length cl, .string S1, .int .i64 N1, .slice pk c ck]] w fun e w' => FldPost w k n1 L c e w' := by
  have HB : Hid (Below w.heap.size w (w.alloc (.cells #[.int .i64 k, .bool n1, .slice pl L.length cl, .string S1, .int .i64 N1, .slice pk c ck] 27))) := (Below.refl w.heap.size w).alloc (Nat.le_refl _) _
  have HT : Hid (Bt (w.alloc (.cells #[.int .i64 k, .bool n1, .slice pl L.length cl, .string S1, .int .i64 N1, .slice pk c ck] 27)) w.heap.size k n1 (.slice pl L.length cl) S1 N1 (.slice pk c ck)) := Bt.new w k n1 (.slice pl L.length cl) S1 N1 (.slice pk c ck) ⟨_, _, _, rfl⟩ ⟨_, _, _, rfl⟩
  have HL : Hid (Sl w (.slice pl L.length cl) L) := hL
  clear hL
  have hn1 : (N1 == 0) = true := by simp [hN]
  have hn2 : (N1 != 0) = false := by simp [hN]
  clear hN
  have f1 : (k == 1) = false := by simp; omega
  have g1 : (k != 1) = true := by simp; omega
  have f2 : (k == 2) = false := by simp; omega
  have g2 : (k != 2) = true := by simp; omega
  have f3 : (k == 3) = false := by simp; omega
  have g3 : (k != 3) = true := by simp; omega
  have f4 : (k == 4) = false := by simp; omega
  have g4 : (k != 4) = true := by simp; omega
  have f5 : (k == 5) = true := by simp [hk]
  have g5 : (k != 5) = false := by simp [hk]
  have f6 : (k == 6) = false := by simp; omega
  have g6 : (k != 6) = true := by simp; omega
  by_cases hl : L.length = 0
  · have ll : ((L.length : Int) == 0) = true := beq_iff_eq.2 (by omega)
    clear hl
    cases n1 with
    | false =>
      cases hS0 : S1.toList.isEmpty
      · clear hk
        go_enter Tryd.func34, Tryd.ntmps34
        go_wp2_with fail
        go_ret
        exact ⟨false, rfl, HB.out, fun h => by cases h⟩
      · by_cases h0 : (c : Int) ≤ 40
        · have HP : Hid (fOk k false L c) := Or.inr (Or.inr (Or.inr (Or.inr (Or.inl hk))))
          clear hk
          go_enter Tryd.func34, Tryd.ntmps34
          go_wp2_with fail
          go_ret
          exact ⟨true, rfl, HB.out, fun _ => HP.out⟩
        · clear hk
          go_enter Tryd.func34, Tryd.ntmps34
          go_wp2_with fail
          go_ret
          exact ⟨false, rfl, HB.out, fun h => by cases h⟩
    | true =>
      clear hk
      go_enter Tryd.func34, Tryd.ntmps34
      go_wp2_with fail
      go_ret
      exact ⟨false, rfl, HB.out, fun h => by cases h⟩
  · have ll : ((L.length : Int) == 0) = false := beq_eq_false_iff_ne.2 (by omega)
    clear hl
    clear hk
    go_enter Tryd.func34, Tryd.ntmps34
    go_wp2_with fail
    go_ret
    exact ⟨false, rfl, HB.out, fun h => by cases h⟩

set_option maxRecDepth 100000 in
set_option maxHeartbeats 4000000 in
theorem fields_6 (k : Int) (n1 : Bool) (L : List Int) (S1 : ByteArray) (N1 : Int) (c : Nat) (pl pk : Option Addr) (cl ck : Nat) (w : World) (hL : Sl w (.slice pl L.length cl) L) (hS : (S1.size : Int) ≤ 140737488355328) (hN : N1 = 0) (hk : k = 6) :
    Calls Tryd.prog 34 #[.agg #[.int .i64 k, .bool n1, .slice pl L.length cl, .string S1, .int .i64 N1, .slice pk c ck]] w fun e w' => FldPost w k n1 L c e w' := by
  have HB : Hid (Below w.heap.size w (w.alloc (.cells #[.int .i64 k, .bool n1, .slice pl L.length cl, .string S1, .int .i64 N1, .slice pk c ck] 27))) := (Below.refl w.heap.size w).alloc (Nat.le_refl _) _
  have HT : Hid (Bt (w.alloc (.cells #[.int .i64 k, .bool n1, .slice pl L.length cl, .string S1, .int .i64 N1, .slice pk c ck] 27)) w.heap.size k n1 (.slice pl L.length cl) S1 N1 (.slice pk c ck)) := Bt.new w k n1 (.slice pl L.length cl) S1 N1 (.slice pk c ck) ⟨_, _, _, rfl⟩ ⟨_, _, _, rfl⟩
  have HL : Hid (Sl w (.slice pl L.length cl) L) := hL
  clear hL
  have hn1 : (N1 == 0) = true := by simp [hN]
  have hn2 : (N1 != 0) = false := by simp [hN]
  clear hN
  have f1 : (k == 1) = false := by simp; omega
  have g1 : (k != 1) = true := by simp; omega
  have f2 : (k == 2) = false := by simp; omega
  have g2 : (k != 2) = true := by simp; omega
  have f3 : (k == 3) = false := by simp; omega
  have g3 : (k != 3) = true := by simp; omega
  have f4 : (k == 4) = false := by simp; omega
  have g4 : (k != 4) = true := by simp; omega
  have f5 : (k == 5) = false := by simp; omega
  have g5 : (k != 5) = true := by simp; omega
  have f6 : (k == 6) = true := by simp [hk]
  have g6 : (k != 6) = false := by simp [hk]
  by_cases hl : L.length = 0
  · have ll : ((L.length : Int) == 0) = true := beq_iff_eq.2 (by omega)
    clear hl
    cases n1 with
    | false =>
      by_cases hz : (S1.size : Int) ≤ 400
      · by_cases h0 : c = 0
        · have kl : ((c : Int) == 0) = true := beq_iff_eq.2 (by omega)
          have HP : Hid (fOk k false L c) := Or.inr (Or.inr (Or.inr (Or.inr (Or.inr ⟨hk, h0⟩))))
          clear hk h0
          go_enter Tryd.func34, Tryd.ntmps34
          go_wp2_with fail
          go_ret
          exact ⟨true, rfl, HB.out, fun _ => HP.out⟩
        · have kl : ((c : Int) == 0) = false := beq_eq_false_iff_ne.2 (by omega)
          clear hk h0
          go_enter Tryd.func34, Tryd.ntmps34
          go_wp2_with fail
          go_ret
          exact ⟨false, rfl, HB.out, fun h => by cases h⟩
      · clear hk
        go_enter Tryd.func34, Tryd.ntmps34
        go_wp2_with fail
        go_ret
        exact ⟨false, rfl, HB.out, fun h => by cases h⟩
    | true =>
      clear hk
      go_enter Tryd.func34, Tryd.ntmps34
      go_wp2_with fail
      go_ret
      exact ⟨false, rfl, HB.out, fun h => by cases h⟩
  · have ll : ((L.length : Int) == 0) = false := beq_eq_false_iff_ne.2 (by omega)
    clear hl
    clear hk
    go_enter Tryd.func34, Tryd.ntmps34
    go_wp2_with fail
    go_ret
    exact ⟨false, rfl, HB.out, fun h => by cases h⟩

set_option maxRecDepth 100000 in
set_option maxHeartbeats 4000000 in
theorem fields_n (k : Int) (n1 : Bool) (L : List Int) (S1 : ByteArray) (N1 : Int) (c : Nat) (pl pk : Option Addr) (cl ck : Nat) (w : World) (hL : Sl w (.slice pl L.length cl) L) (hS : (S1.size : Int) ≤ 140737488355328) (hN : ¬ N1 = 0) :
    Calls Tryd.prog 34 #[.agg #[.int .i64 k, .bool n1, .slice pl L.length cl, .string S1, .int .i64 N1, .slice pk c ck]] w fun e w' => FldPost w k n1 L c e w' := by
  have HB : Hid (Below w.heap.size w (w.alloc (.cells #[.int .i64 k, .bool n1, .slice pl L.length cl, .string S1, .int .i64 N1, .slice pk c ck] 27))) := (Below.refl w.heap.size w).alloc (Nat.le_refl _) _
  have HT : Hid (Bt (w.alloc (.cells #[.int .i64 k, .bool n1, .slice pl L.length cl, .string S1, .int .i64 N1, .slice pk c ck] 27)) w.heap.size k n1 (.slice pl L.length cl) S1 N1 (.slice pk c ck)) := Bt.new w k n1 (.slice pl L.length cl) S1 N1 (.slice pk c ck) ⟨_, _, _, rfl⟩ ⟨_, _, _, rfl⟩
  have HL : Hid (Sl w (.slice pl L.length cl) L) := hL
  clear hL
  have hn1 : (N1 == 0) = false := by simp [hN]
  have hn2 : (N1 != 0) = true := by simp [hN]
  clear hN
  by_cases hl : L.length = 0
  · have ll : ((L.length : Int) == 0) = true := beq_iff_eq.2 (by omega)
    clear hl
    cases n1 with
    | false =>
      go_enter Tryd.func34, Tryd.ntmps34
      go_wp2_with fail
      go_ret
      exact ⟨false, rfl, HB.out, fun h => by cases h⟩
    | true =>
      go_enter Tryd.func34, Tryd.ntmps34
      go_wp2_with fail
      go_ret
      exact ⟨false, rfl, HB.out, fun h => by cases h⟩
  · have ll : ((L.length : Int) == 0) = false := beq_eq_false_iff_ne.2 (by omega)
    clear hl
    go_enter Tryd.func34, Tryd.ntmps34
    go_wp2_with fail
    go_ret
    exact ⟨false, rfl, HB.out, fun h => by cases h⟩

theorem fields_raw (k : Int) (n1 : Bool) (L : List Int) (S1 : ByteArray) (N1 : Int) (c : Nat) (pl pk : Option Addr) (cl ck : Nat) (w : World) (hL : Sl w (.slice pl L.length cl) L) (hS : (S1.size : Int) ≤ 140737488355328) :
    Calls Tryd.prog 34 #[.agg #[.int .i64 k, .bool n1, .slice pl L.length cl, .string S1, .int .i64 N1, .slice pk c ck]] w fun e w' => FldPost w k n1 L c e w' := by
  by_cases hN : N1 = 0
  · by_cases h1 : k = 1
    · exact fields_1 k n1 L S1 N1 c pl pk cl ck w hL hS hN h1
    by_cases h2 : k = 2
    · exact fields_2 k n1 L S1 N1 c pl pk cl ck w hL hS hN h2
    by_cases h3 : k = 3
    · exact fields_3 k n1 L S1 N1 c pl pk cl ck w hL hS hN h3
    by_cases h4 : k = 4
    · exact fields_4 k n1 L S1 N1 c pl pk cl ck w hL hS hN h4
    by_cases h5 : k = 5
    · exact fields_5 k n1 L S1 N1 c pl pk cl ck w hL hS hN h5
    by_cases h6 : k = 6
    · exact fields_6 k n1 L S1 N1 c pl pk cl ck w hL hS hN h6
    exact fields_0 k n1 L S1 N1 c pl pk cl ck w hL hS hN ⟨h1, h2, h3, h4, h5, h6⟩
  · exact fields_n k n1 L S1 N1 c pl pk cl ck w hL hS hN
end Go.Proofs.YtfcdocgjmgpmkaaDoor
