/-
  term.isName, fitsAlone.
-/
import Derived.Test.YtbmondbicnfcpaaDoorZTermA
import Derived.Lib.Strings
import Derived.Lib.IndexBytes
namespace Go.Proofs.YtbmondbicnfcpaaDoor
open Go.RowKit
set_option linter.unusedVariables false
set_option linter.unusedSimpArgs false

/-- A sign of a name. -/
def signB (b : UInt8) : Bool := decide (33 ≤ (b.toNat : Int)) && decide ((b.toNat : Int) ≤ 126)
/-- A name. -/
def nameB (s : ByteArray) : Bool := decide (1 ≤ s.size) && decide (s.size ≤ 40) && s.data.toList.all signB

set_option maxHeartbeats 2000000 in
theorem isName_any (s : ByteArray) (w : World) : Calls Tryd.prog 124 #[.string s] w fun e w' => e = .returned (.bool (nameB s)) ∧ Below w.heap.size w w' := by
  obtain ⟨q, hq⟩ : ∃ q, nameB s = q := ⟨_, rfl⟩
  have HQ : Hid (nameB s = q) := hq
  rw [hq]
  clear hq
  by_cases h1 : s.size < 1
  · have h1' : (s.size : Int) < 1 := by omega
    have HZ : Hid (q = false) := by show q = _; rw [← HQ.out, nameB]; simp; omega
    clear h1
    go_enter Tryd.func124, Tryd.ntmps124
    go_wp2_with fail
    go_ret
    exact ⟨by rw [HZ.out]; rfl, Below.refl _ _⟩
  · have h1' : ¬ (s.size : Int) < 1 := by omega
    by_cases h2 : 40 < s.size
    · have h2' : (40 : Int) < (s.size : Int) := by omega
      have HZ : Hid (q = false) := by show q = _; rw [← HQ.out, nameB]; simp; omega
      clear h1 h2
      go_enter Tryd.func124, Tryd.ntmps124
      go_wp2_with fail
      go_ret
      exact ⟨by rw [HZ.out]; rfl, Below.refl _ _⟩
    · have h2' : ¬ (40 : Int) < (s.size : Int) := by omega
      have HN : Hid (q = s.data.toList.all signB) := by
        show q = _
        rw [← HQ.out, nameB]
        have e1 : decide (1 ≤ s.size) = true := by simp; omega
        have e2 : decide (s.size ≤ 40) = true := by simp; omega
        rw [e1, e2]; simp
      clear h1 h2
      go_enter Tryd.func124, Tryd.ntmps124
      go_wp2_with fail
      go_loop [14] (fun i => ∃ k : Nat, k ≤ s.size ∧ i = .int .i64 k ∧ (s.data.toList.take k).all signB = true) (fun i => s.size - (intOf i).toNat)
      case atStart => exact ⟨0, Nat.zero_le _, rfl, by simp⟩
      case round =>
        obtain ⟨k, hk, rfl, hall⟩ := hrel
        have HA : Hid ((s.data.toList.take k).all signB = true) := hall
        clear hall
        by_cases hlt : k < s.size
        · have hlt' : (k : Int) < (s.size : Int) := by omega
          have hget : s.data.toList[k]? = some s[k] := Lib.data_getElem? s k hlt
          have hidx : ∀ wx, (Instr.index 9 (.string s) (.int .i64 (k : Int))).run Tryd.prog wx = .ok (.int .u8 ((s[k].toNat : Nat) : Int)) wx := fun wx => by
            rw [run_index_string _ _ _ _ _ Tryd.underlying9]
            simp [hlt]
          have HM : Hid (s.data.toList.take (k + 1) = s.data.toList.take k ++ [s[k]]) := by show _ = _; rw [List.take_add_one, hget]; rfl
          have HB : Hid (((s[k].toNat : Nat) : Int) < 33 ∨ 126 < ((s[k].toNat : Nat) : Int) → q = false) := fun h => by
            rw [HN.out, Bool.eq_false_iff]
            intro h2
            have h3 := List.all_eq_true.1 h2 s[k] (List.mem_of_getElem? hget)
            simp [signB] at h3
            omega
          have HC : Hid (33 ≤ ((s[k].toNat : Nat) : Int) → ((s[k].toNat : Nat) : Int) ≤ 126 → (s.data.toList.take (k + 1)).all signB = true) := fun h3 h4 => by
            rw [HM.out, List.all_append, HA.out]
            simp [signB]
            omega
          generalize ((s[k].toNat : Nat) : Int) = cb at hidx HB HC
          clear hget HM
          by_cases hb1 : cb < 33
          · have HZ : Hid (q = false) := HB.out (Or.inl hb1)
            go_wp2_with fail
            go_ret
            exact ⟨by rw [HZ.out]; rfl, Below.refl _ _⟩
          · by_cases hb2 : 126 < cb
            · have HZ : Hid (q = false) := HB.out (Or.inr hb2)
              go_wp2_with fail
              go_ret
              exact ⟨by rw [HZ.out]; rfl, Below.refl _ _⟩
            · have HD : Hid ((s.data.toList.take (k + 1)).all signB = true) := HC.out (by omega) (by omega)
              go_wp2_with fail
              go_round
              case rel => exact ⟨k + 1, by omega, by go_num, HD.out⟩
              case measure => simp [intOf]; omega
        · obtain rfl : k = s.size := by omega
          have HZ : Hid (q = true) := by
            show q = true
            rw [HN.out, ← HA.out, List.take_of_length_le (by rw [← Lib.size_eq]; exact Nat.le_refl _)]
          have hkk : ¬ ((s.size : Int) < (s.size : Int)) := by omega
          go_wp2_with fail
          go_ret
          exact ⟨by rw [HZ.out]; rfl, Below.refl _ _⟩

/-- What no kind has is not there. -/
def restB (neg : Bool) (l : Nat) (S : ByteArray) (N : Int) (k : Nat) : Bool := !neg && decide (l = 0) && S.toList.isEmpty && decide (N = 0) && decide (k = 0)
def goodB (neg : Bool) (L : List Int) : Bool := @decide (Good neg L) (goodDec neg L)
theorem goodB_iff (neg : Bool) (L : List Int) : goodB neg L = true ↔ Good neg L := by unfold goodB; simp
/-- A term that may be, whatever stands in what it is made of. -/
def aloneK (k : Int) (neg : Bool) (L : List Int) (S : ByteArray) (N : Int) (n : Nat) : Bool :=
  if k = 1 then goodB neg L && restB false 0 S N n
  else if k = 2 then nameB S && restB neg L.length ⟨#[]⟩ N n
  else if k = 3 then restB neg L.length S N n
  else if k = 4 then decide (n = 2) && restB neg L.length S N 0
  else if k = 5 then decide (n ≤ 40) && restB neg L.length S N 0
  else if k = 6 then decide (S.size ≤ 400) && restB neg L.length ⟨#[]⟩ N n
  else false
def Tm.alone (t : Tm) : Bool := aloneK t.kind t.neg t.limbs t.str t.num t.kids.length

theorem checkS (g neg : Bool) (s : Value) (zs : List Int) (w : World) (hs : Sl w s zs) (hg : g = true ↔ Good neg zs) :
    Calls Tryd.prog 93 #[.agg #[.bool neg, s]] w fun e w' => e = .returned (.bool g) ∧ Below w.heap.size w w' := by
  cases g
  · exact check_no neg s zs w hs (fun h => by have := hg.2 h; cases this)
  · exact check_yes neg s zs w hs (hg.1 rfl)

set_option maxHeartbeats 8000000 in
theorem alone1 (kk : Int) (neg : Bool) (pl : Option Addr) (L : List Int) (cl : Nat) (S : ByteArray) (N : Int) (pk : Option Addr) (n ck : Nat) (w : World) (hl : Sl w (.slice pl L.length cl) L) (hnk : (n : Int) ≤ (ck : Int)) (hck : (ck : Int) ≤ 9223372036854775807) (q : Bool) (hq : aloneK kk neg L S N n = q) (hkk : kk = 1) :
    Calls Tryd.prog 74 #[.agg #[.int .i64 kk, .bool neg, .slice pl L.length cl, .string S, .int .i64 N, .slice pk n ck]] w fun e w' => e = .returned (.bool q) ∧ Below w.heap.size w w' := by
  subst hkk
  have hB := (Below.refl w.heap.size w).alloc (Nat.le_refl _) (.cells #[.int .i64 1, .bool neg, .slice pl L.length cl, .string S, .int .i64 N, .slice pk n ck] 29)
  have ub := Bt.new w (1) neg (.slice pl L.length cl) S N (.slice pk n ck) ⟨_, _, _, rfl⟩ ⟨_, _, _, rfl⟩
  have tb := hl.below hB
  have HQ : Hid ((goodB neg L && restB false 0 S N n) = q) := hq
  clear hq
  obtain ⟨g, hg⟩ : ∃ g, goodB neg L = g := ⟨_, rfl⟩
  have HG : Hid (g = true ↔ Good neg L) := by show g = true ↔ Good neg L; rw [← hg]; exact goodB_iff neg L
  rw [hg] at HQ
  clear hg
  go_enter Tryd.func74, Tryd.ntmps74
  go_wp2_with fail
  refine (checkS g neg _ L _ tb HG.out).mono ?_
  rintro e w1 ⟨rfl, b1⟩
  replace ub := ub.under b1
  replace hB := hB.trans (b1.mono hB.size)
  clear HG tb b1
  obtain ⟨a0, a1, a2, a3, a4, a5⟩ := ub.cells
  obtain ⟨f0, f1, f2, f3, f4, f5⟩ := ub.froz
  have hlt := ub.lt
  have hBW : Below w.heap.size w ((w1.setCell ⟨w.heap.size, 1, none⟩ (.bool false)).setCell ⟨w.heap.size, 2, none⟩ (.slice none 0 0)) := (hB.setCell (Nat.le_refl _) _).setCell (Nat.le_refl _) _
  cases g
  · have HZ : Hid (q = false) := by show q = false; rw [← HQ.out]; rfl
    clear HQ
    go_wp2_with fail
    go_ret
    exact ⟨by rw [HZ.out]; rfl, by first | exact hBW | exact (Below.refl _ _).alloc (Nat.le_refl _) _⟩
  · cases hS0 : S.toList.isEmpty
    · have HZ : Hid (q = false) := by show q = false; rw [← HQ.out]; simp [restB, *]
      clear HQ
      go_wp2_with fail
      go_ret
      exact ⟨by rw [HZ.out]; rfl, by first | exact hBW | exact (Below.refl _ _).alloc (Nat.le_refl _) _⟩
    · by_cases hN0 : N = 0
      · subst hN0
        by_cases hK0 : n = 0
        · have hK1 : (n : Int) = 0 := by omega
          have HZ : Hid (q = true) := by show q = true; rw [← HQ.out]; simp [restB, *]
          clear HQ
          go_wp2_with fail
          go_ret
          exact ⟨by rw [HZ.out]; rfl, by first | exact hBW | exact (Below.refl _ _).alloc (Nat.le_refl _) _⟩
        · have hK1 : ¬ (n : Int) = 0 := by omega
          have HZ : Hid (q = false) := by show q = false; rw [← HQ.out]; simp [restB, *]
          clear HQ
          have hKb : ((n : Int) == 0) = false := by simpa using hK0
          go_wp2_with fail
          go_ret
          exact ⟨by rw [HZ.out]; rfl, by first | exact hBW | exact (Below.refl _ _).alloc (Nat.le_refl _) _⟩
      · have HZ : Hid (q = false) := by show q = false; rw [← HQ.out]; simp [restB, *]
        clear HQ
        go_wp2_with fail
        go_ret
        exact ⟨by rw [HZ.out]; rfl, by first | exact hBW | exact (Below.refl _ _).alloc (Nat.le_refl _) _⟩

set_option maxHeartbeats 8000000 in
theorem alone2 (kk : Int) (neg : Bool) (pl : Option Addr) (L : List Int) (cl : Nat) (S : ByteArray) (N : Int) (pk : Option Addr) (n ck : Nat) (w : World) (hl : Sl w (.slice pl L.length cl) L) (hnk : (n : Int) ≤ (ck : Int)) (hck : (ck : Int) ≤ 9223372036854775807) (q : Bool) (hq : aloneK kk neg L S N n = q) (hkk : kk = 2) :
    Calls Tryd.prog 74 #[.agg #[.int .i64 kk, .bool neg, .slice pl L.length cl, .string S, .int .i64 N, .slice pk n ck]] w fun e w' => e = .returned (.bool q) ∧ Below w.heap.size w w' := by
  subst hkk
  have hB := (Below.refl w.heap.size w).alloc (Nat.le_refl _) (.cells #[.int .i64 2, .bool neg, .slice pl L.length cl, .string S, .int .i64 N, .slice pk n ck] 29)
  have ub := Bt.new w (2) neg (.slice pl L.length cl) S N (.slice pk n ck) ⟨_, _, _, rfl⟩ ⟨_, _, _, rfl⟩
  have HQ : Hid ((nameB S && restB neg L.length ⟨#[]⟩ N n) = q) := hq
  clear hq
  obtain ⟨g, hg⟩ : ∃ g, nameB S = g := ⟨_, rfl⟩
  have HG : Hid (nameB S = g) := hg
  rw [hg] at HQ
  clear hg
  go_enter Tryd.func74, Tryd.ntmps74
  go_wp2_with fail
  refine (isName_any S _).mono ?_
  rw [HG.out]
  rintro e w1 ⟨rfl, b1⟩
  replace ub := ub.under b1
  replace hB := hB.trans (b1.mono hB.size)
  clear HG b1
  obtain ⟨a0, a1, a2, a3, a4, a5⟩ := ub.cells
  obtain ⟨f0, f1, f2, f3, f4, f5⟩ := ub.froz
  have hlt := ub.lt
  have hBW : Below w.heap.size w (w1.setCell ⟨w.heap.size, 3, none⟩ (.string ⟨#[]⟩)) := hB.setCell (Nat.le_refl _) _
  have hemp : ((⟨#[]⟩ : ByteArray)).toList.isEmpty = true := by rw [Lib.toList_data]; rfl
  cases g
  · have HZ : Hid (q = false) := by show q = false; rw [← HQ.out]; rfl
    clear HQ
    go_wp2_with fail
    go_ret
    exact ⟨by rw [HZ.out]; rfl, by first | exact hBW | exact (Below.refl _ _).alloc (Nat.le_refl _) _⟩
  · cases neg
    · by_cases hL0 : L.length = 0
      · have hL1 : (L.length : Int) = 0 := by omega
        by_cases hN0 : N = 0
        · subst hN0
          by_cases hK0 : n = 0
          · have hK1 : (n : Int) = 0 := by omega
            have HZ : Hid (q = true) := by show q = true; rw [← HQ.out]; simp [restB, *]
            clear HQ
            go_wp2_with fail
            go_ret
            exact ⟨by rw [HZ.out]; rfl, by first | exact hBW | exact (Below.refl _ _).alloc (Nat.le_refl _) _⟩
          · have hK1 : ¬ (n : Int) = 0 := by omega
            have HZ : Hid (q = false) := by show q = false; rw [← HQ.out]; simp [restB, *]
            clear HQ
            have hKb : ((n : Int) == 0) = false := by simpa using hK0
            go_wp2_with fail
            go_ret
            exact ⟨by rw [HZ.out]; rfl, by first | exact hBW | exact (Below.refl _ _).alloc (Nat.le_refl _) _⟩
        · have HZ : Hid (q = false) := by show q = false; rw [← HQ.out]; simp [restB, *]
          clear HQ
          go_wp2_with fail
          go_ret
          exact ⟨by rw [HZ.out]; rfl, by first | exact hBW | exact (Below.refl _ _).alloc (Nat.le_refl _) _⟩
      · have hL1 : ¬ (L.length : Int) = 0 := by omega
        have HZ : Hid (q = false) := by show q = false; rw [← HQ.out]; simp [restB, *]
        clear HQ
        go_wp2_with fail
        go_ret
        exact ⟨by rw [HZ.out]; rfl, by first | exact hBW | exact (Below.refl _ _).alloc (Nat.le_refl _) _⟩
    · have HZ : Hid (q = false) := by show q = false; rw [← HQ.out]; simp [restB, *]
      clear HQ
      go_wp2_with fail
      go_ret
      exact ⟨by rw [HZ.out]; rfl, by first | exact hBW | exact (Below.refl _ _).alloc (Nat.le_refl _) _⟩

set_option maxHeartbeats 8000000 in
theorem alone3 (kk : Int) (neg : Bool) (pl : Option Addr) (L : List Int) (cl : Nat) (S : ByteArray) (N : Int) (pk : Option Addr) (n ck : Nat) (w : World) (hl : Sl w (.slice pl L.length cl) L) (hnk : (n : Int) ≤ (ck : Int)) (hck : (ck : Int) ≤ 9223372036854775807) (q : Bool) (hq : aloneK kk neg L S N n = q) (hkk : kk = 3) :
    Calls Tryd.prog 74 #[.agg #[.int .i64 kk, .bool neg, .slice pl L.length cl, .string S, .int .i64 N, .slice pk n ck]] w fun e w' => e = .returned (.bool q) ∧ Below w.heap.size w w' := by
  subst hkk
  have hB := (Below.refl w.heap.size w).alloc (Nat.le_refl _) (.cells #[.int .i64 3, .bool neg, .slice pl L.length cl, .string S, .int .i64 N, .slice pk n ck] 29)
  have ub := Bt.new w (3) neg (.slice pl L.length cl) S N (.slice pk n ck) ⟨_, _, _, rfl⟩ ⟨_, _, _, rfl⟩
  have HQ : Hid ((restB neg L.length S N n) = q) := hq
  clear hq
  have hBW := hB
  go_enter Tryd.func74, Tryd.ntmps74
  cases neg
  · by_cases hL0 : L.length = 0
    · have hL1 : (L.length : Int) = 0 := by omega
      cases hS0 : S.toList.isEmpty
      · have HZ : Hid (q = false) := by show q = false; rw [← HQ.out]; simp [restB, *]
        clear HQ
        go_wp2_with fail
        go_ret
        exact ⟨by rw [HZ.out]; rfl, by first | exact hBW | exact (Below.refl _ _).alloc (Nat.le_refl _) _⟩
      · by_cases hN0 : N = 0
        · subst hN0
          by_cases hK0 : n = 0
          · have hK1 : (n : Int) = 0 := by omega
            have HZ : Hid (q = true) := by show q = true; rw [← HQ.out]; simp [restB, *]
            clear HQ
            go_wp2_with fail
            go_ret
            exact ⟨by rw [HZ.out]; rfl, by first | exact hBW | exact (Below.refl _ _).alloc (Nat.le_refl _) _⟩
          · have hK1 : ¬ (n : Int) = 0 := by omega
            have HZ : Hid (q = false) := by show q = false; rw [← HQ.out]; simp [restB, *]
            clear HQ
            have hKb : ((n : Int) == 0) = false := by simpa using hK0
            go_wp2_with fail
            go_ret
            exact ⟨by rw [HZ.out]; rfl, by first | exact hBW | exact (Below.refl _ _).alloc (Nat.le_refl _) _⟩
        · have HZ : Hid (q = false) := by show q = false; rw [← HQ.out]; simp [restB, *]
          clear HQ
          go_wp2_with fail
          go_ret
          exact ⟨by rw [HZ.out]; rfl, by first | exact hBW | exact (Below.refl _ _).alloc (Nat.le_refl _) _⟩
    · have hL1 : ¬ (L.length : Int) = 0 := by omega
      have HZ : Hid (q = false) := by show q = false; rw [← HQ.out]; simp [restB, *]
      clear HQ
      go_wp2_with fail
      go_ret
      exact ⟨by rw [HZ.out]; rfl, by first | exact hBW | exact (Below.refl _ _).alloc (Nat.le_refl _) _⟩
  · have HZ : Hid (q = false) := by show q = false; rw [← HQ.out]; simp [restB, *]
    clear HQ
    go_wp2_with fail
    go_ret
    exact ⟨by rw [HZ.out]; rfl, by first | exact hBW | exact (Below.refl _ _).alloc (Nat.le_refl _) _⟩

set_option maxHeartbeats 8000000 in
theorem alone4 (kk : Int) (neg : Bool) (pl : Option Addr) (L : List Int) (cl : Nat) (S : ByteArray) (N : Int) (pk : Option Addr) (n ck : Nat) (w : World) (hl : Sl w (.slice pl L.length cl) L) (hnk : (n : Int) ≤ (ck : Int)) (hck : (ck : Int) ≤ 9223372036854775807) (q : Bool) (hq : aloneK kk neg L S N n = q) (hkk : kk = 4) :
    Calls Tryd.prog 74 #[.agg #[.int .i64 kk, .bool neg, .slice pl L.length cl, .string S, .int .i64 N, .slice pk n ck]] w fun e w' => e = .returned (.bool q) ∧ Below w.heap.size w w' := by
  subst hkk
  have hB := (Below.refl w.heap.size w).alloc (Nat.le_refl _) (.cells #[.int .i64 4, .bool neg, .slice pl L.length cl, .string S, .int .i64 N, .slice pk n ck] 29)
  have ub := Bt.new w (4) neg (.slice pl L.length cl) S N (.slice pk n ck) ⟨_, _, _, rfl⟩ ⟨_, _, _, rfl⟩
  have HQ : Hid ((decide (n = 2) && restB neg L.length S N 0) = q) := hq
  clear hq
  obtain ⟨a0, a1, a2, a3, a4, a5⟩ := ub.cells
  obtain ⟨f0, f1, f2, f3, f4, f5⟩ := ub.froz
  have hlt := ub.lt
  have hBW : Below w.heap.size w ((w.alloc (.cells #[.int .i64 4, .bool neg, .slice pl L.length cl, .string S, .int .i64 N, .slice pk n ck] 29)).setCell ⟨w.heap.size, 5, none⟩ (.slice none 0 0)) := hB.setCell (Nat.le_refl _) _
  go_enter Tryd.func74, Tryd.ntmps74
  by_cases h2 : n = 2
  · have h2i : (n : Int) = 2 := by omega
    cases neg
    · by_cases hL0 : L.length = 0
      · have hL1 : (L.length : Int) = 0 := by omega
        cases hS0 : S.toList.isEmpty
        · have HZ : Hid (q = false) := by show q = false; rw [← HQ.out]; simp [restB, *]
          clear HQ
          go_wp2_with fail
          go_ret
          exact ⟨by rw [HZ.out]; rfl, by first | exact hBW | exact (Below.refl _ _).alloc (Nat.le_refl _) _⟩
        · by_cases hN0 : N = 0
          · subst hN0
            have HZ : Hid (q = true) := by show q = true; rw [← HQ.out]; simp [restB, *]
            clear HQ
            go_wp2_with fail
            go_ret
            exact ⟨by rw [HZ.out]; rfl, by first | exact hBW | exact (Below.refl _ _).alloc (Nat.le_refl _) _⟩
          · have HZ : Hid (q = false) := by show q = false; rw [← HQ.out]; simp [restB, *]
            clear HQ
            go_wp2_with fail
            go_ret
            exact ⟨by rw [HZ.out]; rfl, by first | exact hBW | exact (Below.refl _ _).alloc (Nat.le_refl _) _⟩
      · have hL1 : ¬ (L.length : Int) = 0 := by omega
        have HZ : Hid (q = false) := by show q = false; rw [← HQ.out]; simp [restB, *]
        clear HQ
        go_wp2_with fail
        go_ret
        exact ⟨by rw [HZ.out]; rfl, by first | exact hBW | exact (Below.refl _ _).alloc (Nat.le_refl _) _⟩
    · have HZ : Hid (q = false) := by show q = false; rw [← HQ.out]; simp [restB, *]
      clear HQ
      go_wp2_with fail
      go_ret
      exact ⟨by rw [HZ.out]; rfl, by first | exact hBW | exact (Below.refl _ _).alloc (Nat.le_refl _) _⟩
  · have h2i : ¬ (n : Int) = 2 := by omega
    have HZ : Hid (q = false) := by show q = false; rw [← HQ.out]; simp [h2]
    clear HQ
    go_wp2_with fail
    go_ret
    exact ⟨by rw [HZ.out]; rfl, by first | exact hBW | exact (Below.refl _ _).alloc (Nat.le_refl _) _⟩

set_option maxHeartbeats 8000000 in
theorem alone5 (kk : Int) (neg : Bool) (pl : Option Addr) (L : List Int) (cl : Nat) (S : ByteArray) (N : Int) (pk : Option Addr) (n ck : Nat) (w : World) (hl : Sl w (.slice pl L.length cl) L) (hnk : (n : Int) ≤ (ck : Int)) (hck : (ck : Int) ≤ 9223372036854775807) (q : Bool) (hq : aloneK kk neg L S N n = q) (hkk : kk = 5) :
    Calls Tryd.prog 74 #[.agg #[.int .i64 kk, .bool neg, .slice pl L.length cl, .string S, .int .i64 N, .slice pk n ck]] w fun e w' => e = .returned (.bool q) ∧ Below w.heap.size w w' := by
  subst hkk
  have hB := (Below.refl w.heap.size w).alloc (Nat.le_refl _) (.cells #[.int .i64 5, .bool neg, .slice pl L.length cl, .string S, .int .i64 N, .slice pk n ck] 29)
  have ub := Bt.new w (5) neg (.slice pl L.length cl) S N (.slice pk n ck) ⟨_, _, _, rfl⟩ ⟨_, _, _, rfl⟩
  have HQ : Hid ((decide (n ≤ 40) && restB neg L.length S N 0) = q) := hq
  clear hq
  obtain ⟨a0, a1, a2, a3, a4, a5⟩ := ub.cells
  obtain ⟨f0, f1, f2, f3, f4, f5⟩ := ub.froz
  have hlt := ub.lt
  have hBW : Below w.heap.size w ((w.alloc (.cells #[.int .i64 5, .bool neg, .slice pl L.length cl, .string S, .int .i64 N, .slice pk n ck] 29)).setCell ⟨w.heap.size, 5, none⟩ (.slice none 0 0)) := hB.setCell (Nat.le_refl _) _
  go_enter Tryd.func74, Tryd.ntmps74
  by_cases h2 : n ≤ 40
  · have h2i : (n : Int) ≤ 40 := by omega
    cases neg
    · by_cases hL0 : L.length = 0
      · have hL1 : (L.length : Int) = 0 := by omega
        cases hS0 : S.toList.isEmpty
        · have HZ : Hid (q = false) := by show q = false; rw [← HQ.out]; simp [restB, *]
          clear HQ
          go_wp2_with fail
          go_ret
          exact ⟨by rw [HZ.out]; rfl, by first | exact hBW | exact (Below.refl _ _).alloc (Nat.le_refl _) _⟩
        · by_cases hN0 : N = 0
          · subst hN0
            have HZ : Hid (q = true) := by show q = true; rw [← HQ.out]; simp [restB, *]
            clear HQ
            go_wp2_with fail
            go_ret
            exact ⟨by rw [HZ.out]; rfl, by first | exact hBW | exact (Below.refl _ _).alloc (Nat.le_refl _) _⟩
          · have HZ : Hid (q = false) := by show q = false; rw [← HQ.out]; simp [restB, *]
            clear HQ
            go_wp2_with fail
            go_ret
            exact ⟨by rw [HZ.out]; rfl, by first | exact hBW | exact (Below.refl _ _).alloc (Nat.le_refl _) _⟩
      · have hL1 : ¬ (L.length : Int) = 0 := by omega
        have HZ : Hid (q = false) := by show q = false; rw [← HQ.out]; simp [restB, *]
        clear HQ
        go_wp2_with fail
        go_ret
        exact ⟨by rw [HZ.out]; rfl, by first | exact hBW | exact (Below.refl _ _).alloc (Nat.le_refl _) _⟩
    · have HZ : Hid (q = false) := by show q = false; rw [← HQ.out]; simp [restB, *]
      clear HQ
      go_wp2_with fail
      go_ret
      exact ⟨by rw [HZ.out]; rfl, by first | exact hBW | exact (Below.refl _ _).alloc (Nat.le_refl _) _⟩
  · have h2i : ¬ (n : Int) ≤ 40 := by omega
    have HZ : Hid (q = false) := by show q = false; rw [← HQ.out]; simp [h2]
    clear HQ
    go_wp2_with fail
    go_ret
    exact ⟨by rw [HZ.out]; rfl, by first | exact hBW | exact (Below.refl _ _).alloc (Nat.le_refl _) _⟩

set_option maxHeartbeats 8000000 in
theorem alone6 (kk : Int) (neg : Bool) (pl : Option Addr) (L : List Int) (cl : Nat) (S : ByteArray) (N : Int) (pk : Option Addr) (n ck : Nat) (w : World) (hl : Sl w (.slice pl L.length cl) L) (hnk : (n : Int) ≤ (ck : Int)) (hck : (ck : Int) ≤ 9223372036854775807) (q : Bool) (hq : aloneK kk neg L S N n = q) (hkk : kk = 6) :
    Calls Tryd.prog 74 #[.agg #[.int .i64 kk, .bool neg, .slice pl L.length cl, .string S, .int .i64 N, .slice pk n ck]] w fun e w' => e = .returned (.bool q) ∧ Below w.heap.size w w' := by
  subst hkk
  have hB := (Below.refl w.heap.size w).alloc (Nat.le_refl _) (.cells #[.int .i64 6, .bool neg, .slice pl L.length cl, .string S, .int .i64 N, .slice pk n ck] 29)
  have ub := Bt.new w (6) neg (.slice pl L.length cl) S N (.slice pk n ck) ⟨_, _, _, rfl⟩ ⟨_, _, _, rfl⟩
  have HQ : Hid ((decide (S.size ≤ 400) && restB neg L.length ⟨#[]⟩ N n) = q) := hq
  clear hq
  obtain ⟨a0, a1, a2, a3, a4, a5⟩ := ub.cells
  obtain ⟨f0, f1, f2, f3, f4, f5⟩ := ub.froz
  have hlt := ub.lt
  have hBW : Below w.heap.size w ((w.alloc (.cells #[.int .i64 6, .bool neg, .slice pl L.length cl, .string S, .int .i64 N, .slice pk n ck] 29)).setCell ⟨w.heap.size, 3, none⟩ (.string ⟨#[]⟩)) := hB.setCell (Nat.le_refl _) _
  have hemp : ((⟨#[]⟩ : ByteArray)).toList.isEmpty = true := by rw [Lib.toList_data]; rfl
  go_enter Tryd.func74, Tryd.ntmps74
  by_cases h2 : S.size ≤ 400
  · have h2i : (S.size : Int) ≤ 400 := by omega
    cases neg
    · by_cases hL0 : L.length = 0
      · have hL1 : (L.length : Int) = 0 := by omega
        by_cases hN0 : N = 0
        · subst hN0
          by_cases hK0 : n = 0
          · have hK1 : (n : Int) = 0 := by omega
            have HZ : Hid (q = true) := by show q = true; rw [← HQ.out]; simp [restB, *]
            clear HQ
            go_wp2_with fail
            go_ret
            exact ⟨by rw [HZ.out]; rfl, by first | exact hBW | exact (Below.refl _ _).alloc (Nat.le_refl _) _⟩
          · have hK1 : ¬ (n : Int) = 0 := by omega
            have HZ : Hid (q = false) := by show q = false; rw [← HQ.out]; simp [restB, *]
            clear HQ
            have hKb : ((n : Int) == 0) = false := by simpa using hK0
            go_wp2_with fail
            go_ret
            exact ⟨by rw [HZ.out]; rfl, by first | exact hBW | exact (Below.refl _ _).alloc (Nat.le_refl _) _⟩
        · have HZ : Hid (q = false) := by show q = false; rw [← HQ.out]; simp [restB, *]
          clear HQ
          go_wp2_with fail
          go_ret
          exact ⟨by rw [HZ.out]; rfl, by first | exact hBW | exact (Below.refl _ _).alloc (Nat.le_refl _) _⟩
      · have hL1 : ¬ (L.length : Int) = 0 := by omega
        have HZ : Hid (q = false) := by show q = false; rw [← HQ.out]; simp [restB, *]
        clear HQ
        go_wp2_with fail
        go_ret
        exact ⟨by rw [HZ.out]; rfl, by first | exact hBW | exact (Below.refl _ _).alloc (Nat.le_refl _) _⟩
    · have HZ : Hid (q = false) := by show q = false; rw [← HQ.out]; simp [restB, *]
      clear HQ
      go_wp2_with fail
      go_ret
      exact ⟨by rw [HZ.out]; rfl, by first | exact hBW | exact (Below.refl _ _).alloc (Nat.le_refl _) _⟩
  · have h2i : ¬ (S.size : Int) ≤ 400 := by omega
    have HZ : Hid (q = false) := by show q = false; rw [← HQ.out]; simp [h2]
    clear HQ
    go_wp2_with fail
    go_ret
    exact ⟨by rw [HZ.out]; rfl, by first | exact hBW | exact (Below.refl _ _).alloc (Nat.le_refl _) _⟩

set_option maxHeartbeats 8000000 in
theorem alone0 (kk : Int) (neg : Bool) (pl : Option Addr) (L : List Int) (cl : Nat) (S : ByteArray) (N : Int) (pk : Option Addr) (n ck : Nat) (w : World) (hl : Sl w (.slice pl L.length cl) L) (hnk : (n : Int) ≤ (ck : Int)) (hck : (ck : Int) ≤ 9223372036854775807) (q : Bool) (hq : aloneK kk neg L S N n = q) (hkk : ¬ kk = 1 ∧ ¬ kk = 2 ∧ ¬ kk = 3 ∧ ¬ kk = 4 ∧ ¬ kk = 5 ∧ ¬ kk = 6) :
    Calls Tryd.prog 74 #[.agg #[.int .i64 kk, .bool neg, .slice pl L.length cl, .string S, .int .i64 N, .slice pk n ck]] w fun e w' => e = .returned (.bool q) ∧ Below w.heap.size w w' := by
  have hB := (Below.refl w.heap.size w).alloc (Nat.le_refl _) (.cells #[.int .i64 kk, .bool neg, .slice pl L.length cl, .string S, .int .i64 N, .slice pk n ck] 29)
  have ub := Bt.new w (kk) neg (.slice pl L.length cl) S N (.slice pk n ck) ⟨_, _, _, rfl⟩ ⟨_, _, _, rfl⟩
  obtain ⟨k1, k2, k3, k4, k5, k6⟩ := hkk
  have HZ : Hid (q = false) := by show q = false; rw [← hq]; simp [aloneK, *]
  have hBW := hB
  clear hq
  go_enter Tryd.func74, Tryd.ntmps74
  go_wp2_with fail
  go_ret
  exact ⟨by rw [HZ.out]; rfl, by first | exact hBW | exact (Below.refl _ _).alloc (Nat.le_refl _) _⟩

theorem fitsAlone_any (t : Tm) (v : Value) (w : World) (h : IsT w t v) : Calls Tryd.prog 74 #[v] w fun e w' => e = .returned (.bool t.alone) ∧ Below w.heap.size w w' := by
  obtain ⟨sl, sk, rfl, hl, hk, -, -, -⟩ := h.open
  obtain ⟨pl, cl, rfl⟩ := hl.shape
  obtain ⟨pk, ck, rfl, hk1, hk2, -⟩ := hk.shape
  have hk1' : (t.kids.length : Int) ≤ (ck : Int) := by omega
  simp only [tmV]
  unfold Tm.alone
  by_cases k1 : t.kind = 1
  · exact alone1 t.kind t.neg pl t.limbs cl t.str t.num pk t.kids.length ck w hl hk1' hk2 _ rfl k1
  · skip
    by_cases k2 : t.kind = 2
    · exact alone2 t.kind t.neg pl t.limbs cl t.str t.num pk t.kids.length ck w hl hk1' hk2 _ rfl k2
    · skip
      by_cases k3 : t.kind = 3
      · exact alone3 t.kind t.neg pl t.limbs cl t.str t.num pk t.kids.length ck w hl hk1' hk2 _ rfl k3
      · skip
        by_cases k4 : t.kind = 4
        · exact alone4 t.kind t.neg pl t.limbs cl t.str t.num pk t.kids.length ck w hl hk1' hk2 _ rfl k4
        · skip
          by_cases k5 : t.kind = 5
          · exact alone5 t.kind t.neg pl t.limbs cl t.str t.num pk t.kids.length ck w hl hk1' hk2 _ rfl k5
          · skip
            by_cases k6 : t.kind = 6
            · exact alone6 t.kind t.neg pl t.limbs cl t.str t.num pk t.kids.length ck w hl hk1' hk2 _ rfl k6
            · skip
              exact alone0 t.kind t.neg pl t.limbs cl t.str t.num pk t.kids.length ck w hl hk1' hk2 _ rfl ⟨k1, k2, k3, k4, k5, k6⟩
end Go.Proofs.YtbmondbicnfcpaaDoor
