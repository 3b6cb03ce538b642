
/-
  arena: New, Size, Used, isUsed, Word, Set, Alloc.
-/
import Derived.Test.YtgdlilgkbjiiaaaArBase
namespace Go.Proofs.Ytgdlilgkbjiiaaa
open Go.RowKit
set_option linter.unusedVariables false
set_option linter.unusedSimpArgs false

/-- What New answers. -/
def NewA (m : Nat) (w : World) (e : Ending) (w' : World) : Prop :=
  ∃ p b, e = .returned (.pointer (some ⟨p, 0, none⟩)) ∧ w.heap.size ≤ b ∧ b < p ∧ Ar w' p b [] m ∧ Below w.heap.size w w'
/-- A size, cut. -/
def cutA (n : Int) : Nat := (min (max n 0) 32768).toNat

set_option maxRecDepth 100000 in
theorem anew_any (n : Int) (w : World) (h1 : -9223372036854775808 ≤ n) (h2 : n ≤ 9223372036854775807) :
    Calls Try.prog 6 #[.int .i64 n] w fun e w' => NewA (cutA n) w e w' := by
  obtain ⟨M, hM⟩ : ∃ M, (if n < 0 then 0 else n) = M := ⟨_, rfl⟩
  obtain ⟨m, hm⟩ : ∃ m, m = cutA n := ⟨_, rfl⟩
  have hc : (if 32768 < M then 32768 else M) = (m : Int) := by rw [← hM, hm]; unfold cutA; split <;> split <;> omega
  have hm2 : m ≤ 32768 := by rw [hm]; unfold cutA; omega
  rw [← hm]
  clear hm
  go_enter Try.func6, Try.ntmps6
  go_wp2_with (first | (refine wpList_make_u64 rfl _ _ rfl _ _ m rfl rfl rfl rfl (by omega) ?_; intro w1 hr hb hlt) | fail)
  go_ret
  refine ⟨w1.heap.size, w.heap.size, rfl, Nat.le_refl _, hlt, ⟨heap_alloc_new _ _, ?_, Nat.zero_le _, hm2, Q8.nil⟩, hb.alloc (by omega) _⟩
  rw [Below.heap_alloc _ _ _ hlt, hr]; rfl

theorem aused_any (w : World) (p b S : Nat) (W : List Int) (h : Ar w p b W S) :
    Calls Try.prog 13 #[.pointer (some ⟨p, 0, none⟩)] w fun e w' => e = .returned (.int .i64 (W.length : Int)) ∧ w = w' := by
  obtain ⟨c0, -⟩ := h.facts
  clear h
  go_enter Try.func13, Try.ntmps13
  go_wp2_with fail
  go_ret
  exact ⟨rfl, rfl⟩

theorem asize_any (w : World) (p b S : Nat) (W : List Int) (h : Ar w p b W S) :
    Calls Try.prog 14 #[.pointer (some ⟨p, 0, none⟩)] w fun e w' => e = .returned (.int .i64 (S : Int)) ∧ w = w' := by
  obtain ⟨c0, -⟩ := h.facts
  clear h
  go_enter Try.func14, Try.ntmps14
  go_wp2_with fail
  go_ret
  exact ⟨rfl, rfl⟩

theorem aisUsed_no (w : World) (p b S : Nat) (W : List Int) (at' : Int) (h : Ar w p b W S) (h0 : at' < 0 ∨ (W.length : Int) ≤ at') :
    Calls Try.prog 24 #[.pointer (some ⟨p, 0, none⟩), .int .i64 at'] w fun e w' => e = .returned (.bool false) ∧ w = w' := by
  obtain ⟨c0, -⟩ := h.facts
  clear h
  by_cases hn : at' < 0
  · have hn2 : ¬ 0 ≤ at' := by omega
    clear h0
    go_enter Try.func24, Try.ntmps24
    go_wp2_with fail
    go_ret
    exact ⟨rfl, rfl⟩
  · have hn2 : 0 ≤ at' := by omega
    have hl : ¬ at' < (W.length : Int) := by omega
    clear h0 hn
    go_enter Try.func24, Try.ntmps24
    go_wp2_with fail
    go_ret
    exact ⟨rfl, rfl⟩

theorem aisUsed_yes (w : World) (p b S : Nat) (W : List Int) (i : Nat) (h : Ar w p b W S) (hi : i < W.length) :
    Calls Try.prog 24 #[.pointer (some ⟨p, 0, none⟩), .int .i64 (i : Int)] w fun e w' => e = .returned (.bool true) ∧ w = w' := by
  obtain ⟨c0, -⟩ := h.facts
  have hl : (i : Int) < (W.length : Int) := by omega
  clear h
  go_enter Try.func24, Try.ntmps24
  go_wp2_with fail
  go_ret
  exact ⟨rfl, rfl⟩

/-- What Word answers. -/
def wordS (W : List Int) (at' : Int) : Int := if 0 ≤ at' ∧ at' < (W.length : Int) then W.getD at'.toNat 0 else 0
/-- The words behind Set. -/
def setS (W : List Int) (at' x : Int) : List Int := if 0 ≤ at' ∧ at' < (W.length : Int) then W.set at'.toNat x else W
theorem setS_len (W : List Int) (at' x : Int) : (setS W at' x).length = W.length := by unfold setS; split <;> simp

theorem aword_any (w : World) (p b S : Nat) (W : List Int) (at' : Int) (h : Ar w p b W S) :
    Calls Try.prog 15 #[.pointer (some ⟨p, 0, none⟩), .int .i64 at'] w fun e w' => e = .returned (.int .u64 (wordS W at')) ∧ w = w' := by
  obtain ⟨c0, -⟩ := h.facts
  by_cases hi : 0 ≤ at' ∧ at' < (W.length : Int)
  · have hw : wordS W at' = W.getD at'.toNat 0 := if_pos hi
    obtain ⟨i, rfl⟩ : ∃ i : Nat, at' = (i : Int) := ⟨at'.toNat, by omega⟩
    have hi2 : i < W.length := by omega
    obtain ⟨c1, -⟩ := h.cell i hi2
    obtain ⟨z, hz⟩ : ∃ z, z = W.getD i 0 := ⟨_, rfl⟩
    rw [← hz] at c1
    have HU : Hid (∀ w, Ar w p b W S → Calls Try.prog 24 #[.pointer (some ⟨p, 0, none⟩), .int .i64 (i : Int)] w fun e w' => e = .returned (.bool true) ∧ w = w') := fun w hw => aisUsed_yes w p b S W i hw hi2
    have HA : Hid (Ar w p b W S) := h
    rw [hw, show (i : Int).toNat = i by omega, ← hz]
    clear h hw hi hz
    go_enter Try.func15, Try.ntmps15
    go_wp2_with fail
    refine (HU.out _ HA.out).mono ?_
    rintro e w1 ⟨rfl, rfl⟩
    go_wp2_with fail
    go_ret
    exact ⟨rfl, rfl⟩
  · have hw : wordS W at' = 0 := if_neg hi
    have HU : Hid (Calls Try.prog 24 #[.pointer (some ⟨p, 0, none⟩), .int .i64 at'] w fun e w' => e = .returned (.bool false) ∧ w = w') := aisUsed_no w p b S W at' h (by omega)
    rw [hw]
    clear h hw hi
    go_enter Try.func15, Try.ntmps15
    go_wp2_with fail
    refine HU.out.mono ?_
    rintro e w1 ⟨rfl, rfl⟩
    go_wp2_with fail
    go_ret
    exact ⟨rfl, rfl⟩

/-- What Set leaves. -/
def SetA (w : World) (p b S : Nat) (W : List Int) (at' x : Int) (e : Ending) (w' : World) : Prop :=
  e = .returned (.tuple #[]) ∧ Ar w' p b (setS W at' x) S ∧ Ot b w w' ∧ w'.heap.size = w.heap.size

theorem aset_any (w : World) (p b S : Nat) (W : List Int) (at' x : Int) (h : Ar w p b W S) (hx : 0 ≤ x ∧ x < 18446744073709551616) :
    Calls Try.prog 11 #[.pointer (some ⟨p, 0, none⟩), .int .i64 at', .int .u64 x] w fun e w' => SetA w p b S W at' x e w' := by
  obtain ⟨c0, -⟩ := h.facts
  unfold SetA
  by_cases hi : 0 ≤ at' ∧ at' < (W.length : Int)
  · have hw : setS W at' x = W.set at'.toNat x := if_pos hi
    obtain ⟨i, rfl⟩ : ∃ i : Nat, at' = (i : Int) := ⟨at'.toNat, by omega⟩
    have hi2 : i < W.length := by omega
    obtain ⟨c1, c2⟩ := h.cell i hi2
    have HU : Hid (Calls Try.prog 24 #[.pointer (some ⟨p, 0, none⟩), .int .i64 (i : Int)] w fun e w' => e = .returned (.bool true) ∧ w = w') := aisUsed_yes w p b S W i h hi2
    have HS : Hid (Ar (w.setCell ⟨b, i, none⟩ (.int .u64 x)) p b (W.set i x) S) := h.set i hi2 x hx
    rw [hw, show (i : Int).toNat = i by omega]
    clear h hw hi
    go_enter Try.func11, Try.ntmps11
    go_wp2_with fail
    refine HU.out.mono ?_
    rintro e w1 ⟨rfl, rfl⟩
    go_wp2_with fail
    go_end0
    exact ⟨rfl, HS.out, Ot.set _ _ _ _, by simp [World.setCell]⟩
  · have hw : setS W at' x = W := if_neg hi
    have HU : Hid (Calls Try.prog 24 #[.pointer (some ⟨p, 0, none⟩), .int .i64 at'] w fun e w' => e = .returned (.bool false) ∧ w = w') := aisUsed_no w p b S W at' h (by omega)
    have HA : Hid (Ar w p b W S) := h
    rw [hw]
    clear h hw hi
    go_enter Try.func11, Try.ntmps11
    go_wp2_with fail
    refine HU.out.mono ?_
    rintro e w1 ⟨rfl, rfl⟩
    go_wp2_with fail
    go_end0
    exact ⟨rfl, HA.out, Ot.refl _ _, rfl⟩

/-- What Alloc answers where there is room, and where there is none. -/
def AllocYes (w : World) (p b S : Nat) (W : List Int) (m : Nat) (e : Ending) (w' : World) : Prop :=
  e = .returned (.tuple #[.int .i64 (W.length : Int), .bool true]) ∧ Ar w' p b (W ++ zq m) S ∧ Ot p w w' ∧ w'.heap.size = w.heap.size

theorem aalloc_yes (w : World) (p b S : Nat) (W : List Int) (m : Nat) (h : Ar w p b W S) (hm : m ≤ S - W.length) :
    Calls Try.prog 9 #[.pointer (some ⟨p, 0, none⟩), .int .i64 (m : Int)] w fun e w' => AllocYes w p b S W m e w' := by
  obtain ⟨c0, c1⟩ := h.facts
  have hf := h.fit
  have hl := h.lim
  have HU : Hid (∀ w, Ar w p b W S → Calls Try.prog 13 #[.pointer (some ⟨p, 0, none⟩)] w fun e w' => e = .returned (.int .i64 (W.length : Int)) ∧ w = w') := fun w hw => aused_any w p b S W hw
  have HZ : Hid (∀ w, Ar w p b W S → Calls Try.prog 14 #[.pointer (some ⟨p, 0, none⟩)] w fun e w' => e = .returned (.int .i64 (S : Int)) ∧ w = w') := fun w hw => asize_any w p b S W hw
  have HA : Hid (Ar w p b W S) := h
  have hmi : (m : Int) ≤ (S : Int) - (W.length : Int) := by omega
  have HS : Hid (Ar (w.setCell ⟨p, 0, none⟩ (.slice (some ⟨b, 0, none⟩) (W.length + m) S)) p b (W ++ zq m) S) := h.more m (by omega)
  have hs1 : (W.length : Int) + (m : Int) ≤ (S : Int) := by omega
  clear h hm
  go_enter Try.func9, Try.ntmps9
  go_wp2_with fail
  refine (HU.out _ HA.out).mono ?_
  rintro e w1 ⟨rfl, rfl⟩
  go_wp2_with fail
  refine (HZ.out _ HA.out).mono ?_
  rintro e w1 ⟨rfl, rfl⟩
  go_wp2_with fail
  go_ret2
  exact ⟨rfl, HS.out, Ot.set _ _ _ _, by simp [World.setCell]⟩

theorem aalloc_no (w : World) (p b S : Nat) (W : List Int) (n : Int) (h : Ar w p b W S) (hi : n < 0 ∨ (S : Int) - (W.length : Int) < n) :
    Calls Try.prog 9 #[.pointer (some ⟨p, 0, none⟩), .int .i64 n] w fun e w' => e = .returned (.tuple #[.int .i64 0, .bool false]) ∧ w = w' := by
  have hf := h.fit
  have hl := h.lim
  have HU : Hid (∀ w, Ar w p b W S → Calls Try.prog 13 #[.pointer (some ⟨p, 0, none⟩)] w fun e w' => e = .returned (.int .i64 (W.length : Int)) ∧ w = w') := fun w hw => aused_any w p b S W hw
  have HZ : Hid (∀ w, Ar w p b W S → Calls Try.prog 14 #[.pointer (some ⟨p, 0, none⟩)] w fun e w' => e = .returned (.int .i64 (S : Int)) ∧ w = w') := fun w hw => asize_any w p b S W hw
  have HA : Hid (Ar w p b W S) := h
  clear h
  by_cases hn : n < 0
  · clear hi
    go_enter Try.func9, Try.ntmps9
    go_wp2_with fail
    refine (HU.out _ HA.out).mono ?_
    rintro e w1 ⟨rfl, rfl⟩
    go_wp2_with fail
    refine (HZ.out _ HA.out).mono ?_
    rintro e w1 ⟨rfl, rfl⟩
    go_wp2_with fail
    go_ret2
    exact ⟨rfl, rfl⟩
  · have hn2 : (S : Int) - (W.length : Int) < n := by omega
    clear hi
    go_enter Try.func9, Try.ntmps9
    go_wp2_with fail
    refine (HU.out _ HA.out).mono ?_
    rintro e w1 ⟨rfl, rfl⟩
    go_wp2_with fail
    refine (HZ.out _ HA.out).mono ?_
    rintro e w1 ⟨rfl, rfl⟩
    go_wp2_with fail
    go_ret2
    exact ⟨rfl, rfl⟩
end Go.Proofs.Ytgdlilgkbjiiaaa
