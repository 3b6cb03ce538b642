/-
  num.oneLess, num.oneMore, num.turned.
-/
import Derived.Test.YtmhcgdigccaogaaNumDiv
import Derived.Test.YtmhcgdigccaogaaBitMath
namespace Go.Proofs.Ytmhcgdigccaogaa
open Go.RowKit
set_option linter.unusedVariables false

set_option maxHeartbeats 1000000 in
theorem oneMore_any (va : Value) (a : List Int) (w : World) (ha : Sl w va a) (hla : a.length ≤ 1000) : Calls Try.prog 64 #[va] w fun e w' => NumPost w (V a + 1) (a.length + 2) e w' := by
  obtain ⟨p, c, rfl⟩ := ha.shape
  have sl := sl_lit w 1 (by decide) (by decide)
  have hb := (Below.refl w.heap.size w).alloc (Nat.le_refl _) (.cells #[.int .u32 1] 53)
  go_enter Try.func64, Try.ntmps64
  go_wp2_with fail
  refine (add_any _ _ a [1] _ (ha.below hb) sl (by omega) (by simp)).mono ?_
  rintro e w1 ⟨v1, z1, rfl, s1, m1, x1, l1, b1, k1⟩
  go_wp2_with fail
  go_ret
  exact ⟨v1, z1, rfl, s1, m1, x1, l1, hb.trans (b1.mono hb.size), fun k hk => Nat.le_trans hb.size (k1 k hk)⟩

set_option maxHeartbeats 1000000 in
theorem oneLess_any (va : Value) (a : List Int) (w : World) (ha : Sl w va a) (hla : a.length ≤ 1000) : Calls Try.prog 66 #[va] w fun e w' => NumPost w (subV (V a) 1) a.length e w' := by
  obtain ⟨p, c, rfl⟩ := ha.shape
  have sl := sl_lit w 1 (by decide) (by decide)
  have hb := (Below.refl w.heap.size w).alloc (Nat.le_refl _) (.cells #[.int .u32 1] 53)
  go_enter Try.func66, Try.ntmps66
  go_wp2_with fail
  refine (sub_any _ _ a [1] _ (ha.below hb) sl (by omega) (by simp)).mono ?_
  rintro e w1 ⟨v1, z1, rfl, s1, m1, x1, l1, b1, k1⟩
  go_wp2_with fail
  go_ret
  exact ⟨v1, z1, rfl, s1, m1, x1, l1, hb.trans (b1.mono hb.size), fun k hk => Nat.le_trans hb.size (k1 k hk)⟩

/-- Each bit turned. -/
def TurnPost (w : World) (a : List Int) (e : Ending) (w' : World) : Prop :=
  ∃ g Z, e = .returned (.slice (some ⟨g, 0, none⟩) a.length a.length) ∧ Row w' g Z ∧ Ok Z ∧ Z.length = a.length ∧ (∀ i, i < a.length → Z.getD i 0 = 4294967295 - a.getD i 0) ∧ Below w.heap.size w w' ∧ w.heap.size ≤ g

theorem V_turned {a Z : List Int} (hl : Z.length = a.length) (h : ∀ i, i < a.length → Z.getD i 0 = 4294967295 - a.getD i 0) : V Z = B a.length - 1 - V a := by
  induction a generalizing Z with
  | nil =>
    cases Z with
    | nil => rfl
    | cons z t => simp at hl
  | cons x t ih =>
    cases Z with
    | nil => simp at hl
    | cons z u =>
      have h0 := h 0 (by simp)
      have := ih (Z := u) (by simpa using hl) (fun i hi => by have := h (i + 1) (by simpa using hi); simpa using this)
      simp at h0
      simp only [V, List.length_cons, B, this]
      omega

theorem not_nat (x : Nat) (h : x < 4294967296) : 4294967295 ^^^ x = 4294967295 - x := by
  have hp : (2 : Nat) ^ 32 = 4294967296 := by decide
  apply Nat.eq_of_testBit_eq
  intro i
  rw [Nat.testBit_xor, show (4294967295 : Nat) = 2 ^ 32 - 1 by decide, show 2 ^ 32 - 1 - x = 2 ^ 32 - (x + 1) by omega, Nat.testBit_two_pow_sub_one, Nat.testBit_two_pow_sub_succ (by omega)]
  by_cases hi : i < 32
  · simp [hi]
  · have : x.testBit i = false := Nat.testBit_lt_two_pow (Nat.lt_of_lt_of_le (show x < 2 ^ 32 by omega) (Nat.pow_le_pow_right (by decide) (by omega)))
    simp [hi, this]

theorem not_u32 (x : Int) (h0 : 0 ≤ x) (h1 : x < 4294967296) : bits BinOp.xor IntKind.u32 (if IntKind.u32.signed = true then -1 else IntKind.u32.max) x = 4294967295 - x := by
  have e : (if IntKind.u32.signed = true then -1 else IntKind.u32.max) = 4294967295 := by decide
  rw [e]
  obtain ⟨X, rfl⟩ := Int.eq_ofNat_of_zero_le h0
  rw [show (4294967295 : Int) = ((4294967295 : Nat) : Int) from rfl, u32_xor_nat _ _ (by decide) (by omega), not_nat X (by omega)]
  omega

set_option maxHeartbeats 2000000 in
theorem turned_any (va : Value) (a : List Int) (w : World) (ha : Sl w va a) (hla : a.length ≤ 1000) : Calls Try.prog 84 #[va] w fun e w' => TurnPost w a e w' := by
  obtain ⟨p, c, rfl⟩ := ha.shape
  go_enter Try.func84, Try.ntmps84
  go_wp2_with (first | (at_make; refine wpList_make_u32 rfl _ _ rfl _ _ a.length rfl rfl (by omega) (by omega) (by omega) ?_; intro w1 hrow1 hbel1) | fail)
  go_loopw [11] (fun i wr => ∃ (k : Nat) (Z : List Int), k ≤ a.length ∧ i = .int .i64 k ∧ Z.length = a.length ∧ Ok Z ∧ Row wr w.heap.size Z ∧ Below w.heap.size w wr ∧ ∀ j, j < k → Z.getD j 0 = 4294967295 - a.getD j 0) (fun i _ => a.length - (intOf i).toNat)
  case atStart => exact ⟨0, zer a.length, by omega, rfl, zer_len _, zer_ok _, hrow1, hbel1, fun j hj => by omega⟩
  case round =>
    obtain ⟨k, Z, hk, rfl, hZl, hZok, hrow, hbel, hz⟩ := hrel
    by_cases hkl : k < a.length
    · obtain ⟨b, off, rfl, hc⟩ := (ha.below hbel).at k hkl
      have hx := ha.ok.getD k
      have hc1 := hrow.cell k (by omega)
      have hf1 := hrow.frozen k
      obtain ⟨x, hxx⟩ : ∃ x, x = a.getD k 0 := ⟨_, rfl⟩
      rw [← hxx] at hc hx
      obtain ⟨y, hy⟩ : ∃ y, y = 4294967295 - x := ⟨_, rfl⟩
      have ho := not_u32 x hx.1 hx.2
      rw [← hy] at ho
      have HX : Hid (y = 4294967295 - a.getD k 0) := by rw [← hxx]; exact hy
      have hy0 : 0 ≤ y := by omega
      have hy1 : y < 4294967296 := by omega
      have HZ : Hid _ := hz
      clear hxx hz hy
      have hkl' : (k : Int) < (a.length : Int) := by omega
      go_wp2_with fail
      go_roundw
      case rel =>
        refine ⟨k + 1, Z.set k y, by omega, by go_num, by simpa using hZl, hZok.set k hy0 hy1, hrow.set k y, hbel.setCell (p := ⟨w.heap.size, k, none⟩) (Nat.le_refl _) _, fun j hj => ?_⟩
        by_cases e : j = k
        · subst e
          rw [← HX.out]
          simp [List.getD, show j < Z.length by omega]
        · rw [← HZ.out j (by omega)]
          simp only [List.getD_eq_getElem?_getD]
          rw [List.getElem?_set_ne (by omega)]
      case measure => simp [intOf]; omega
    · obtain rfl : k = a.length := by omega
      have HZ : Hid _ := hz
      clear hz
      go_wp2_with fail
      go_ret
      exact ⟨w.heap.size, Z, rfl, hrow, hZok, hZl, HZ.out, hbel, Nat.le_refl _⟩
end Go.Proofs.Ytmhcgdigccaogaa
