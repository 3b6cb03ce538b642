
/-
  limb.takeTimes: takes l, so many times, from the number in a piece of a block of the call's own; limb.Sub: the difference, 0 where the second is above.
-/
import Derived.Test.YtnfnnngdbeplaaaDoorNorm
namespace Go.Proofs.YtnfnnngdbeplaaaDoor
open Go.RowKit
set_option linter.unusedVariables false

def TakePost (w : World) (g : Nat) (P X S L : List Int) (t : Int) (e : Ending) (w' : World) : Prop :=
  But g w w' ∧ ∃ X' c, e = .returned (.bool (c == 0)) ∧ X'.length = X.length ∧ Ok X' ∧ Row w' g (P ++ (X' ++ S)) ∧ 0 ≤ c ∧ c < 4294967296 ∧ V X' + V (L.take X.length) * t = V X + B X.length * c

/-- One round of takeTimes. -/
theorem take_step (X' X L : List Int) (k : Nat) (cc t x l z o : Int) (hk : k < X'.length) (hx : x = X.getD k 0) (hl : l = L.getD k 0)
    (hV : V (X'.take k) + V (L.take k) * t = V (X.take k) + B k * cc) (hz : z + (cc + l * t) = x + 4294967296 * o) :
    V ((X'.set k z).take (k + 1)) + V (L.take (k + 1)) * t = V (X.take (k + 1)) + B (k + 1) * o := by
  rw [take_set_succ _ _ _ hk, V_take_next X, V_take_next L, ← hx, ← hl]
  have e := congrArg (B k * ·) hz
  simp only [Int.mul_add] at e
  simp only [B]
  rw [Int.add_mul, Int.mul_assoc (B k) l t]
  rw [← Int.mul_assoc (B k) 4294967296 o, Int.mul_comm (B k) 4294967296] at e
  omega

set_option maxHeartbeats 2000000 in
theorem take_any (g cap : Nat) (P X S : List Int) (vl : Value) (L : List Int) (t : Int) (w : World) (hr : Row w g (P ++ (X ++ S))) (hX : Ok X) (hc : X.length ≤ cap) (hm : cap ≤ 9223372036854775807)
    (hl : Sl w vl L) (hne : vl.ownBlock ≠ some g) (ht0 : 0 ≤ t) (ht1 : t < 4294967296) :
    Calls Tryd.prog 115 #[.slice (some ⟨g, P.length, none⟩) X.length cap, vl, .int .u32 t] w fun e w' => TakePost w g P X S L t e w' := by
  obtain ⟨al, lcap, rfl⟩ := hl.shape
  go_enter Tryd.func115, Tryd.ntmps115
  go_wp2_with fail
  go_loopw [7, 12] (fun c i wr => ∃ (k : Nat) (cc : Int) (X' : List Int), k ≤ X.length ∧ i = .int .i64 k ∧ c = .int .u64 cc ∧ 0 ≤ cc ∧ cc < 4294967296 ∧ X'.length = X.length ∧ Ok X' ∧ Row wr g (P ++ (X' ++ S)) ∧ But g w wr ∧
      V (X'.take k) + V (L.take k) * t = V (X.take k) + B k * cc ∧ (∀ j, k ≤ j → X'.getD j 0 = X.getD j 0)) (fun _ i _ => X.length - (intOf i).toNat)
  case atStart => exact ⟨0, 0, X, by omega, rfl, rfl, by omega, by omega, rfl, hX, hr, But.refl _ _, by simp [V], fun _ _ => rfl⟩
  case round =>
    obtain ⟨k, cc, X', hk, rfl, rfl, hc0, hc1, hlen, hok, hrow, hbut, hV, hsame⟩ := hrel
    by_cases hkl : k < X.length
    · have hsl := hl.but hbut hne
      have hcell := hrow.cellIn k (by omega)
      have hfr : wr.frozen? ⟨g, P.length + k, none⟩ = false := hrow.frozen _
      obtain ⟨x, hx⟩ : ∃ x, x = X'.getD k 0 := ⟨_, rfl⟩
      have hxb := hok.getD k
      have hxX : Hid (x = X.getD k 0) := hx.trans (hsame k (Nat.le_refl _))
      rw [← hx] at hcell hxb
      clear hx
      have hV' : Hid _ := hV
      have hsame' : Hid _ := hsame
      clear hV hsame
      by_cases hk2 : k < L.length
      · obtain ⟨b, off, rfl, hlk⟩ := hsl.at k hk2
        have hLk := hl.ok.getD k
        obtain ⟨l, hll⟩ : ∃ l, l = L.getD k 0 := ⟨_, rfl⟩
        have hp := prod_bd hLk.1 hLk.2 ht0 ht1
        rw [← hll] at hlk hLk hp
        have hlH : Hid (l = L.getD k 0) := hll
        clear hll hsl
        by_cases hlow : x < (cc + l * t) % 4294967296
        · go_wp2_with fail
          go_roundw
          case rel =>
            exact ⟨k + 1, _, X'.set k _, by omega, by go_num, rfl, by omega, by omega, by simp [hlen], hok.set _ (by omega) (by omega), hrow.setIn _ (by omega) _, hbut.setCell _ _,
              take_step X' X L k cc t x l _ _ (by omega) hxX.out hlH.out hV'.out (by omega), set_same _ _ _ _ hsame'.out⟩
          case measure => simp [intOf]; omega
        · go_wp2_with fail
          go_roundw
          case rel =>
            exact ⟨k + 1, _, X'.set k _, by omega, by go_num, rfl, by omega, by omega, by simp [hlen], hok.set _ (by omega) (by omega), hrow.setIn _ (by omega) _, hbut.setCell _ _,
              take_step X' X L k cc t x l _ _ (by omega) hxX.out hlH.out hV'.out (by omega), set_same _ _ _ _ hsame'.out⟩
          case measure => simp [intOf]; omega
      · have hlH : Hid ((0 : Int) = L.getD k 0) := by show (0 : Int) = L.getD k 0; simp [List.getD, hk2]
        clear hsl
        by_cases hlow : x < (cc) % 4294967296
        · go_wp2_with fail
          go_roundw
          case rel =>
            exact ⟨k + 1, _, X'.set k _, by omega, by go_num, rfl, by omega, by omega, by simp [hlen], hok.set _ (by omega) (by omega), hrow.setIn _ (by omega) _, hbut.setCell _ _,
              take_step X' X L k cc t x 0 _ _ (by omega) hxX.out hlH.out hV'.out (by omega), set_same _ _ _ _ hsame'.out⟩
          case measure => simp [intOf]; omega
        · go_wp2_with fail
          go_roundw
          case rel =>
            exact ⟨k + 1, _, X'.set k _, by omega, by go_num, rfl, by omega, by omega, by simp [hlen], hok.set _ (by omega) (by omega), hrow.setIn _ (by omega) _, hbut.setCell _ _,
              take_step X' X L k cc t x 0 _ _ (by omega) hxX.out hlH.out hV'.out (by omega), set_same _ _ _ _ hsame'.out⟩
          case measure => simp [intOf]; omega
    · obtain rfl : k = X.length := by omega
      have HV : Hid _ := hV
      clear hV hsame
      go_wp2_with fail
      go_ret
      refine ⟨hbut, X', cc, rfl, hlen, hok, hrow, hc0, hc1, ?_⟩
      have := HV.out
      rwa [List.take_of_length_le (l := X') (by omega), List.take_of_length_le (l := X) (by omega)] at this

theorem take_at (g off n cap : Nat) (P X S : List Int) (vl : Value) (L : List Int) (t : Int) (w : World) (hr : Row w g (P ++ (X ++ S))) (hP : P.length = off) (hn : X.length = n) (hX : Ok X) (hc : n ≤ cap) (hm : cap ≤ 9223372036854775807)
    (hl : Sl w vl L) (hne : vl.ownBlock ≠ some g) (ht0 : 0 ≤ t) (ht1 : t < 4294967296) :
    Calls Tryd.prog 115 #[.slice (some ⟨g, off, none⟩) n cap, vl, .int .u32 t] w fun e w' => TakePost w g P X S L t e w' := by
  subst hP; subst hn
  exact take_any g cap P X S vl L t w hr hX hc hm hl hne ht0 ht1

/-- The difference; 0, if the second is above. -/
def subV (x y : Int) : Int := if y ≤ x then x - y else 0
theorem subV_ge {x y : Int} (h : y ≤ x) : subV x y = x - y := if_pos h
theorem subV_le {x y : Int} (h : x ≤ y) : subV x y = 0 := by
  unfold subV
  by_cases h : y ≤ x
  · rw [if_pos h]; omega
  · rw [if_neg h]

theorem sub_math (A C X' : List Int) (c : Int) (hA : Ok A) (hC : Ok C) (hX : Ok X') (hl : C.length ≤ A.length) (hx : X'.length = A.length) (h0 : 0 ≤ c) (hle : V C ≤ V A)
    (h : V X' + V (C.take A.length) * 1 = V A + B A.length * c) : V X' = V A - V C := by
  rw [List.take_of_length_le hl, Int.mul_one] at h
  have h1 := V_lt hX
  rw [hx] at h1
  have h4 := V_nonneg hA
  by_cases hc : c = 0
  · subst hc; omega
  · have : B A.length * 1 ≤ B A.length * c := Int.mul_le_mul_of_nonneg_left (by omega) (Int.le_of_lt (B_pos _))
    omega

end Go.Proofs.YtnfnnngdbeplaaaDoor
