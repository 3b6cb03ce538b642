
/-
  slices.Reverse of a row of bytes of the caller's own.
-/
import Derived.Test.YtnfnnngdbeplaaaDoorNumDigs
import Derived.RegionTactic
import Derived.BigRegion
namespace Go.Proofs.YtnfnnngdbeplaaaDoor
open Go.RowKit
set_option linter.unusedVariables false

/-- So far from both ends the row is turned round. -/
def RevRel (D X : List Int) (k : Nat) : Prop := X.length = D.length ∧ ∀ p, p < D.length → X.getD p 0 = if p < k ∨ D.length - 1 - k < p then D.getD (D.length - 1 - p) 0 else D.getD p 0

theorem RevRel.step {D X : List Int} {k : Nat} (h : RevRel D X k) (hk : k < D.length - 1 - k) {x y : Int} (hx : x = X.getD k 0) (hy : y = X.getD (D.length - 1 - k) 0) : RevRel D ((X.set k y).set (D.length - 1 - k) x) (k + 1) := by
  obtain ⟨h1, h2⟩ := h
  refine ⟨by simpa using h1, fun p hp => ?_⟩
  have hk2 := h2 k (by omega)
  rw [if_neg (by omega)] at hk2
  have hj2 := h2 (D.length - 1 - k) (by omega)
  rw [if_neg (by omega)] at hj2
  by_cases e1 : p = D.length - 1 - k
  · rw [e1, getD_set_eq' _ _ _ (by simp; omega), if_pos (by omega), hx, hk2]
    congr 1
    omega
  · rw [getD_set_ne' _ _ _ _ e1]
    by_cases e2 : p = k
    · rw [e2, getD_set_eq' _ _ _ (by omega), if_pos (by omega), hy, hj2]
    · rw [getD_set_ne' _ _ _ _ e2, h2 p hp]
      by_cases c : p < k ∨ D.length - 1 - k < p
      · rw [if_pos c, if_pos (by omega)]
      · rw [if_neg c, if_neg (by omega)]

theorem RevRel.end {D X : List Int} {k : Nat} (h : RevRel D X k) (hk : ¬ (k < D.length - 1 - k)) : X = D.reverse := by
  obtain ⟨h1, h2⟩ := h
  apply List.ext_getElem (by simpa using h1)
  intro p hp hp'
  have e := h2 p (by omega)
  rw [List.getElem_reverse]
  have e1 : X.getD p 0 = X[p] := by simp [List.getD, hp]
  rw [e1] at e
  rw [e]
  by_cases c : p < k ∨ D.length - 1 - k < p
  · rw [if_pos c]; simp [List.getD, show D.length - 1 - p < D.length by omega]
  · rw [if_neg c]
    have : p = D.length - 1 - p := by omega
    simp only [List.getD]
    rw [List.getElem?_eq_getElem (by omega)]
    simp
    congr 1

set_option maxHeartbeats 4000000 in
theorem reverse_own (g cap base : Nat) (D : List Int) (w : World) (hlen : D.length ≤ 100000) (ho : OwnB w base (.slice (some ⟨g, 0, none⟩) D.length cap) D) :
    Calls Tryd.prog 82 #[.slice (some ⟨g, 0, none⟩) D.length cap] w fun e w' => e = .returned (.tuple #[]) ∧ OwnB w' base (.slice (some ⟨g, 0, none⟩) D.length cap) D.reverse ∧ Below g w w' := by
  go_enter Tryd.func82, Tryd.ntmps82
  go_wp2_with fail
  go_loopw [2, 3] (fun i j wr => ∃ (k : Nat) (X : List Int), i = .int .i64 k ∧ j = .int .i64 ((D.length : Int) - 1 - (k : Int)) ∧ k ≤ D.length ∧ RevRel D X k ∧ wr.ownsRow base 5 1 (.slice (some ⟨g, 0, none⟩) D.length cap) D.length (X.map (Value.int .u8)) ∧ Below g w wr) (fun i _ _ => D.length - (intOf i).toNat)
  case atStart => exact ⟨0, D, rfl, by go_num, by omega, ⟨rfl, fun p hp => by rw [if_neg (by omega)]⟩, ho, Below.refl _ _⟩
  case round =>
    obtain ⟨k, X, rfl, rfl, hk, hR, hown, hbel⟩ := hrel
    by_cases hkj : k < D.length - 1 - k
    · obtain ⟨j, hj⟩ : ∃ j, j = D.length - 1 - k := ⟨_, rfl⟩
      have hji : (D.length : Int) - 1 - (k : Int) = (j : Int) := by omega
      rw [hji]
      have c1 := hown.cellAt k (by omega)
      have c2 := hown.cellAt j (by omega)
      have f1 := hown.frozenAt k
      have f2 := hown.frozenAt j
      have hXl := hR.1
      obtain ⟨x, hx⟩ : ∃ x, x = X.getD k 0 := ⟨_, rfl⟩
      obtain ⟨y, hy⟩ : ∃ y, y = X.getD j 0 := ⟨_, rfl⟩
      have e1 : (X.map (Value.int .u8))[k]? = some (Value.int .u8 x) := by rw [hx]; simp [List.getD, show k < X.length by omega]
      have e2 : (X.map (Value.int .u8))[j]? = some (Value.int .u8 y) := by rw [hy]; simp [List.getD, show j < X.length by omega]
      rw [e1] at c1
      rw [e2] at c2
      have HR : Hid (RevRel D ((X.set k y).set j x) (k + 1)) := by
        have h := hR.step hkj (x := x) (y := y) hx (by rw [hy, hj])
        rw [← hj] at h; exact h
      have hkj' : (k : Int) < (j : Int) := by omega
      have hjl : (j : Int) < (D.length : Int) := by omega
      have hne : k ≠ j := by omega
      have hne2 : j ≠ k := by omega
      have HJ : Hid (j + k + 1 = D.length) := by show j + k + 1 = D.length; omega
      clear e1 e2 hx hy hR hj hkj hji
      go_wp2_with fail
      go_region
      have s1 := hown.stored k (.int .u8 y)
      have s2 := s1.1.stored j (.int .u8 x)
      have hb1 := hbel.setCell (p := ⟨g, k, none⟩) (Nat.le_refl _) (.int .u8 y)
      have hb2 := hb1.setCell (p := ⟨g, j, none⟩) (Nat.le_refl _) (.int .u8 x)
      go_wp2_with fail
      go_roundw
      case rel =>
        refine ⟨k + 1, (X.set k y).set j x, by go_num, congrArg (Value.int .i64) (by have := HJ.out; omega), by omega, HR.out, ?_, hb2.drew⟩
        have := s2.1
        rw [← List.map_set, ← List.map_set] at this
        exact this
      case measure => simp [intOf]; omega
    · have hnot : ¬ ((k : Int) < (D.length : Int) - 1 - (k : Int)) := by omega
      have HE : Hid (X = D.reverse) := hR.end hkj
      clear hR
      go_wp2_with fail
      go_end0
      refine ⟨rfl, ?_, hbel⟩
      rw [← HE.out]
      unfold OwnB
      have hl : X.length = D.length := by rw [HE.out]; simp
      rw [hl]
      exact hown
end Go.Proofs.YtnfnnngdbeplaaaDoor
