
/-
  limb.Shl, limb.Shr: a number times 2^n (n cut to from 0 to 4096), by 2^n, cut (n below 0 as 0).
-/
import Derived.Test.YtnfnnngdbeplaaaDoorLower
namespace Go.Proofs.YtnfnnngdbeplaaaDoor
open Go.RowKit
set_option linter.unusedVariables false

/-- n as Shl takes it. -/
def upN (n : Int) : Nat := (min (max n 0) 4096).toNat
/-- n as Shr takes it. -/
def downN (n : Int) : Nat := (max n 0).toNat

theorem upN_neg {n : Int} (h : n < 0) : upN n = 0 := by unfold upN; omega
theorem upN_mid {n : Int} (h : 0 ≤ n) (h2 : n ≤ 4096) : upN n = n.toNat := by unfold upN; omega
theorem upN_big {n : Int} (h : 4096 < n) : upN n = 4096 := by unfold upN; omega

/-- A slice is answered, in new memory or nil: its number is x. -/
def MidPost (w : World) (x : Int) (l : Nat) (e : Ending) (w2 : World) : Prop :=
  ∃ v Z, e = .returned v ∧ Sl w2 v Z ∧ V Z = x ∧ Z.length ≤ l ∧ Below w.heap.size w w2 ∧ (∀ k, v.ownBlock = some k → w.heap.size ≤ k)

theorem RaisePost.mid {w w2 : World} {x : Int} {l m : Nat} {e : Ending} (h : RaisePost w x m e w2) (hm : m ≤ l) (hl : l ≤ 2000000) : MidPost w x l e w2 := by
  obtain ⟨g, Z, rfl, h1, h2, h3, h4, h5, h6⟩ := h
  have := h3.all h2 (by omega)
  rw [h1] at this
  exact ⟨_, Z, rfl, this, h4, by omega, h5, fun k hk => by simp [Value.ownBlock] at hk; omega⟩

theorem LowerPost.mid {w w2 : World} {x : Int} {l : Nat} {e : Ending} (h : LowerPost w x l e w2) (hl : l ≤ 1000000) : MidPost w x l e w2 := by
  obtain ⟨hb, h⟩ := h
  rcases h with ⟨rfl, rfl⟩ | ⟨g, Z, rfl, h0, h1, h2, h3, h4, h5⟩
  · exact ⟨_, [], rfl, Sl.nil _, rfl, Nat.zero_le _, hb, fun k hk => by simp [Value.ownBlock] at hk⟩
  · exact ⟨_, Z, rfl, h3.all h2 (by omega), h4, h1, hb, fun k hk => by simp [Value.ownBlock] at hk; omega⟩

/-- 'return trim(x)', x in new memory, or nil. -/
theorem TrimPost.numOf {w w3 : World} {x : Int} {l : Nat} {v : Value} {X' : List Int} {e : Ending} {w' : World} (h : TrimPost w3 v X' e w') (hbel : Below w.heap.size w w3) (hg : ∀ k, v.ownBlock = some k → w.heap.size ≤ k) (hx : V X' = x) (hl : X'.length ≤ l) :
    NumPost w x l e w' := by
  obtain ⟨rfl, v5, n5, rfl, hn5, hs5, hnm5, hv5, _, ho5, _⟩ := h
  refine ⟨v5, _, rfl, hs5, hnm5, hv5.trans hx, by simp; omega, hbel, fun k hk => ?_⟩
  rcases ho5 with h | ⟨h, _⟩
  · rw [hk] at h; cases h
  · rw [hk] at h; exact hg k h.symm

theorem raise_at (va : Value) (a : List Int) (z : Int) (n : Nat) (w : World) (hz : z = (n : Int)) (ha : Sl w va a) (hla : a.length ≤ 1000000) (hn : n ≤ 4096) :
    Calls Tryd.prog 107 #[va, .int .i64 z] w fun e w' => MidPost w (V a * T n) (a.length + 129) e w' := by
  subst hz
  exact (raise_any va a n (n / 32) (n % 32) w ha hla (by omega) (by omega) (by omega)).mono fun e w' h => h.mid (by omega) (by omega)

theorem lower_at (va : Value) (a : List Int) (z : Int) (n : Nat) (w : World) (hz : z = (n : Int)) (ha : Sl w va a) (hla : a.length ≤ 1000000) (hn : n ≤ 9223372036854775807) :
    Calls Tryd.prog 109 #[va, .int .i64 z] w fun e w' => MidPost w (V a / T n) a.length e w' := by
  subst hz
  exact (lower_any va a n (n / 32) (n % 32) w ha hla (by omega) (by omega) hn).mono fun e w' h => h.mid hla

theorem downN_neg {n : Int} (h : n < 0) : downN n = 0 := by unfold downN; omega
theorem downN_mid {n : Int} (h : 0 ≤ n) : downN n = n.toNat := by unfold downN; omega

theorem tmod_place (v m : Int) (hm : 0 < m) : (v.tmod m < 0 → v.tmod m + m = v % m) ∧ (¬ v.tmod m < 0 → v.tmod m = v % m) ∧ -m < v.tmod m := by
  have h1 := Int.emod_nonneg v (show m ≠ 0 by omega)
  have h2 := Int.emod_lt_of_pos v hm
  have h3 := Int.tmod_eq_emod (a := v) (b := m)
  by_cases hc : 0 ≤ v ∨ m ∣ v
  · rw [if_pos hc] at h3
    omega
  · rw [if_neg hc] at h3
    have h5 : v % m ≠ 0 := fun e => hc (.inr (Int.dvd_of_emod_eq_zero e))
    omega

theorem upN_nat {k : Nat} (h : k ≤ 4096) : upN (k : Int) = k := by unfold upN; omega
theorem downN_nat (k : Nat) : downN (k : Int) = k := by unfold downN; omega

theorem isLen_up {x : Int} {l : Nat} (k : Nat) (h : IsLen x l) (h0 : 0 < l) : IsLen (x * T k) (l + k) := by
  rcases h with ⟨_, h2⟩ | ⟨h1, h2, h3⟩
  · omega
  · have hT := T_pos k
    refine .inr ⟨by omega, ?_, ?_⟩
    · rw [show l + k - 1 = (l - 1) + k by omega, T_add]
      exact Int.mul_le_mul_of_nonneg_right h2 (by omega)
    · rw [T_add]
      exact Int.mul_lt_mul_of_pos_right h3 hT

theorem isLen_zero {x : Int} (h : IsLen x 0) : x = 0 := by
  rcases h with ⟨h1, _⟩ | ⟨h1, _⟩
  · exact h1
  · omega

theorem isLen_top {x : Int} {l : Nat} (h : IsLen x l) : x / T l = 0 := by
  rcases h with ⟨h1, h2⟩ | ⟨h1, h2, h3⟩
  · rw [h1]; simp
  · exact Int.ediv_eq_zero_of_lt (by have := T_pos (l - 1); omega) h3

theorem isLen_one {x : Int} {l : Nat} (h : IsLen x l) (h0 : 0 < l) : x / T (l - 1) = 1 := by
  rcases h with ⟨_, h2⟩ | ⟨h1, h2, h3⟩
  · omega
  · have hT := T_pos (l - 1)
    obtain ⟨m, rfl⟩ : ∃ m, l = m + 1 := ⟨l - 1, by omega⟩
    simp only [Nat.add_sub_cancel, T] at h2 h3 hT ⊢
    have e : x = (x - T m) + 1 * T m := by omega
    rw [e, Int.add_mul_ediv_right _ _ (by omega), Int.ediv_eq_zero_of_lt (by omega) (by omega)]
    omega
end Go.Proofs.YtnfnnngdbeplaaaDoor
