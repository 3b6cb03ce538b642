
/-
  limb.Add: the sum: for every two slices of uint32 that are not too long; what is answered is new memory, without a 0 at its top.
-/
import Derived.Test.YtnfnnngdbeplaaaDoorMake
namespace Go.Proofs.YtnfnnngdbeplaaaDoor
open Go.RowKit

/-- One slice is answered: its number is x, no 0 at its top, in new memory; nothing old is turned. -/
def NumPost (w : World) (x : Int) (l : Nat) (e : Ending) (w' : World) : Prop :=
  ∃ v zs, e = .returned v ∧ Sl w' v zs ∧ Nm zs ∧ V zs = x ∧ zs.length ≤ l ∧ Below w.heap.size w w' ∧ (∀ k, v.ownBlock = some k → w.heap.size ≤ k)

theorem NumPost.ends {w : World} {x : Int} {l : Nat} {e : Ending} {w' : World} (h : NumPost w x l e w') : ∃ v, e = .returned v ∧ Hid (NumPost w x l (.returned v) w') := by
  obtain ⟨v, zs, rfl, h⟩ := h
  exact ⟨v, rfl, v, zs, rfl, h⟩

/-- 'return trim(out)', out in new memory. -/
theorem TrimPost.num {w w3 : World} {x : Int} {l g off n cap : Nat} {X' : List Int} {e : Ending} {w' : World} (h : TrimPost w3 (.slice (some ⟨g, off, none⟩) n cap) X' e w') (hbel : Below w.heap.size w w3) (hg : w.heap.size ≤ g) (hx : V X' = x) (hl : X'.length ≤ l) :
    NumPost w x l e w' := by
  obtain ⟨rfl, v5, n5, rfl, hn5, hs5, hnm5, hv5, _, ho5, _⟩ := h
  refine ⟨v5, _, rfl, hs5, hnm5, hv5.trans hx, by simp; omega, hbel, fun k hk => ?_⟩
  rcases ho5 with h | ⟨h, _⟩
  · rw [hk] at h; cases h
  · rw [hk] at h; simp [Value.ownBlock] at h; omega

theorem add_math (A C X' : List Int) (c : Int) (hA : Ok A) (hC : Ok C) (hX : Ok X') (hl : C.length ≤ A.length) (hx : X'.length = A.length + 1) (h0 : 0 ≤ c)
    (h : V X' + B (over (zer (A.length + 1)) 0 A).length * c = V (over (zer (A.length + 1)) 0 A) + V (C.take (over (zer (A.length + 1)) 0 A).length) * 1) : V X' = V A + V C := by
  have e1 : (over (zer (A.length + 1)) 0 A).length = A.length + 1 := by rw [over_len] <;> simp [zer]
  have e2 : V (over (zer (A.length + 1)) 0 A) = V A := by
    simp only [over, List.take_zero, List.nil_append]
    rw [V_append]
    simp [zer, V]
  rw [e1, e2, List.take_of_length_le (by omega), Int.mul_one] at h
  have h1 := V_lt hA
  have h2 := V_lt hC
  have h3 := V_nonneg hX
  have h4 := B_mono hl
  have h5 := B_pos A.length
  simp only [B] at h
  by_cases hc : c = 0
  · subst hc; omega
  · have : B A.length * 4294967296 * 1 ≤ 4294967296 * B A.length * c := by
      rw [Int.mul_comm (B A.length)]
      exact Int.mul_le_mul_of_nonneg_left (by omega) (by omega)
    omega

end Go.Proofs.YtnfnnngdbeplaaaDoor
