
/-
  limb.Norm: a list's number, in new memory.
-/
import Derived.Test.YtnfnnngdbeplaaaDoorLen
namespace Go.Proofs.YtnfnnngdbeplaaaDoor
open Go.RowKit
set_option linter.unusedVariables false

/-- nil, or a block of the call's own that holds just the number. -/
def OwnPost (w : World) (x : Int) (l : Nat) (e : Ending) (w' : World) : Prop :=
  ∃ zs, Ok zs ∧ Nm zs ∧ V zs = x ∧ zs.length ≤ l ∧ Below w.heap.size w w' ∧
    ((zs = [] ∧ e = .returned (.slice none 0 0)) ∨ (0 < zs.length ∧ ∃ g, w.heap.size ≤ g ∧ e = .returned (.slice (some ⟨g, 0, none⟩) zs.length zs.length) ∧ Row w' g zs))

theorem over_full (A : List Int) : over (zer A.length) 0 A = A := by
  simp only [over, List.take_zero, List.nil_append]
  rw [List.drop_eq_nil_of_le (by rw [zer_len]; omega), List.append_nil]

theorem OwnPost.num {w : World} {x : Int} {l : Nat} {e : Ending} {w' : World} (h : OwnPost w x l e w') (hl : l ≤ 1000000) : NumPost w x l e w' := by
  obtain ⟨zs, h1, h2, h3, h4, h5, h6⟩ := h
  rcases h6 with ⟨rfl, rfl⟩ | ⟨h7, g, h8, rfl, h9⟩
  · exact ⟨_, [], rfl, Sl.nil _, h2, h3, h4, h5, fun k hk => by simp [Value.ownBlock] at hk⟩
  · exact ⟨_, zs, rfl, h9.all h1 (by omega), h2, h3, h4, h5, fun k hk => by simp [Value.ownBlock] at hk; omega⟩

set_option maxHeartbeats 1000000 in
theorem norm_any (va : Value) (a : List Int) (w : World) (ha : Sl w va a) (hla : a.length ≤ 1000000) :
    Calls Tryd.prog 105 #[va] w fun e w' => OwnPost w (V a) a.length e w' := by
  obtain ⟨aa, acap, rfl⟩ := ha.shape
  go_enter Tryd.func105, Tryd.ntmps105
  go_wp2_with fail
  refine (trim_any _ a _ ha).mono ?_
  rintro e w' ⟨rfl, v1, n1, rfl, hn1, hs1, hnm1, hv1, -, -, hk1⟩
  have H1 : Hid (V (a.take n1) = V a) := hv1
  have hl1 : (a.take n1).length ≤ a.length := by simp; omega
  have hl2 : (a.take n1).length ≤ 1000000 := by omega
  clear hv1
  generalize a.take n1 = A at *
  obtain ⟨p1, c1, rfl⟩ := hs1.shape
  by_cases h0 : A.length = 0
  · have hb : ((A.length : Int) == 0) = true := beq_iff_eq.2 (by omega)
    go_wp2_with fail
    go_ret
    exact ⟨A, hs1.ok, hnm1, H1.out, hl1, Below.refl _ _, .inl ⟨List.eq_nil_of_length_eq_zero h0, rfl⟩⟩
  · have hb : ((A.length : Int) == 0) = false := beq_eq_false_iff_ne.2 (by omega)
    go_wp2_with (first | (at_make; refine wpList_make_u32 rfl _ _ rfl _ _ A.length rfl rfl (by omega) (by omega) (by omega) ?_; intro w1 hrow1 hbel1; obtain ⟨w2, hcr, hrow2, hbut2⟩ := copy_run w1 w.heap.size 0 A.length A.length p1 A.length c1 _ A hrow1 (hs1.below hbel1) (by rw [zer_len]; omega) (by omega)) | fail)
    go_ret
    rw [over_full] at hrow2
    exact ⟨A, hs1.ok, hnm1, H1.out, hl1, hbel1.trans (hbut2.below (Nat.le_refl _)), .inr ⟨by omega, w.heap.size, Nat.le_refl _, rfl, hrow2⟩⟩
end Go.Proofs.YtnfnnngdbeplaaaDoor
