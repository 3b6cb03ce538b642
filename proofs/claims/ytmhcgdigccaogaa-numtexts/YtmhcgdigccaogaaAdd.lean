/-
  limb.Add: the sum: for every two slices of uint32 that are not too long; what is answered is new memory, without a 0 at its top.
-/
import Derived.Test.YtmhcgdigccaogaaMake
namespace Go.Proofs.Ytmhcgdigccaogaa
open Go.RowKit

/-- One slice is answered: its number is x, no 0 at its top, in new memory; nothing old is turned. -/
def NumPost (w : World) (x : Int) (l : Nat) (e : Ending) (w' : World) : Prop :=
  ∃ v zs, e = .returned v ∧ Sl w' v zs ∧ Nm zs ∧ V zs = x ∧ zs.length ≤ l ∧ Below w.heap.size w w' ∧ (∀ k, v.ownBlock = some k → w.heap.size ≤ k)

theorem NumPost.ends {w : World} {x : Int} {l : Nat} {e : Ending} {w' : World} (h : NumPost w x l e w') : ∃ v, e = .returned v ∧ Hid (NumPost w x l (.returned v) w') := by
  obtain ⟨v, zs, rfl, h⟩ := h
  exact ⟨v, rfl, v, zs, rfl, h⟩

/-- 'return trim(out)', out in new memory. -/
theorem TrimPost.num {w w3 : World} {x : Int} {l g off n cap : Nat} {X' : List Int} {e : Ending} {w' : World} (h : TrimPost w3 (.slice (some ⟨g, off, none⟩) n cap) X' e w') (hbel : Below w.heap.size w w3) (hg : w.heap.size ≤ g) (hx : V X' = x) (hl : X'.length ≤ l) :
    NumPost w x l e w' := by
  obtain ⟨rfl, v5, n5, rfl, hn5, hs5, hnm5, hv5, _, ho5, _⟩ := h
  refine ⟨v5, _, rfl, hs5, hnm5, hv5.trans hx, by simp; omega, hbel, fun k hk => ?_⟩
  rcases ho5 with h | ⟨h, _⟩
  · rw [hk] at h; cases h
  · rw [hk] at h; simp [Value.ownBlock] at h; omega

theorem add_math (A C X' : List Int) (c : Int) (hA : Ok A) (hC : Ok C) (hX : Ok X') (hl : C.length ≤ A.length) (hx : X'.length = A.length + 1) (h0 : 0 ≤ c)
    (h : V X' + B (over (zer (A.length + 1)) 0 A).length * c = V (over (zer (A.length + 1)) 0 A) + V (C.take (over (zer (A.length + 1)) 0 A).length) * 1) : V X' = V A + V C := by
  have e1 : (over (zer (A.length + 1)) 0 A).length = A.length + 1 := by rw [over_len] <;> simp [zer]
  have e2 : V (over (zer (A.length + 1)) 0 A) = V A := by
    simp only [over, List.take_zero, List.nil_append]
    rw [V_append]
    simp [zer, V]
  rw [e1, e2, List.take_of_length_le (by omega), Int.mul_one] at h
  have h1 := V_lt hA
  have h2 := V_lt hC
  have h3 := V_nonneg hX
  have h4 := B_mono hl
  have h5 := B_pos A.length
  simp only [B] at h
  by_cases hc : c = 0
  · subst hc; omega
  · have : B A.length * 4294967296 * 1 ≤ 4294967296 * B A.length * c := by
      rw [Int.mul_comm (B A.length)]
      exact Int.mul_le_mul_of_nonneg_left (by omega) (by omega)
    omega

set_option maxHeartbeats 1000000 in
theorem add_any (va vb : Value) (a b : List Int) (w : World) (ha : Sl w va a) (hb : Sl w vb b) (hla : a.length ≤ 1000000) (hlb : b.length ≤ 1000000) :
    Calls Try.prog 55 #[va, vb] w fun e w' => NumPost w (V a + V b) (a.length + b.length + 1) e w' := by
  obtain ⟨aa, acap, rfl⟩ := ha.shape
  obtain ⟨ba, bcap, rfl⟩ := hb.shape
  go_enter Try.func55, Try.ntmps55
  go_wp2_with fail
  refine (trim_any _ a _ ha).mono ?_
  rintro e w' ⟨rfl, v1, n1, rfl, hn1, hs1, hnm1, hv1, -, -, hk1⟩
  go_wp2_with fail
  refine (trim_any _ b _ hb).mono ?_
  rintro e w' ⟨rfl, v2, n2, rfl, hn2, hs2, hnm2, hv2, -, -, hk2⟩
  have H1 : Hid (V a = V (a.take n1)) := hv1.symm
  have H2 : Hid (V b = V (b.take n2)) := hv2.symm
  have hl1 : (a.take n1).length ≤ a.length := by simp; omega
  have hl2 : (b.take n2).length ≤ b.length := by simp; omega
  clear hv1 hv2 hnm1 hnm2
  generalize a.take n1 = A at *
  generalize b.take n2 = C at *
  obtain ⟨p1, c1, rfl⟩ := hs1.shape
  obtain ⟨p2, c2, rfl⟩ := hs2.shape
  clear ha hb hn1 hn2
  by_cases hlt : A.length < C.length
  · go_wp2_with (first | (at_make; refine wpList_make_u32 rfl _ _ rfl _ _ (C.length + 1) rfl rfl (by omega) (by omega) (by omega) ?_; intro w1 hrow1 hbel1; obtain ⟨w2, hcr, hrow2, hbut2⟩ := copy_run w1 w.heap.size 0 (C.length + 1) (C.length + 1) p2 C.length c2 _ C hrow1 (hs2.below hbel1) (by rw [zer_len]; omega) (by omega)) | fail)
    have hbel2 := hbel1.trans (hbut2.below (Nat.le_refl _))
    refine (addT_at w.heap.size 0 (C.length + 1) (C.length + 1) [] (over (zer (C.length + 1)) 0 C) [] _ A 1 w2 (by simpa using hrow2) rfl (by rw [over_len, zer_len]; rw [zer_len]; omega) (over_ok (zer_ok _) hs2.ok 0) (Nat.le_refl _) (by omega) (hs1.below hbel2) (by intro e; have := hk1 _ e; omega) (by decide) (by decide)).mono ?_
    rintro e w3 ⟨rfl, hbut3, X', c, hXl, hXok, hrow3, h0, h1, hV⟩
    rw [over_len _ _ _ (by rw [zer_len]; omega), zer_len] at hXl
    have HF : Hid (V X' = V a + V b) := (add_math C A X' c hs2.ok hs1.ok hXok (by omega) hXl h0 hV).trans (by rw [H1.out, H2.out, Int.add_comm])
    have hXlen : X'.length ≤ a.length + b.length + 1 := by omega
    have hbel3 := hbel2.trans (hbut3.below (Nat.le_refl _))
    have hsl3 := hrow3
    simp only [List.nil_append, List.append_nil] at hsl3
    have hsl := hsl3.all hXok (by omega)
    rw [hXl] at hsl
    clear hV hcr hrow1 hrow2 hrow3 hsl3 hbut2 hbut3 h0 h1 hXl hbel1 hbel2
    go_wp2_with fail
    refine (trim_any _ X' _ hsl).mono ?_
    intro e w' hT
    obtain ⟨v, rfl, FIN⟩ := (hT.num hbel3 (Nat.le_refl _) HF.out hXlen).ends
    clear hT
    go_wp2_with fail
    go_ret
    exact FIN.out
  · go_wp2_with (first | (at_make; refine wpList_make_u32 rfl _ _ rfl _ _ (A.length + 1) rfl rfl (by omega) (by omega) (by omega) ?_; intro w1 hrow1 hbel1; obtain ⟨w2, hcr, hrow2, hbut2⟩ := copy_run w1 w.heap.size 0 (A.length + 1) (A.length + 1) p1 A.length c1 _ A hrow1 (hs1.below hbel1) (by rw [zer_len]; omega) (by omega)) | fail)
    have hbel2 := hbel1.trans (hbut2.below (Nat.le_refl _))
    refine (addT_at w.heap.size 0 (A.length + 1) (A.length + 1) [] (over (zer (A.length + 1)) 0 A) [] _ C 1 w2 (by simpa using hrow2) rfl (by rw [over_len, zer_len]; rw [zer_len]; omega) (over_ok (zer_ok _) hs1.ok 0) (Nat.le_refl _) (by omega) (hs2.below hbel2) (by intro e; have := hk2 _ e; omega) (by decide) (by decide)).mono ?_
    rintro e w3 ⟨rfl, hbut3, X', c, hXl, hXok, hrow3, h0, h1, hV⟩
    rw [over_len _ _ _ (by rw [zer_len]; omega), zer_len] at hXl
    have HF : Hid (V X' = V a + V b) := (add_math A C X' c hs1.ok hs2.ok hXok (by omega) hXl h0 hV).trans (by rw [H1.out, H2.out])
    have hXlen : X'.length ≤ a.length + b.length + 1 := by omega
    have hbel3 := hbel2.trans (hbut3.below (Nat.le_refl _))
    have hsl3 := hrow3
    simp only [List.nil_append, List.append_nil] at hsl3
    have hsl := hsl3.all hXok (by omega)
    rw [hXl] at hsl
    clear hV hcr hrow1 hrow2 hrow3 hsl3 hbut2 hbut3 h0 h1 hXl hbel1 hbel2
    go_wp2_with fail
    refine (trim_any _ X' _ hsl).mono ?_
    intro e w' hT
    obtain ⟨v, rfl, FIN⟩ := (hT.num hbel3 (Nat.le_refl _) HF.out hXlen).ends
    clear hT
    go_wp2_with fail
    go_ret
    exact FIN.out
end Go.Proofs.Ytmhcgdigccaogaa
