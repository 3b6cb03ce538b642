/-
  num.steps, num.shift: a number times 2^y, or by 2^-y, rounded down.
-/
import Derived.Test.YtmhcgdigccaogaaNumBitw
namespace Go.Proofs.Ytmhcgdigccaogaa
open Go.RowKit
set_option linter.unusedVariables false

/-- How far a shift goes. -/
def farS (y : Int) : Int := min (y.natAbs : Int) 10000

set_option maxHeartbeats 2000000 in
theorem steps_any (va : Value) (y : Int) (w : World) (ha : IsN w va y) : Calls Try.prog 62 #[va] w fun e w' => e = .returned (.int .i64 (farS y)) ∧ Below w.heap.size w w' := by
  obtain ⟨n1, p1, z1, c1, rfl, t1, hg1, hy⟩ := ha.open
  have hb0 := (Below.refl w.heap.size w).alloc (Nat.le_refl _) (.cells #[.bool n1, .slice p1 z1.length c1] 24)
  have x0 := Bx.new w n1 p1 z1.length c1
  have t1' := t1.below hb0
  have hv := abs_Z n1 t1.ok
  rw [hy] at hv
  have HV : Hid ((y.natAbs : Int) = V z1) := hv
  have hnm := hg1.2.1
  have hl1 := hg1.1
  clear ha hg1 hy t1 hv
  go_enter Try.func62, Try.ntmps62
  go_wp2_with fail
  refine (signed_any false _ z1 _ t1').mono ?_
  intro e w1 h1
  obtain ⟨v1, rfl, i1, b1⟩ := h1.isN hnm hl1
  have hbw := hb0.trans (b1.mono hb0.size)
  clear h1 b1 hb0 x0 t1'
  obtain ⟨n2, p2, z2, c2, rfl, t2, hg2, hx2⟩ := i1.open
  have n1' := i1.nx
  go_wp2_with fail
  refine (int_any _ _ _ n1').mono ?_
  rintro e w2 ⟨rfl, b2⟩
  have hbw2 := hbw.trans (b2.mono hbw.size)
  have h0 := V_nonneg t2.ok
  have HV2 : Hid (Z false (V z1) = (y.natAbs : Int)) := HV.out.symm
  rw [HV2.out]
  clear n1' b2 hx2 hg2 t2 i1
  obtain ⟨k, hk⟩ : ∃ k : Int, k = (y.natAbs : Int) := ⟨_, rfl⟩
  have hk0 : 0 ≤ k := by omega
  have HF : Hid (farS y = min k 10000) := by rw [hk]; rfl
  rw [← hk]
  clear hk
  by_cases hb : k ≤ 9223372036854775807
  · have hi : intS k = some k := by unfold intS; rw [if_pos (by omega)]
    rw [hi]
    obtain ⟨f, hf⟩ : ∃ f, f = min k 10000 := ⟨_, rfl⟩
    have hm : (if 10000 < k then 10000 else k) = f := by split <;> omega
    rw [← hf] at HF
    clear hf
    clear hi
    go_wp2_with fail
    go_ret
    exact ⟨by rw [HF.out]; rfl, hbw2⟩
  · have hi : intS k = none := by unfold intS; rw [if_neg (by omega)]
    rw [hi]
    have HF2 : Hid (farS y = 10000) := by show farS y = 10000; rw [HF.out]; omega
    clear hi
    go_wp2_with fail
    go_ret
    exact ⟨by rw [HF2.out]; rfl, hbw2⟩
/-- A shift, up or down. -/
def shS (x y : Int) : Int := if 0 ≤ y then x * T (upN (farS y)) else x / T (downN (farS y))

theorem floor_neg {A t : Int} (ht : 0 < t) : -((A - 1) / t + 1) = -A / t := by
  have h1 := Int.emod_add_mul_ediv (A - 1) t
  have h2 := Int.emod_nonneg (A - 1) (show t ≠ 0 by omega)
  have h3 := Int.emod_lt_of_pos (A - 1) ht
  have e : t * -((A - 1) / t + 1) = -(t * ((A - 1) / t)) - t := by rw [Int.mul_neg, Int.mul_add, Int.mul_one]; omega
  exact ((Int.ediv_emod_unique ht (r := t - 1 - (A - 1) % t) (q := -((A - 1) / t + 1))).2 ⟨by rw [e]; omega, by omega, by omega⟩).1.symm

set_option maxHeartbeats 8000000 in
theorem shift_any (va vb : Value) (x y : Int) (w : World) (ha : IsN w va x) (hb : IsN w vb y) : Calls Try.prog 35 #[va, vb] w fun e w' => RawPost w (shS x y) e w' := by
  obtain ⟨n1, p1, z1, c1, rfl, t1, hg1, hx⟩ := ha.open
  have hb0 := hb
  obtain ⟨n2, p2, z2, c2, rfl, t2, hg2, hy⟩ := hb.open
  obtain ⟨hB, u1, u2, u3⟩ := boxes2 w n1 n2 p1 p2 z1.length c1 z2.length c2
  have l1 : z1.length ≤ 12 := hg1.1
  have sx := Z_pos hg1 t1.ok
  have sy := Z_pos hg2 t2.ok
  rw [hx] at sx
  rw [hy] at sy
  have HX : Hid (Z n1 (V z1) = x) := hx
  clear ha hb hx hy hg1 hg2 t2
  replace t1 := t1.below hB
  replace hb0 := hb0.below hB
  obtain ⟨k, hk⟩ : ∃ k, k = farS y := ⟨_, rfl⟩
  have hk0 : 0 ≤ k := by rw [hk]; unfold farS; omega
  have hk1 : k ≤ 10000 := by rw [hk]; unfold farS; omega
  have HS : Hid (shS x y = if 0 ≤ y then x * T (upN k) else x / T (downN k)) := by rw [hk]; rfl
  go_enter Try.func35, Try.ntmps35
  go_wp2_with fail
  refine (steps_any _ y _ hb0).mono ?_
  rintro e w0 ⟨rfl, b0⟩
  rw [← hk]
  clear hk hb0
  replace t1 := t1.below b0
  replace u1 := u1.under b0
  replace u2 := u2.under b0
  replace u3 := u3.under b0
  replace hB := hB.trans (b0.mono hB.size)
  clear b0
  obtain ⟨i0, i1, -⟩ := u1.facts
  obtain ⟨j0, j1, -⟩ := u2.facts
  cases n2
  · have hF : Hid (shS x y = x * T (upN k)) := by rw [HS.out, if_pos (sy.2 rfl)]; rfl
    clear sx sy HS
    go_wp2_with fail
    go_region_held3 (fun w' => w'.cell? ⟨w.heap.size, 0, none⟩ = some (.bool n1) ∧ w'.cell? ⟨w.heap.size, 1, none⟩ = some (.slice p1 z1.length c1))
      (first | exact u1.held ((Below.refl _ _).drew) | exact u1.held (by assumption) | exact u1.held3 b4' (by omega))
      (first
        | (go_at_call 63; refine (shl_any _ z1 k _ ?_ ?_).mono ?_; exact t1.below ((Below.refl _ _).drew); omega; rintro e w3 ⟨v3, z3, rfl, s3, m3, x3, l3, b3, -⟩; have b3' : Below w0.heap.size w0 w3 := (Below.refl _ _).drew.trans b3)
        | (go_at_call 31; refine (signed_any _ _ z3 _ ?_).mono ?_; exact s3; rintro e w4 ⟨s4, rfl, t4, b4⟩; have b4' : Below w0.heap.size w0 w4 := b3'.trans (b4.mono b3'.size); obtain ⟨c40, c41, f40, f41, l4⟩ := (u3.under b4').facts; obtain ⟨p4, c4, rfl⟩ := t4.shape))
    go_wp2_with fail
    refine bodyPost_ret (results_box1 rfl _ _ (w.heap.size + 1 + 1) _ _ rfl ((u3.under b4').set)) rfl ?_
    refine raw_end (neg := n1) (hB.trans (b4'.mono hB.size)) (u3.under b4') (by omega) t4 m3 ?_
    rw [hF.out, x3, ← HX.out]
    cases n1 <;> simp [Z, Int.neg_mul]
  · have hF : Hid (shS x y = x / T (downN k)) := by rw [HS.out, if_neg (by have := sy.1 rfl; omega)]; rfl
    clear HS sy
    cases n1
    · clear sx
      go_wp2_with fail
      refine (shr_any _ z1 k _ t1 (by omega) (by omega)).mono ?_
      rintro e w3 ⟨v3, z3, rfl, s3, m3, x3, l3, b3, -⟩
      have X3 : Hid _ := x3
      clear x3
      go_wp2_with fail
      refine (signed_any _ _ z3 _ s3).mono ?_
      rintro e w4 ⟨s4, rfl, t4, b4⟩
      obtain ⟨p4, c4, rfl⟩ := t4.shape
      have b4' := b3.trans (b4.mono b3.size)
      obtain ⟨c40, c41, f40, f41, l4⟩ := (u3.under b4').facts
      go_wp2_with fail
      refine bodyPost_ret (results_box1 rfl _ _ (w.heap.size + 1 + 1) _ _ rfl ((u3.under b4').set)) rfl ?_
      refine raw_end (neg := false) (hB.trans (b4'.mono hB.size)) (u3.under b4') (by omega) t4 m3 ?_
      rw [hF.out, X3.out, ← HX.out]
      rfl
    · have HN : Hid (x < 0) := sx.1 rfl
      clear sx
      go_wp2_with fail
      refine (oneLess_any _ z1 _ t1 (by omega)).mono ?_
      rintro e w2 ⟨v2, z2', rfl, s2, m2, x2, l2, b2, -⟩
      have X2 : Hid _ := x2
      clear x2
      go_wp2_with fail
      refine (shr_any _ z2' k _ s2 (by omega) (by omega)).mono ?_
      rintro e w3 ⟨v3, z3, rfl, s3, m3, x3, l3, b3, -⟩
      have X3 : Hid _ := x3
      clear x3
      go_wp2_with fail
      refine (oneMore_any _ z3 _ s3 (by omega)).mono ?_
      rintro e w5 ⟨v5, z5, rfl, s5, m5, x5, l5, b5, -⟩
      have X5 : Hid _ := x5
      clear x5
      go_wp2_with fail
      refine (signed_any _ _ z5 _ s5).mono ?_
      rintro e w4 ⟨s4, rfl, t4, b4⟩
      obtain ⟨p4, c4, rfl⟩ := t4.shape
      have b23 := b2.trans (b3.mono b2.size)
      have b25 := b23.trans (b5.mono b23.size)
      have b4' := b25.trans (b4.mono b25.size)
      obtain ⟨c40, c41, f40, f41, l4⟩ := (u3.under b4').facts
      go_wp2_with fail
      refine bodyPost_ret (results_box1 rfl _ _ (w.heap.size + 1 + 1) _ _ rfl ((u3.under b4').set)) rfl ?_
      refine raw_end (neg := true) (hB.trans (b4'.mono hB.size)) (u3.under b4') (by omega) t4 m5 ?_
      have h1 := HX.out
      have h2 := HN.out
      simp only [Z, if_true] at h1 ⊢
      rw [hF.out, X5.out, X3.out, X2.out, subV, if_pos (by omega), floor_neg (T_pos _), h1]
end Go.Proofs.Ytmhcgdigccaogaa
