/-
  num.spread: the bits of a number that may be, in n limbs, one more than it has at least; num.gather: the number of which these are the bits.
-/
import Derived.Test.YtmhcgdigccaogaaNumTurn
namespace Go.Proofs.Ytmhcgdigccaogaa
open Go.RowKit
set_option linter.unusedVariables false

/-- n limbs in new memory: x, or 2^(32 n) more, if it is below 0. -/
def SpPost (w : World) (n : Nat) (x : Int) (e : Ending) (w' : World) : Prop :=
  ∃ g L, e = .returned (.slice (some ⟨g, 0, none⟩) n n) ∧ Row w' g L ∧ Ok L ∧ L.length = n ∧ V L = (if x < 0 then x + B n else x) ∧ Below w.heap.size w w' ∧ w.heap.size ≤ g

theorem V_over (n : Nat) (A : List Int) (h : A.length ≤ n) : V (over (zer n) 0 A) = V A := by
  simp only [over, List.take_zero, List.nil_append]
  rw [V_append]
  have : (zer n).drop (0 + A.length) = zer (n - A.length) := by simp [zer]
  rw [this, zer_V]; omega

set_option maxHeartbeats 4000000 in
theorem spread_any (n1 : Bool) (s : Value) (z1 : List Int) (n : Nat) (k x : Int) (w : World) (t1 : Sl w s z1) (hg1 : Good n1 z1) (hx : Z n1 (V z1) = x) (hlt : z1.length < n) (hn : n ≤ 1000) (hk : k = (n : Int)) :
    Calls Try.prog 60 #[.agg #[.bool n1, s], .int .i64 k] w fun e w' => SpPost w n x e w' := by
  subst hk
  obtain ⟨p1, c1, rfl⟩ := t1.shape
  have hb0 := (Below.refl w.heap.size w).alloc (Nat.le_refl _) (.cells #[.bool n1, .slice p1 z1.length c1] 24)
  have x0 := Bx.new w n1 p1 z1.length c1
  have t1' := t1.below hb0
  have hs := Z_pos hg1 t1.ok
  have HX : Hid (Z n1 (V z1) = x) := hx
  have ok1 := t1.ok
  clear hg1 hx t1
  cases n1
  · have HP : Hid (0 ≤ x) := by rw [← HX.out]; exact hs.2 rfl
    clear hs
    go_enter Try.func60, Try.ntmps60
    go_wp2_with (first | (at_make; refine wpList_make_u32 rfl _ _ rfl _ _ n rfl rfl (by omega) (by omega) (by omega) ?_; intro w1 hrow1 hbel1; rw [World.size_alloc] at hrow1; obtain ⟨w2, hcr, hrow2, hbut2⟩ := copy_run w1 (w.heap.size + 1) 0 n n p1 z1.length c1 _ z1 hrow1 (t1'.below hbel1) (by rw [zer_len]; omega) (by omega); obtain ⟨i0, i1, -⟩ := (x0.under hbel1).facts) | fail)
    go_ret
    have hB := (hb0.trans (hbel1.mono hb0.size)).trans (hbut2.below (show w.heap.size ≤ w.heap.size + 1 by omega))
    have e : V (over (zer n) 0 z1) = if x < 0 then x + B n else x := by
      rw [if_neg (by have := HP.out; omega), V_over n z1 (by omega), ← HX.out]; rfl
    refine ⟨w.heap.size + 1, _, ?_, hrow2, over_ok (zer_ok _) ok1 0, by rw [over_len, zer_len]; rw [zer_len]; omega, e, hB, by omega⟩
    simp
  · have HP : Hid (x < 0) := by rw [← HX.out]; exact hs.1 rfl
    clear hs
    go_enter Try.func60, Try.ntmps60
    go_wp2_with (first | (at_make; refine wpList_make_u32 rfl _ _ rfl _ _ n rfl rfl (by omega) (by omega) (by omega) ?_; intro w1 hrow1 hbel1; rw [World.size_alloc] at hrow1; obtain ⟨i0, i1, -⟩ := (x0.under hbel1).facts) | fail)
    refine (oneLess_any _ z1 _ (t1'.below hbel1) (by omega)).mono ?_
    rintro e w2 ⟨v2, z2, rfl, s2, m2, v2', l2, b2, -⟩
    have hrow2 := hrow1.below b2 hrow1.lt
    obtain ⟨p2, c2, rfl⟩ := s2.shape
    obtain ⟨w3, hcr, hrow3, hbut3⟩ := copy_run w2 (w.heap.size + 1) 0 n n p2 z2.length c2 _ z2 hrow2 s2 (by rw [zer_len]; omega) (by omega)
    have hB := ((hb0.trans (hbel1.mono hb0.size)).trans (b2.mono (by have := hbel1.size; have := hb0.size; omega))).trans (hbut3.below (show w.heap.size ≤ w.heap.size + 1 by omega))
    have HV : Hid (V (over (zer n) 0 z2) = -x - 1) := by
      show V (over (zer n) 0 z2) = -x - 1
      have h1 := HX.out
      have h2 := HP.out
      simp only [Z, if_true] at h1
      rw [V_over n z2 (by omega), v2', subV, if_pos (by omega)]
      omega
    have ok3 := over_ok (zer_ok n) s2.ok 0
    have len3 : (over (zer n) 0 z2).length = n := by rw [over_len, zer_len]; rw [zer_len]; omega
    generalize over (zer n) 0 z2 = Y at *
    have sY := hrow3.all ok3 (by omega)
    rw [len3] at sY
    clear hrow1 hrow2 b2 hbut3 v2' m2 s2 hbel1 i0 i1
    go_wp2_with fail
    refine (turned_any _ Y _ sY (by omega)).mono ?_
    rintro e w4 ⟨g, L, rfl, hrow4, ok4, len4, hz4, hb4, hg4⟩
    have HL := V_turned len4 hz4
    rw [len3] at HL len4
    rw [HV.out] at HL
    have HL' : Hid (V L = if x < 0 then x + B n else x) := by
      show V L = _
      rw [if_pos HP.out, HL]; omega
    clear hz4 HL
    rw [len3]
    go_wp2_with fail
    go_ret
    exact ⟨g, L, rfl, hrow4, ok4, len4, HL'.out, hB.trans (hb4.mono hB.size), Nat.le_trans hB.size hg4⟩

set_option maxHeartbeats 4000000 in
theorem gather_any (va : Value) (L : List Int) (w : World) (ha : Sl w va L) (h0 : 0 < L.length) (hn : L.length ≤ 1000) :
    Calls Try.prog 61 #[va] w fun e w' => RawPost w (if L.getD (L.length - 1) 0 = 0 then V L else V L - B L.length) e w' := by
  obtain ⟨p, c, rfl⟩ := ha.shape
  have hb0 := (Below.refl w.heap.size w).alloc (Nat.le_refl _) (.cells #[.bool false, .slice none 0 0] 24)
  have x0 := Bx.new w false none 0 0
  have t1 := ha.below hb0
  obtain ⟨b, off, rfl, hc⟩ := t1.at (L.length - 1) (by omega)
  have hi1 : ((L.length : Int) - 1).toNat = L.length - 1 := by omega
  have hi2 : (0 : Int) ≤ (L.length : Int) - 1 := by omega
  have hi3 : (L.length : Int) - 1 < (L.length : Int) := by omega
  have hlt := V_lt ha.ok
  clear ha
  by_cases ht : L.getD (L.length - 1) 0 = 0
  · rw [if_pos ht]
    rw [ht] at hc
    clear ht hlt
    go_enter Try.func61, Try.ntmps61
    go_wp2_with fail
    refine (norm_any _ L _ t1 (by omega)).mono ?_
    intro e w1 h1
    obtain ⟨v1, z1, rfl, s1, m1, v1', l1, b1, -⟩ := h1.num (by omega)
    have hbw := hb0.trans (b1.mono hb0.size)
    have u1 := x0.under b1
    have HV : Hid (V z1 = V L) := v1'
    clear h1 v1' b1 x0 hb0 t1 hc
    go_wp2_with fail
    refine (signed_any _ _ z1 _ s1).mono ?_
    rintro e w2 ⟨s2, rfl, t2, b2⟩
    obtain ⟨p2, c2, rfl⟩ := t2.shape
    replace u1 := u1.under b2
    replace hbw := hbw.trans (b2.mono hbw.size)
    obtain ⟨d0, d1, g0, g1, l1⟩ := u1.facts
    go_wp2_with fail
    refine bodyPost_ret (results_box1 rfl _ _ w.heap.size _ _ rfl u1.set) rfl ?_
    exact raw_end (neg := false) hbw u1 (Nat.le_refl _) t2 m1 HV.out
  · rw [if_neg ht]
    have hx := t1.ok.getD (L.length - 1)
    generalize L.getD (L.length - 1) 0 = t at *
    have hb : (t == 0) = false := beq_eq_false_iff_ne.2 ht
    clear ht
    have HLT : Hid _ := hlt
    clear hlt
    go_enter Try.func61, Try.ntmps61
    go_wp2_with fail
    refine (turned_any _ L _ t1 (by omega)).mono ?_
    rintro e w1 ⟨g, Y, rfl, hrow1, ok1, len1, hz1, hb1, hg1⟩
    have HL : Hid _ := V_turned len1 hz1
    have sY := hrow1.all ok1 (by omega)
    rw [len1] at sY
    have hbw := hb0.trans (hb1.mono hb0.size)
    have u1 := x0.under hb1
    clear hz1 hrow1 hg1 hb1 x0 hb0 t1 hc
    go_wp2_with fail
    refine (oneMore_any _ Y _ sY (by omega)).mono ?_
    rintro e w2 ⟨v2, z2, rfl, s2, m2, v2', l2, b2, -⟩
    have HV : Hid (Z true (V z2) = V L - B L.length) := by
      show Z true (V z2) = _
      simp only [Z, if_true]
      rw [v2', HL.out]; omega
    replace u1 := u1.under b2
    replace hbw := hbw.trans (b2.mono hbw.size)
    clear v2' b2 HL
    go_wp2_with fail
    refine (signed_any _ _ z2 _ s2).mono ?_
    rintro e w3 ⟨s3, rfl, t3, b3⟩
    obtain ⟨p3, c3, rfl⟩ := t3.shape
    replace u1 := u1.under b3
    replace hbw := hbw.trans (b3.mono hbw.size)
    obtain ⟨d0, d1, g0, g1, l1⟩ := u1.facts
    go_wp2_with fail
    refine bodyPost_ret (results_box1 rfl _ _ w.heap.size _ _ rfl u1.set) rfl ?_
    exact raw_end (neg := true) hbw u1 (Nat.le_refl _) t3 m2 HV.out
end Go.Proofs.Ytmhcgdigccaogaa
