/-
  limb.Mul: the product: for every two slices of uint32 that are not too long.
-/
import Derived.Test.YtmhcgdigccaogaaAdd
namespace Go.Proofs.Ytmhcgdigccaogaa
open Go.RowKit
set_option linter.unusedVariables false

theorem prod_lt {x y z b : Int} (hb : 1 ≤ b) (hx0 : 0 ≤ x) (hx : x < b) (hy0 : 0 ≤ y) (hy : y < b) (hz0 : 0 ≤ z) (hz : z < 4294967296) : x + y * z < 4294967296 * b := by
  have h1 : y * z ≤ (b - 1) * 4294967295 := Int.mul_le_mul (by omega) (by omega) hz0 (by omega)
  omega

theorem mul_step (Z C A X' : List Int) (k : Nat) (x c : Int) (hC : Ok C) (hZ : Ok Z) (hX : Ok X') (hlen : k + (C.length + 1) ≤ Z.length) (hV : V Z = V (A.take k) * V C) (hz : ∀ j, k + C.length ≤ j → Z.getD j 0 = 0)
    (hx : x = A.getD k 0) (hx0 : 0 ≤ x) (hx1 : x < 4294967296) (hl : X'.length = ((Z.drop k).take (C.length + 1)).length) (hc0 : 0 ≤ c)
    (h : V X' + B ((Z.drop k).take (C.length + 1)).length * c = V ((Z.drop k).take (C.length + 1)) + V (C.take ((Z.drop k).take (C.length + 1)).length) * x) :
    V (Z.take k ++ (X' ++ Z.drop (k + (C.length + 1)))) = V (A.take (k + 1)) * V C ∧ (∀ j, k + 1 + C.length ≤ j → (Z.take k ++ (X' ++ Z.drop (k + (C.length + 1)))).getD j 0 = 0) ∧
      (Z.take k ++ (X' ++ Z.drop (k + (C.length + 1)))).length = Z.length := by
  have e0 : ((Z.drop k).take (C.length + 1)).length = C.length + 1 := by simp; omega
  rw [e0] at h hl
  rw [List.take_of_length_le (l := C) (by omega)] at h
  have hXok : Ok ((Z.drop k).take (C.length + 1)) := (hZ.drop _).take _
  have e1 : V ((Z.drop k).take (C.length + 1)) = V ((Z.drop k).take C.length) := by
    rw [V_take_next]
    have : (Z.drop k).getD C.length 0 = 0 := by
      have := hz (k + C.length) (Nat.le_refl _)
      simpa [List.getD] using this
    rw [this]; omega
  have e2 : ((Z.drop k).take C.length).length = C.length := by simp; omega
  have b1 := V_lt ((hZ.drop k).take C.length)
  rw [e2, ← e1] at b1
  have b2 := V_nonneg hXok
  have b3 := V_lt hC
  have b4 := V_nonneg hC
  have b5 := B_pos C.length
  have b6 := V_nonneg hX
  have b7 := prod_lt (by omega) b2 b1 b4 b3 hx0 hx1
  have hc : c = 0 := by
    by_cases hc : c = 0
    · exact hc
    · have : B (C.length + 1) * 1 ≤ B (C.length + 1) * c := Int.mul_le_mul_of_nonneg_left (by omega) (Int.le_of_lt (B_pos _))
      simp only [B] at this h
      omega
  subst hc
  have s1 := V_split Z k (by omega)
  have s2 := V_split (Z.drop k) (C.length + 1) (by simp; omega)
  rw [List.drop_drop] at s2
  have hS : V (Z.drop (k + (C.length + 1))) = 0 := by
    apply V_zeros
    intro i hi
    have := hz (k + (C.length + 1) + i) (by omega)
    simpa [List.getD] using this
  refine ⟨?_, ?_, ?_⟩
  · rw [V_append, V_append, hS, V_take_next A, ← hx]
    have e3 : (Z.take k).length = k := by simp; omega
    rw [e3, Int.mul_zero, Int.add_zero]
    rw [hS, Int.mul_zero, Int.add_zero] at s2
    rw [s2] at s1
    have e4 : V X' = V ((Z.drop k).take (C.length + 1)) + V C * x := by omega
    rw [e4, Int.mul_add, Int.add_mul, ← hV, s1, Int.mul_assoc, Int.mul_comm x]
    omega
  · intro j hj
    have e3 : (Z.take k).length = k := by simp; omega
    simp only [List.getD_eq_getElem?_getD]
    rw [List.getElem?_append_right (by omega), e3, List.getElem?_append_right (by omega), hl, List.getElem?_drop]
    have := hz (k + (C.length + 1) + (j - k - (C.length + 1))) (by omega)
    simpa [List.getD] using this
  · simp; omega

theorem cut3 (Z : List Int) (k n : Nat) : Z = Z.take k ++ ((Z.drop k).take n ++ Z.drop (k + n)) := by
  rw [← List.drop_drop, List.take_append_drop, List.take_append_drop]

set_option maxHeartbeats 1000000 in
theorem mul_any (va vb : Value) (a b : List Int) (w : World) (ha : Sl w va a) (hb : Sl w vb b) (hla : a.length ≤ 1000000) (hlb : b.length ≤ 1000000) :
    Calls Try.prog 32 #[va, vb] w fun e w' => NumPost w (V a * V b) (a.length + b.length) e w' := by
  obtain ⟨aa, acap, rfl⟩ := ha.shape
  obtain ⟨ba, bcap, rfl⟩ := hb.shape
  go_enter Try.func32, Try.ntmps32
  go_wp2_with fail
  refine (trim_any _ a _ ha).mono ?_
  rintro e w' ⟨rfl, v1, n1, rfl, hn1, hs1, hnm1, hv1, -, -, hk1⟩
  go_wp2_with fail
  refine (trim_any _ b _ hb).mono ?_
  rintro e w' ⟨rfl, v2, n2, rfl, hn2, hs2, hnm2, hv2, -, -, hk2⟩
  have H1 : Hid (V a = V (a.take n1)) := hv1.symm
  have H2 : Hid (V b = V (b.take n2)) := hv2.symm
  have hl1 : (a.take n1).length ≤ a.length := by simp; omega
  have hl2 : (b.take n2).length ≤ b.length := by simp; omega
  clear hv1 hv2 hnm1 hnm2
  generalize a.take n1 = A at *
  generalize b.take n2 = C at *
  obtain ⟨p1, c1, rfl⟩ := hs1.shape
  obtain ⟨p2, c2, rfl⟩ := hs2.shape
  clear ha hb hn1 hn2
  go_wp2_with (first | (at_make; refine wpList_make_u32 rfl _ _ rfl _ _ (A.length + C.length) rfl rfl (by omega) (by omega) (by omega) ?_; intro w1 hrow1 hbel1) | fail)
  go_loopw [20] (fun i wr => ∃ (k : Nat) (Z : List Int), k ≤ A.length ∧ i = .int .i64 k ∧ Z.length = A.length + C.length ∧ Ok Z ∧ Row wr w.heap.size Z ∧ Below w.heap.size w wr ∧
      V Z = V (A.take k) * V C ∧ (∀ j, k + C.length ≤ j → Z.getD j 0 = 0)) (fun i _ => A.length - (intOf i).toNat)
  case atStart => exact ⟨0, zer (A.length + C.length), by omega, rfl, zer_len _, zer_ok _, hrow1, hbel1, by simp [zer_V, V], fun j _ => zer_at _ _⟩
  case round =>
    obtain ⟨k, Z, hk, rfl, hZl, hZok, hrow, hbel, hV, hz⟩ := hrel
    have HV : Hid _ := hV
    have HZ : Hid _ := hz
    clear hV hz hrow1 hbel1
    by_cases hkl : k < A.length
    · obtain ⟨b1, off1, rfl, hcell⟩ := (hs1.below hbel).at k hkl
      have hxb := hs1.ok.getD k
      obtain ⟨x, hx⟩ : ∃ x, x = A.getD k 0 := ⟨_, rfl⟩
      rw [← hx] at hcell hxb
      have HX : Hid _ := hx
      clear hx
      go_wp2_with fail
      refine (addT_at w.heap.size k (k + C.length + 1 - k) (A.length + C.length - k) (Z.take k) ((Z.drop k).take (C.length + 1)) (Z.drop (k + (C.length + 1))) _ C x wr (by rw [← cut3]; exact hrow) (by simp; omega) (by simp; omega) ((hZok.drop _).take _) (by omega) (by omega)
        (hs2.below hbel) (by intro e; have := hk2 _ e; omega) (by omega) (by omega)).mono ?_
      rintro e w3 ⟨rfl, hbut3, X', c, hXl, hXok, hrow3, h0, h1, hV3⟩
      have hst := mul_step Z C A X' k x c hs2.ok hZok hXok (by omega) HV.out HZ.out HX.out hxb.1 hxb.2 hXl h0 hV3
      have hZ' : Ok (Z.take k ++ (X' ++ Z.drop (k + (C.length + 1)))) := (hZok.take _).append (hXok.append (hZok.drop _))
      have hbel3 := hbel.trans (hbut3.below (Nat.le_refl _))
      generalize Z.take k ++ (X' ++ Z.drop (k + (C.length + 1))) = Z' at *
      obtain ⟨t1, t2, t3⟩ := hst
      have T1 : Hid _ := t1
      have T2 : Hid _ := t2
      clear t1 t2 hV3 hXl h0 h1 hbut3 hcell
      go_wp2_with fail
      go_roundw
      case rel => exact ⟨k + 1, Z', by omega, by go_num, by omega, hZ', hrow3, hbel3, T1.out, T2.out⟩
      case measure => simp [intOf]; omega
    · obtain rfl : k = A.length := by omega
      have HF : Hid (V Z = V a * V b) := by
        show V Z = V a * V b
        rw [HV.out, List.take_length, H1.out, H2.out]
      have hsl := hrow.all hZok (by omega)
      rw [hZl] at hsl
      clear hrow HV HZ
      go_wp2_with fail
      refine (trim_any _ Z _ hsl).mono ?_
      intro e w' hT
      obtain ⟨v, rfl, FIN⟩ := (hT.num (l := a.length + b.length) hbel (Nat.le_refl _) HF.out (by omega)).ends
      clear hT
      go_wp2_with fail
      go_ret
      exact FIN.out
end Go.Proofs.Ytmhcgdigccaogaa
