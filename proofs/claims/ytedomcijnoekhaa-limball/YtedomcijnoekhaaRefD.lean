/-
  The document's own answers of layer 1 (relictref01): Mul.
-/
import Derived.Test.YtedomcijnoekhaaRefC
import Derived.Deep.RegionWith
namespace Go.Proofs.Ytedomcijnoekhaa
open Go.RowKit
set_option linter.unusedVariables false

set_option maxRecDepth 100000 in
set_option maxHeartbeats 4000000 in
theorem rmul_any (va vb : Value) (a b : List Int) (w : World) (ha : Sl w va a) (hb : Sl w vb b) (hla : a.length ≤ 100000) (hlb : b.length ≤ 100000) :
    Calls Try.prog 24 #[va, vb] w fun e w' => NumPost w (V a * V b) (a.length + b.length + 1) e w' := by
  obtain ⟨pa, ca, rfl⟩ := ha.shape
  obtain ⟨pb, cb, rfl⟩ := hb.shape
  go_enter Try.func24, Try.ntmps24
  go_wp2_with (first | (at_make; refine wpList_make_u32 rfl _ _ rfl _ _ (a.length + b.length + 1) rfl rfl (by omega) (by omega) (by omega) ?_; intro w1 hrow1 hbel1) | fail)
  go_loopw [6] (fun s wr => ∃ (i : Nat) (Z : List Int), i ≤ a.length ∧ s = .int .i64 i ∧ Z.length = a.length + b.length + 1 ∧ Ok Z ∧ Row wr w.heap.size Z ∧ Below w.heap.size w wr ∧
      V Z = V (a.take i) * V b ∧ (∀ j, i + b.length ≤ j → Z.getD j 0 = 0)) (fun s _ => a.length - (intOf s).toNat)
  case atStart => exact ⟨0, zer (a.length + b.length + 1), by omega, rfl, zer_len _, zer_ok _, hrow1, hbel1, by simp [zer_V, V], fun j _ => zer_at _ _⟩
  case round =>
    obtain ⟨i, Z, hk, rfl, hZl, hZok, hrow, hbel, hV, hz⟩ := hrel
    have HV : Hid _ := hV
    have HZ : Hid _ := hz
    clear hV hz hrow1 hbel1
    by_cases hil : i < a.length
    · have hxa := ha.ok.getD i
      have CA : Hid (∀ w, Sl w (.slice pa a.length ca) a → Calls Try.prog 39 #[.slice pa a.length ca, .int .i64 (i : Int)] w fun e w' => e = .returned (.int .u64 (a.getD i 0)) ∧ w' = w) := fun w h => at_any _ a (i : Int) i w rfl h (by omega)
      obtain ⟨t, ht⟩ : ∃ t, t = a.getD i 0 := ⟨_, rfl⟩
      rw [← ht] at hxa CA
      have HT : Hid _ := ht
      clear ht
      obtain ⟨X, hX⟩ : ∃ X, X = (Z.drop i).take (b.length + 1) := ⟨_, rfl⟩
      obtain ⟨P, hP⟩ : ∃ P, P = Z.take i := ⟨_, rfl⟩
      obtain ⟨S, hS⟩ : ∃ S, S = Z.drop (i + (b.length + 1)) := ⟨_, rfl⟩
      have hPl : P.length = i := by rw [hP]; simp; omega
      have hXl : X.length = b.length + 1 := by rw [hX]; simp; omega
      have hXok : Ok X := by rw [hX]; exact (hZok.drop _).take _
      have hrow0 : Row wr w.heap.size (P ++ (X ++ S)) := by rw [hP, hX, hS, ← cut3]; exact hrow
      have HX : Hid _ := hX
      have HP : Hid _ := hP
      have HS : Hid _ := hS
      have HPL : Hid _ := hPl
      have HXL : Hid _ := hXl
      clear hX hP hS hPl hXl hrow
      go_wp2_with fail
      go_loopw [7, 8] (fun c s wy => ∃ (k : Nat) (cc : Int) (X' : List Int), k ≤ b.length + 1 ∧ s = .int .i64 k ∧ c = .int .u64 cc ∧ 0 ≤ cc ∧ cc < 4294967296 ∧ Hid (X'.length = b.length + 1) ∧ Ok X' ∧ Row wy w.heap.size (P ++ (X' ++ S)) ∧ Below w.heap.size w wy ∧
        Hid (V (X'.take k) + B k * cc = V (X.take k) + V (b.take k) * t) ∧ Hid (∀ j, k ≤ j → X'.getD j 0 = X.getD j 0)) (fun _ s _ => b.length + 1 - (intOf s).toNat)
      case atStart => exact ⟨0, 0, X, by omega, rfl, rfl, by omega, by omega, HXL, hXok, hrow0, hbel, by show _ = _; simp [V], fun _ _ => rfl⟩
      case round =>
        obtain ⟨k, cc, X', hk2, rfl, rfl, hc0, hc1, HXL', hok', hrow2, hbel2, HV2, HSM⟩ := hrel
        clear hrow0 hbel
        by_cases hkl : k ≤ b.length
        · have hkl' : (k : Int) ≤ (b.length : Int) := by omega
          have hcell := hrow2.cellIn k (by rw [HXL'.out]; omega)
          have hfr : wr.frozen? ⟨w.heap.size, P.length + k, none⟩ = false := hrow2.frozen _
          rw [HPL.out] at hcell hfr
          have hxx := hok'.getD k
          have hbb := hb.ok.getD k
          have HXX : Hid (X'.getD k 0 = X.getD k 0) := HSM.out k (Nat.le_refl _)
          have hp := prod_bd hxa.1 hxa.2 hbb.1 hbb.2
          have CB : Hid (∀ w, Sl w (.slice pb b.length cb) b → Calls Try.prog 39 #[.slice pb b.length cb, .int .i64 (k : Int)] w fun e w' => e = .returned (.int .u64 (b.getD k 0)) ∧ w' = w) := fun w h => at_any _ b (k : Int) k w rfl h (by omega)
          have HST : Hid (V ((X'.set k ((cc + b.getD k 0 * t + X.getD k 0) % 4294967296)).take (k + 1)) + B (k + 1) * ((cc + b.getD k 0 * t + X.getD k 0) / 4294967296) = V (X.take (k + 1)) + V (b.take (k + 1)) * t) := addT_step X' X b k cc t _ _ (by rw [HXL'.out]; omega) rfl rfl HV2.out
          rw [← HXX.out] at HST
          generalize X'.getD k 0 = x at *
          generalize b.getD k 0 = y at *
          have hsa := ha.below hbel2
          have hsb := hb.below hbel2
          have hik : (i : Int) + (k : Int) < (a.length : Int) + (b.length : Int) + 1 := by omega
          go_wp2_with fail
          go_quiet (first | (go_at_call_of 39 (Value.slice pa a.length ca); exact Calls.quiet_of_same (CA.out _ (hsa.below (below_drewN (Below.refl _ _) _)))) | (go_at_call_of 39 (Value.slice pb b.length cb); exact Calls.quiet_of_same (CB.out _ (hsb.below (below_drewN (Below.refl _ _) _)))))
          go_wp2_with fail
          have e1 : cc + y * t + x = cc + x + t * y := by rw [Int.mul_comm y t]; omega
          rw [e1] at HST
          have hrow3 : Row (wr.drewN nq) w.heap.size (P ++ (X' ++ S)) := hrow2
          have hset := hrow3.setIn k (by rw [HXL'.out]; omega) ((cc + x + t * y) % 4294967296)
          rw [HPL.out] at hset
          go_roundw
          case rel => exact ⟨k + 1, _, X'.set k ((cc + x + t * y) % 4294967296), by omega, by go_num, rfl, by omega, by omega, by show _ = _; simpa using HXL'.out, hok'.set _ (by omega) (by omega), hset, (below_drewN hbel2 _).setCell (Nat.le_refl _) _, HST, set_same _ _ _ _ HSM.out⟩
          case measure => simp [intOf]; omega
        · have hkl' : ¬ (k : Int) ≤ (b.length : Int) := by omega
          obtain rfl : k = b.length + 1 := by omega
          have hst := mul_step Z b a X' i t cc hb.ok hZok hok' (by omega) HV.out HZ.out HT.out hxa.1 hxa.2 (by rw [← HX.out, HXL'.out, HXL.out]) hc0 (by
            have h := HV2.out
            rw [List.take_of_length_le (l := X') (by rw [HXL'.out]; omega), List.take_of_length_le (l := X) (by rw [HXL.out]; omega)] at h
            rw [← HX.out, HXL.out]; exact h)
          rw [← HP.out, ← HS.out] at hst
          have hok2 : Ok (P ++ (X' ++ S)) := by rw [HP.out, HS.out]; exact (hZok.take _).append (hok'.append (hZok.drop _))
          generalize P ++ (X' ++ S) = Z' at *
          obtain ⟨t1, t2, t3⟩ := hst
          have T1 : Hid _ := t1
          have T2 : Hid _ := t2
          clear t1 t2
          go_wp2_with fail
          go_roundw
          case rel => exact ⟨i + 1, Z', by omega, by go_num, by omega, hok2, hrow2, hbel2, T1.out, T2.out⟩
          case measure => simp [intOf]; omega
    · obtain rfl : i = a.length := by omega
      have HF : Hid (V Z = V a * V b) := by
        show V Z = V a * V b
        rw [HV.out, List.take_length]
      have hsl := hrow.all hZok (by omega)
      rw [hZl] at hsl
      clear hrow HV HZ
      go_wp2_with fail
      refine (rnorm_any _ Z _ hsl (by omega)).mono ?_
      rintro e w5 ⟨v5, z5, rfl, s5, m5, x5, l5, b5, g5⟩
      have FIN : Hid (NumPost w (V a * V b) (a.length + b.length + 1) (.returned v5) w5) := ⟨v5, z5, rfl, s5, m5, x5.trans HF.out, by omega, hbel.trans (b5.mono hbel.size), fun k hk => Nat.le_trans hbel.size (g5 k hk)⟩
      clear x5
      go_wp2_with fail
      go_ret
      exact FIN.out
end Go.Proofs.Ytedomcijnoekhaa
