/-
  The document's own answers of layer 1 (relictref01): Sub.
-/
import Derived.Test.YtedomcijnoekhaaRefB
namespace Go.Proofs.Ytedomcijnoekhaa
open Go.RowKit
set_option linter.unusedVariables false

theorem rsub_step (L a b : List Int) (k : Nat) (c x y z o : Int) (hl : L.length = k) (hx : x = a.getD k 0) (hy : y = b.getD k 0) (h : V L + V (b.take k) = V (a.take k) + B k * c) (hz : z + y + c = x + 4294967296 * o) :
    V (L ++ [z]) + V (b.take (k + 1)) = V (a.take (k + 1)) + B (k + 1) * o := by
  rw [V_snoc, hl, V_take_next a, V_take_next b, ← hx, ← hy]
  have e := congrArg (B k * ·) hz
  simp only [Int.mul_add] at e
  simp only [B]
  rw [← Int.mul_assoc (B k) 4294967296 o, Int.mul_comm (B k) 4294967296] at e
  omega

theorem wrap_sub2 (x y c : Int) (hx0 : 0 ≤ x) (hx1 : x < 4294967296) (hy0 : 0 ≤ y) (hy1 : y < 4294967296) (hc0 : 0 ≤ c) (hc1 : c ≤ 1) :
    ∃ D, IntKind.u64.wrap (IntKind.u64.wrap (x - y) - c) = D ∧ 0 ≤ D ∧ D ≤ 18446744073709551615 ∧ D % 4294967296 + y + c = x + 4294967296 * (D / 9223372036854775808) ∧ D / 9223372036854775808 ≤ 1 := by
  refine ⟨_, rfl, ?_⟩
  rw [IntKind.wrap_u64, IntKind.wrap_u64]
  omega

theorem rsub_fin (L a b : List Int) (c : Int) (ha : Ok a) (hb : Ok b) (hL : Ok L) (hl : L.length = a.length) (hc : 0 ≤ c) (hle : V b ≤ V a) (h : V L + V (b.take a.length) = V (a.take a.length) + B a.length * c) : V L = V a - V b := by
  rw [List.take_length] at h
  have hb' : V (b.take a.length) = V b := by
    rcases Nat.lt_or_ge a.length b.length with h1 | h1
    · have s := V_split b a.length (by omega)
      have h2 := V_nonneg (hb.drop a.length)
      have h3 := V_nonneg (hb.take a.length)
      have h4 := V_lt ha
      rcases (show V (b.drop a.length) = 0 ∨ 1 ≤ V (b.drop a.length) by omega) with h5 | h5
      · rw [h5] at s; omega
      · have := Int.mul_le_mul_of_nonneg_left h5 (Int.le_of_lt (B_pos a.length))
        omega
    · rw [List.take_of_length_le h1]
  rw [hb'] at h
  have h1 := V_lt hL
  rw [hl] at h1
  have h2 := V_nonneg hb
  by_cases hc0 : c = 0
  · subst hc0; omega
  · have : B a.length * 1 ≤ B a.length * c := Int.mul_le_mul_of_nonneg_left (by omega) (Int.le_of_lt (B_pos _))
    omega

set_option maxRecDepth 100000 in
set_option maxHeartbeats 4000000 in
theorem rsub_any (va vb : Value) (a b : List Int) (w : World) (ha : Sl w va a) (hb : Sl w vb b) (hla : a.length ≤ 100000) (hlb : b.length ≤ 100000) :
    Calls Try.prog 22 #[va, vb] w fun e w' => NumPost w (subV (V a) (V b)) a.length e w' := by
  obtain ⟨i0, hi, hz0, hz1, hz2⟩ := info_parts Try.infoU32
  obtain ⟨pa, ca, rfl⟩ := ha.shape
  obtain ⟨pb, cb, rfl⟩ := hb.shape
  go_enter Try.func22, Try.ntmps22
  go_wp2_with fail
  refine (rcmp_any _ _ a b _ ha hb (by omega) (by omega)).mono ?_
  rintro e w' ⟨rfl, hw⟩
  have hw' := hw.symm
  subst hw'
  clear hw
  by_cases hlt : V a < V b
  · have HX : Hid (subV (V a) (V b) = 0) := subV_le (by omega)
    rw [sg_lt hlt]
    clear hlt
    go_wp2_with fail
    go_ret
    exact ⟨_, [], rfl, Sl.nil _, Nm_nil, HX.out.symm, Nat.zero_le _, Below.refl _ _, fun k hk => by simp [Value.ownBlock] at hk⟩
  · have HX : Hid (subV (V a) (V b) = V a - V b) := subV_ge (by omega)
    have HLE : Hid (V b ≤ V a) := by show V b ≤ V a; omega
    have hsg : 0 ≤ sg (V a) (V b) := by
      rcases Int.lt_trichotomy (V a) (V b) with h | h | h
      · exact absurd h hlt
      · rw [h, sg_self]; omega
      · rw [sg_gt h]; omega
    generalize sg (V a) (V b) = s at *
    clear hlt
    go_wp2_with fail
    go_loopw [5, 6, 7] (fun l c i wr => ∃ (k : Nat) (cc : Int) (L : List Int), k ≤ a.length ∧ i = .int .i64 k ∧ c = .int .u64 cc ∧ 0 ≤ cc ∧ cc ≤ 1 ∧ L.length = k ∧ Ok L ∧ Owns wr w.heap.size l L ∧ Below w.heap.size w wr ∧
      V L + V (b.take k) = V (a.take k) + B k * cc) (fun _ _ i _ => a.length - (intOf i).toNat)
    case atStart => exact ⟨0, 0, [], by omega, rfl, rfl, by omega, by omega, rfl, Ok.nil, World.ownsRow_nil _ _ _ _, Below.refl _ _, by simp [V]⟩
    case round =>
      obtain ⟨k, cc, L, hk, rfl, rfl, hc0, hc1, hLl, hLok, hown, hbel, hV⟩ := hrel
      have HV : Hid _ := hV
      clear hV
      have hsa := ha.below hbel
      have hsb := hb.below hbel
      by_cases hkn : k < a.length
      · have hxa := ha.ok.getD k
        have hxb := hb.ok.getD k
        have HST : Hid (∀ z o, z + b.getD k 0 + cc = a.getD k 0 + 4294967296 * o → V (L ++ [z]) + V (b.take (k + 1)) = V (a.take (k + 1)) + B (k + 1) * o) := fun z o h => rsub_step L a b k cc _ _ z o hLl rfl rfl HV.out h
        have CA : Hid (∀ w, Sl w (.slice pa a.length ca) a → Calls Try.prog 39 #[.slice pa a.length ca, .int .i64 (k : Int)] w fun e w' => e = .returned (.int .u64 (a.getD k 0)) ∧ w' = w) := fun w h => at_any _ a (k : Int) k w rfl h (by omega)
        have CB : Hid (∀ w, Sl w (.slice pb b.length cb) b → Calls Try.prog 39 #[.slice pb b.length cb, .int .i64 (k : Int)] w fun e w' => e = .returned (.int .u64 (b.getD k 0)) ∧ w' = w) := fun w h => at_any _ b (k : Int) k w rfl h (by omega)
        generalize a.getD k 0 = x at *
        generalize b.getD k 0 = y at *
        have HL : Hid (L.length = k) := hLl
        clear hLl
        have hLk : L.length ≤ 200001 := by have := HL.out; omega
        go_wp2_with fail
        refine (CA.out _ hsa).mono ?_
        rintro e w' ⟨rfl, hw⟩
        subst hw
        go_wp2_with fail
        refine (CB.out _ hsb).mono ?_
        rintro e w' ⟨rfl, hw⟩
        subst hw
        have hbsz := hbel.size
        obtain ⟨D, hD, hD0, hD1, hD2, hD3⟩ := wrap_sub2 x y cc hxa.1 hxa.2 hxb.1 hxb.2 hc0 hc1
        have HR : Hid _ := HST.out _ _ hD2
        clear hD2 HST
        go_wp2_with (first | (at_builtin; refine wpList_append_own _ rfl _ _ 22 rfl w.heap.size 33 i0 (.int .u32 0) 1 4 Try.underlying22 hi hz0 hz1 hz2 rfl (by decide) _ _ _ rfl (World.ownsRow.alloc hown _) ⟨_, 0, none⟩ 1 1 [.int .u32 (D % 4294967296)] rfl rfl (cell_one_new _ _ _) (fun u hu => by simp at hu; subst hu; rfl) (by simp only [maxLen]; omega) (by omega) (by simp; omega) ?_; intro v' w1 hown1 hgr1 _; have hO := owns_snoc (a := L) (z := D % 4294967296) hown1 rfl rfl; have hB1 := (hbel.alloc hbsz (.cells #[.int .u32 (D % 4294967296)] 33)).grown hgr1 (by simp; omega) (fun k hk => (World.ownsRow.lt hown k hk).1); clear hown1 hgr1 hown) | fail)
        go_roundw
        case rel => exact ⟨k + 1, _, L ++ [D % 4294967296], by omega, by go_num, rfl, by omega, by omega, by simp; exact HL.out, hLok.snoc (by omega) (by omega), hO, hB1, HR.out⟩
        case measure => simp [intOf]; omega
      · obtain rfl : k = a.length := by omega
        have HF : Hid (V L = subV (V a) (V b)) := (rsub_fin L a b cc ha.ok hb.ok hLok hLl hc0 HLE.out HV.out).trans HX.out.symm
        have hsl := hown.sl hLok
        clear HV hown
        go_wp2_with fail
        refine (rnorm_any _ L _ hsl (by omega)).mono ?_
        rintro e w5 ⟨v5, z5, rfl, s5, m5, x5, l5, b5, g5⟩
        have FIN : Hid (NumPost w (subV (V a) (V b)) a.length (.returned v5) w5) := ⟨v5, z5, rfl, s5, m5, x5.trans HF.out, by omega, hbel.trans (b5.mono hbel.size), fun k hk => Nat.le_trans hbel.size (g5 k hk)⟩
        clear x5
        go_wp2_with fail
        go_ret
        exact FIN.out
end Go.Proofs.Ytedomcijnoekhaa
