/-
  limb.takeTimes: takes l, so many times, from the number in a piece of a block of the call's own; limb.Sub: the difference, 0 where the second is above.
-/
import Derived.Test.YtmhcgdigccaogaaNorm
namespace Go.Proofs.Ytmhcgdigccaogaa
open Go.RowKit
set_option linter.unusedVariables false

def TakePost (w : World) (g : Nat) (P X S L : List Int) (t : Int) (e : Ending) (w' : World) : Prop :=
  But g w w' ∧ ∃ X' c, e = .returned (.bool (c == 0)) ∧ X'.length = X.length ∧ Ok X' ∧ Row w' g (P ++ (X' ++ S)) ∧ 0 ≤ c ∧ c < 4294967296 ∧ V X' + V (L.take X.length) * t = V X + B X.length * c

/-- One round of takeTimes. -/
theorem take_step (X' X L : List Int) (k : Nat) (cc t x l z o : Int) (hk : k < X'.length) (hx : x = X.getD k 0) (hl : l = L.getD k 0)
    (hV : V (X'.take k) + V (L.take k) * t = V (X.take k) + B k * cc) (hz : z + (cc + l * t) = x + 4294967296 * o) :
    V ((X'.set k z).take (k + 1)) + V (L.take (k + 1)) * t = V (X.take (k + 1)) + B (k + 1) * o := by
  rw [take_set_succ _ _ _ hk, V_take_next X, V_take_next L, ← hx, ← hl]
  have e := congrArg (B k * ·) hz
  simp only [Int.mul_add] at e
  simp only [B]
  rw [Int.add_mul, Int.mul_assoc (B k) l t]
  rw [← Int.mul_assoc (B k) 4294967296 o, Int.mul_comm (B k) 4294967296] at e
  omega

set_option maxHeartbeats 2000000 in
theorem take_any (g cap : Nat) (P X S : List Int) (vl : Value) (L : List Int) (t : Int) (w : World) (hr : Row w g (P ++ (X ++ S))) (hX : Ok X) (hc : X.length ≤ cap) (hm : cap ≤ 9223372036854775807)
    (hl : Sl w vl L) (hne : vl.ownBlock ≠ some g) (ht0 : 0 ≤ t) (ht1 : t < 4294967296) :
    Calls Try.prog 79 #[.slice (some ⟨g, P.length, none⟩) X.length cap, vl, .int .u32 t] w fun e w' => TakePost w g P X S L t e w' := by
  obtain ⟨al, lcap, rfl⟩ := hl.shape
  go_enter Try.func79, Try.ntmps79
  go_wp2_with fail
  go_loopw [7, 12] (fun c i wr => ∃ (k : Nat) (cc : Int) (X' : List Int), k ≤ X.length ∧ i = .int .i64 k ∧ c = .int .u64 cc ∧ 0 ≤ cc ∧ cc < 4294967296 ∧ X'.length = X.length ∧ Ok X' ∧ Row wr g (P ++ (X' ++ S)) ∧ But g w wr ∧
      V (X'.take k) + V (L.take k) * t = V (X.take k) + B k * cc ∧ (∀ j, k ≤ j → X'.getD j 0 = X.getD j 0)) (fun _ i _ => X.length - (intOf i).toNat)
  case atStart => exact ⟨0, 0, X, by omega, rfl, rfl, by omega, by omega, rfl, hX, hr, But.refl _ _, by simp [V], fun _ _ => rfl⟩
  case round =>
    obtain ⟨k, cc, X', hk, rfl, rfl, hc0, hc1, hlen, hok, hrow, hbut, hV, hsame⟩ := hrel
    by_cases hkl : k < X.length
    · have hsl := hl.but hbut hne
      have hcell := hrow.cellIn k (by omega)
      have hfr : wr.frozen? ⟨g, P.length + k, none⟩ = false := hrow.frozen _
      obtain ⟨x, hx⟩ : ∃ x, x = X'.getD k 0 := ⟨_, rfl⟩
      have hxb := hok.getD k
      have hxX : Hid (x = X.getD k 0) := hx.trans (hsame k (Nat.le_refl _))
      rw [← hx] at hcell hxb
      clear hx
      have hV' : Hid _ := hV
      have hsame' : Hid _ := hsame
      clear hV hsame
      by_cases hk2 : k < L.length
      · obtain ⟨b, off, rfl, hlk⟩ := hsl.at k hk2
        have hLk := hl.ok.getD k
        obtain ⟨l, hll⟩ : ∃ l, l = L.getD k 0 := ⟨_, rfl⟩
        have hp := prod_bd hLk.1 hLk.2 ht0 ht1
        rw [← hll] at hlk hLk hp
        have hlH : Hid (l = L.getD k 0) := hll
        clear hll hsl
        by_cases hlow : x < (cc + l * t) % 4294967296
        · go_wp2_with fail
          go_roundw
          case rel =>
            exact ⟨k + 1, _, X'.set k _, by omega, by go_num, rfl, by omega, by omega, by simp [hlen], hok.set _ (by omega) (by omega), hrow.setIn _ (by omega) _, hbut.setCell _ _,
              take_step X' X L k cc t x l _ _ (by omega) hxX.out hlH.out hV'.out (by omega), set_same _ _ _ _ hsame'.out⟩
          case measure => simp [intOf]; omega
        · go_wp2_with fail
          go_roundw
          case rel =>
            exact ⟨k + 1, _, X'.set k _, by omega, by go_num, rfl, by omega, by omega, by simp [hlen], hok.set _ (by omega) (by omega), hrow.setIn _ (by omega) _, hbut.setCell _ _,
              take_step X' X L k cc t x l _ _ (by omega) hxX.out hlH.out hV'.out (by omega), set_same _ _ _ _ hsame'.out⟩
          case measure => simp [intOf]; omega
      · have hlH : Hid ((0 : Int) = L.getD k 0) := by show (0 : Int) = L.getD k 0; simp [List.getD, hk2]
        clear hsl
        by_cases hlow : x < (cc) % 4294967296
        · go_wp2_with fail
          go_roundw
          case rel =>
            exact ⟨k + 1, _, X'.set k _, by omega, by go_num, rfl, by omega, by omega, by simp [hlen], hok.set _ (by omega) (by omega), hrow.setIn _ (by omega) _, hbut.setCell _ _,
              take_step X' X L k cc t x 0 _ _ (by omega) hxX.out hlH.out hV'.out (by omega), set_same _ _ _ _ hsame'.out⟩
          case measure => simp [intOf]; omega
        · go_wp2_with fail
          go_roundw
          case rel =>
            exact ⟨k + 1, _, X'.set k _, by omega, by go_num, rfl, by omega, by omega, by simp [hlen], hok.set _ (by omega) (by omega), hrow.setIn _ (by omega) _, hbut.setCell _ _,
              take_step X' X L k cc t x 0 _ _ (by omega) hxX.out hlH.out hV'.out (by omega), set_same _ _ _ _ hsame'.out⟩
          case measure => simp [intOf]; omega
    · obtain rfl : k = X.length := by omega
      have HV : Hid _ := hV
      clear hV hsame
      go_wp2_with fail
      go_ret
      refine ⟨hbut, X', cc, rfl, hlen, hok, hrow, hc0, hc1, ?_⟩
      have := HV.out
      rwa [List.take_of_length_le (l := X') (by omega), List.take_of_length_le (l := X) (by omega)] at this

theorem take_at (g off n cap : Nat) (P X S : List Int) (vl : Value) (L : List Int) (t : Int) (w : World) (hr : Row w g (P ++ (X ++ S))) (hP : P.length = off) (hn : X.length = n) (hX : Ok X) (hc : n ≤ cap) (hm : cap ≤ 9223372036854775807)
    (hl : Sl w vl L) (hne : vl.ownBlock ≠ some g) (ht0 : 0 ≤ t) (ht1 : t < 4294967296) :
    Calls Try.prog 79 #[.slice (some ⟨g, off, none⟩) n cap, vl, .int .u32 t] w fun e w' => TakePost w g P X S L t e w' := by
  subst hP; subst hn
  exact take_any g cap P X S vl L t w hr hX hc hm hl hne ht0 ht1

/-- The difference; 0, if the second is above. -/
def subV (x y : Int) : Int := if y ≤ x then x - y else 0
theorem subV_ge {x y : Int} (h : y ≤ x) : subV x y = x - y := if_pos h
theorem subV_le {x y : Int} (h : x ≤ y) : subV x y = 0 := by
  unfold subV
  by_cases h : y ≤ x
  · rw [if_pos h]; omega
  · rw [if_neg h]

theorem sub_math (A C X' : List Int) (c : Int) (hA : Ok A) (hC : Ok C) (hX : Ok X') (hl : C.length ≤ A.length) (hx : X'.length = A.length) (h0 : 0 ≤ c) (hle : V C ≤ V A)
    (h : V X' + V (C.take A.length) * 1 = V A + B A.length * c) : V X' = V A - V C := by
  rw [List.take_of_length_le hl, Int.mul_one] at h
  have h1 := V_lt hX
  rw [hx] at h1
  have h4 := V_nonneg hA
  by_cases hc : c = 0
  · subst hc; omega
  · have : B A.length * 1 ≤ B A.length * c := Int.mul_le_mul_of_nonneg_left (by omega) (Int.le_of_lt (B_pos _))
    omega

set_option maxHeartbeats 1000000 in
theorem sub_any (va vb : Value) (a b : List Int) (w : World) (ha : Sl w va a) (hb : Sl w vb b) (hla : a.length ≤ 1000000) (hlb : b.length ≤ 1000000) :
    Calls Try.prog 56 #[va, vb] w fun e w' => NumPost w (subV (V a) (V b)) a.length e w' := by
  obtain ⟨aa, acap, rfl⟩ := ha.shape
  obtain ⟨ba, bcap, rfl⟩ := hb.shape
  go_enter Try.func56, Try.ntmps56
  go_wp2_with fail
  refine (cmp_any _ _ a b _ ha hb).mono ?_
  rintro e w1 ⟨rfl, hbel1⟩
  by_cases hle : V a ≤ V b
  · have hs : sg (V a) (V b) ≤ 0 := by
      rcases Int.lt_or_eq_of_le hle with h | h
      · rw [sg_lt h]; omega
      · rw [h, sg_self]; omega
    have HX : Hid (subV (V a) (V b) = 0) := subV_le hle
    clear hle
    generalize sg (V a) (V b) = s at *
    go_wp2_with fail
    go_ret
    exact ⟨_, [], rfl, Sl.nil _, Nm_nil, HX.out.symm, Nat.zero_le _, hbel1, fun k hk => by simp [Value.ownBlock] at hk⟩
  · have hs : sg (V a) (V b) = 1 := sg_gt (by omega)
    rw [hs]
    have HX : Hid (subV (V a) (V b) = V a - V b) := subV_ge (by omega)
    have HLE : Hid (V b < V a) := by show V b < V a; omega
    clear hle hs
    go_wp2_with fail
    refine (norm_any _ a _ (ha.below hbel1) hla).mono ?_
    rintro e w2 ⟨A, hAok, hAn, hAv, hAl, hbel2, hcase⟩
    have hbel12 := hbel1.trans (hbel2.mono hbel1.size)
    have hApos : 0 < A.length := by
      rcases Nat.eq_zero_or_pos A.length with h | h
      · have h1 := List.eq_nil_of_length_eq_zero h
        have h2 := V_nonneg hb.ok
        have h3 := HLE.out
        rw [h1] at hAv
        simp only [V] at hAv
        omega
      · exact h
    rcases hcase with ⟨h, _⟩ | ⟨_, g, hg, rfl, hrowA⟩
    · rw [h] at hApos; simp at hApos
    · have HA : Hid _ := hAv
      clear hAv
      go_wp2_with fail
      refine (trim_any _ b _ (hb.below hbel12)).mono ?_
      rintro e w' ⟨rfl, v2, n2, rfl, hn2, hs2, hnm2, hv2, -, hob2, hk2⟩
      have H2 : Hid (V (b.take n2) = V b) := hv2
      have hl2 : (b.take n2).length ≤ 1000000 := by simp; omega
      have hk2' := hb.old hob2
      clear hv2 hk2 hob2
      generalize b.take n2 = C at *
      obtain ⟨p2, c2, rfl⟩ := hs2.shape
      have hCA : C.length ≤ A.length := by
        rcases Nat.lt_or_ge A.length C.length with h | h
        · have h1 := lt_of_V hAok hs2.ok hnm2 h
          have h2 := HLE.out
          rw [← H2.out, ← HA.out] at h2
          omega
        · exact h
      have hgw : w.heap.size ≤ g := Nat.le_trans hbel1.size hg
      go_wp2_with fail
      refine (take_at g 0 A.length A.length [] A [] _ C 1 _ (by simpa using hrowA) rfl rfl hAok (Nat.le_refl _) (by omega) hs2 (by intro e; have := hk2' _ e; omega) (by decide) (by decide)).mono ?_
      rintro e w3 ⟨hbut3, X', c, rfl, hXl, hXok, hrow3, h0, h1, hV⟩
      have HF : Hid (V X' = subV (V a) (V b)) := by
        show V X' = subV (V a) (V b)
        rw [HX.out, sub_math A C X' c hAok hs2.ok hXok hCA hXl h0 (by have := HLE.out; rw [H2.out, HA.out]; omega) hV, HA.out, H2.out]
      have hbel3 := hbel12.trans (hbut3.below hgw)
      have hsl3 := hrow3
      simp only [List.nil_append, List.append_nil] at hsl3
      have hsl := hsl3.all hXok (by omega)
      rw [hXl] at hsl
      have hXl' : X'.length ≤ a.length := by omega
      clear hV hrow3 hsl3 hbut3 h0 h1 hXl
      generalize (c == 0) = cz at *
      go_wp2_with fail
      refine (trim_any _ X' _ hsl).mono ?_
      intro e w' hT
      obtain ⟨v, rfl, FIN⟩ := (hT.num (l := a.length) hbel3 hgw HF.out (by omega)).ends
      clear hT
      go_wp2_with fail
      go_ret
      exact FIN.out
end Go.Proofs.Ytmhcgdigccaogaa
