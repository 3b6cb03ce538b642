/-
  relictlaw06.CompactNumbers: the walk.
-/
import Derived.Test.YtmoonigeghoeeaaDoorCpL
import Derived.Test.YtmoonigeghoeeaaDoorCpP
namespace Go.Proofs.YtmoonigeghoeeaaDoor
open Go.RowKit
set_option linter.unusedVariables false
set_option linter.unusedSimpArgs false

theorem len_num {t x : Int} (h : okP t x) (h0 : 0 ≤ x) (h1 : x ≤ 134217728) : ((numB t x).length : Int) = if x < 16 then 1 else if t ≠ 1 ∧ x < 2048 then 2 else if (t = 1 ∧ x < 32768) ∨ (t ≠ 1 ∧ x < 65536) then 3 else if (t ≠ 1 ∧ 16777216 ≤ x) ∨ (t = 1 ∧ 8388608 ≤ x) then 5 else 4 := by
  unfold numB
  by_cases c1 : x < 16
  · rw [if_pos ⟨h0, c1⟩, if_pos c1]; rfl
  rw [if_neg (by omega), if_neg c1]
  by_cases c2 : t ≠ 1 ∧ x < 2048
  · rw [if_pos c2, if_pos c2]; rfl
  rw [if_neg c2, if_neg c2]
  rw [List.length_cons, dnB_len]
  have hr : ∀ s, 2 ≤ s → s ≤ 4 → (roomB t x s = true ↔ (if t = 1 then x < 2 ^ (s * 8 - 1) else x < 2 ^ (s * 8))) := by
    intro s hs2 hs4
    have : s = 2 ∨ s = 3 ∨ s = 4 := by omega
    by_cases ht : t = 1
    · rw [if_pos ht]
      rw [ht, room_i]
      rcases this with rfl | rfl | rfl <;> simp only [Nat.reduceMul, Nat.reduceSub, Int.reducePow, Bool.or_eq_true, beq_iff_eq] <;> omega
    · rw [if_neg ht, room_u _ _ _ ht]
      rcases this with rfl | rfl | rfl <;> simp only [Nat.reduceMul, Nat.reduceSub, Int.reducePow, beq_iff_eq] <;> omega
  have h2 := hr 2 (by omega) (by omega)
  have h3 := hr 3 (by omega) (by omega)
  have h4 := hr 4 (by omega) (by omega)
  simp only [Nat.reduceMul, Nat.reduceSub, Int.reducePow] at h2 h3 h4
  by_cases ht : t = 1
  · rw [if_pos ht] at h2 h3 h4
    by_cases d2 : x < 32768
    · have e : szN t x = 2 := by unfold szN; rw [if_pos (h2.2 d2)]
      rw [e, if_pos (show ((t = 1 ∧ x < 32768) ∨ (t ≠ 1 ∧ x < 65536)) by omega)]; rfl
    · by_cases d3 : x < 8388608
      · have e : szN t x = 3 := by unfold szN; rw [if_neg (fun e => d2 (h2.1 e)), if_pos (h3.2 d3)]
        rw [e, if_neg (show ¬ ((t = 1 ∧ x < 32768) ∨ (t ≠ 1 ∧ x < 65536)) by omega), if_neg (show ¬ ((t ≠ 1 ∧ 16777216 ≤ x) ∨ (t = 1 ∧ 8388608 ≤ x)) by omega)]; rfl
      · have e : szN t x = 4 := by unfold szN; rw [if_neg (fun e => d2 (h2.1 e)), if_neg (fun e => d3 (h3.1 e)), if_pos (h4.2 (by omega))]
        rw [e, if_neg (show ¬ ((t = 1 ∧ x < 32768) ∨ (t ≠ 1 ∧ x < 65536)) by omega), if_pos (show ((t ≠ 1 ∧ 16777216 ≤ x) ∨ (t = 1 ∧ 8388608 ≤ x)) by omega)]; rfl
  · rw [if_neg ht] at h2 h3 h4
    by_cases d2 : x < 65536
    · have e : szN t x = 2 := by unfold szN; rw [if_pos (h2.2 d2)]
      rw [e, if_pos (show ((t = 1 ∧ x < 32768) ∨ (t ≠ 1 ∧ x < 65536)) by omega)]; rfl
    · by_cases d3 : x < 16777216
      · have e : szN t x = 3 := by unfold szN; rw [if_neg (fun e => d2 (h2.1 e)), if_pos (h3.2 d3)]
        rw [e, if_neg (show ¬ ((t = 1 ∧ x < 32768) ∨ (t ≠ 1 ∧ x < 65536)) by omega), if_neg (show ¬ ((t ≠ 1 ∧ 16777216 ≤ x) ∨ (t = 1 ∧ 8388608 ≤ x)) by omega)]; rfl
      · have e : szN t x = 4 := by unfold szN; rw [if_neg (fun e => d2 (h2.1 e)), if_neg (fun e => d3 (h3.1 e)), if_pos (h4.2 (by omega))]
        rw [e, if_neg (show ¬ ((t = 1 ∧ x < 32768) ∨ (t ≠ 1 ∧ x < 65536)) by omega), if_pos (show ((t ≠ 1 ∧ 16777216 ≤ x) ∨ (t = 1 ∧ 8388608 ≤ x)) by omega)]; rfl

set_option maxRecDepth 100000 in
set_option maxHeartbeats 8000000 in
theorem compactNumbers_walk (tag v n : Int) (w : World) (hS : Spn w) (ht1 : -9223372036854775808 ≤ tag) (ht2 : tag ≤ 9223372036854775807) (hv1 : -9223372036854775808 ≤ v) (hv2 : v ≤ 9223372036854775807) (hn1 : -9223372036854775808 ≤ n) (hn2 : n ≤ 9223372036854775807) :
    Calls Tryd.prog 5 #[.int .i64 tag, .int .i64 v, .int .i64 n] w fun e w' => e = .returned (.bool true) ∧ Below w.heap.size w w' := by
  have HS : Hid (Spn w) := hS
  clear hS
  have HP1 := place_any tag 5 w (by decide) (by decide) ht1 ht2
  have HP2 := place_any n 28 w (by decide) (by decide) hn1 hn2
  obtain ⟨i, hi⟩ : ∃ i, i = tag % 5 := ⟨_, rfl⟩
  obtain ⟨K, hK⟩ : ∃ K : Nat, (K : Int) = n % 28 := ⟨(n % 28).toNat, by omega⟩
  rw [← hi] at HP1
  rw [← hK] at HP2
  have hi0 : 0 ≤ i := by omega
  have hi5 : i < 5 := by omega
  have hK28 : K < 28 := by omega
  obtain ⟨M, hM⟩ : ∃ M : Int, (2 : Int) ^ K = M := ⟨_, rfl⟩
  have hM0 : 1 ≤ M ∧ M ≤ 134217728 := by
    have h1 := two_pos K
    have h2 : ((2 ^ K : Nat) : Int) ≤ ((2 ^ 27 : Nat) : Int) := Int.ofNat_le.2 (Nat.pow_le_pow_right (by decide) (by omega))
    have h3 : ((2 ^ K : Nat) : Int) = (2 : Int) ^ K := by simp
    have h4 : ((2 ^ 27 : Nat) : Int) = 134217728 := by decide
    omega
  have HP3 := place_any v (M + 1) w (by omega) (by omega) hv1 hv2
  obtain ⟨x, hx⟩ : ∃ x, x = v % (M + 1) := ⟨_, rfl⟩
  rw [← hx] at HP3
  have hx0 : 0 ≤ x ∧ x ≤ 134217728 := by
    have h1 := Int.emod_nonneg v (show M + 1 ≠ 0 by omega)
    have h2 := Int.emod_lt_of_pos v (show 0 < M + 1 by omega)
    omega
  obtain ⟨t, htx, htv⟩ : ∃ t : Int, (∀ wx : World, (Instr.index 40 (.agg #[.int .i64 0, .int .i64 2, .int .i64 3, .int .i64 5, .int .i64 1]) (.int .i64 i)).run Tryd.prog wx = .ok (.int .i64 t) wx) ∧ (t = 0 ∨ t = 2 ∨ t = 3 ∨ t = 5 ∨ t = 1) := by
    have : i = 0 ∨ i = 1 ∨ i = 2 ∨ i = 3 ∨ i = 4 := by omega
    rcases this with h | h | h | h | h
    all_goals subst h
    · exact ⟨0, fun _ => by kernel_rfl, by omega⟩
    · exact ⟨2, fun _ => by kernel_rfl, by omega⟩
    · exact ⟨3, fun _ => by kernel_rfl, by omega⟩
    · exact ⟨5, fun _ => by kernel_rfl, by omega⟩
    · exact ⟨1, fun _ => by kernel_rfl, by omega⟩
  have hp : okP t x := by unfold okP; omega
  have hln := len_num hp hx0.1 hx0.2
  obtain ⟨L, hL⟩ : ∃ L, L = numB t x := ⟨_, rfl⟩
  obtain ⟨len, hlen⟩ : ∃ len : Nat, len = L.length := ⟨_, rfl⟩
  have HPN : Hid (([] ++ El.putS ⟨t, x, none, 0, 0⟩ [] : List UInt8) = L) := by unfold Hid; rw [hL]; exact putS_num hp
  have HLEN : Hid (L.length = len) := hlen.symm
  have HGET : Hid (getS L 0 = (⟨t, x, []⟩, (len : Int), 0)) := by
    have := get_put (sgl_ar hp).1
    rw [(sgl_ar hp).2, ← hL, ← hlen] at this
    exact this
  rw [← hL, ← hlen] at hln
  have H1 : Hid _ := HP1
  have HQ1 : Hid (Calls Tryd.prog 19 #[.int .i64 tag, .int .i64 5] w fun e w' => e = .returned (.int .i64 i) ∧ w = w') := HP1
  have HQ2 : Hid (Calls Tryd.prog 19 #[.int .i64 n, .int .i64 28] w fun e w' => e = .returned (.int .i64 (K : Int)) ∧ w = w') := HP2
  have HQ3 : Hid (Calls Tryd.prog 19 #[.int .i64 v, .int .i64 (M + 1)] w fun e w' => e = .returned (.int .i64 x) ∧ w = w') := HP3
  have HLN : Hid _ := hln
  clear HP1 HP2 HP3 hi hK hx hL hlen hln H1 hp
  obtain ⟨hx0, hx1⟩ := hx0
  obtain ⟨hM0, hM1⟩ := hM0
  have htc : t = 1 ∨ (¬ t = 1 ∧ 0 ≤ t ∧ t ≤ 5) := by omega
  clear htv
  rcases htc with rfl | ⟨hne, ht0, ht5⟩
  · have hcs : (x < 16) ∨ (¬ x < 16 ∧ x < 32768) ∨ (¬ x < 16 ∧ ¬ x < 32768 ∧ x < 8388608) ∨ (¬ x < 16 ∧ ¬ x < 32768 ∧ 8388608 ≤ x) := by omega
    rcases hcs with h | ⟨h0, h1⟩ | ⟨h0, h1, h2⟩ | ⟨h0, h1, h2⟩
    · obtain rfl : len = 1 := by
        have := HLN.out
        repeat' split at this
        all_goals omega
      clear HLN
      go_enter Tryd.func5, Tryd.ntmps5
      go_wp2_with fail
      refine HQ1.out.mono ?_
      rintro e w0 ⟨rfl, rfl⟩
      go_wp2_with fail
      refine HQ2.out.mono ?_
      rintro e w0 ⟨rfl, rfl⟩
      go_wp2_with fail
      refine HQ3.out.mono ?_
      rintro e w0 ⟨rfl, rfl⟩
      go_wp2_with fail
      refine (put_one w (HS.out) 1 x (by omega) (by omega) (by omega) (by omega)).mono ?_
      rintro e w1 ⟨v1, rfl, y1, b1⟩
      rw [HPN.out] at y1
      obtain ⟨a1, c1, rfl, hy1, hy2, hy3⟩ := y1.shape
      have HB1 : Hid (Below w.heap.size w w1) := b1
      have HY1 : Hid (By w1 (.slice a1 1 c1) L) := by rw [HLEN.out] at y1; exact y1
      rw [HLEN.out]
      clear y1 b1 hy1 hy2 hy3
      go_wp2_with fail
      refine (get_any w1 (.slice a1 1 c1) L 0 (HS.out.under HB1.out) HY1.out).mono ?_
      rw [HGET.out]
      rintro e w2 ⟨sl, rfl, hrw, ⟨sa, sc, rfl, -⟩, b2⟩
      unfold agV
      have bC := (Below.refl w2.heap.size w2).alloc (Nat.le_refl _) (.cells #[.int .i64 1, .int .i64 x, .slice sa 0 sc] 25)
      have HB3 : Hid (Below w.heap.size w (w2.alloc (.cells #[.int .i64 1, .int .i64 x, .slice sa 0 sc] 25))) := (HB1.out.trans (b2.mono HB1.out.size)).trans (bC.mono (by have := HB1.out.size; have := b2.size; omega))
      dsimp only [List.length_nil]
      clear hrw b2 bC HY1
      go_wp2_with fail
      refine (awake6 _ (HS.out.under HB3.out)).mono ?_
      rintro e w4 ⟨rfl, b4⟩
      have HB4 : Hid (Below w.heap.size w w4) := HB3.out.trans (b4.mono HB3.out.size)
      clear b4
      go_wp2_with fail
      go_ret
      exact ⟨rfl, HB4.out⟩
    · obtain rfl : len = 3 := by
        have := HLN.out
        repeat' split at this
        all_goals omega
      clear HLN
      go_enter Tryd.func5, Tryd.ntmps5
      go_wp2_with fail
      refine HQ1.out.mono ?_
      rintro e w0 ⟨rfl, rfl⟩
      go_wp2_with fail
      refine HQ2.out.mono ?_
      rintro e w0 ⟨rfl, rfl⟩
      go_wp2_with fail
      refine HQ3.out.mono ?_
      rintro e w0 ⟨rfl, rfl⟩
      go_wp2_with fail
      refine (put_one w (HS.out) 1 x (by omega) (by omega) (by omega) (by omega)).mono ?_
      rintro e w1 ⟨v1, rfl, y1, b1⟩
      rw [HPN.out] at y1
      obtain ⟨a1, c1, rfl, hy1, hy2, hy3⟩ := y1.shape
      have HB1 : Hid (Below w.heap.size w w1) := b1
      have HY1 : Hid (By w1 (.slice a1 3 c1) L) := by rw [HLEN.out] at y1; exact y1
      rw [HLEN.out]
      clear y1 b1 hy1 hy2 hy3
      go_wp2_with fail
      refine (get_any w1 (.slice a1 3 c1) L 0 (HS.out.under HB1.out) HY1.out).mono ?_
      rw [HGET.out]
      rintro e w2 ⟨sl, rfl, hrw, ⟨sa, sc, rfl, -⟩, b2⟩
      unfold agV
      have bC := (Below.refl w2.heap.size w2).alloc (Nat.le_refl _) (.cells #[.int .i64 1, .int .i64 x, .slice sa 0 sc] 25)
      have HB3 : Hid (Below w.heap.size w (w2.alloc (.cells #[.int .i64 1, .int .i64 x, .slice sa 0 sc] 25))) := (HB1.out.trans (b2.mono HB1.out.size)).trans (bC.mono (by have := HB1.out.size; have := b2.size; omega))
      dsimp only [List.length_nil]
      clear hrw b2 bC HY1
      go_wp2_with fail
      refine (awake6 _ (HS.out.under HB3.out)).mono ?_
      rintro e w4 ⟨rfl, b4⟩
      have HB4 : Hid (Below w.heap.size w w4) := HB3.out.trans (b4.mono HB3.out.size)
      clear b4
      go_wp2_with fail
      go_ret
      exact ⟨rfl, HB4.out⟩
    · obtain rfl : len = 4 := by
        have := HLN.out
        repeat' split at this
        all_goals omega
      clear HLN
      go_enter Tryd.func5, Tryd.ntmps5
      go_wp2_with fail
      refine HQ1.out.mono ?_
      rintro e w0 ⟨rfl, rfl⟩
      go_wp2_with fail
      refine HQ2.out.mono ?_
      rintro e w0 ⟨rfl, rfl⟩
      go_wp2_with fail
      refine HQ3.out.mono ?_
      rintro e w0 ⟨rfl, rfl⟩
      go_wp2_with fail
      refine (put_one w (HS.out) 1 x (by omega) (by omega) (by omega) (by omega)).mono ?_
      rintro e w1 ⟨v1, rfl, y1, b1⟩
      rw [HPN.out] at y1
      obtain ⟨a1, c1, rfl, hy1, hy2, hy3⟩ := y1.shape
      have HB1 : Hid (Below w.heap.size w w1) := b1
      have HY1 : Hid (By w1 (.slice a1 4 c1) L) := by rw [HLEN.out] at y1; exact y1
      rw [HLEN.out]
      clear y1 b1 hy1 hy2 hy3
      go_wp2_with fail
      refine (get_any w1 (.slice a1 4 c1) L 0 (HS.out.under HB1.out) HY1.out).mono ?_
      rw [HGET.out]
      rintro e w2 ⟨sl, rfl, hrw, ⟨sa, sc, rfl, -⟩, b2⟩
      unfold agV
      have bC := (Below.refl w2.heap.size w2).alloc (Nat.le_refl _) (.cells #[.int .i64 1, .int .i64 x, .slice sa 0 sc] 25)
      have HB3 : Hid (Below w.heap.size w (w2.alloc (.cells #[.int .i64 1, .int .i64 x, .slice sa 0 sc] 25))) := (HB1.out.trans (b2.mono HB1.out.size)).trans (bC.mono (by have := HB1.out.size; have := b2.size; omega))
      dsimp only [List.length_nil]
      clear hrw b2 bC HY1
      go_wp2_with fail
      refine (awake6 _ (HS.out.under HB3.out)).mono ?_
      rintro e w4 ⟨rfl, b4⟩
      have HB4 : Hid (Below w.heap.size w w4) := HB3.out.trans (b4.mono HB3.out.size)
      clear b4
      go_wp2_with fail
      go_ret
      exact ⟨rfl, HB4.out⟩
    · obtain rfl : len = 5 := by
        have := HLN.out
        repeat' split at this
        all_goals omega
      clear HLN
      go_enter Tryd.func5, Tryd.ntmps5
      go_wp2_with fail
      refine HQ1.out.mono ?_
      rintro e w0 ⟨rfl, rfl⟩
      go_wp2_with fail
      refine HQ2.out.mono ?_
      rintro e w0 ⟨rfl, rfl⟩
      go_wp2_with fail
      refine HQ3.out.mono ?_
      rintro e w0 ⟨rfl, rfl⟩
      go_wp2_with fail
      refine (put_one w (HS.out) 1 x (by omega) (by omega) (by omega) (by omega)).mono ?_
      rintro e w1 ⟨v1, rfl, y1, b1⟩
      rw [HPN.out] at y1
      obtain ⟨a1, c1, rfl, hy1, hy2, hy3⟩ := y1.shape
      have HB1 : Hid (Below w.heap.size w w1) := b1
      have HY1 : Hid (By w1 (.slice a1 5 c1) L) := by rw [HLEN.out] at y1; exact y1
      rw [HLEN.out]
      clear y1 b1 hy1 hy2 hy3
      go_wp2_with fail
      refine (get_any w1 (.slice a1 5 c1) L 0 (HS.out.under HB1.out) HY1.out).mono ?_
      rw [HGET.out]
      rintro e w2 ⟨sl, rfl, hrw, ⟨sa, sc, rfl, -⟩, b2⟩
      unfold agV
      have bC := (Below.refl w2.heap.size w2).alloc (Nat.le_refl _) (.cells #[.int .i64 1, .int .i64 x, .slice sa 0 sc] 25)
      have HB3 : Hid (Below w.heap.size w (w2.alloc (.cells #[.int .i64 1, .int .i64 x, .slice sa 0 sc] 25))) := (HB1.out.trans (b2.mono HB1.out.size)).trans (bC.mono (by have := HB1.out.size; have := b2.size; omega))
      dsimp only [List.length_nil]
      clear hrw b2 bC HY1
      go_wp2_with fail
      refine (awake6 _ (HS.out.under HB3.out)).mono ?_
      rintro e w4 ⟨rfl, b4⟩
      have HB4 : Hid (Below w.heap.size w w4) := HB3.out.trans (b4.mono HB3.out.size)
      clear b4
      go_wp2_with fail
      go_ret
      exact ⟨rfl, HB4.out⟩
  · have hcs : (x < 16) ∨ (¬ x < 16 ∧ x < 2048) ∨ (¬ x < 16 ∧ ¬ x < 2048 ∧ x < 65536) ∨ (¬ x < 16 ∧ ¬ x < 2048 ∧ ¬ x < 65536 ∧ x < 16777216) ∨ (¬ x < 16 ∧ ¬ x < 2048 ∧ ¬ x < 65536 ∧ 16777216 ≤ x) := by omega
    rcases hcs with h | ⟨h0, h1⟩ | ⟨h0, h1, h2⟩ | ⟨h0, h1, h2, h3⟩ | ⟨h0, h1, h2, h3⟩
    · obtain rfl : len = 1 := by
        have := HLN.out
        repeat' split at this
        all_goals omega
      clear HLN
      go_enter Tryd.func5, Tryd.ntmps5
      go_wp2_with fail
      refine HQ1.out.mono ?_
      rintro e w0 ⟨rfl, rfl⟩
      go_wp2_with fail
      refine HQ2.out.mono ?_
      rintro e w0 ⟨rfl, rfl⟩
      go_wp2_with fail
      refine HQ3.out.mono ?_
      rintro e w0 ⟨rfl, rfl⟩
      go_wp2_with fail
      refine (put_one w (HS.out) t x (by omega) (by omega) (by omega) (by omega)).mono ?_
      rintro e w1 ⟨v1, rfl, y1, b1⟩
      rw [HPN.out] at y1
      obtain ⟨a1, c1, rfl, hy1, hy2, hy3⟩ := y1.shape
      have HB1 : Hid (Below w.heap.size w w1) := b1
      have HY1 : Hid (By w1 (.slice a1 1 c1) L) := by rw [HLEN.out] at y1; exact y1
      rw [HLEN.out]
      clear y1 b1 hy1 hy2 hy3
      go_wp2_with fail
      refine (get_any w1 (.slice a1 1 c1) L 0 (HS.out.under HB1.out) HY1.out).mono ?_
      rw [HGET.out]
      rintro e w2 ⟨sl, rfl, hrw, ⟨sa, sc, rfl, -⟩, b2⟩
      unfold agV
      have bC := (Below.refl w2.heap.size w2).alloc (Nat.le_refl _) (.cells #[.int .i64 t, .int .i64 x, .slice sa 0 sc] 25)
      have HB3 : Hid (Below w.heap.size w (w2.alloc (.cells #[.int .i64 t, .int .i64 x, .slice sa 0 sc] 25))) := (HB1.out.trans (b2.mono HB1.out.size)).trans (bC.mono (by have := HB1.out.size; have := b2.size; omega))
      dsimp only [List.length_nil]
      clear hrw b2 bC HY1
      go_wp2_with fail
      refine (awake6 _ (HS.out.under HB3.out)).mono ?_
      rintro e w4 ⟨rfl, b4⟩
      have HB4 : Hid (Below w.heap.size w w4) := HB3.out.trans (b4.mono HB3.out.size)
      clear b4
      go_wp2_with fail
      go_ret
      exact ⟨rfl, HB4.out⟩
    · obtain rfl : len = 2 := by
        have := HLN.out
        repeat' split at this
        all_goals omega
      clear HLN
      go_enter Tryd.func5, Tryd.ntmps5
      go_wp2_with fail
      refine HQ1.out.mono ?_
      rintro e w0 ⟨rfl, rfl⟩
      go_wp2_with fail
      refine HQ2.out.mono ?_
      rintro e w0 ⟨rfl, rfl⟩
      go_wp2_with fail
      refine HQ3.out.mono ?_
      rintro e w0 ⟨rfl, rfl⟩
      go_wp2_with fail
      refine (put_one w (HS.out) t x (by omega) (by omega) (by omega) (by omega)).mono ?_
      rintro e w1 ⟨v1, rfl, y1, b1⟩
      rw [HPN.out] at y1
      obtain ⟨a1, c1, rfl, hy1, hy2, hy3⟩ := y1.shape
      have HB1 : Hid (Below w.heap.size w w1) := b1
      have HY1 : Hid (By w1 (.slice a1 2 c1) L) := by rw [HLEN.out] at y1; exact y1
      rw [HLEN.out]
      clear y1 b1 hy1 hy2 hy3
      go_wp2_with fail
      refine (get_any w1 (.slice a1 2 c1) L 0 (HS.out.under HB1.out) HY1.out).mono ?_
      rw [HGET.out]
      rintro e w2 ⟨sl, rfl, hrw, ⟨sa, sc, rfl, -⟩, b2⟩
      unfold agV
      have bC := (Below.refl w2.heap.size w2).alloc (Nat.le_refl _) (.cells #[.int .i64 t, .int .i64 x, .slice sa 0 sc] 25)
      have HB3 : Hid (Below w.heap.size w (w2.alloc (.cells #[.int .i64 t, .int .i64 x, .slice sa 0 sc] 25))) := (HB1.out.trans (b2.mono HB1.out.size)).trans (bC.mono (by have := HB1.out.size; have := b2.size; omega))
      dsimp only [List.length_nil]
      clear hrw b2 bC HY1
      go_wp2_with fail
      refine (awake6 _ (HS.out.under HB3.out)).mono ?_
      rintro e w4 ⟨rfl, b4⟩
      have HB4 : Hid (Below w.heap.size w w4) := HB3.out.trans (b4.mono HB3.out.size)
      clear b4
      go_wp2_with fail
      go_ret
      exact ⟨rfl, HB4.out⟩
    · obtain rfl : len = 3 := by
        have := HLN.out
        repeat' split at this
        all_goals omega
      clear HLN
      go_enter Tryd.func5, Tryd.ntmps5
      go_wp2_with fail
      refine HQ1.out.mono ?_
      rintro e w0 ⟨rfl, rfl⟩
      go_wp2_with fail
      refine HQ2.out.mono ?_
      rintro e w0 ⟨rfl, rfl⟩
      go_wp2_with fail
      refine HQ3.out.mono ?_
      rintro e w0 ⟨rfl, rfl⟩
      go_wp2_with fail
      refine (put_one w (HS.out) t x (by omega) (by omega) (by omega) (by omega)).mono ?_
      rintro e w1 ⟨v1, rfl, y1, b1⟩
      rw [HPN.out] at y1
      obtain ⟨a1, c1, rfl, hy1, hy2, hy3⟩ := y1.shape
      have HB1 : Hid (Below w.heap.size w w1) := b1
      have HY1 : Hid (By w1 (.slice a1 3 c1) L) := by rw [HLEN.out] at y1; exact y1
      rw [HLEN.out]
      clear y1 b1 hy1 hy2 hy3
      go_wp2_with fail
      refine (get_any w1 (.slice a1 3 c1) L 0 (HS.out.under HB1.out) HY1.out).mono ?_
      rw [HGET.out]
      rintro e w2 ⟨sl, rfl, hrw, ⟨sa, sc, rfl, -⟩, b2⟩
      unfold agV
      have bC := (Below.refl w2.heap.size w2).alloc (Nat.le_refl _) (.cells #[.int .i64 t, .int .i64 x, .slice sa 0 sc] 25)
      have HB3 : Hid (Below w.heap.size w (w2.alloc (.cells #[.int .i64 t, .int .i64 x, .slice sa 0 sc] 25))) := (HB1.out.trans (b2.mono HB1.out.size)).trans (bC.mono (by have := HB1.out.size; have := b2.size; omega))
      dsimp only [List.length_nil]
      clear hrw b2 bC HY1
      go_wp2_with fail
      refine (awake6 _ (HS.out.under HB3.out)).mono ?_
      rintro e w4 ⟨rfl, b4⟩
      have HB4 : Hid (Below w.heap.size w w4) := HB3.out.trans (b4.mono HB3.out.size)
      clear b4
      go_wp2_with fail
      go_ret
      exact ⟨rfl, HB4.out⟩
    · obtain rfl : len = 4 := by
        have := HLN.out
        repeat' split at this
        all_goals omega
      clear HLN
      go_enter Tryd.func5, Tryd.ntmps5
      go_wp2_with fail
      refine HQ1.out.mono ?_
      rintro e w0 ⟨rfl, rfl⟩
      go_wp2_with fail
      refine HQ2.out.mono ?_
      rintro e w0 ⟨rfl, rfl⟩
      go_wp2_with fail
      refine HQ3.out.mono ?_
      rintro e w0 ⟨rfl, rfl⟩
      go_wp2_with fail
      refine (put_one w (HS.out) t x (by omega) (by omega) (by omega) (by omega)).mono ?_
      rintro e w1 ⟨v1, rfl, y1, b1⟩
      rw [HPN.out] at y1
      obtain ⟨a1, c1, rfl, hy1, hy2, hy3⟩ := y1.shape
      have HB1 : Hid (Below w.heap.size w w1) := b1
      have HY1 : Hid (By w1 (.slice a1 4 c1) L) := by rw [HLEN.out] at y1; exact y1
      rw [HLEN.out]
      clear y1 b1 hy1 hy2 hy3
      go_wp2_with fail
      refine (get_any w1 (.slice a1 4 c1) L 0 (HS.out.under HB1.out) HY1.out).mono ?_
      rw [HGET.out]
      rintro e w2 ⟨sl, rfl, hrw, ⟨sa, sc, rfl, -⟩, b2⟩
      unfold agV
      have bC := (Below.refl w2.heap.size w2).alloc (Nat.le_refl _) (.cells #[.int .i64 t, .int .i64 x, .slice sa 0 sc] 25)
      have HB3 : Hid (Below w.heap.size w (w2.alloc (.cells #[.int .i64 t, .int .i64 x, .slice sa 0 sc] 25))) := (HB1.out.trans (b2.mono HB1.out.size)).trans (bC.mono (by have := HB1.out.size; have := b2.size; omega))
      dsimp only [List.length_nil]
      clear hrw b2 bC HY1
      go_wp2_with fail
      refine (awake6 _ (HS.out.under HB3.out)).mono ?_
      rintro e w4 ⟨rfl, b4⟩
      have HB4 : Hid (Below w.heap.size w w4) := HB3.out.trans (b4.mono HB3.out.size)
      clear b4
      go_wp2_with fail
      go_ret
      exact ⟨rfl, HB4.out⟩
    · obtain rfl : len = 5 := by
        have := HLN.out
        repeat' split at this
        all_goals omega
      clear HLN
      go_enter Tryd.func5, Tryd.ntmps5
      go_wp2_with fail
      refine HQ1.out.mono ?_
      rintro e w0 ⟨rfl, rfl⟩
      go_wp2_with fail
      refine HQ2.out.mono ?_
      rintro e w0 ⟨rfl, rfl⟩
      go_wp2_with fail
      refine HQ3.out.mono ?_
      rintro e w0 ⟨rfl, rfl⟩
      go_wp2_with fail
      refine (put_one w (HS.out) t x (by omega) (by omega) (by omega) (by omega)).mono ?_
      rintro e w1 ⟨v1, rfl, y1, b1⟩
      rw [HPN.out] at y1
      obtain ⟨a1, c1, rfl, hy1, hy2, hy3⟩ := y1.shape
      have HB1 : Hid (Below w.heap.size w w1) := b1
      have HY1 : Hid (By w1 (.slice a1 5 c1) L) := by rw [HLEN.out] at y1; exact y1
      rw [HLEN.out]
      clear y1 b1 hy1 hy2 hy3
      go_wp2_with fail
      refine (get_any w1 (.slice a1 5 c1) L 0 (HS.out.under HB1.out) HY1.out).mono ?_
      rw [HGET.out]
      rintro e w2 ⟨sl, rfl, hrw, ⟨sa, sc, rfl, -⟩, b2⟩
      unfold agV
      have bC := (Below.refl w2.heap.size w2).alloc (Nat.le_refl _) (.cells #[.int .i64 t, .int .i64 x, .slice sa 0 sc] 25)
      have HB3 : Hid (Below w.heap.size w (w2.alloc (.cells #[.int .i64 t, .int .i64 x, .slice sa 0 sc] 25))) := (HB1.out.trans (b2.mono HB1.out.size)).trans (bC.mono (by have := HB1.out.size; have := b2.size; omega))
      dsimp only [List.length_nil]
      clear hrw b2 bC HY1
      go_wp2_with fail
      refine (awake6 _ (HS.out.under HB3.out)).mono ?_
      rintro e w4 ⟨rfl, b4⟩
      have HB4 : Hid (Below w.heap.size w w4) := HB3.out.trans (b4.mono HB3.out.size)
      clear b4
      go_wp2_with fail
      go_ret
      exact ⟨rfl, HB4.out⟩
end Go.Proofs.YtmoonigeghoeeaaDoor
