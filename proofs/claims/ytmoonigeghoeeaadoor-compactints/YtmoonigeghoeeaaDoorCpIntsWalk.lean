/-
  relictlaw06.CompactInts: the walk.
-/
import Derived.Test.YtmoonigeghoeeaaDoorCpL
import Derived.Test.YtmoonigeghoeeaaDoorCpP
namespace Go.Proofs.YtmoonigeghoeeaaDoor
open Go.RowKit
set_option linter.unusedVariables false
set_option linter.unusedSimpArgs false

set_option maxRecDepth 100000 in
set_option maxHeartbeats 8000000 in
theorem compactInts_walk (v n : Int) (neg : Bool) (w : World) (hS : Spn w) (hv1 : -9223372036854775808 ≤ v) (hv2 : v ≤ 9223372036854775807) (hn1 : -9223372036854775808 ≤ n) (hn2 : n ≤ 9223372036854775807) :
    Calls Tryd.prog 7 #[.int .i64 v, .int .i64 n, .bool neg] w fun e w' => e = .returned (.bool true) ∧ Below w.heap.size w w' := by
  have HS : Hid (Spn w) := hS
  clear hS
  have HP2 := place_any n 60 w (by decide) (by decide) hn1 hn2
  obtain ⟨K, hK⟩ : ∃ K : Nat, (K : Int) = n % 60 := ⟨(n % 60).toNat, by omega⟩
  rw [← hK] at HP2
  have hK60 : K < 60 := by omega
  obtain ⟨M, hM⟩ : ∃ M : Int, (2 : Int) ^ K = M := ⟨_, rfl⟩
  have hM0 : 1 ≤ M ∧ M ≤ 576460752303423488 := by
    have h1 := two_pos K
    have h2 : ((2 ^ K : Nat) : Int) ≤ ((2 ^ 59 : Nat) : Int) := Int.ofNat_le.2 (Nat.pow_le_pow_right (by decide) (by omega))
    have h3 : ((2 ^ K : Nat) : Int) = (2 : Int) ^ K := by simp
    have h4 : ((2 ^ 59 : Nat) : Int) = 576460752303423488 := by decide
    omega
  obtain ⟨hM0, hM1⟩ := hM0
  have HP3 := place_any v M w (by omega) (by omega) hv1 hv2
  obtain ⟨y, hy⟩ : ∃ y, y = v % M := ⟨_, rfl⟩
  rw [← hy] at HP3
  have hy0 : 0 ≤ y := by rw [hy]; exact Int.emod_nonneg v (by omega)
  have hy1 : y < M := by rw [hy]; exact Int.emod_lt_of_pos v (by omega)
  have HQ2 : Hid (Calls Tryd.prog 19 #[.int .i64 n, .int .i64 60] w fun e w' => e = .returned (.int .i64 (K : Int)) ∧ w = w') := HP2
  have HQ3 : Hid (Calls Tryd.prog 19 #[.int .i64 v, .int .i64 M] w fun e w' => e = .returned (.int .i64 y) ∧ w = w') := HP3
  clear HP2 HP3 hK hy
  obtain ⟨x, hx⟩ : ∃ x : Int, x = if neg = true then -1 - y else y := ⟨_, rfl⟩
  have hx0 : -576460752303423488 ≤ x ∧ x ≤ 576460752303423487 := by
    cases neg
    · rw [if_neg (by decide)] at hx; omega
    · rw [if_pos rfl] at hx; omega
  obtain ⟨hx0, hx1⟩ := hx0
  have hp : okP 1 x := .inl ⟨rfl, hx0, hx1⟩
  obtain ⟨L, hL⟩ : ∃ L, L = numB 1 x := ⟨_, rfl⟩
  have HPN : Hid (([] ++ El.putS ⟨1, x, none, 0, 0⟩ [] : List UInt8) = L) := by unfold Hid; rw [hL]; exact putS_num hp
  have HGE : Hid (getS L 0 = (⟨1, x, []⟩, (L.length : Int), 0)) := by
    have := get_put (sgl_ar hp).1
    rw [(sgl_ar hp).2, ← hL] at this
    exact this
  obtain ⟨S, hSd⟩ : ∃ S, S = szN 1 x := ⟨_, rfl⟩
  have hS2 := sz_ge 1 x
  rw [← hSd] at hS2
  have HRM : Hid (roomB 1 x S = true) := by unfold Hid; rw [hSd]; exact sz_room hp
  have HL : Hid (∀ s : Nat, 2 ≤ s → s < S → roomB 1 x s = false) := fun s h1 h2 => sz_least s h1 (by omega)
  have HLN : Hid (L.length = if 0 ≤ x ∧ x < 16 then 1 else S + 1) := by
    unfold Hid
    rw [hL]
    unfold numB
    split
    · rfl
    · rw [if_neg (by simp), List.length_cons, dnB_len, hSd]
  have HX : Hid (x = if neg = true then -1 - y else y) := hx
  clear hp hL hSd hx
  cases neg with
  | false =>
    have hxe : y = x := by have := HX.out; simpa using this.symm
    clear HX
    have hin : decide (x < 576460752303423488) = true := decide_eq_true (by omega)
    have hin2 : x < 576460752303423488 := by omega
    by_cases hsm : 0 ≤ x ∧ x < 16
    · have HLEN : Hid (L.length = 1) := by unfold Hid; rw [HLN.out, if_pos hsm]
      have HGET : Hid (getS L 0 = (⟨1, x, []⟩, ((1 : Nat) : Int), 0)) := by unfold Hid; rw [HGE.out, HLEN.out]
      clear HLN HGE HL HRM
      obtain ⟨hsm, hsm2⟩ := hsm
      go_enter Tryd.func7, Tryd.ntmps7
      go_wp2_with fail
      refine HQ2.out.mono ?_
      rintro e w0 ⟨rfl, rfl⟩
      go_wp2_with fail
      refine HQ3.out.mono ?_
      rintro e w0 ⟨rfl, rfl⟩
      go_wp2_with fail
      refine (put_one w (HS.out) 1 x (by omega) (by omega) (by omega) (by omega)).mono ?_
      rintro e w1 ⟨v1, rfl, y1, b1⟩
      rw [HPN.out] at y1
      obtain ⟨a1, c1, rfl, hy1, hy2, hy3⟩ := y1.shape
      have HB1 : Hid (Below w.heap.size w w1) := b1
      have HY1 : Hid (By w1 (.slice a1 1 c1) L) := by rw [HLEN.out] at y1; exact y1
      rw [HLEN.out]
      clear y1 b1 hy1 hy2 hy3
      go_wp2_with fail
      refine (get_any w1 (.slice a1 1 c1) L 0 (HS.out.under HB1.out) HY1.out).mono ?_
      rw [HGET.out]
      rintro e w2 ⟨sl, rfl, hrw, ⟨sa, sc, rfl, -⟩, b2⟩
      unfold agV
      have bC := (Below.refl w2.heap.size w2).alloc (Nat.le_refl _) (.cells #[.int .i64 1, .int .i64 x, .slice sa 0 sc] 25)
      have HB3 : Hid (Below w.heap.size w (w2.alloc (.cells #[.int .i64 1, .int .i64 x, .slice sa 0 sc] 25))) := (HB1.out.trans (b2.mono HB1.out.size)).trans (bC.mono (by have := HB1.out.size; have := b2.size; omega))
      dsimp only [List.length_nil]
      clear hrw b2 bC HY1
      go_wp2_with fail
      refine (awake6 _ (HS.out.under HB3.out)).mono ?_
      rintro e w4 ⟨rfl, b4⟩
      have HB4 : Hid (Below w.heap.size w w4) := HB3.out.trans (b4.mono HB3.out.size)
      clear b4
      go_wp2_with fail
      go_ret
      exact ⟨rfl, HB4.out⟩
    · have hbig : x < 0 ∨ (¬ x < 0 ∧ 15 < x) := by omega
      have HLE : Hid (L.length = S + 1) := by unfold Hid; rw [HLN.out, if_neg hsm]
      clear HLN hsm
      rcases hbig with hbig | ⟨hbig, hbig2⟩
      · exfalso; omega
      all_goals
        go_enter Tryd.func7, Tryd.ntmps7
        go_wp2_with fail
        refine HQ2.out.mono ?_
        rintro e w0 ⟨rfl, rfl⟩
        go_wp2_with fail
        refine HQ3.out.mono ?_
        rintro e w0 ⟨rfl, rfl⟩
        go_wp2_with fail
        go_loopg [10] (S - 2) (fun gk s10 wr => ∃ s : Nat, s + gk = S ∧ 2 ≤ s ∧ s10 = .int .i64 (s : Int) ∧ w = wr)
        case atStart => exact ⟨2, by omega, by omega, rfl, rfl⟩
        case round =>
          obtain ⟨s, hs, hs2, rfl, rfl⟩ := hrel
          cases gk with
          | succ g =>
            have hno := HL.out s hs2 (by omega)
            have hs7 : s = 2 ∨ s = 3 ∨ s = 4 ∨ s = 5 ∨ s = 6 ∨ s = 7 := by omega
            rw [room_i] at hno
            simp only [Bool.or_eq_false_iff, beq_eq_false_iff_ne] at hno
            have hab : x < -2 ^ (s * 8 - 1) ∨ (¬ x < -2 ^ (s * 8 - 1) ∧ 2 ^ (s * 8 - 1) ≤ x) := by
              rcases hs7 with rfl | rfl | rfl | rfl | rfl | rfl <;> simp only [Nat.reduceMul, Nat.reduceSub, Int.reducePow] at hno ⊢ <;> omega
            clear hno
            rcases hs7 with rfl | rfl | rfl | rfl | rfl | rfl
            all_goals
              simp only [Nat.reduceMul, Nat.reduceSub, Int.reducePow] at hab
              rcases hab with hab | ⟨hab, hab2⟩
            all_goals
              go_wp2_with fail
              go_roundg g
              case measure => omega
              case rel => exact ⟨S - g, by omega, by omega, congrArg (Value.int .i64) (by omega), rfl⟩
          | zero =>
            obtain rfl : s = S := by omega
            have hyes := HRM.out
            have hs7 : s = 2 ∨ s = 3 ∨ s = 4 ∨ s = 5 ∨ s = 6 ∨ s = 7 ∨ s = 8 := by omega
            rw [room_i] at hyes
            simp only [Bool.or_eq_true, beq_iff_eq] at hyes
            have hab : ¬ x < -2 ^ (s * 8 - 1) ∧ ¬ 2 ^ (s * 8 - 1) ≤ x := by
              rcases hs7 with rfl | rfl | rfl | rfl | rfl | rfl | rfl <;> simp only [Nat.reduceMul, Nat.reduceSub, Int.reducePow] at hyes ⊢ <;> omega
            clear hyes HL HRM
            rcases hs7 with rfl | rfl | rfl | rfl | rfl | rfl | rfl
            · simp only [Nat.reduceMul, Nat.reduceSub, Int.reducePow] at hab
              obtain ⟨hab, hab2⟩ := hab
              have HLEN : Hid (L.length = 3) := HLE.out
              have HGET : Hid (getS L 0 = (⟨1, x, []⟩, ((3 : Nat) : Int), 0)) := by unfold Hid; rw [HGE.out, HLEN.out]
              clear HLE HGE
              go_wp2_with fail
              refine (put_one w (HS.out) 1 x (by omega) (by omega) (by omega) (by omega)).mono ?_
              rintro e w1 ⟨v1, rfl, y1, b1⟩
              rw [HPN.out] at y1
              obtain ⟨a1, c1, rfl, hy1, hy2, hy3⟩ := y1.shape
              have HB1 : Hid (Below w.heap.size w w1) := b1
              have HY1 : Hid (By w1 (.slice a1 3 c1) L) := by rw [HLEN.out] at y1; exact y1
              rw [HLEN.out]
              clear y1 b1 hy1 hy2 hy3
              go_wp2_with fail
              refine (get_any w1 (.slice a1 3 c1) L 0 (HS.out.under HB1.out) HY1.out).mono ?_
              rw [HGET.out]
              rintro e w2 ⟨sl, rfl, hrw, ⟨sa, sc, rfl, -⟩, b2⟩
              unfold agV
              have bC := (Below.refl w2.heap.size w2).alloc (Nat.le_refl _) (.cells #[.int .i64 1, .int .i64 x, .slice sa 0 sc] 25)
              have HB3 : Hid (Below w.heap.size w (w2.alloc (.cells #[.int .i64 1, .int .i64 x, .slice sa 0 sc] 25))) := (HB1.out.trans (b2.mono HB1.out.size)).trans (bC.mono (by have := HB1.out.size; have := b2.size; omega))
              dsimp only [List.length_nil]
              clear hrw b2 bC HY1
              go_wp2_with fail
              refine (awake6 _ (HS.out.under HB3.out)).mono ?_
              rintro e w4 ⟨rfl, b4⟩
              have HB4 : Hid (Below w.heap.size w w4) := HB3.out.trans (b4.mono HB3.out.size)
              clear b4
              go_wp2_with fail
              go_ret
              exact ⟨rfl, HB4.out⟩
            · simp only [Nat.reduceMul, Nat.reduceSub, Int.reducePow] at hab
              obtain ⟨hab, hab2⟩ := hab
              have HLEN : Hid (L.length = 4) := HLE.out
              have HGET : Hid (getS L 0 = (⟨1, x, []⟩, ((4 : Nat) : Int), 0)) := by unfold Hid; rw [HGE.out, HLEN.out]
              clear HLE HGE
              go_wp2_with fail
              refine (put_one w (HS.out) 1 x (by omega) (by omega) (by omega) (by omega)).mono ?_
              rintro e w1 ⟨v1, rfl, y1, b1⟩
              rw [HPN.out] at y1
              obtain ⟨a1, c1, rfl, hy1, hy2, hy3⟩ := y1.shape
              have HB1 : Hid (Below w.heap.size w w1) := b1
              have HY1 : Hid (By w1 (.slice a1 4 c1) L) := by rw [HLEN.out] at y1; exact y1
              rw [HLEN.out]
              clear y1 b1 hy1 hy2 hy3
              go_wp2_with fail
              refine (get_any w1 (.slice a1 4 c1) L 0 (HS.out.under HB1.out) HY1.out).mono ?_
              rw [HGET.out]
              rintro e w2 ⟨sl, rfl, hrw, ⟨sa, sc, rfl, -⟩, b2⟩
              unfold agV
              have bC := (Below.refl w2.heap.size w2).alloc (Nat.le_refl _) (.cells #[.int .i64 1, .int .i64 x, .slice sa 0 sc] 25)
              have HB3 : Hid (Below w.heap.size w (w2.alloc (.cells #[.int .i64 1, .int .i64 x, .slice sa 0 sc] 25))) := (HB1.out.trans (b2.mono HB1.out.size)).trans (bC.mono (by have := HB1.out.size; have := b2.size; omega))
              dsimp only [List.length_nil]
              clear hrw b2 bC HY1
              go_wp2_with fail
              refine (awake6 _ (HS.out.under HB3.out)).mono ?_
              rintro e w4 ⟨rfl, b4⟩
              have HB4 : Hid (Below w.heap.size w w4) := HB3.out.trans (b4.mono HB3.out.size)
              clear b4
              go_wp2_with fail
              go_ret
              exact ⟨rfl, HB4.out⟩
            · simp only [Nat.reduceMul, Nat.reduceSub, Int.reducePow] at hab
              obtain ⟨hab, hab2⟩ := hab
              have HLEN : Hid (L.length = 5) := HLE.out
              have HGET : Hid (getS L 0 = (⟨1, x, []⟩, ((5 : Nat) : Int), 0)) := by unfold Hid; rw [HGE.out, HLEN.out]
              clear HLE HGE
              go_wp2_with fail
              refine (put_one w (HS.out) 1 x (by omega) (by omega) (by omega) (by omega)).mono ?_
              rintro e w1 ⟨v1, rfl, y1, b1⟩
              rw [HPN.out] at y1
              obtain ⟨a1, c1, rfl, hy1, hy2, hy3⟩ := y1.shape
              have HB1 : Hid (Below w.heap.size w w1) := b1
              have HY1 : Hid (By w1 (.slice a1 5 c1) L) := by rw [HLEN.out] at y1; exact y1
              rw [HLEN.out]
              clear y1 b1 hy1 hy2 hy3
              go_wp2_with fail
              refine (get_any w1 (.slice a1 5 c1) L 0 (HS.out.under HB1.out) HY1.out).mono ?_
              rw [HGET.out]
              rintro e w2 ⟨sl, rfl, hrw, ⟨sa, sc, rfl, -⟩, b2⟩
              unfold agV
              have bC := (Below.refl w2.heap.size w2).alloc (Nat.le_refl _) (.cells #[.int .i64 1, .int .i64 x, .slice sa 0 sc] 25)
              have HB3 : Hid (Below w.heap.size w (w2.alloc (.cells #[.int .i64 1, .int .i64 x, .slice sa 0 sc] 25))) := (HB1.out.trans (b2.mono HB1.out.size)).trans (bC.mono (by have := HB1.out.size; have := b2.size; omega))
              dsimp only [List.length_nil]
              clear hrw b2 bC HY1
              go_wp2_with fail
              refine (awake6 _ (HS.out.under HB3.out)).mono ?_
              rintro e w4 ⟨rfl, b4⟩
              have HB4 : Hid (Below w.heap.size w w4) := HB3.out.trans (b4.mono HB3.out.size)
              clear b4
              go_wp2_with fail
              go_ret
              exact ⟨rfl, HB4.out⟩
            · simp only [Nat.reduceMul, Nat.reduceSub, Int.reducePow] at hab
              obtain ⟨hab, hab2⟩ := hab
              have HLEN : Hid (L.length = 6) := HLE.out
              have HGET : Hid (getS L 0 = (⟨1, x, []⟩, ((6 : Nat) : Int), 0)) := by unfold Hid; rw [HGE.out, HLEN.out]
              clear HLE HGE
              go_wp2_with fail
              refine (put_one w (HS.out) 1 x (by omega) (by omega) (by omega) (by omega)).mono ?_
              rintro e w1 ⟨v1, rfl, y1, b1⟩
              rw [HPN.out] at y1
              obtain ⟨a1, c1, rfl, hy1, hy2, hy3⟩ := y1.shape
              have HB1 : Hid (Below w.heap.size w w1) := b1
              have HY1 : Hid (By w1 (.slice a1 6 c1) L) := by rw [HLEN.out] at y1; exact y1
              rw [HLEN.out]
              clear y1 b1 hy1 hy2 hy3
              go_wp2_with fail
              refine (get_any w1 (.slice a1 6 c1) L 0 (HS.out.under HB1.out) HY1.out).mono ?_
              rw [HGET.out]
              rintro e w2 ⟨sl, rfl, hrw, ⟨sa, sc, rfl, -⟩, b2⟩
              unfold agV
              have bC := (Below.refl w2.heap.size w2).alloc (Nat.le_refl _) (.cells #[.int .i64 1, .int .i64 x, .slice sa 0 sc] 25)
              have HB3 : Hid (Below w.heap.size w (w2.alloc (.cells #[.int .i64 1, .int .i64 x, .slice sa 0 sc] 25))) := (HB1.out.trans (b2.mono HB1.out.size)).trans (bC.mono (by have := HB1.out.size; have := b2.size; omega))
              dsimp only [List.length_nil]
              clear hrw b2 bC HY1
              go_wp2_with fail
              refine (awake6 _ (HS.out.under HB3.out)).mono ?_
              rintro e w4 ⟨rfl, b4⟩
              have HB4 : Hid (Below w.heap.size w w4) := HB3.out.trans (b4.mono HB3.out.size)
              clear b4
              go_wp2_with fail
              go_ret
              exact ⟨rfl, HB4.out⟩
            · simp only [Nat.reduceMul, Nat.reduceSub, Int.reducePow] at hab
              obtain ⟨hab, hab2⟩ := hab
              have HLEN : Hid (L.length = 7) := HLE.out
              have HGET : Hid (getS L 0 = (⟨1, x, []⟩, ((7 : Nat) : Int), 0)) := by unfold Hid; rw [HGE.out, HLEN.out]
              clear HLE HGE
              go_wp2_with fail
              refine (put_one w (HS.out) 1 x (by omega) (by omega) (by omega) (by omega)).mono ?_
              rintro e w1 ⟨v1, rfl, y1, b1⟩
              rw [HPN.out] at y1
              obtain ⟨a1, c1, rfl, hy1, hy2, hy3⟩ := y1.shape
              have HB1 : Hid (Below w.heap.size w w1) := b1
              have HY1 : Hid (By w1 (.slice a1 7 c1) L) := by rw [HLEN.out] at y1; exact y1
              rw [HLEN.out]
              clear y1 b1 hy1 hy2 hy3
              go_wp2_with fail
              refine (get_any w1 (.slice a1 7 c1) L 0 (HS.out.under HB1.out) HY1.out).mono ?_
              rw [HGET.out]
              rintro e w2 ⟨sl, rfl, hrw, ⟨sa, sc, rfl, -⟩, b2⟩
              unfold agV
              have bC := (Below.refl w2.heap.size w2).alloc (Nat.le_refl _) (.cells #[.int .i64 1, .int .i64 x, .slice sa 0 sc] 25)
              have HB3 : Hid (Below w.heap.size w (w2.alloc (.cells #[.int .i64 1, .int .i64 x, .slice sa 0 sc] 25))) := (HB1.out.trans (b2.mono HB1.out.size)).trans (bC.mono (by have := HB1.out.size; have := b2.size; omega))
              dsimp only [List.length_nil]
              clear hrw b2 bC HY1
              go_wp2_with fail
              refine (awake6 _ (HS.out.under HB3.out)).mono ?_
              rintro e w4 ⟨rfl, b4⟩
              have HB4 : Hid (Below w.heap.size w w4) := HB3.out.trans (b4.mono HB3.out.size)
              clear b4
              go_wp2_with fail
              go_ret
              exact ⟨rfl, HB4.out⟩
            · simp only [Nat.reduceMul, Nat.reduceSub, Int.reducePow] at hab
              obtain ⟨hab, hab2⟩ := hab
              have HLEN : Hid (L.length = 8) := HLE.out
              have HGET : Hid (getS L 0 = (⟨1, x, []⟩, ((8 : Nat) : Int), 0)) := by unfold Hid; rw [HGE.out, HLEN.out]
              clear HLE HGE
              go_wp2_with fail
              refine (put_one w (HS.out) 1 x (by omega) (by omega) (by omega) (by omega)).mono ?_
              rintro e w1 ⟨v1, rfl, y1, b1⟩
              rw [HPN.out] at y1
              obtain ⟨a1, c1, rfl, hy1, hy2, hy3⟩ := y1.shape
              have HB1 : Hid (Below w.heap.size w w1) := b1
              have HY1 : Hid (By w1 (.slice a1 8 c1) L) := by rw [HLEN.out] at y1; exact y1
              rw [HLEN.out]
              clear y1 b1 hy1 hy2 hy3
              go_wp2_with fail
              refine (get_any w1 (.slice a1 8 c1) L 0 (HS.out.under HB1.out) HY1.out).mono ?_
              rw [HGET.out]
              rintro e w2 ⟨sl, rfl, hrw, ⟨sa, sc, rfl, -⟩, b2⟩
              unfold agV
              have bC := (Below.refl w2.heap.size w2).alloc (Nat.le_refl _) (.cells #[.int .i64 1, .int .i64 x, .slice sa 0 sc] 25)
              have HB3 : Hid (Below w.heap.size w (w2.alloc (.cells #[.int .i64 1, .int .i64 x, .slice sa 0 sc] 25))) := (HB1.out.trans (b2.mono HB1.out.size)).trans (bC.mono (by have := HB1.out.size; have := b2.size; omega))
              dsimp only [List.length_nil]
              clear hrw b2 bC HY1
              go_wp2_with fail
              refine (awake6 _ (HS.out.under HB3.out)).mono ?_
              rintro e w4 ⟨rfl, b4⟩
              have HB4 : Hid (Below w.heap.size w w4) := HB3.out.trans (b4.mono HB3.out.size)
              clear b4
              go_wp2_with fail
              go_ret
              exact ⟨rfl, HB4.out⟩
            · simp only [Nat.reduceMul, Nat.reduceSub, Int.reducePow] at hab
              obtain ⟨hab, hab2⟩ := hab
              have HLEN : Hid (L.length = 9) := HLE.out
              have HGET : Hid (getS L 0 = (⟨1, x, []⟩, ((9 : Nat) : Int), 0)) := by unfold Hid; rw [HGE.out, HLEN.out]
              clear HLE HGE
              go_wp2_with fail
              refine (put_one w (HS.out) 1 x (by omega) (by omega) (by omega) (by omega)).mono ?_
              rintro e w1 ⟨v1, rfl, y1, b1⟩
              rw [HPN.out] at y1
              obtain ⟨a1, c1, rfl, hy1, hy2, hy3⟩ := y1.shape
              have HB1 : Hid (Below w.heap.size w w1) := b1
              have HY1 : Hid (By w1 (.slice a1 9 c1) L) := by rw [HLEN.out] at y1; exact y1
              rw [HLEN.out]
              clear y1 b1 hy1 hy2 hy3
              go_wp2_with fail
              refine (get_any w1 (.slice a1 9 c1) L 0 (HS.out.under HB1.out) HY1.out).mono ?_
              rw [HGET.out]
              rintro e w2 ⟨sl, rfl, hrw, ⟨sa, sc, rfl, -⟩, b2⟩
              unfold agV
              have bC := (Below.refl w2.heap.size w2).alloc (Nat.le_refl _) (.cells #[.int .i64 1, .int .i64 x, .slice sa 0 sc] 25)
              have HB3 : Hid (Below w.heap.size w (w2.alloc (.cells #[.int .i64 1, .int .i64 x, .slice sa 0 sc] 25))) := (HB1.out.trans (b2.mono HB1.out.size)).trans (bC.mono (by have := HB1.out.size; have := b2.size; omega))
              dsimp only [List.length_nil]
              clear hrw b2 bC HY1
              go_wp2_with fail
              refine (awake6 _ (HS.out.under HB3.out)).mono ?_
              rintro e w4 ⟨rfl, b4⟩
              have HB4 : Hid (Below w.heap.size w w4) := HB3.out.trans (b4.mono HB3.out.size)
              clear b4
              go_wp2_with fail
              go_ret
              exact ⟨rfl, HB4.out⟩
  | true =>
    have hxe : -1 - y = x := by have := HX.out; simpa using this.symm
    clear HX
    have hin : decide (x < 576460752303423488) = true := decide_eq_true (by omega)
    have hin2 : x < 576460752303423488 := by omega
    have hsm : ¬ (0 ≤ x ∧ x < 16) := by omega
    · have hbig : x < 0 ∨ (¬ x < 0 ∧ 15 < x) := by omega
      have HLE : Hid (L.length = S + 1) := by unfold Hid; rw [HLN.out, if_neg hsm]
      clear HLN hsm
      rcases hbig with hbig | ⟨hbig, hbig2⟩
      case inr => exfalso; omega
      all_goals
        go_enter Tryd.func7, Tryd.ntmps7
        go_wp2_with fail
        refine HQ2.out.mono ?_
        rintro e w0 ⟨rfl, rfl⟩
        go_wp2_with fail
        refine HQ3.out.mono ?_
        rintro e w0 ⟨rfl, rfl⟩
        go_wp2_with fail
        go_loopg [10] (S - 2) (fun gk s10 wr => ∃ s : Nat, s + gk = S ∧ 2 ≤ s ∧ s10 = .int .i64 (s : Int) ∧ w = wr)
        case atStart => exact ⟨2, by omega, by omega, rfl, rfl⟩
        case round =>
          obtain ⟨s, hs, hs2, rfl, rfl⟩ := hrel
          cases gk with
          | succ g =>
            have hno := HL.out s hs2 (by omega)
            have hs7 : s = 2 ∨ s = 3 ∨ s = 4 ∨ s = 5 ∨ s = 6 ∨ s = 7 := by omega
            rw [room_i] at hno
            simp only [Bool.or_eq_false_iff, beq_eq_false_iff_ne] at hno
            have hab : x < -2 ^ (s * 8 - 1) ∨ (¬ x < -2 ^ (s * 8 - 1) ∧ 2 ^ (s * 8 - 1) ≤ x) := by
              rcases hs7 with rfl | rfl | rfl | rfl | rfl | rfl <;> simp only [Nat.reduceMul, Nat.reduceSub, Int.reducePow] at hno ⊢ <;> omega
            clear hno
            rcases hs7 with rfl | rfl | rfl | rfl | rfl | rfl
            all_goals
              simp only [Nat.reduceMul, Nat.reduceSub, Int.reducePow] at hab
              rcases hab with hab | ⟨hab, hab2⟩
            all_goals
              go_wp2_with fail
              go_roundg g
              case measure => omega
              case rel => exact ⟨S - g, by omega, by omega, congrArg (Value.int .i64) (by omega), rfl⟩
          | zero =>
            obtain rfl : s = S := by omega
            have hyes := HRM.out
            have hs7 : s = 2 ∨ s = 3 ∨ s = 4 ∨ s = 5 ∨ s = 6 ∨ s = 7 ∨ s = 8 := by omega
            rw [room_i] at hyes
            simp only [Bool.or_eq_true, beq_iff_eq] at hyes
            have hab : ¬ x < -2 ^ (s * 8 - 1) ∧ ¬ 2 ^ (s * 8 - 1) ≤ x := by
              rcases hs7 with rfl | rfl | rfl | rfl | rfl | rfl | rfl <;> simp only [Nat.reduceMul, Nat.reduceSub, Int.reducePow] at hyes ⊢ <;> omega
            clear hyes HL HRM
            rcases hs7 with rfl | rfl | rfl | rfl | rfl | rfl | rfl
            · simp only [Nat.reduceMul, Nat.reduceSub, Int.reducePow] at hab
              obtain ⟨hab, hab2⟩ := hab
              have HLEN : Hid (L.length = 3) := HLE.out
              have HGET : Hid (getS L 0 = (⟨1, x, []⟩, ((3 : Nat) : Int), 0)) := by unfold Hid; rw [HGE.out, HLEN.out]
              clear HLE HGE
              go_wp2_with fail
              refine (put_one w (HS.out) 1 x (by omega) (by omega) (by omega) (by omega)).mono ?_
              rintro e w1 ⟨v1, rfl, y1, b1⟩
              rw [HPN.out] at y1
              obtain ⟨a1, c1, rfl, hy1, hy2, hy3⟩ := y1.shape
              have HB1 : Hid (Below w.heap.size w w1) := b1
              have HY1 : Hid (By w1 (.slice a1 3 c1) L) := by rw [HLEN.out] at y1; exact y1
              rw [HLEN.out]
              clear y1 b1 hy1 hy2 hy3
              go_wp2_with fail
              refine (get_any w1 (.slice a1 3 c1) L 0 (HS.out.under HB1.out) HY1.out).mono ?_
              rw [HGET.out]
              rintro e w2 ⟨sl, rfl, hrw, ⟨sa, sc, rfl, -⟩, b2⟩
              unfold agV
              have bC := (Below.refl w2.heap.size w2).alloc (Nat.le_refl _) (.cells #[.int .i64 1, .int .i64 x, .slice sa 0 sc] 25)
              have HB3 : Hid (Below w.heap.size w (w2.alloc (.cells #[.int .i64 1, .int .i64 x, .slice sa 0 sc] 25))) := (HB1.out.trans (b2.mono HB1.out.size)).trans (bC.mono (by have := HB1.out.size; have := b2.size; omega))
              dsimp only [List.length_nil]
              clear hrw b2 bC HY1
              go_wp2_with fail
              refine (awake6 _ (HS.out.under HB3.out)).mono ?_
              rintro e w4 ⟨rfl, b4⟩
              have HB4 : Hid (Below w.heap.size w w4) := HB3.out.trans (b4.mono HB3.out.size)
              clear b4
              go_wp2_with fail
              go_ret
              exact ⟨rfl, HB4.out⟩
            · simp only [Nat.reduceMul, Nat.reduceSub, Int.reducePow] at hab
              obtain ⟨hab, hab2⟩ := hab
              have HLEN : Hid (L.length = 4) := HLE.out
              have HGET : Hid (getS L 0 = (⟨1, x, []⟩, ((4 : Nat) : Int), 0)) := by unfold Hid; rw [HGE.out, HLEN.out]
              clear HLE HGE
              go_wp2_with fail
              refine (put_one w (HS.out) 1 x (by omega) (by omega) (by omega) (by omega)).mono ?_
              rintro e w1 ⟨v1, rfl, y1, b1⟩
              rw [HPN.out] at y1
              obtain ⟨a1, c1, rfl, hy1, hy2, hy3⟩ := y1.shape
              have HB1 : Hid (Below w.heap.size w w1) := b1
              have HY1 : Hid (By w1 (.slice a1 4 c1) L) := by rw [HLEN.out] at y1; exact y1
              rw [HLEN.out]
              clear y1 b1 hy1 hy2 hy3
              go_wp2_with fail
              refine (get_any w1 (.slice a1 4 c1) L 0 (HS.out.under HB1.out) HY1.out).mono ?_
              rw [HGET.out]
              rintro e w2 ⟨sl, rfl, hrw, ⟨sa, sc, rfl, -⟩, b2⟩
              unfold agV
              have bC := (Below.refl w2.heap.size w2).alloc (Nat.le_refl _) (.cells #[.int .i64 1, .int .i64 x, .slice sa 0 sc] 25)
              have HB3 : Hid (Below w.heap.size w (w2.alloc (.cells #[.int .i64 1, .int .i64 x, .slice sa 0 sc] 25))) := (HB1.out.trans (b2.mono HB1.out.size)).trans (bC.mono (by have := HB1.out.size; have := b2.size; omega))
              dsimp only [List.length_nil]
              clear hrw b2 bC HY1
              go_wp2_with fail
              refine (awake6 _ (HS.out.under HB3.out)).mono ?_
              rintro e w4 ⟨rfl, b4⟩
              have HB4 : Hid (Below w.heap.size w w4) := HB3.out.trans (b4.mono HB3.out.size)
              clear b4
              go_wp2_with fail
              go_ret
              exact ⟨rfl, HB4.out⟩
            · simp only [Nat.reduceMul, Nat.reduceSub, Int.reducePow] at hab
              obtain ⟨hab, hab2⟩ := hab
              have HLEN : Hid (L.length = 5) := HLE.out
              have HGET : Hid (getS L 0 = (⟨1, x, []⟩, ((5 : Nat) : Int), 0)) := by unfold Hid; rw [HGE.out, HLEN.out]
              clear HLE HGE
              go_wp2_with fail
              refine (put_one w (HS.out) 1 x (by omega) (by omega) (by omega) (by omega)).mono ?_
              rintro e w1 ⟨v1, rfl, y1, b1⟩
              rw [HPN.out] at y1
              obtain ⟨a1, c1, rfl, hy1, hy2, hy3⟩ := y1.shape
              have HB1 : Hid (Below w.heap.size w w1) := b1
              have HY1 : Hid (By w1 (.slice a1 5 c1) L) := by rw [HLEN.out] at y1; exact y1
              rw [HLEN.out]
              clear y1 b1 hy1 hy2 hy3
              go_wp2_with fail
              refine (get_any w1 (.slice a1 5 c1) L 0 (HS.out.under HB1.out) HY1.out).mono ?_
              rw [HGET.out]
              rintro e w2 ⟨sl, rfl, hrw, ⟨sa, sc, rfl, -⟩, b2⟩
              unfold agV
              have bC := (Below.refl w2.heap.size w2).alloc (Nat.le_refl _) (.cells #[.int .i64 1, .int .i64 x, .slice sa 0 sc] 25)
              have HB3 : Hid (Below w.heap.size w (w2.alloc (.cells #[.int .i64 1, .int .i64 x, .slice sa 0 sc] 25))) := (HB1.out.trans (b2.mono HB1.out.size)).trans (bC.mono (by have := HB1.out.size; have := b2.size; omega))
              dsimp only [List.length_nil]
              clear hrw b2 bC HY1
              go_wp2_with fail
              refine (awake6 _ (HS.out.under HB3.out)).mono ?_
              rintro e w4 ⟨rfl, b4⟩
              have HB4 : Hid (Below w.heap.size w w4) := HB3.out.trans (b4.mono HB3.out.size)
              clear b4
              go_wp2_with fail
              go_ret
              exact ⟨rfl, HB4.out⟩
            · simp only [Nat.reduceMul, Nat.reduceSub, Int.reducePow] at hab
              obtain ⟨hab, hab2⟩ := hab
              have HLEN : Hid (L.length = 6) := HLE.out
              have HGET : Hid (getS L 0 = (⟨1, x, []⟩, ((6 : Nat) : Int), 0)) := by unfold Hid; rw [HGE.out, HLEN.out]
              clear HLE HGE
              go_wp2_with fail
              refine (put_one w (HS.out) 1 x (by omega) (by omega) (by omega) (by omega)).mono ?_
              rintro e w1 ⟨v1, rfl, y1, b1⟩
              rw [HPN.out] at y1
              obtain ⟨a1, c1, rfl, hy1, hy2, hy3⟩ := y1.shape
              have HB1 : Hid (Below w.heap.size w w1) := b1
              have HY1 : Hid (By w1 (.slice a1 6 c1) L) := by rw [HLEN.out] at y1; exact y1
              rw [HLEN.out]
              clear y1 b1 hy1 hy2 hy3
              go_wp2_with fail
              refine (get_any w1 (.slice a1 6 c1) L 0 (HS.out.under HB1.out) HY1.out).mono ?_
              rw [HGET.out]
              rintro e w2 ⟨sl, rfl, hrw, ⟨sa, sc, rfl, -⟩, b2⟩
              unfold agV
              have bC := (Below.refl w2.heap.size w2).alloc (Nat.le_refl _) (.cells #[.int .i64 1, .int .i64 x, .slice sa 0 sc] 25)
              have HB3 : Hid (Below w.heap.size w (w2.alloc (.cells #[.int .i64 1, .int .i64 x, .slice sa 0 sc] 25))) := (HB1.out.trans (b2.mono HB1.out.size)).trans (bC.mono (by have := HB1.out.size; have := b2.size; omega))
              dsimp only [List.length_nil]
              clear hrw b2 bC HY1
              go_wp2_with fail
              refine (awake6 _ (HS.out.under HB3.out)).mono ?_
              rintro e w4 ⟨rfl, b4⟩
              have HB4 : Hid (Below w.heap.size w w4) := HB3.out.trans (b4.mono HB3.out.size)
              clear b4
              go_wp2_with fail
              go_ret
              exact ⟨rfl, HB4.out⟩
            · simp only [Nat.reduceMul, Nat.reduceSub, Int.reducePow] at hab
              obtain ⟨hab, hab2⟩ := hab
              have HLEN : Hid (L.length = 7) := HLE.out
              have HGET : Hid (getS L 0 = (⟨1, x, []⟩, ((7 : Nat) : Int), 0)) := by unfold Hid; rw [HGE.out, HLEN.out]
              clear HLE HGE
              go_wp2_with fail
              refine (put_one w (HS.out) 1 x (by omega) (by omega) (by omega) (by omega)).mono ?_
              rintro e w1 ⟨v1, rfl, y1, b1⟩
              rw [HPN.out] at y1
              obtain ⟨a1, c1, rfl, hy1, hy2, hy3⟩ := y1.shape
              have HB1 : Hid (Below w.heap.size w w1) := b1
              have HY1 : Hid (By w1 (.slice a1 7 c1) L) := by rw [HLEN.out] at y1; exact y1
              rw [HLEN.out]
              clear y1 b1 hy1 hy2 hy3
              go_wp2_with fail
              refine (get_any w1 (.slice a1 7 c1) L 0 (HS.out.under HB1.out) HY1.out).mono ?_
              rw [HGET.out]
              rintro e w2 ⟨sl, rfl, hrw, ⟨sa, sc, rfl, -⟩, b2⟩
              unfold agV
              have bC := (Below.refl w2.heap.size w2).alloc (Nat.le_refl _) (.cells #[.int .i64 1, .int .i64 x, .slice sa 0 sc] 25)
              have HB3 : Hid (Below w.heap.size w (w2.alloc (.cells #[.int .i64 1, .int .i64 x, .slice sa 0 sc] 25))) := (HB1.out.trans (b2.mono HB1.out.size)).trans (bC.mono (by have := HB1.out.size; have := b2.size; omega))
              dsimp only [List.length_nil]
              clear hrw b2 bC HY1
              go_wp2_with fail
              refine (awake6 _ (HS.out.under HB3.out)).mono ?_
              rintro e w4 ⟨rfl, b4⟩
              have HB4 : Hid (Below w.heap.size w w4) := HB3.out.trans (b4.mono HB3.out.size)
              clear b4
              go_wp2_with fail
              go_ret
              exact ⟨rfl, HB4.out⟩
            · simp only [Nat.reduceMul, Nat.reduceSub, Int.reducePow] at hab
              obtain ⟨hab, hab2⟩ := hab
              have HLEN : Hid (L.length = 8) := HLE.out
              have HGET : Hid (getS L 0 = (⟨1, x, []⟩, ((8 : Nat) : Int), 0)) := by unfold Hid; rw [HGE.out, HLEN.out]
              clear HLE HGE
              go_wp2_with fail
              refine (put_one w (HS.out) 1 x (by omega) (by omega) (by omega) (by omega)).mono ?_
              rintro e w1 ⟨v1, rfl, y1, b1⟩
              rw [HPN.out] at y1
              obtain ⟨a1, c1, rfl, hy1, hy2, hy3⟩ := y1.shape
              have HB1 : Hid (Below w.heap.size w w1) := b1
              have HY1 : Hid (By w1 (.slice a1 8 c1) L) := by rw [HLEN.out] at y1; exact y1
              rw [HLEN.out]
              clear y1 b1 hy1 hy2 hy3
              go_wp2_with fail
              refine (get_any w1 (.slice a1 8 c1) L 0 (HS.out.under HB1.out) HY1.out).mono ?_
              rw [HGET.out]
              rintro e w2 ⟨sl, rfl, hrw, ⟨sa, sc, rfl, -⟩, b2⟩
              unfold agV
              have bC := (Below.refl w2.heap.size w2).alloc (Nat.le_refl _) (.cells #[.int .i64 1, .int .i64 x, .slice sa 0 sc] 25)
              have HB3 : Hid (Below w.heap.size w (w2.alloc (.cells #[.int .i64 1, .int .i64 x, .slice sa 0 sc] 25))) := (HB1.out.trans (b2.mono HB1.out.size)).trans (bC.mono (by have := HB1.out.size; have := b2.size; omega))
              dsimp only [List.length_nil]
              clear hrw b2 bC HY1
              go_wp2_with fail
              refine (awake6 _ (HS.out.under HB3.out)).mono ?_
              rintro e w4 ⟨rfl, b4⟩
              have HB4 : Hid (Below w.heap.size w w4) := HB3.out.trans (b4.mono HB3.out.size)
              clear b4
              go_wp2_with fail
              go_ret
              exact ⟨rfl, HB4.out⟩
            · simp only [Nat.reduceMul, Nat.reduceSub, Int.reducePow] at hab
              obtain ⟨hab, hab2⟩ := hab
              have HLEN : Hid (L.length = 9) := HLE.out
              have HGET : Hid (getS L 0 = (⟨1, x, []⟩, ((9 : Nat) : Int), 0)) := by unfold Hid; rw [HGE.out, HLEN.out]
              clear HLE HGE
              go_wp2_with fail
              refine (put_one w (HS.out) 1 x (by omega) (by omega) (by omega) (by omega)).mono ?_
              rintro e w1 ⟨v1, rfl, y1, b1⟩
              rw [HPN.out] at y1
              obtain ⟨a1, c1, rfl, hy1, hy2, hy3⟩ := y1.shape
              have HB1 : Hid (Below w.heap.size w w1) := b1
              have HY1 : Hid (By w1 (.slice a1 9 c1) L) := by rw [HLEN.out] at y1; exact y1
              rw [HLEN.out]
              clear y1 b1 hy1 hy2 hy3
              go_wp2_with fail
              refine (get_any w1 (.slice a1 9 c1) L 0 (HS.out.under HB1.out) HY1.out).mono ?_
              rw [HGET.out]
              rintro e w2 ⟨sl, rfl, hrw, ⟨sa, sc, rfl, -⟩, b2⟩
              unfold agV
              have bC := (Below.refl w2.heap.size w2).alloc (Nat.le_refl _) (.cells #[.int .i64 1, .int .i64 x, .slice sa 0 sc] 25)
              have HB3 : Hid (Below w.heap.size w (w2.alloc (.cells #[.int .i64 1, .int .i64 x, .slice sa 0 sc] 25))) := (HB1.out.trans (b2.mono HB1.out.size)).trans (bC.mono (by have := HB1.out.size; have := b2.size; omega))
              dsimp only [List.length_nil]
              clear hrw b2 bC HY1
              go_wp2_with fail
              refine (awake6 _ (HS.out.under HB3.out)).mono ?_
              rintro e w4 ⟨rfl, b4⟩
              have HB4 : Hid (Below w.heap.size w w4) := HB3.out.trans (b4.mono HB3.out.size)
              clear b4
              go_wp2_with fail
              go_ret
              exact ⟨rfl, HB4.out⟩
end Go.Proofs.YtmoonigeghoeeaaDoor
