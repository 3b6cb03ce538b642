
/-
  relictlaw11.ArenaObjects.
-/
import Derived.Test.YtgdlilgkbjiiaaaArS
import Derived.Test.YtgdlilgkbjiiaaaPlaceB
import Derived.Test.YtgdlilgkbjiiaaaSlInt
import Derived.Deep.LoopGhost
namespace Go.Proofs.Ytgdlilgkbjiiaaa
open Go.RowKit
set_option linter.unusedVariables false
set_option linter.unusedSimpArgs false

/-- How many words the first i objects have. -/
def nsum (zs : List Int) : Nat → Nat
  | 0 => 0
  | i + 1 => nsum zs i + (1 + (zs.getD i 0 % 9).toNat)
theorem nsum_le (zs : List Int) (i : Nat) : nsum zs i ≤ 9 * i := by
  induction i with
  | zero => exact Nat.le_refl _
  | succ i ih => have h : nsum zs (i + 1) = nsum zs i + (1 + (zs.getD i 0 % 9).toNat) := rfl; omega
theorem nsum_mono (zs : List Int) (i d : Nat) : nsum zs i ≤ nsum zs (i + d) := by
  induction d with
  | zero => exact Nat.le_refl _
  | succ d ih => have h : nsum zs (i + d + 1) = nsum zs (i + d) + (1 + (zs.getD (i + d) 0 % 9).toNat) := rfl; rw [show i + (d + 1) = i + d + 1 by omega]; omega
theorem nsum_room (zs : List Int) (i m k : Nat) (hi : i < m) (hk : (k : Int) = zs.getD i 0 % 9) : nsum zs i + (1 + k) = nsum zs (i + 1) ∧ nsum zs (i + 1) ≤ nsum zs m := by
  have h : nsum zs (i + 1) = nsum zs i + (1 + (zs.getD i 0 % 9).toNat) := rfl
  refine ⟨by omega, ?_⟩
  have := nsum_mono zs (i + 1) (m - (i + 1))
  rwa [show i + 1 + (m - (i + 1)) = m by omega] at this
/-- A head at the end of what is used. -/
theorem ext_at (W : List Int) (n : Nat) (x : Int) (hx : objN x = (n : Int)) (hn : 0 < n) : extS (setS (W ++ zq n) (W.length : Int) x) (W.length : Int) = (n : Int) := by
  have h0 : setS (W ++ zq n) (W.length : Int) x = (W ++ zq n).set W.length x := by
    unfold setS
    rw [if_pos (by simp [zq_len]; omega), show ((W.length : Nat) : Int).toNat = W.length by omega]
  rw [h0]
  have h1 : ((W ++ zq n).set W.length x).getD W.length 0 = x := by
    simp [List.getD, List.getElem?_set, zq_len, hn]
  have h2 : ((W ++ zq n).set W.length x).length = W.length + n := by simp [zq_len]
  unfold extS
  rw [show ((W.length : Nat) : Int).toNat = W.length by omega, h1, h2, hx, if_pos (by omega)]
theorem setS_app_len (W : List Int) (n : Nat) (x y : Int) : (setS (W ++ zq n) y x).length = W.length + n := by rw [setS_len]; simp [zq_len]
theorem word_at (W : List Int) (x : Int) : wordS (setS (W ++ zq 2) (W.length : Int) x) ((W.length : Int) + 1) = 0 := by
  have h0 : setS (W ++ zq 2) (W.length : Int) x = (W ++ zq 2).set W.length x := by
    unfold setS
    rw [if_pos (by simp [zq_len]; omega), show ((W.length : Nat) : Int).toNat = W.length by omega]
  rw [h0]
  unfold wordS
  split
  · rw [show ((W.length : Int) + 1).toNat = W.length + 1 by omega]
    simp [List.getD, List.getElem?_set, zq, List.replicate]
  · rfl
theorem objN_head (t k : Int) (h0 : 0 ≤ k) (h1 : k < 1099511627776) : objN (heW t k) = 1 + k := by
  have hc : cutW k = k := by unfold cutW; omega
  unfold objN hsR heW
  rw [hc, if_pos (by omega), if_pos (by omega)]
  omega
theorem objN_small (v : Int) : objN (smW v) = 2 := by
  unfold objN smW
  rw [if_neg (by omega)]
theorem ext_end (W : List Int) : extS W (W.length : Int) = 0 := by
  unfold extS; rw [if_neg (by omega)]
theorem ext_last (W : List Int) (x : Int) (hx : objN x = 2) (h : 0 < W.length) : extS (setS W ((W.length : Int) - 1) x) ((W.length : Int) - 1) = 0 := by
  have h0 : setS W ((W.length : Int) - 1) x = W.set (W.length - 1) x := by
    unfold setS
    rw [if_pos (by omega), show ((W.length : Int) - 1).toNat = W.length - 1 by omega]
  rw [h0]
  have h1 : (W.set (W.length - 1) x).getD (W.length - 1) 0 = x := by
    have h5 : W.length - 1 < W.length := by omega
    simp [List.getD, List.getElem?_set, h5]
  unfold extS
  rw [show ((W.length : Int) - 1).toNat = W.length - 1 by omega, h1, hx, List.length_set, if_neg (by omega)]

set_option maxRecDepth 100000 in
set_option maxHeartbeats 4000000 in
theorem arenaObjects_short (v : Value) (zs : List Int) (cells : Int) (w : World) (hs : SlI w v zs) (h1 : -9223372036854775808 ≤ cells) (h2 : cells ≤ 9223372036854775807) (hm : zs.length ≤ 20) :
    Calls Try.prog 4 #[v, .int .i64 cells] w fun e w' => e = .returned (.bool true) ∧ Below w.heap.size w w' := by
  obtain ⟨pa, ca, rfl⟩ := hs.shape
  have HS : Hid (SlI w (.slice pa zs.length ca) zs) := hs
  obtain ⟨c, hc⟩ : ∃ c : Nat, (c : Int) = cells % 5 := ⟨(cells % 5).toNat, by omega⟩
  have hc2 : c < 5 := by omega
  have HP0 : Hid (∀ W, Calls Try.prog 8 #[.int .i64 cells, .int .i64 5] W fun e w' => e = .returned (.int .i64 (c : Int)) ∧ W = w') := fun W => by rw [hc]; exact place_any cells 5 W (by decide) (by decide) h1 h2
  have hm20 : zs.length ≤ 20 := by omega
  have hmz : zs.length ≤ zs.length := by omega
  have hns : nsum zs (zs.length) ≤ 180 := by have := nsum_le zs (zs.length); omega
  clear hc hs h1 h2
  go_enter Try.func4, Try.ntmps4
  go_wp2_with fail
  go_loopg [5, 6] (zs.length) (fun gk sn si wr => ∃ i : Nat, i + gk = zs.length ∧ sn = .int .i64 (nsum zs i : Int) ∧ si = .int .i64 (i : Int) ∧ w = wr)
  case atStart => exact ⟨0, by omega, rfl, rfl, rfl⟩
  case round =>
    obtain ⟨i, hi, rfl, rfl, rfl⟩ := hrel
    cases gk with
    | succ gko =>
      have hl1 : i < zs.length := by omega
      have hl1' : (i : Int) < (zs.length : Int) := by omega
      have hl2' : (i : Int) < 20 := by omega
      obtain ⟨b1, off1, rfl, c1⟩ := HS.out.at i hl1
      have hzb := HS.out.bd i hl1
      obtain ⟨k, hk⟩ : ∃ k : Nat, (k : Int) = zs.getD i 0 % 9 := ⟨(zs.getD i 0 % 9).toNat, by omega⟩
      obtain ⟨hr1, hr2⟩ := nsum_room zs i (zs.length) k (by omega) hk
      obtain ⟨z, hz⟩ : ∃ z, z = zs.getD i 0 := ⟨_, rfl⟩
      rw [← hz] at c1 hzb hk
      have HP : Hid (∀ W, Calls Try.prog 8 #[.int .i64 z, .int .i64 9] W fun e w' => e = .returned (.int .i64 (k : Int)) ∧ W = w') := fun W => by rw [hk]; exact place_any z 9 W (by decide) (by decide) hzb.1 hzb.2
      obtain ⟨n, hn⟩ : ∃ n, n = nsum zs i := ⟨_, rfl⟩
      have HR : Hid (((n : Nat) : Int) + 1 + (k : Int) = ((nsum zs (i + 1) : Nat) : Int)) := by show _ = _; omega
      have hnb : n + k ≤ 1000 := by omega
      rw [← hn]
      clear hz hk hr1 hr2 hn
      go_wp2_with fail
      refine (HP.out _).mono ?_
      rintro e w1 ⟨rfl, rfl⟩
      go_wp2_with fail
      go_roundg gko
      case measure => omega
      case rel => exact ⟨i + 1, by omega, by rw [HR.out], by go_num, rfl⟩
    | zero =>
      obtain rfl : i = zs.length := by omega
      have hx : ¬ ((zs.length : Nat) : Int) < (zs.length : Int) := by omega
      obtain ⟨n, hn⟩ : ∃ n, n = nsum zs (zs.length) := ⟨_, rfl⟩
      rw [← hn] at hns ⊢
      have HNS : Hid (n = nsum zs (zs.length)) := hn
      have hcut : cutA ((n : Int) + 2 * (c : Int)) = n + 2 * c := by unfold cutA; omega
      have HN : Hid (∀ W, Calls Try.prog 6 #[.int .i64 ((n : Int) + 2 * (c : Int))] W fun e w' => NewA (n + 2 * c) W e w') := fun W => by
        have := anew_any ((n : Int) + 2 * (c : Int)) W (by omega) (by omega)
        rwa [hcut] at this
      clear hn hcut hi
      go_wp2_with fail
      refine (HP0.out _).mono ?_
      rintro e w1 ⟨rfl, rfl⟩
      go_wp2_with fail
      refine (HN.out _).mono ?_
      rintro e w0 ⟨p, b, rfl, hb1, hb2, ha, hb⟩
      have HB1 : Hid (w.heap.size ≤ b ∧ w.heap.size ≤ p ∧ w.heap.size ≤ w0.heap.size) := ⟨hb1, by omega, hb.size⟩
      have HA0 : Hid (Ar w0 p b [] (n + 2 * c)) := ha
      have HB0 : Hid (Below w.heap.size w w0) := hb
      clear hb1 hb2 ha hb HP0 HN
      go_wp2_with fail
      go_loopg [9] (zs.length) (fun gk si wr => ∃ (i : Nat) (W : List Int), i + gk = zs.length ∧ si = .int .i64 (i : Int) ∧ W.length = nsum zs i ∧ Ar wr p b W (n + 2 * c) ∧ Below w.heap.size w wr)
      case atStart => exact ⟨0, [], by omega, rfl, rfl, HA0.out, HB0.out⟩
      case round =>
        obtain ⟨i, W, hi, rfl, hW, hAr, hBr⟩ := hrel
        have HAR : Hid (Ar wr p b W (n + 2 * c)) := hAr
        have HBR : Hid (Below w.heap.size w wr) := hBr
        clear hAr hBr HA0 HB0
        cases gk with
        | succ gko =>
          have hl1 : i < zs.length := by omega
          have hl1' : (i : Int) < (zs.length : Int) := by omega
          have hl2' : (i : Int) < 20 := by omega
          obtain ⟨b1, off1, rfl, c1⟩ := (HS.out.below HBR.out).at i hl1
          have hzb := HS.out.bd i hl1
          obtain ⟨k, hk⟩ : ∃ k : Nat, (k : Int) = zs.getD i 0 % 9 := ⟨(zs.getD i 0 % 9).toNat, by omega⟩
          obtain ⟨hr1, hr2⟩ := nsum_room zs i (zs.length) k (by omega) hk
          rw [← HNS.out] at hr2
          obtain ⟨z, hz⟩ : ∃ z, z = zs.getD i 0 := ⟨_, rfl⟩
          rw [← hz] at c1 hzb hk
          have hk9 : k < 9 := by omega
          have HP : Hid (∀ W, Calls Try.prog 8 #[.int .i64 z, .int .i64 9] W fun e w' => e = .returned (.int .i64 (k : Int)) ∧ W = w') := fun W => by rw [hk]; exact place_any z 9 W (by decide) (by decide) hzb.1 hzb.2
          have HWN : Hid (W.length + (1 + k) = nsum zs (i + 1)) := by show _ = _; omega
          have HAL : Hid (∀ Q, Ar Q p b W (n + 2 * c) → Calls Try.prog 9 #[.pointer (some ⟨p, 0, none⟩), .int .i64 (1 + (k : Int))] Q fun e w' => e = .returned (.tuple #[.int .i64 (W.length : Int), .bool true]) ∧ Ar w' p b (W ++ zq (1 + k)) (n + 2 * c) ∧ Ot p Q w') := fun Q hQ => by
            have := aalloc_yes Q p b (n + 2 * c) W (1 + k) hQ (by omega)
            rw [show ((1 + k : Nat) : Int) = 1 + (k : Int) by omega] at this
            exact this.mono fun e w' q => ⟨q.1, q.2.1, q.2.2.1⟩
          obtain ⟨r, hr⟩ : ∃ r, (k : Int).tmod 6 = r := ⟨_, rfl⟩
          have hrb : 0 ≤ r ∧ r < 6 := by rw [← hr, Int.tmod_eq_emod_of_nonneg (by omega)]; omega
          obtain ⟨x, hx⟩ : ∃ x, x = heW (1 + r) (k : Int) := ⟨_, rfl⟩
          have hxb : 0 ≤ x ∧ x < 18446744073709551616 := by rw [hx]; exact heW_bd _ _
          have hxo : objN x = ((1 + k : Nat) : Int) := by rw [hx, objN_head _ _ (by omega) (by omega)]; omega
          have HHD : Hid (∀ Q, Calls Try.prog 22 #[.int .i64 (1 + r), .int .i64 (k : Int)] Q fun e w' => e = .returned (.int .u64 x) ∧ Q = w') := fun Q => by rw [hx]; exact rhead_w (1 + r) (k : Int) Q (by omega) (by omega)
          obtain ⟨W', hW'⟩ : ∃ W', W' = setS (W ++ zq (1 + k)) (W.length : Int) x := ⟨_, rfl⟩
          have HST : Hid (∀ Q, Ar Q p b (W ++ zq (1 + k)) (n + 2 * c) → Calls Try.prog 11 #[.pointer (some ⟨p, 0, none⟩), .int .i64 (W.length : Int), .int .u64 x] Q fun e w' => e = .returned (.tuple #[]) ∧ Ar w' p b W' (n + 2 * c) ∧ Ot b Q w') := fun Q hQ =>
            (aset_any Q p b (n + 2 * c) _ (W.length : Int) x hQ hxb).mono fun e w' q => ⟨q.1, by rw [hW']; exact q.2.1, q.2.2.1⟩
          have HEX : Hid (∀ Q, Ar Q p b W' (n + 2 * c) → Calls Try.prog 17 #[.pointer (some ⟨p, 0, none⟩), .int .i64 (W.length : Int)] Q fun e w' => e = .returned (.int .i64 (1 + (k : Int))) ∧ Q = w') := fun Q hQ => by
            have := aextent_any Q p b (n + 2 * c) W' (W.length : Int) hQ
            rw [hW', ext_at W (1 + k) x hxo (by omega), show ((1 + k : Nat) : Int) = 1 + (k : Int) by omega] at this
            exact this
          have HWL : Hid (W'.length = nsum zs (i + 1)) := by show _ = _; rw [hW', setS_app_len]; exact HWN.out
          have HWB : Hid (W.length ≤ 1000) := by show _ ≤ _; have := nsum_le zs i; omega
          have hlb : (W.length : Int) ≤ 1000 := by have := HWB.out; omega
          clear hz hk hl1 hr1 hr2 hx hW' hxo hW
          go_wp2_with fail
          refine (HP.out _).mono ?_
          rintro e w1 ⟨rfl, rfl⟩
          go_wp2_with fail
          refine (HAL.out _ HAR.out).mono ?_
          rintro e w1 ⟨rfl, ha1, ho1⟩
          have HL : Hid (w.heap.size ≤ wr.heap.size) := by have := HBR.out.size; exact this
          have HA1 : Hid (Ar w1 p b (W ++ zq (1 + k)) (n + 2 * c)) := ha1
          have HB2 : Hid (Below w.heap.size w w1) := HBR.out.trans (ho1.below HL.out HB1.out.2.1)
          have HL1 : Hid (w.heap.size ≤ w1.heap.size) := HB2.out.size
          clear ha1 ho1 HAR HBR c1
          go_wp2_with fail
          refine (HHD.out _).mono ?_
          rintro e w2 ⟨rfl, rfl⟩
          go_wp2_with fail
          refine (HST.out _ HA1.out).mono ?_
          rintro e w2 ⟨rfl, ha2, ho2⟩
          have HA2 : Hid (Ar w2 p b W' (n + 2 * c)) := ha2
          have HB3 : Hid (Below w.heap.size w w2) := HB2.out.trans (ho2.below HL1.out HB1.out.1)
          clear ha2 ho2 HA1 HB2
          go_wp2_with fail
          refine (HEX.out _ HA2.out).mono ?_
          rintro e w3 ⟨rfl, rfl⟩
          have hne : ((1 + (k : Int)) != (1 + (k : Int))) = false := by simp
          go_wp2_with fail
          go_roundg gko
          case measure => omega
          case rel => exact ⟨i + 1, W', by omega, by go_num, HWL.out, HA2.out, HB3.out⟩
        | zero =>
          obtain rfl : i = zs.length := by omega
          have hx : ¬ ((zs.length : Nat) : Int) < (zs.length : Int) := by omega
          rw [← HNS.out] at hW
          have HW0 : Hid (W.length = n) := hW
          clear hi hW
          go_wp2_with fail
          go_loopg [13] c (fun gk si wr => ∃ (i : Nat) (W : List Int), i + gk = c ∧ si = .int .i64 (i : Int) ∧ W.length = n + 2 * i ∧ Ar wr p b W (n + 2 * c) ∧ Below w.heap.size w wr)
          case atStart => exact ⟨0, W, by omega, rfl, HW0.out, HAR.out, HBR.out⟩
          case round =>
            clear HAR HBR HW0
            obtain ⟨i, W, hi, rfl, hW, hAr, hBr⟩ := hrel
            have HAR : Hid (Ar wr p b W (n + 2 * c)) := hAr
            have HBR : Hid (Below w.heap.size w wr) := hBr
            have hlb : (W.length : Int) ≤ 1000 := by omega
            clear hAr hBr
            cases gk with
            | succ gko =>
              have hic : (i : Int) < (c : Int) := by omega
              have HWN : Hid (W.length + 2 = n + 2 * (i + 1)) := by show _ = _; omega
              have HAL : Hid (∀ Q, Ar Q p b W (n + 2 * c) → Calls Try.prog 9 #[.pointer (some ⟨p, 0, none⟩), .int .i64 2] Q fun e w' => e = .returned (.tuple #[.int .i64 (W.length : Int), .bool true]) ∧ Ar w' p b (W ++ zq 2) (n + 2 * c) ∧ Ot p Q w') := fun Q hQ =>
                (aalloc_yes Q p b (n + 2 * c) W 2 hQ (by omega)).mono fun e w' q => ⟨q.1, q.2.1, q.2.2.1⟩
              obtain ⟨x, hx⟩ : ∃ x, x = smW (i : Int) := ⟨_, rfl⟩
              have hxb : 0 ≤ x ∧ x < 18446744073709551616 := by rw [hx]; exact smW_bd _
              have hxo : objN x = ((2 : Nat) : Int) := by rw [hx, objN_small]; rfl
              have HSM : Hid (∀ Q, Calls Try.prog 23 #[.int .i64 (i : Int)] Q fun e w' => e = .returned (.int .u64 x) ∧ Q = w') := fun Q => by rw [hx]; exact rsmall_any (i : Int) Q (by omega) (by omega)
              obtain ⟨W', hW'⟩ : ∃ W', W' = setS (W ++ zq 2) (W.length : Int) x := ⟨_, rfl⟩
              have HST : Hid (∀ Q, Ar Q p b (W ++ zq 2) (n + 2 * c) → Calls Try.prog 11 #[.pointer (some ⟨p, 0, none⟩), .int .i64 (W.length : Int), .int .u64 x] Q fun e w' => e = .returned (.tuple #[]) ∧ Ar w' p b W' (n + 2 * c) ∧ Ot b Q w') := fun Q hQ =>
                (aset_any Q p b (n + 2 * c) _ (W.length : Int) x hQ hxb).mono fun e w' q => ⟨q.1, by rw [hW']; exact q.2.1, q.2.2.1⟩
              have HEX : Hid (∀ Q, Ar Q p b W' (n + 2 * c) → Calls Try.prog 17 #[.pointer (some ⟨p, 0, none⟩), .int .i64 (W.length : Int)] Q fun e w' => e = .returned (.int .i64 2) ∧ Q = w') := fun Q hQ => by
                have := aextent_any Q p b (n + 2 * c) W' (W.length : Int) hQ
                rw [hW', ext_at W 2 x hxo (by omega)] at this
                exact this
              have HWD : Hid (∀ Q, Ar Q p b W' (n + 2 * c) → Calls Try.prog 15 #[.pointer (some ⟨p, 0, none⟩), .int .i64 ((W.length : Int) + 1)] Q fun e w' => e = .returned (.int .u64 0) ∧ Q = w') := fun Q hQ => by
                have := aword_any Q p b (n + 2 * c) W' ((W.length : Int) + 1) hQ
                rw [hW', word_at W x] at this
                exact this
              have HWL : Hid (W'.length = n + 2 * (i + 1)) := by show _ = _; rw [hW', setS_app_len]; exact HWN.out
              clear hx hW' hxo hW
              go_wp2_with fail
              refine (HAL.out _ HAR.out).mono ?_
              rintro e w1 ⟨rfl, ha1, ho1⟩
              have HL : Hid (w.heap.size ≤ wr.heap.size) := by have := HBR.out.size; exact this
              have HA1 : Hid (Ar w1 p b (W ++ zq 2) (n + 2 * c)) := ha1
              have HB2 : Hid (Below w.heap.size w w1) := HBR.out.trans (ho1.below HL.out HB1.out.2.1)
              have HL1 : Hid (w.heap.size ≤ w1.heap.size) := HB2.out.size
              clear ha1 ho1 HAR HBR
              go_wp2_with fail
              refine (HSM.out _).mono ?_
              rintro e w2 ⟨rfl, rfl⟩
              go_wp2_with fail
              refine (HST.out _ HA1.out).mono ?_
              rintro e w2 ⟨rfl, ha2, ho2⟩
              have HA2 : Hid (Ar w2 p b W' (n + 2 * c)) := ha2
              have HB3 : Hid (Below w.heap.size w w2) := HB2.out.trans (ho2.below HL1.out HB1.out.1)
              clear ha2 ho2 HA1 HB2
              go_wp2_with fail
              refine (HEX.out _ HA2.out).mono ?_
              rintro e w3 ⟨rfl, rfl⟩
              go_wp2_with fail
              refine (HWD.out _ HA2.out).mono ?_
              rintro e w3 ⟨rfl, rfl⟩
              go_wp2_with fail
              go_roundg gko
              case measure => omega
              case rel => exact ⟨i + 1, W', by omega, by go_num, HWL.out, HA2.out, HB3.out⟩
            | zero =>
              obtain rfl : i = c := by omega
              have hjj : ¬ (i : Int) < (i : Int) := by omega
              obtain ⟨N, hN⟩ : ∃ N, N = n + 2 * i := ⟨_, rfl⟩
              rw [← hN] at HAR hW
              have hNb : N ≤ 200 := by omega
              have HAL : Hid (∀ Q, Ar Q p b W N → Calls Try.prog 9 #[.pointer (some ⟨p, 0, none⟩), .int .i64 1] Q fun e w' => e = .returned (.tuple #[.int .i64 0, .bool false]) ∧ Q = w') := fun Q hQ =>
                aalloc_no Q p b N W 1 hQ (by omega)
              have HU0 : Hid (∀ Q, Ar Q p b W N → Calls Try.prog 13 #[.pointer (some ⟨p, 0, none⟩)] Q fun e w' => e = .returned (.int .i64 (N : Int)) ∧ Q = w') := fun Q hQ => by
                have := aused_any Q p b N W hQ
                rwa [hW] at this
              have HSM : Hid (∀ Q, Calls Try.prog 23 #[.int .i64 3] Q fun e w' => e = .returned (.int .u64 (smW 3)) ∧ Q = w') := fun Q => rsmall_any 3 Q (by decide) (by decide)
              obtain ⟨x, hx⟩ : ∃ x, x = smW 3 := ⟨_, rfl⟩
              have hxb : 0 ≤ x ∧ x < 18446744073709551616 := by rw [hx]; exact smW_bd _
              have hxo : objN x = 2 := by rw [hx, objN_small]
              rw [← hx] at HSM
              obtain ⟨W', hW'⟩ : ∃ W', W' = setS W ((N : Int) - 1) x := ⟨_, rfl⟩
              have hWl : W'.length = N := by rw [hW', setS_len, hW]
              have HST : Hid (∀ Q, Ar Q p b W N → Calls Try.prog 11 #[.pointer (some ⟨p, 0, none⟩), .int .i64 ((N : Int) - 1), .int .u64 x] Q fun e w' => e = .returned (.tuple #[]) ∧ Ar w' p b W' N ∧ Ot b Q w') := fun Q hQ =>
                (aset_any Q p b N _ ((N : Int) - 1) x hQ hxb).mono fun e w' q => ⟨q.1, by rw [hW']; exact q.2.1, q.2.2.1⟩
              have HU : Hid (∀ Q, Ar Q p b W' N → Calls Try.prog 13 #[.pointer (some ⟨p, 0, none⟩)] Q fun e w' => e = .returned (.int .i64 (N : Int)) ∧ Q = w') := fun Q hQ => by
                have := aused_any Q p b N W' hQ
                rwa [hWl] at this
              have HE1 : Hid (∀ Q, Ar Q p b W' N → Calls Try.prog 17 #[.pointer (some ⟨p, 0, none⟩), .int .i64 (N : Int)] Q fun e w' => e = .returned (.int .i64 0) ∧ Q = w') := fun Q hQ => by
                have := aextent_any Q p b N W' (N : Int) hQ
                rwa [← hWl, ext_end W', hWl] at this
              have HE2 : Hid (0 < N → ∀ Q, Ar Q p b W' N → Calls Try.prog 17 #[.pointer (some ⟨p, 0, none⟩), .int .i64 ((N : Int) - 1)] Q fun e w' => e = .returned (.int .i64 0) ∧ Q = w') := fun h0 Q hQ => by
                have := aextent_any Q p b N W' ((N : Int) - 1) hQ
                rwa [hW', ← hW, ext_last W x hxo (by omega), hW] at this
              have hNz : (n + i = 0 ∧ N = 0) ∨ (0 < n + i ∧ 0 < N) := by omega
              have HL : Hid (w.heap.size ≤ wr.heap.size) := by have := HBR.out.size; exact this
              clear hx hW' hxo hW hWl hN hi
              go_wp2_with fail
              refine (HAL.out _ HAR.out).mono ?_
              rintro e w1 ⟨rfl, rfl⟩
              go_wp2_with fail
              refine (HU0.out _ HAR.out).mono ?_
              rintro e w1 ⟨rfl, rfl⟩
              go_wp2_with fail
              refine (HSM.out _).mono ?_
              rintro e w1 ⟨rfl, rfl⟩
              go_wp2_with fail
              refine (HST.out _ HAR.out).mono ?_
              rintro e w2 ⟨rfl, ha2, ho2⟩
              have HA2 : Hid (Ar w2 p b W' N) := ha2
              have HB3 : Hid (Below w.heap.size w w2) := HBR.out.trans (ho2.below HL.out HB1.out.1)
              clear ha2 ho2 HAR HBR
              go_wp2_with fail
              refine (HU.out _ HA2.out).mono ?_
              rintro e w3 ⟨rfl, rfl⟩
              go_wp2_with fail
              refine (HE1.out _ HA2.out).mono ?_
              rintro e w3 ⟨rfl, rfl⟩
              rcases hNz with ⟨hz1, hz2⟩ | ⟨hz1, hz2⟩
              · have hq : ((n : Int) + (i : Int) == 0) = true := by simp; omega
                go_wp2_with fail
                refine (HU.out _ HA2.out).mono ?_
                rintro e w3 ⟨rfl, rfl⟩
                go_wp2_with fail
                refine (awake11 _).mono ?_
                rintro e w4 ⟨rfl, hb4⟩
                go_wp2_with fail
                go_ret
                exact ⟨rfl, HB3.out.trans (hb4.mono HB3.out.size)⟩
              · have hq : ((n : Int) + (i : Int) == 0) = false := by simp; omega
                go_wp2_with fail
                refine (HU.out _ HA2.out).mono ?_
                rintro e w3 ⟨rfl, rfl⟩
                go_wp2_with fail
                refine (HE2.out hz2 _ HA2.out).mono ?_
                rintro e w3 ⟨rfl, rfl⟩
                go_wp2_with fail
                refine (HU.out _ HA2.out).mono ?_
                rintro e w3 ⟨rfl, rfl⟩
                go_wp2_with fail
                refine (awake11 _).mono ?_
                rintro e w4 ⟨rfl, hb4⟩
                go_wp2_with fail
                go_ret
                exact ⟨rfl, HB3.out.trans (hb4.mono HB3.out.size)⟩

set_option maxRecDepth 100000 in
set_option maxHeartbeats 4000000 in
theorem arenaObjects_long (v : Value) (zs : List Int) (cells : Int) (w : World) (hs : SlI w v zs) (h1 : -9223372036854775808 ≤ cells) (h2 : cells ≤ 9223372036854775807) (hm : 20 < zs.length) :
    Calls Try.prog 4 #[v, .int .i64 cells] w fun e w' => e = .returned (.bool true) ∧ Below w.heap.size w w' := by
  obtain ⟨pa, ca, rfl⟩ := hs.shape
  have HS : Hid (SlI w (.slice pa zs.length ca) zs) := hs
  obtain ⟨c, hc⟩ : ∃ c : Nat, (c : Int) = cells % 5 := ⟨(cells % 5).toNat, by omega⟩
  have hc2 : c < 5 := by omega
  have HP0 : Hid (∀ W, Calls Try.prog 8 #[.int .i64 cells, .int .i64 5] W fun e w' => e = .returned (.int .i64 (c : Int)) ∧ W = w') := fun W => by rw [hc]; exact place_any cells 5 W (by decide) (by decide) h1 h2
  have hm20 : 20 ≤ 20 := by omega
  have hmz : 20 ≤ zs.length := by omega
  have hns : nsum zs 20 ≤ 180 := by have := nsum_le zs 20; omega
  clear hc hs h1 h2
  go_enter Try.func4, Try.ntmps4
  go_wp2_with fail
  go_loopg [5, 6] 20 (fun gk sn si wr => ∃ i : Nat, i + gk = 20 ∧ sn = .int .i64 (nsum zs i : Int) ∧ si = .int .i64 (i : Int) ∧ w = wr)
  case atStart => exact ⟨0, by omega, rfl, rfl, rfl⟩
  case round =>
    obtain ⟨i, hi, rfl, rfl, rfl⟩ := hrel
    cases gk with
    | succ gko =>
      have hl1 : i < zs.length := by omega
      have hl1' : (i : Int) < (zs.length : Int) := by omega
      have hl2' : (i : Int) < 20 := by omega
      obtain ⟨b1, off1, rfl, c1⟩ := HS.out.at i hl1
      have hzb := HS.out.bd i hl1
      obtain ⟨k, hk⟩ : ∃ k : Nat, (k : Int) = zs.getD i 0 % 9 := ⟨(zs.getD i 0 % 9).toNat, by omega⟩
      obtain ⟨hr1, hr2⟩ := nsum_room zs i 20 k (by omega) hk
      obtain ⟨z, hz⟩ : ∃ z, z = zs.getD i 0 := ⟨_, rfl⟩
      rw [← hz] at c1 hzb hk
      have HP : Hid (∀ W, Calls Try.prog 8 #[.int .i64 z, .int .i64 9] W fun e w' => e = .returned (.int .i64 (k : Int)) ∧ W = w') := fun W => by rw [hk]; exact place_any z 9 W (by decide) (by decide) hzb.1 hzb.2
      obtain ⟨n, hn⟩ : ∃ n, n = nsum zs i := ⟨_, rfl⟩
      have HR : Hid (((n : Nat) : Int) + 1 + (k : Int) = ((nsum zs (i + 1) : Nat) : Int)) := by show _ = _; omega
      have hnb : n + k ≤ 1000 := by omega
      rw [← hn]
      clear hz hk hr1 hr2 hn
      go_wp2_with fail
      refine (HP.out _).mono ?_
      rintro e w1 ⟨rfl, rfl⟩
      go_wp2_with fail
      go_roundg gko
      case measure => omega
      case rel => exact ⟨i + 1, by omega, by rw [HR.out], by go_num, rfl⟩
    | zero =>
      obtain rfl : i = 20 := by omega
      have hx : (20 : Int) < (zs.length : Int) := by omega
      obtain ⟨n, hn⟩ : ∃ n, n = nsum zs 20 := ⟨_, rfl⟩
      rw [← hn] at hns ⊢
      have HNS : Hid (n = nsum zs 20) := hn
      have hcut : cutA ((n : Int) + 2 * (c : Int)) = n + 2 * c := by unfold cutA; omega
      have HN : Hid (∀ W, Calls Try.prog 6 #[.int .i64 ((n : Int) + 2 * (c : Int))] W fun e w' => NewA (n + 2 * c) W e w') := fun W => by
        have := anew_any ((n : Int) + 2 * (c : Int)) W (by omega) (by omega)
        rwa [hcut] at this
      clear hn hcut hi
      go_wp2_with fail
      refine (HP0.out _).mono ?_
      rintro e w1 ⟨rfl, rfl⟩
      go_wp2_with fail
      refine (HN.out _).mono ?_
      rintro e w0 ⟨p, b, rfl, hb1, hb2, ha, hb⟩
      have HB1 : Hid (w.heap.size ≤ b ∧ w.heap.size ≤ p ∧ w.heap.size ≤ w0.heap.size) := ⟨hb1, by omega, hb.size⟩
      have HA0 : Hid (Ar w0 p b [] (n + 2 * c)) := ha
      have HB0 : Hid (Below w.heap.size w w0) := hb
      clear hb1 hb2 ha hb HP0 HN
      go_wp2_with fail
      go_loopg [9] 20 (fun gk si wr => ∃ (i : Nat) (W : List Int), i + gk = 20 ∧ si = .int .i64 (i : Int) ∧ W.length = nsum zs i ∧ Ar wr p b W (n + 2 * c) ∧ Below w.heap.size w wr)
      case atStart => exact ⟨0, [], by omega, rfl, rfl, HA0.out, HB0.out⟩
      case round =>
        obtain ⟨i, W, hi, rfl, hW, hAr, hBr⟩ := hrel
        have HAR : Hid (Ar wr p b W (n + 2 * c)) := hAr
        have HBR : Hid (Below w.heap.size w wr) := hBr
        clear hAr hBr HA0 HB0
        cases gk with
        | succ gko =>
          have hl1 : i < zs.length := by omega
          have hl1' : (i : Int) < (zs.length : Int) := by omega
          have hl2' : (i : Int) < 20 := by omega
          obtain ⟨b1, off1, rfl, c1⟩ := (HS.out.below HBR.out).at i hl1
          have hzb := HS.out.bd i hl1
          obtain ⟨k, hk⟩ : ∃ k : Nat, (k : Int) = zs.getD i 0 % 9 := ⟨(zs.getD i 0 % 9).toNat, by omega⟩
          obtain ⟨hr1, hr2⟩ := nsum_room zs i 20 k (by omega) hk
          rw [← HNS.out] at hr2
          obtain ⟨z, hz⟩ : ∃ z, z = zs.getD i 0 := ⟨_, rfl⟩
          rw [← hz] at c1 hzb hk
          have hk9 : k < 9 := by omega
          have HP : Hid (∀ W, Calls Try.prog 8 #[.int .i64 z, .int .i64 9] W fun e w' => e = .returned (.int .i64 (k : Int)) ∧ W = w') := fun W => by rw [hk]; exact place_any z 9 W (by decide) (by decide) hzb.1 hzb.2
          have HWN : Hid (W.length + (1 + k) = nsum zs (i + 1)) := by show _ = _; omega
          have HAL : Hid (∀ Q, Ar Q p b W (n + 2 * c) → Calls Try.prog 9 #[.pointer (some ⟨p, 0, none⟩), .int .i64 (1 + (k : Int))] Q fun e w' => e = .returned (.tuple #[.int .i64 (W.length : Int), .bool true]) ∧ Ar w' p b (W ++ zq (1 + k)) (n + 2 * c) ∧ Ot p Q w') := fun Q hQ => by
            have := aalloc_yes Q p b (n + 2 * c) W (1 + k) hQ (by omega)
            rw [show ((1 + k : Nat) : Int) = 1 + (k : Int) by omega] at this
            exact this.mono fun e w' q => ⟨q.1, q.2.1, q.2.2.1⟩
          obtain ⟨r, hr⟩ : ∃ r, (k : Int).tmod 6 = r := ⟨_, rfl⟩
          have hrb : 0 ≤ r ∧ r < 6 := by rw [← hr, Int.tmod_eq_emod_of_nonneg (by omega)]; omega
          obtain ⟨x, hx⟩ : ∃ x, x = heW (1 + r) (k : Int) := ⟨_, rfl⟩
          have hxb : 0 ≤ x ∧ x < 18446744073709551616 := by rw [hx]; exact heW_bd _ _
          have hxo : objN x = ((1 + k : Nat) : Int) := by rw [hx, objN_head _ _ (by omega) (by omega)]; omega
          have HHD : Hid (∀ Q, Calls Try.prog 22 #[.int .i64 (1 + r), .int .i64 (k : Int)] Q fun e w' => e = .returned (.int .u64 x) ∧ Q = w') := fun Q => by rw [hx]; exact rhead_w (1 + r) (k : Int) Q (by omega) (by omega)
          obtain ⟨W', hW'⟩ : ∃ W', W' = setS (W ++ zq (1 + k)) (W.length : Int) x := ⟨_, rfl⟩
          have HST : Hid (∀ Q, Ar Q p b (W ++ zq (1 + k)) (n + 2 * c) → Calls Try.prog 11 #[.pointer (some ⟨p, 0, none⟩), .int .i64 (W.length : Int), .int .u64 x] Q fun e w' => e = .returned (.tuple #[]) ∧ Ar w' p b W' (n + 2 * c) ∧ Ot b Q w') := fun Q hQ =>
            (aset_any Q p b (n + 2 * c) _ (W.length : Int) x hQ hxb).mono fun e w' q => ⟨q.1, by rw [hW']; exact q.2.1, q.2.2.1⟩
          have HEX : Hid (∀ Q, Ar Q p b W' (n + 2 * c) → Calls Try.prog 17 #[.pointer (some ⟨p, 0, none⟩), .int .i64 (W.length : Int)] Q fun e w' => e = .returned (.int .i64 (1 + (k : Int))) ∧ Q = w') := fun Q hQ => by
            have := aextent_any Q p b (n + 2 * c) W' (W.length : Int) hQ
            rw [hW', ext_at W (1 + k) x hxo (by omega), show ((1 + k : Nat) : Int) = 1 + (k : Int) by omega] at this
            exact this
          have HWL : Hid (W'.length = nsum zs (i + 1)) := by show _ = _; rw [hW', setS_app_len]; exact HWN.out
          have HWB : Hid (W.length ≤ 1000) := by show _ ≤ _; have := nsum_le zs i; omega
          have hlb : (W.length : Int) ≤ 1000 := by have := HWB.out; omega
          clear hz hk hl1 hr1 hr2 hx hW' hxo hW
          go_wp2_with fail
          refine (HP.out _).mono ?_
          rintro e w1 ⟨rfl, rfl⟩
          go_wp2_with fail
          refine (HAL.out _ HAR.out).mono ?_
          rintro e w1 ⟨rfl, ha1, ho1⟩
          have HL : Hid (w.heap.size ≤ wr.heap.size) := by have := HBR.out.size; exact this
          have HA1 : Hid (Ar w1 p b (W ++ zq (1 + k)) (n + 2 * c)) := ha1
          have HB2 : Hid (Below w.heap.size w w1) := HBR.out.trans (ho1.below HL.out HB1.out.2.1)
          have HL1 : Hid (w.heap.size ≤ w1.heap.size) := HB2.out.size
          clear ha1 ho1 HAR HBR c1
          go_wp2_with fail
          refine (HHD.out _).mono ?_
          rintro e w2 ⟨rfl, rfl⟩
          go_wp2_with fail
          refine (HST.out _ HA1.out).mono ?_
          rintro e w2 ⟨rfl, ha2, ho2⟩
          have HA2 : Hid (Ar w2 p b W' (n + 2 * c)) := ha2
          have HB3 : Hid (Below w.heap.size w w2) := HB2.out.trans (ho2.below HL1.out HB1.out.1)
          clear ha2 ho2 HA1 HB2
          go_wp2_with fail
          refine (HEX.out _ HA2.out).mono ?_
          rintro e w3 ⟨rfl, rfl⟩
          have hne : ((1 + (k : Int)) != (1 + (k : Int))) = false := by simp
          go_wp2_with fail
          go_roundg gko
          case measure => omega
          case rel => exact ⟨i + 1, W', by omega, by go_num, HWL.out, HA2.out, HB3.out⟩
        | zero =>
          obtain rfl : i = 20 := by omega
          have hx : (20 : Int) < (zs.length : Int) := by omega
          rw [← HNS.out] at hW
          have HW0 : Hid (W.length = n) := hW
          clear hi hW
          go_wp2_with fail
          go_loopg [13] c (fun gk si wr => ∃ (i : Nat) (W : List Int), i + gk = c ∧ si = .int .i64 (i : Int) ∧ W.length = n + 2 * i ∧ Ar wr p b W (n + 2 * c) ∧ Below w.heap.size w wr)
          case atStart => exact ⟨0, W, by omega, rfl, HW0.out, HAR.out, HBR.out⟩
          case round =>
            clear HAR HBR HW0
            obtain ⟨i, W, hi, rfl, hW, hAr, hBr⟩ := hrel
            have HAR : Hid (Ar wr p b W (n + 2 * c)) := hAr
            have HBR : Hid (Below w.heap.size w wr) := hBr
            have hlb : (W.length : Int) ≤ 1000 := by omega
            clear hAr hBr
            cases gk with
            | succ gko =>
              have hic : (i : Int) < (c : Int) := by omega
              have HWN : Hid (W.length + 2 = n + 2 * (i + 1)) := by show _ = _; omega
              have HAL : Hid (∀ Q, Ar Q p b W (n + 2 * c) → Calls Try.prog 9 #[.pointer (some ⟨p, 0, none⟩), .int .i64 2] Q fun e w' => e = .returned (.tuple #[.int .i64 (W.length : Int), .bool true]) ∧ Ar w' p b (W ++ zq 2) (n + 2 * c) ∧ Ot p Q w') := fun Q hQ =>
                (aalloc_yes Q p b (n + 2 * c) W 2 hQ (by omega)).mono fun e w' q => ⟨q.1, q.2.1, q.2.2.1⟩
              obtain ⟨x, hx⟩ : ∃ x, x = smW (i : Int) := ⟨_, rfl⟩
              have hxb : 0 ≤ x ∧ x < 18446744073709551616 := by rw [hx]; exact smW_bd _
              have hxo : objN x = ((2 : Nat) : Int) := by rw [hx, objN_small]; rfl
              have HSM : Hid (∀ Q, Calls Try.prog 23 #[.int .i64 (i : Int)] Q fun e w' => e = .returned (.int .u64 x) ∧ Q = w') := fun Q => by rw [hx]; exact rsmall_any (i : Int) Q (by omega) (by omega)
              obtain ⟨W', hW'⟩ : ∃ W', W' = setS (W ++ zq 2) (W.length : Int) x := ⟨_, rfl⟩
              have HST : Hid (∀ Q, Ar Q p b (W ++ zq 2) (n + 2 * c) → Calls Try.prog 11 #[.pointer (some ⟨p, 0, none⟩), .int .i64 (W.length : Int), .int .u64 x] Q fun e w' => e = .returned (.tuple #[]) ∧ Ar w' p b W' (n + 2 * c) ∧ Ot b Q w') := fun Q hQ =>
                (aset_any Q p b (n + 2 * c) _ (W.length : Int) x hQ hxb).mono fun e w' q => ⟨q.1, by rw [hW']; exact q.2.1, q.2.2.1⟩
              have HEX : Hid (∀ Q, Ar Q p b W' (n + 2 * c) → Calls Try.prog 17 #[.pointer (some ⟨p, 0, none⟩), .int .i64 (W.length : Int)] Q fun e w' => e = .returned (.int .i64 2) ∧ Q = w') := fun Q hQ => by
                have := aextent_any Q p b (n + 2 * c) W' (W.length : Int) hQ
                rw [hW', ext_at W 2 x hxo (by omega)] at this
                exact this
              have HWD : Hid (∀ Q, Ar Q p b W' (n + 2 * c) → Calls Try.prog 15 #[.pointer (some ⟨p, 0, none⟩), .int .i64 ((W.length : Int) + 1)] Q fun e w' => e = .returned (.int .u64 0) ∧ Q = w') := fun Q hQ => by
                have := aword_any Q p b (n + 2 * c) W' ((W.length : Int) + 1) hQ
                rw [hW', word_at W x] at this
                exact this
              have HWL : Hid (W'.length = n + 2 * (i + 1)) := by show _ = _; rw [hW', setS_app_len]; exact HWN.out
              clear hx hW' hxo hW
              go_wp2_with fail
              refine (HAL.out _ HAR.out).mono ?_
              rintro e w1 ⟨rfl, ha1, ho1⟩
              have HL : Hid (w.heap.size ≤ wr.heap.size) := by have := HBR.out.size; exact this
              have HA1 : Hid (Ar w1 p b (W ++ zq 2) (n + 2 * c)) := ha1
              have HB2 : Hid (Below w.heap.size w w1) := HBR.out.trans (ho1.below HL.out HB1.out.2.1)
              have HL1 : Hid (w.heap.size ≤ w1.heap.size) := HB2.out.size
              clear ha1 ho1 HAR HBR
              go_wp2_with fail
              refine (HSM.out _).mono ?_
              rintro e w2 ⟨rfl, rfl⟩
              go_wp2_with fail
              refine (HST.out _ HA1.out).mono ?_
              rintro e w2 ⟨rfl, ha2, ho2⟩
              have HA2 : Hid (Ar w2 p b W' (n + 2 * c)) := ha2
              have HB3 : Hid (Below w.heap.size w w2) := HB2.out.trans (ho2.below HL1.out HB1.out.1)
              clear ha2 ho2 HA1 HB2
              go_wp2_with fail
              refine (HEX.out _ HA2.out).mono ?_
              rintro e w3 ⟨rfl, rfl⟩
              go_wp2_with fail
              refine (HWD.out _ HA2.out).mono ?_
              rintro e w3 ⟨rfl, rfl⟩
              go_wp2_with fail
              go_roundg gko
              case measure => omega
              case rel => exact ⟨i + 1, W', by omega, by go_num, HWL.out, HA2.out, HB3.out⟩
            | zero =>
              obtain rfl : i = c := by omega
              have hjj : ¬ (i : Int) < (i : Int) := by omega
              obtain ⟨N, hN⟩ : ∃ N, N = n + 2 * i := ⟨_, rfl⟩
              rw [← hN] at HAR hW
              have hNb : N ≤ 200 := by omega
              have HAL : Hid (∀ Q, Ar Q p b W N → Calls Try.prog 9 #[.pointer (some ⟨p, 0, none⟩), .int .i64 1] Q fun e w' => e = .returned (.tuple #[.int .i64 0, .bool false]) ∧ Q = w') := fun Q hQ =>
                aalloc_no Q p b N W 1 hQ (by omega)
              have HU0 : Hid (∀ Q, Ar Q p b W N → Calls Try.prog 13 #[.pointer (some ⟨p, 0, none⟩)] Q fun e w' => e = .returned (.int .i64 (N : Int)) ∧ Q = w') := fun Q hQ => by
                have := aused_any Q p b N W hQ
                rwa [hW] at this
              have HSM : Hid (∀ Q, Calls Try.prog 23 #[.int .i64 3] Q fun e w' => e = .returned (.int .u64 (smW 3)) ∧ Q = w') := fun Q => rsmall_any 3 Q (by decide) (by decide)
              obtain ⟨x, hx⟩ : ∃ x, x = smW 3 := ⟨_, rfl⟩
              have hxb : 0 ≤ x ∧ x < 18446744073709551616 := by rw [hx]; exact smW_bd _
              have hxo : objN x = 2 := by rw [hx, objN_small]
              rw [← hx] at HSM
              obtain ⟨W', hW'⟩ : ∃ W', W' = setS W ((N : Int) - 1) x := ⟨_, rfl⟩
              have hWl : W'.length = N := by rw [hW', setS_len, hW]
              have HST : Hid (∀ Q, Ar Q p b W N → Calls Try.prog 11 #[.pointer (some ⟨p, 0, none⟩), .int .i64 ((N : Int) - 1), .int .u64 x] Q fun e w' => e = .returned (.tuple #[]) ∧ Ar w' p b W' N ∧ Ot b Q w') := fun Q hQ =>
                (aset_any Q p b N _ ((N : Int) - 1) x hQ hxb).mono fun e w' q => ⟨q.1, by rw [hW']; exact q.2.1, q.2.2.1⟩
              have HU : Hid (∀ Q, Ar Q p b W' N → Calls Try.prog 13 #[.pointer (some ⟨p, 0, none⟩)] Q fun e w' => e = .returned (.int .i64 (N : Int)) ∧ Q = w') := fun Q hQ => by
                have := aused_any Q p b N W' hQ
                rwa [hWl] at this
              have HE1 : Hid (∀ Q, Ar Q p b W' N → Calls Try.prog 17 #[.pointer (some ⟨p, 0, none⟩), .int .i64 (N : Int)] Q fun e w' => e = .returned (.int .i64 0) ∧ Q = w') := fun Q hQ => by
                have := aextent_any Q p b N W' (N : Int) hQ
                rwa [← hWl, ext_end W', hWl] at this
              have HE2 : Hid (0 < N → ∀ Q, Ar Q p b W' N → Calls Try.prog 17 #[.pointer (some ⟨p, 0, none⟩), .int .i64 ((N : Int) - 1)] Q fun e w' => e = .returned (.int .i64 0) ∧ Q = w') := fun h0 Q hQ => by
                have := aextent_any Q p b N W' ((N : Int) - 1) hQ
                rwa [hW', ← hW, ext_last W x hxo (by omega), hW] at this
              have hNz : (n + i = 0 ∧ N = 0) ∨ (0 < n + i ∧ 0 < N) := by omega
              have HL : Hid (w.heap.size ≤ wr.heap.size) := by have := HBR.out.size; exact this
              clear hx hW' hxo hW hWl hN hi
              go_wp2_with fail
              refine (HAL.out _ HAR.out).mono ?_
              rintro e w1 ⟨rfl, rfl⟩
              go_wp2_with fail
              refine (HU0.out _ HAR.out).mono ?_
              rintro e w1 ⟨rfl, rfl⟩
              go_wp2_with fail
              refine (HSM.out _).mono ?_
              rintro e w1 ⟨rfl, rfl⟩
              go_wp2_with fail
              refine (HST.out _ HAR.out).mono ?_
              rintro e w2 ⟨rfl, ha2, ho2⟩
              have HA2 : Hid (Ar w2 p b W' N) := ha2
              have HB3 : Hid (Below w.heap.size w w2) := HBR.out.trans (ho2.below HL.out HB1.out.1)
              clear ha2 ho2 HAR HBR
              go_wp2_with fail
              refine (HU.out _ HA2.out).mono ?_
              rintro e w3 ⟨rfl, rfl⟩
              go_wp2_with fail
              refine (HE1.out _ HA2.out).mono ?_
              rintro e w3 ⟨rfl, rfl⟩
              rcases hNz with ⟨hz1, hz2⟩ | ⟨hz1, hz2⟩
              · have hq : ((n : Int) + (i : Int) == 0) = true := by simp; omega
                go_wp2_with fail
                refine (HU.out _ HA2.out).mono ?_
                rintro e w3 ⟨rfl, rfl⟩
                go_wp2_with fail
                refine (awake11 _).mono ?_
                rintro e w4 ⟨rfl, hb4⟩
                go_wp2_with fail
                go_ret
                exact ⟨rfl, HB3.out.trans (hb4.mono HB3.out.size)⟩
              · have hq : ((n : Int) + (i : Int) == 0) = false := by simp; omega
                go_wp2_with fail
                refine (HU.out _ HA2.out).mono ?_
                rintro e w3 ⟨rfl, rfl⟩
                go_wp2_with fail
                refine (HE2.out hz2 _ HA2.out).mono ?_
                rintro e w3 ⟨rfl, rfl⟩
                go_wp2_with fail
                refine (HU.out _ HA2.out).mono ?_
                rintro e w3 ⟨rfl, rfl⟩
                go_wp2_with fail
                refine (awake11 _).mono ?_
                rintro e w4 ⟨rfl, hb4⟩
                go_wp2_with fail
                go_ret
                exact ⟨rfl, HB3.out.trans (hb4.mono HB3.out.size)⟩

theorem arenaObjects_walk (v : Value) (zs : List Int) (cells : Int) (w : World) (hs : SlI w v zs) (h1 : -9223372036854775808 ≤ cells) (h2 : cells ≤ 9223372036854775807) :
    Calls Try.prog 4 #[v, .int .i64 cells] w fun e w' => e = .returned (.bool true) ∧ Below w.heap.size w w' := by
  rcases (show zs.length ≤ 20 ∨ 20 < zs.length by omega) with h | h
  · exact arenaObjects_short v zs cells w hs h1 h2 h
  · exact arenaObjects_long v zs cells w hs h1 h2 h
end Go.Proofs.Ytgdlilgkbjiiaaa
