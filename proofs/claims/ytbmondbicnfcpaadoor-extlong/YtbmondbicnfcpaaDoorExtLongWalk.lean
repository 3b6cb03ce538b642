
/-
  relictlaw04.ExtLong.
-/
import Derived.Test.YtbmondbicnfcpaaDoorExtGet
import Derived.Test.YtbmondbicnfcpaaDoorZExtN
namespace Go.Proofs.YtbmondbicnfcpaaDoor
open Go.RowKit
set_option linter.unusedVariables false
set_option linter.unusedSimpArgs false

theorem By.lits (w : World) (l : List UInt8) (hl : l.length ≤ 1000000) : By (w.alloc (.cells (bv l).toArray 5)) (.slice (some ⟨w.heap.size, 0, none⟩) l.length l.length) l := by
  refine ⟨some ⟨w.heap.size, 0, none⟩, l.length, rfl, Nat.le_refl _, by omega, fun e => (by cases e), fun _ => ⟨w.heap.size, 0, rfl, by simp, fun i hi => ?_⟩⟩
  have := new_cells w (bv l) 5 i (.int .u8 ((l.getD i 0).toNat : Int)) (by simp [bv, List.getD, hi])
  rw [add_at] at this
  rw [Nat.zero_add]
  exact this
theorem bx_below (w : World) (cs : Array Value) (t : TypeId) : Below w.heap.size w (w.alloc (.cells cs t)) := (Below.refl _ _).alloc (Nat.le_refl _) _
def hdL (k : Nat) : List UInt8 := [108, 0, 0, UInt8.ofNat (k / 256), UInt8.ofNat (k % 256)]
def nilsL (k : Nat) : List UInt8 := List.replicate k 106
theorem nilsL_snoc (k : Nat) : nilsL k ++ [106] = nilsL (k + 1) := by unfold nilsL; rw [List.replicate_succ']
theorem nilsL_len (k : Nat) : (nilsL k).length = k := by simp [nilsL]
def tupsL : Nat → List UInt8
  | 0 => []
  | d + 1 => tupsL d ++ [104, 1]
theorem tupsL_len : ∀ d, (tupsL d).length = 2 * d
  | 0 => rfl
  | d + 1 => by rw [tupsL, List.length_append, tupsL_len d]; simp; omega
theorem tupsL_at : ∀ (d i : Nat), i < d → (tupsL d).getD (2 * i) 0 = 104 ∧ (tupsL d).getD (2 * i + 1) 0 = 1
  | 0, i, h => absurd h (by omega)
  | d + 1, i, h => by
    have hl := tupsL_len d
    simp only [tupsL, List.getD]
    by_cases hi : i < d
    · obtain ⟨h1, h2⟩ := tupsL_at d i hi
      simp only [List.getD] at h1 h2
      rw [List.getElem?_append_left (by omega), List.getElem?_append_left (by omega)]
      exact ⟨h1, h2⟩
    · obtain rfl : i = d := by omega
      rw [List.getElem?_append_right (by omega), List.getElem?_append_right (by omega), hl]
      simp
theorem long_a {k : Nat} (hk : k < 1100) : (RT (hdL k ++ nilsL (k + 1)) 0 0 1).e = if k = 0 ∨ 2000 < 2 * k + 1 then 4 else 0 := by
  refine long_list _ k hk (by rw [List.length_append, nilsL_len]; simp [hdL]; omega) rfl ?_ (fun j h5 hj => ?_)
  · have e : ((hdL k ++ nilsL (k + 1)).drop 1).take 4 = [0, 0, UInt8.ofNat (k / 256), UInt8.ofNat (k % 256)] := rfl
    rw [e]
    simp only [highL, List.foldl_cons, List.foldl_nil, u8n]
    simp
    omega
  · rw [List.length_append, nilsL_len] at hj
    have h5' : (hdL k).length = 5 := rfl
    rw [h5'] at hj
    simp only [List.getD]
    rw [List.getElem?_append_right (by rw [h5']; omega), h5']
    simp only [nilsL]
    rw [List.getElem?_replicate, if_pos (by omega)]
    rfl
theorem long_b {d : Nat} (hd : d < 70) : (RT (tupsL d ++ [106]) 0 0 1).e = if d + 1 ≤ 60 then 0 else 4 := by
  have hl := tupsL_len d
  refine deep_tup _ d hd (by rw [List.length_append, hl]; simp) (fun i hi => ?_) ?_ d 0 (by omega) (by omega)
  · obtain ⟨h1, h2⟩ := tupsL_at d i hi
    simp only [List.getD] at h1 h2 ⊢
    rw [List.getElem?_append_left (by omega), List.getElem?_append_left (by omega)]
    exact ⟨h1, h2⟩
  · simp only [List.getD]
    rw [List.getElem?_append_right (by omega), hl]
    simp
theorem bv_106 : bv [106] = [Value.int .u8 106] := rfl
theorem bv_104 : bv [104, 1] = [Value.int .u8 104, Value.int .u8 1] := rfl

set_option maxRecDepth 100000 in
set_option maxHeartbeats 16000000 in
theorem extLong_walk (n deep : Int) (w : World) (hS : Shp w) (hG : (0 : Nat) < w.heap.size) (a1 : -9223372036854775808 ≤ n) (a2 : n ≤ 9223372036854775807) (b1 : -9223372036854775808 ≤ deep) (b2 : deep ≤ 9223372036854775807) :
    Calls Tryd.prog 8 #[.int .i64 n, .int .i64 deep] w fun e w' => e = .returned (.bool true) ∧ Below w.heap.size w w' := by
  have HGET : Hid (∀ W v l, Below w.heap.size w W → By W v l → l.length ≤ 1000000000 → Calls Tryd.prog 19 #[v, .int .i64 0] W fun e w' => GtP W (RT l 0 0 1) e w') := fun W v l hW hy hl => eget_any W v l 0 (hS.under hW) hy hl (by decide) (by decide) (by have := hW.size; omega)
  have P0 : Hid (∀ W, Calls Tryd.prog 24 #[.int .i64 n, .int .i64 1100] W fun e w' => e = .returned (.int .i64 (n % 1100)) ∧ W = w') := fun W => place_any n 1100 W (by decide) (by decide) a1 a2
  have P1 : Hid (∀ W, Calls Tryd.prog 24 #[.int .i64 deep, .int .i64 70] W fun e w' => e = .returned (.int .i64 (deep % 70)) ∧ W = w') := fun W => place_any deep 70 W (by decide) (by decide) b1 b2
  obtain ⟨k, hk⟩ : ∃ k : Nat, n % 1100 = (k : Int) := ⟨(n % 1100).toNat, by omega⟩
  obtain ⟨d, hd⟩ : ∃ d : Nat, deep % 70 = (d : Int) := ⟨(deep % 70).toNat, by omega⟩
  have hk11 : k < 1100 := by omega
  have hd70 : d < 70 := by omega
  rw [hk] at P0
  rw [hd] at P1
  have HLA : Hid _ := long_a hk11
  have HLB : Hid _ := long_b hd70
  obtain ⟨ka, hka⟩ : ∃ ka : Nat, (k : Int) / 256 = (ka : Int) := ⟨k / 256, by omega⟩
  obtain ⟨kb, hkb⟩ : ∃ kb : Nat, IntKind.u8.wrap (k : Int) = (kb : Int) := ⟨k % 256, by simp only [IntKind.wrap_u8']; omega⟩
  have hka2 : ka = k / 256 ∧ ka < 256 := by omega
  have hkb2 : kb = k % 256 := by rw [IntKind.wrap_u8'] at hkb; omega
  have HBV : Hid (bv (hdL k) = [.int .u8 108, .int .u8 0, .int .u8 0, .int .u8 (ka : Int), .int .u8 (kb : Int)]) := by
    show _ = _
    have e1 : ((UInt8.ofNat (k / 256)).toNat : Int) = (ka : Int) := by rw [u8n]; omega
    have e2 : ((UInt8.ofNat (k % 256)).toNat : Int) = (kb : Int) := by rw [u8n]; omega
    simp only [bv, hdL, List.map_cons, List.map_nil, e1, e2]
    rfl
  have HY0 : Hid (RB (w.alloc (.cells #[.int .u8 108, .int .u8 0, .int .u8 0, .int .u8 (ka : Int), .int .u8 (kb : Int)] 5)) w.heap.size (.slice (some ⟨w.heap.size, 0, none⟩) 5 5) (hdL k ++ nilsL 0)) := by
    have h := By.lits w (hdL k) (by show 5 ≤ 1000000; decide)
    rw [HBV.out] at h
    show RB _ _ _ (hdL k ++ [])
    rw [List.append_nil]
    exact .inr ⟨h, _, rfl⟩
  have HB0 : Hid (Below w.heap.size w (w.alloc (.cells #[.int .u8 108, .int .u8 0, .int .u8 0, .int .u8 (ka : Int), .int .u8 (kb : Int)] 5))) := (Below.refl _ _).alloc (Nat.le_refl _) _
  have hkai : (ka : Int) < 256 := by omega
  have hkb3 : (kb : Int) < 256 := by omega
  have hki : (k : Int) < 1100 := by omega
  have hdi : (d : Int) < 70 := by omega
  clear hk hd HBV hka2 hkb2 a1 a2 b1 b2
  go_enter Tryd.func8, Tryd.ntmps8
  go_wp2_with fail
  refine (P0.out _).mono ?_
  clear P0
  rintro e wq ⟨rfl, rfl⟩
  go_wp2_with fail
  refine (P1.out _).mono ?_
  clear P1
  rintro e wq ⟨rfl, rfl⟩
  go_wp2_with fail
  go_loopg [7, 8] k (fun gk s7 s8 wr => ∃ (j : Nat) (v7 : Value), j + gk = k ∧ v7 = s7 ∧ s8 = .int .i64 (j : Int) ∧ Hid (RB wr w.heap.size v7 (hdL k ++ nilsL j)) ∧ Hid (Below w.heap.size w wr))
  case atStart => exact ⟨0, _, by omega, rfl, rfl, HY0, HB0⟩
  case round =>
    clear HY0 HB0
    obtain ⟨j, v7, hj, rfl, rfl, HO, HB⟩ := hrel
    have hws := HB.out.size
    have ba := bx_below wr #[.int .u8 106] 5
    have HO2 : Hid (RB (wr.alloc (.cells #[.int .u8 106] 5)) w.heap.size v7 (hdL k ++ nilsL j)) := HO.out.under ba
    have HB2 : Hid (Below w.heap.size w (wr.alloc (.cells #[.int .u8 106] 5))) := HB.out.trans (ba.mono hws)
    have hlen : (hdL k ++ nilsL j).length ≤ 2000 := by rw [List.length_append, nilsL_len]; simp [hdL]; omega
    have HLEN : Hid ((hdL k ++ nilsL j).length ≤ 2000) := hlen
    clear HO HB ba hlen
    cases gk with
    | succ gg =>
      have hji : (j : Int) < (k : Int) := by omega
      go_wp2_with (first | (at_builtin; refine wpList_append_rb rfl _ _ rfl w.heap.size v7 (hdL k ++ nilsL j) rfl HO2.out (by have := HLEN.out; omega) (by simp; omega) ⟨wr.heap.size, 0, none⟩ 1 1 [106] rfl (by decide) (by decide) rfl (fun j u hj => new_cells wr [Value.int .u8 106] 5 j u hj) ?_; intro v9 w9 hO9 hBB hKK; have HO9 : Hid (RB w9 w.heap.size v9 (hdL k ++ nilsL (j + 1))) := (by rw [List.append_assoc, nilsL_snoc] at hO9; exact .inl hO9); have HB9 : Hid (Below w.heap.size w w9) := hBB _ _ (by simp; omega) (Nat.le_refl _) HB2.out; clear hO9 hBB hKK) | fail)
      go_roundg gg
      case measure => omega
      case rel => exact ⟨j + 1, v9, by omega, rfl, by go_num, HO9, HB9⟩
    | zero =>
      obtain rfl : j = k := by omega
      go_wp2_with (first | (at_builtin; refine wpList_append_rb rfl _ _ rfl w.heap.size v7 (hdL j ++ nilsL j) rfl HO2.out (by have := HLEN.out; omega) (by simp; omega) ⟨wr.heap.size, 0, none⟩ 1 1 [106] rfl (by decide) (by decide) rfl (fun j u hj => new_cells wr [Value.int .u8 106] 5 j u hj) ?_; intro v9 w9 hO9 hBB hKK; have HO9 : Hid (RB w9 w.heap.size v9 (hdL j ++ nilsL (j + 1))) := (by rw [List.append_assoc, nilsL_snoc] at hO9; exact .inl hO9); have HB9 : Hid (Below w.heap.size w w9) := hBB _ _ (by simp; omega) (Nat.le_refl _) HB2.out; clear hO9 hBB hKK) | fail)
      refine (HGET.out _ _ _ HB9.out HO9.out.by (by rw [List.length_append, nilsL_len]; simp [hdL]; omega)).mono ?_
      rintro e wg ⟨tv, rfl, hbg, hit⟩
      obtain ⟨sl, sk, rfl, hls, hks, -⟩ := hit.open
      obtain ⟨pl, cl, rfl⟩ := hls.shape
      obtain ⟨pk, ck, rfl, -⟩ := hks.shape
      have HBG : Hid (Below w.heap.size w wg) := HB9.out.trans (hbg.mono HB9.out.size)
      have HLA2 : Hid (((RT (hdL j ++ nilsL (j + 1)) 0 0 1).e : Int) = if j = 0 ∨ 2000 < 2 * j + 1 then 4 else 0) := by
        unfold Hid; rw [HLA.out]; split <;> rfl
      generalize (RT (hdL j ++ nilsL (j + 1)) 0 0 1).e = RE at *
      generalize (if RE = 0 then (RT (hdL j ++ nilsL (j + 1)) 0 0 1).t else tmZ) = TT at *
      generalize (if RE = 0 then ((RT (hdL j ++ nilsL (j + 1)) 0 0 1).p : Int) else 0) = PP at *
      clear hls hks hit hbg HO9 HB9 HO2 HB2 HLA HLEN
      simp only [tmV]
      by_cases hj0 : j = 0
      · have HREQ : Hid ((RE : Int) = 4) := by unfold Hid; rw [HLA2.out, if_pos (.inl hj0)]
        have hj0i : ((j : Int) == 0) = true := by rw [beq_iff_eq]; omega
        clear hj0 HLA2
        rw [HREQ.out]
        clear HREQ
        go_wp2_with fail
        have ba3 := bx_below wg #[.int .i64 TT.kind, .bool TT.neg, .slice pl TT.limbs.length cl, .string TT.str, .int .i64 TT.num, .slice pk TT.kids.length ck] 29
        have HBH : Hid (Below w.heap.size w (wg.alloc (.cells #[.int .i64 TT.kind, .bool TT.neg, .slice pl TT.limbs.length cl, .string TT.str, .int .i64 TT.num, .slice pk TT.kids.length ck] 29))) := HBG.out.trans (ba3.mono HBG.out.size)
        clear ba3
        generalize wg.alloc (.cells #[.int .i64 TT.kind, .bool TT.neg, .slice pl TT.limbs.length cl, .string TT.str, .int .i64 TT.num, .slice pk TT.kids.length ck] 29) = wh at *
        clear HBG
        go_loopg [13, 14] d (fun gk s13 s14 wr => ∃ (i : Nat) (v13 : Value), i + gk = d ∧ v13 = s13 ∧ s14 = .int .i64 (i : Int) ∧ Hid (OB wr w.heap.size v13 (tupsL i)) ∧ Hid (Below w.heap.size w wr))
        case atStart => exact ⟨0, _, by omega, rfl, rfl, OB.nil _ _, HBH⟩
        case round =>
          clear HBH
          obtain ⟨i, v13, hi, rfl, rfl, HO, HB⟩ := hrel
          have hwr := HB.out.size
          have HLEN : Hid ((tupsL i).length ≤ 200) := by unfold Hid; rw [tupsL_len]; omega
          cases gk with
          | succ gg =>
            have hii : (i : Int) < (d : Int) := by omega
            have ba := bx_below wr #[.int .u8 104, .int .u8 1] 5
            have HO2 : Hid (RB (wr.alloc (.cells #[.int .u8 104, .int .u8 1] 5)) w.heap.size v13 (tupsL i)) := .inl (HO.out.under ba)
            have HB2 : Hid (Below w.heap.size w (wr.alloc (.cells #[.int .u8 104, .int .u8 1] 5))) := HB.out.trans (ba.mono hwr)
            clear HO HB ba
            go_wp2_with (first | (at_builtin; refine wpList_append_rb rfl _ _ rfl w.heap.size v13 (tupsL i) rfl HO2.out (by have := HLEN.out; omega) (by simp; omega) ⟨wr.heap.size, 0, none⟩ 2 2 [104, 1] rfl (by decide) (by decide) rfl (fun j u hj => new_cells wr [Value.int .u8 104, Value.int .u8 1] 5 j u hj) ?_; intro v9 w9 hO9 hBB hKK; have HO9 : Hid (OB w9 w.heap.size v9 (tupsL (i + 1))) := hO9; have HB9 : Hid (Below w.heap.size w w9) := hBB _ _ (by simp; omega) (Nat.le_refl _) HB2.out; clear hO9 hBB hKK) | fail)
            go_roundg gg
            case measure => omega
            case rel => exact ⟨i + 1, v9, by omega, rfl, by go_num, HO9, HB9⟩
          | zero =>
            obtain rfl : i = d := by omega
            have ba := bx_below wr #[.int .u8 106] 5
            have HO2 : Hid (RB (wr.alloc (.cells #[.int .u8 106] 5)) w.heap.size v13 (tupsL i)) := .inl (HO.out.under ba)
            have HB2 : Hid (Below w.heap.size w (wr.alloc (.cells #[.int .u8 106] 5))) := HB.out.trans (ba.mono hwr)
            clear HO HB ba
            go_wp2_with (first | (at_builtin; refine wpList_append_rb rfl _ _ rfl w.heap.size v13 (tupsL i) rfl HO2.out (by have := HLEN.out; omega) (by simp; omega) ⟨wr.heap.size, 0, none⟩ 1 1 [106] rfl (by decide) (by decide) rfl (fun j u hj => new_cells wr [Value.int .u8 106] 5 j u hj) ?_; intro v9 w9 hO9 hBB hKK; have HO9 : Hid (OB w9 w.heap.size v9 (tupsL i ++ [106])) := hO9; have HB9 : Hid (Below w.heap.size w w9) := hBB _ _ (by simp; omega) (Nat.le_refl _) HB2.out; clear hO9 hBB hKK) | fail)
            refine (HGET.out _ _ _ HB9.out HO9.out.by (by rw [List.length_append, tupsL_len]; simp; omega)).mono ?_
            rintro e wk ⟨tv2, rfl, hbk, hit2⟩
            obtain ⟨sl2, sk2, rfl, hls2, hks2, -⟩ := hit2.open
            obtain ⟨pl2, cl2, rfl⟩ := hls2.shape
            obtain ⟨pk2, ck2, rfl, -⟩ := hks2.shape
            have HBK : Hid (Below w.heap.size w wk) := HB9.out.trans (hbk.mono HB9.out.size)
            have HLB2 : Hid (((RT (tupsL i ++ [106]) 0 0 1).e : Int) = if i + 1 ≤ 60 then 0 else 4) := by
              unfold Hid; rw [HLB.out]; split <;> rfl
            generalize (RT (tupsL i ++ [106]) 0 0 1).e = RF at *
            generalize (if RF = 0 then (RT (tupsL i ++ [106]) 0 0 1).t else tmZ) = UU at *
            generalize (if RF = 0 then ((RT (tupsL i ++ [106]) 0 0 1).p : Int) else 0) = QQ at *
            clear hls2 hks2 hit2 hbk HO9 HB9 HO2 HB2 HLB HLEN
            simp only [tmV]
            by_cases hi6 : i + 1 ≤ 60
            · have HFEQ : Hid ((RF : Int) = 0) := by unfold Hid; rw [HLB2.out, if_pos hi6]
              have hi6i : (i : Int) + 1 ≤ 60 := by omega
              rw [HFEQ.out]
              clear hi6 HLB2 HFEQ
              go_wp2_with fail
              refine (awake4 _).mono ?_
              rintro e wz ⟨rfl, bz⟩
              have HBZ : Hid (Below w.heap.size w wz) := (HBK.out.alloc HBK.out.size _).trans (bz.mono (by simp; have := HBK.out.size; omega))
              clear bz
              go_wp2_with fail
              go_ret
              exact ⟨rfl, HBZ.out⟩
            · have HFEQ : Hid ((RF : Int) = 4) := by unfold Hid; rw [HLB2.out, if_neg hi6]
              have hi6i : ¬ (i : Int) + 1 ≤ 60 := by omega
              rw [HFEQ.out]
              clear hi6 HLB2 HFEQ
              go_wp2_with fail
              refine (awake4 _).mono ?_
              rintro e wz ⟨rfl, bz⟩
              have HBZ : Hid (Below w.heap.size w wz) := (HBK.out.alloc HBK.out.size _).trans (bz.mono (by simp; have := HBK.out.size; omega))
              clear bz
              go_wp2_with fail
              go_ret
              exact ⟨rfl, HBZ.out⟩
      · have hj0i : ¬ (j : Int) = 0 := by omega
        by_cases hj1 : 2000 < 2 * j + 1
        · have HREQ : Hid ((RE : Int) = 4) := by unfold Hid; rw [HLA2.out, if_pos (.inr hj1)]
          have hj1i : (2000 : Int) < 2 * (j : Int) + 1 := by omega
          clear hj0 hj1 HLA2
          rw [HREQ.out]
          clear HREQ
          go_wp2_with fail
          have ba3 := bx_below wg #[.int .i64 TT.kind, .bool TT.neg, .slice pl TT.limbs.length cl, .string TT.str, .int .i64 TT.num, .slice pk TT.kids.length ck] 29
          have HBH : Hid (Below w.heap.size w (wg.alloc (.cells #[.int .i64 TT.kind, .bool TT.neg, .slice pl TT.limbs.length cl, .string TT.str, .int .i64 TT.num, .slice pk TT.kids.length ck] 29))) := HBG.out.trans (ba3.mono HBG.out.size)
          clear ba3
          generalize wg.alloc (.cells #[.int .i64 TT.kind, .bool TT.neg, .slice pl TT.limbs.length cl, .string TT.str, .int .i64 TT.num, .slice pk TT.kids.length ck] 29) = wh at *
          clear HBG
          go_loopg [13, 14] d (fun gk s13 s14 wr => ∃ (i : Nat) (v13 : Value), i + gk = d ∧ v13 = s13 ∧ s14 = .int .i64 (i : Int) ∧ Hid (OB wr w.heap.size v13 (tupsL i)) ∧ Hid (Below w.heap.size w wr))
          case atStart => exact ⟨0, _, by omega, rfl, rfl, OB.nil _ _, HBH⟩
          case round =>
            clear HBH
            obtain ⟨i, v13, hi, rfl, rfl, HO, HB⟩ := hrel
            have hwr := HB.out.size
            have HLEN : Hid ((tupsL i).length ≤ 200) := by unfold Hid; rw [tupsL_len]; omega
            cases gk with
            | succ gg =>
              have hii : (i : Int) < (d : Int) := by omega
              have ba := bx_below wr #[.int .u8 104, .int .u8 1] 5
              have HO2 : Hid (RB (wr.alloc (.cells #[.int .u8 104, .int .u8 1] 5)) w.heap.size v13 (tupsL i)) := .inl (HO.out.under ba)
              have HB2 : Hid (Below w.heap.size w (wr.alloc (.cells #[.int .u8 104, .int .u8 1] 5))) := HB.out.trans (ba.mono hwr)
              clear HO HB ba
              go_wp2_with (first | (at_builtin; refine wpList_append_rb rfl _ _ rfl w.heap.size v13 (tupsL i) rfl HO2.out (by have := HLEN.out; omega) (by simp; omega) ⟨wr.heap.size, 0, none⟩ 2 2 [104, 1] rfl (by decide) (by decide) rfl (fun j u hj => new_cells wr [Value.int .u8 104, Value.int .u8 1] 5 j u hj) ?_; intro v9 w9 hO9 hBB hKK; have HO9 : Hid (OB w9 w.heap.size v9 (tupsL (i + 1))) := hO9; have HB9 : Hid (Below w.heap.size w w9) := hBB _ _ (by simp; omega) (Nat.le_refl _) HB2.out; clear hO9 hBB hKK) | fail)
              go_roundg gg
              case measure => omega
              case rel => exact ⟨i + 1, v9, by omega, rfl, by go_num, HO9, HB9⟩
            | zero =>
              obtain rfl : i = d := by omega
              have ba := bx_below wr #[.int .u8 106] 5
              have HO2 : Hid (RB (wr.alloc (.cells #[.int .u8 106] 5)) w.heap.size v13 (tupsL i)) := .inl (HO.out.under ba)
              have HB2 : Hid (Below w.heap.size w (wr.alloc (.cells #[.int .u8 106] 5))) := HB.out.trans (ba.mono hwr)
              clear HO HB ba
              go_wp2_with (first | (at_builtin; refine wpList_append_rb rfl _ _ rfl w.heap.size v13 (tupsL i) rfl HO2.out (by have := HLEN.out; omega) (by simp; omega) ⟨wr.heap.size, 0, none⟩ 1 1 [106] rfl (by decide) (by decide) rfl (fun j u hj => new_cells wr [Value.int .u8 106] 5 j u hj) ?_; intro v9 w9 hO9 hBB hKK; have HO9 : Hid (OB w9 w.heap.size v9 (tupsL i ++ [106])) := hO9; have HB9 : Hid (Below w.heap.size w w9) := hBB _ _ (by simp; omega) (Nat.le_refl _) HB2.out; clear hO9 hBB hKK) | fail)
              refine (HGET.out _ _ _ HB9.out HO9.out.by (by rw [List.length_append, tupsL_len]; simp; omega)).mono ?_
              rintro e wk ⟨tv2, rfl, hbk, hit2⟩
              obtain ⟨sl2, sk2, rfl, hls2, hks2, -⟩ := hit2.open
              obtain ⟨pl2, cl2, rfl⟩ := hls2.shape
              obtain ⟨pk2, ck2, rfl, -⟩ := hks2.shape
              have HBK : Hid (Below w.heap.size w wk) := HB9.out.trans (hbk.mono HB9.out.size)
              have HLB2 : Hid (((RT (tupsL i ++ [106]) 0 0 1).e : Int) = if i + 1 ≤ 60 then 0 else 4) := by
                unfold Hid; rw [HLB.out]; split <;> rfl
              generalize (RT (tupsL i ++ [106]) 0 0 1).e = RF at *
              generalize (if RF = 0 then (RT (tupsL i ++ [106]) 0 0 1).t else tmZ) = UU at *
              generalize (if RF = 0 then ((RT (tupsL i ++ [106]) 0 0 1).p : Int) else 0) = QQ at *
              clear hls2 hks2 hit2 hbk HO9 HB9 HO2 HB2 HLB HLEN
              simp only [tmV]
              by_cases hi6 : i + 1 ≤ 60
              · have HFEQ : Hid ((RF : Int) = 0) := by unfold Hid; rw [HLB2.out, if_pos hi6]
                have hi6i : (i : Int) + 1 ≤ 60 := by omega
                rw [HFEQ.out]
                clear hi6 HLB2 HFEQ
                go_wp2_with fail
                refine (awake4 _).mono ?_
                rintro e wz ⟨rfl, bz⟩
                have HBZ : Hid (Below w.heap.size w wz) := (HBK.out.alloc HBK.out.size _).trans (bz.mono (by simp; have := HBK.out.size; omega))
                clear bz
                go_wp2_with fail
                go_ret
                exact ⟨rfl, HBZ.out⟩
              · have HFEQ : Hid ((RF : Int) = 4) := by unfold Hid; rw [HLB2.out, if_neg hi6]
                have hi6i : ¬ (i : Int) + 1 ≤ 60 := by omega
                rw [HFEQ.out]
                clear hi6 HLB2 HFEQ
                go_wp2_with fail
                refine (awake4 _).mono ?_
                rintro e wz ⟨rfl, bz⟩
                have HBZ : Hid (Below w.heap.size w wz) := (HBK.out.alloc HBK.out.size _).trans (bz.mono (by simp; have := HBK.out.size; omega))
                clear bz
                go_wp2_with fail
                go_ret
                exact ⟨rfl, HBZ.out⟩
        · have HREQ : Hid ((RE : Int) = 0) := by unfold Hid; rw [HLA2.out, if_neg (by omega)]
          have hj1i : ¬ (2000 : Int) < 2 * (j : Int) + 1 := by omega
          clear hj0 hj1 HLA2
          rw [HREQ.out]
          clear HREQ
          go_wp2_with fail
          have ba3 := bx_below wg #[.int .i64 TT.kind, .bool TT.neg, .slice pl TT.limbs.length cl, .string TT.str, .int .i64 TT.num, .slice pk TT.kids.length ck] 29
          have HBH : Hid (Below w.heap.size w (wg.alloc (.cells #[.int .i64 TT.kind, .bool TT.neg, .slice pl TT.limbs.length cl, .string TT.str, .int .i64 TT.num, .slice pk TT.kids.length ck] 29))) := HBG.out.trans (ba3.mono HBG.out.size)
          clear ba3
          generalize wg.alloc (.cells #[.int .i64 TT.kind, .bool TT.neg, .slice pl TT.limbs.length cl, .string TT.str, .int .i64 TT.num, .slice pk TT.kids.length ck] 29) = wh at *
          clear HBG
          go_loopg [13, 14] d (fun gk s13 s14 wr => ∃ (i : Nat) (v13 : Value), i + gk = d ∧ v13 = s13 ∧ s14 = .int .i64 (i : Int) ∧ Hid (OB wr w.heap.size v13 (tupsL i)) ∧ Hid (Below w.heap.size w wr))
          case atStart => exact ⟨0, _, by omega, rfl, rfl, OB.nil _ _, HBH⟩
          case round =>
            clear HBH
            obtain ⟨i, v13, hi, rfl, rfl, HO, HB⟩ := hrel
            have hwr := HB.out.size
            have HLEN : Hid ((tupsL i).length ≤ 200) := by unfold Hid; rw [tupsL_len]; omega
            cases gk with
            | succ gg =>
              have hii : (i : Int) < (d : Int) := by omega
              have ba := bx_below wr #[.int .u8 104, .int .u8 1] 5
              have HO2 : Hid (RB (wr.alloc (.cells #[.int .u8 104, .int .u8 1] 5)) w.heap.size v13 (tupsL i)) := .inl (HO.out.under ba)
              have HB2 : Hid (Below w.heap.size w (wr.alloc (.cells #[.int .u8 104, .int .u8 1] 5))) := HB.out.trans (ba.mono hwr)
              clear HO HB ba
              go_wp2_with (first | (at_builtin; refine wpList_append_rb rfl _ _ rfl w.heap.size v13 (tupsL i) rfl HO2.out (by have := HLEN.out; omega) (by simp; omega) ⟨wr.heap.size, 0, none⟩ 2 2 [104, 1] rfl (by decide) (by decide) rfl (fun j u hj => new_cells wr [Value.int .u8 104, Value.int .u8 1] 5 j u hj) ?_; intro v9 w9 hO9 hBB hKK; have HO9 : Hid (OB w9 w.heap.size v9 (tupsL (i + 1))) := hO9; have HB9 : Hid (Below w.heap.size w w9) := hBB _ _ (by simp; omega) (Nat.le_refl _) HB2.out; clear hO9 hBB hKK) | fail)
              go_roundg gg
              case measure => omega
              case rel => exact ⟨i + 1, v9, by omega, rfl, by go_num, HO9, HB9⟩
            | zero =>
              obtain rfl : i = d := by omega
              have ba := bx_below wr #[.int .u8 106] 5
              have HO2 : Hid (RB (wr.alloc (.cells #[.int .u8 106] 5)) w.heap.size v13 (tupsL i)) := .inl (HO.out.under ba)
              have HB2 : Hid (Below w.heap.size w (wr.alloc (.cells #[.int .u8 106] 5))) := HB.out.trans (ba.mono hwr)
              clear HO HB ba
              go_wp2_with (first | (at_builtin; refine wpList_append_rb rfl _ _ rfl w.heap.size v13 (tupsL i) rfl HO2.out (by have := HLEN.out; omega) (by simp; omega) ⟨wr.heap.size, 0, none⟩ 1 1 [106] rfl (by decide) (by decide) rfl (fun j u hj => new_cells wr [Value.int .u8 106] 5 j u hj) ?_; intro v9 w9 hO9 hBB hKK; have HO9 : Hid (OB w9 w.heap.size v9 (tupsL i ++ [106])) := hO9; have HB9 : Hid (Below w.heap.size w w9) := hBB _ _ (by simp; omega) (Nat.le_refl _) HB2.out; clear hO9 hBB hKK) | fail)
              refine (HGET.out _ _ _ HB9.out HO9.out.by (by rw [List.length_append, tupsL_len]; simp; omega)).mono ?_
              rintro e wk ⟨tv2, rfl, hbk, hit2⟩
              obtain ⟨sl2, sk2, rfl, hls2, hks2, -⟩ := hit2.open
              obtain ⟨pl2, cl2, rfl⟩ := hls2.shape
              obtain ⟨pk2, ck2, rfl, -⟩ := hks2.shape
              have HBK : Hid (Below w.heap.size w wk) := HB9.out.trans (hbk.mono HB9.out.size)
              have HLB2 : Hid (((RT (tupsL i ++ [106]) 0 0 1).e : Int) = if i + 1 ≤ 60 then 0 else 4) := by
                unfold Hid; rw [HLB.out]; split <;> rfl
              generalize (RT (tupsL i ++ [106]) 0 0 1).e = RF at *
              generalize (if RF = 0 then (RT (tupsL i ++ [106]) 0 0 1).t else tmZ) = UU at *
              generalize (if RF = 0 then ((RT (tupsL i ++ [106]) 0 0 1).p : Int) else 0) = QQ at *
              clear hls2 hks2 hit2 hbk HO9 HB9 HO2 HB2 HLB HLEN
              simp only [tmV]
              by_cases hi6 : i + 1 ≤ 60
              · have HFEQ : Hid ((RF : Int) = 0) := by unfold Hid; rw [HLB2.out, if_pos hi6]
                have hi6i : (i : Int) + 1 ≤ 60 := by omega
                rw [HFEQ.out]
                clear hi6 HLB2 HFEQ
                go_wp2_with fail
                refine (awake4 _).mono ?_
                rintro e wz ⟨rfl, bz⟩
                have HBZ : Hid (Below w.heap.size w wz) := (HBK.out.alloc HBK.out.size _).trans (bz.mono (by simp; have := HBK.out.size; omega))
                clear bz
                go_wp2_with fail
                go_ret
                exact ⟨rfl, HBZ.out⟩
              · have HFEQ : Hid ((RF : Int) = 4) := by unfold Hid; rw [HLB2.out, if_neg hi6]
                have hi6i : ¬ (i : Int) + 1 ≤ 60 := by omega
                rw [HFEQ.out]
                clear hi6 HLB2 HFEQ
                go_wp2_with fail
                refine (awake4 _).mono ?_
                rintro e wz ⟨rfl, bz⟩
                have HBZ : Hid (Below w.heap.size w wz) := (HBK.out.alloc HBK.out.size _).trans (bz.mono (by simp; have := HBK.out.size; omega))
                clear bz
                go_wp2_with fail
                go_ret
                exact ⟨rfl, HBZ.out⟩
end Go.Proofs.YtbmondbicnfcpaaDoor
