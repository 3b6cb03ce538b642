/-
  The document's own answers of layer 1 (relictref01): Div, bit by bit.
-/
import Derived.Test.YtedomcijnoekhaaRefG
namespace Go.Proofs.Ytedomcijnoekhaa
open Go.RowKit
set_option linter.unusedVariables false

theorem bit_up (x : Int) (m : Nat) : x / T m = 2 * (x / T (m + 1)) + (x / T m) % 2 := by
  have e : x / T (m + 1) = (x / T m) / 2 := by
    simp only [T]
    rw [Int.mul_comm, ← Int.ediv_ediv_of_nonneg (Int.le_of_lt (T_pos m))]
  rw [e]; omega

/-- The limb in which the next bit of the quotient is laid has none of the bits from that one down. -/
theorem quo_limb (Q : List Int) (hQ : Ok Q) (q p : Nat) (hp : p < 32) (hq : q < Q.length) (c : Int) (h : V Q = T (32 * q + p + 1) * c) : ∃ m, 0 ≤ m ∧ Q.getD q 0 = T (p + 1) * m := by
  have s := V_split Q q (by omega)
  have d := V_drop Q q hq
  have l := V_lt (hQ.take q)
  rw [show (Q.take q).length = q by simp; omega] at l
  have n1 := V_nonneg (hQ.take q)
  have hB := B_pos q
  have e1 : V Q = B q * (T (p + 1) * c) := by rw [h, show 32 * q + p + 1 = 32 * q + (p + 1) by omega, T_add, T_32, Int.mul_assoc]
  have e0 : V (Q.take q) = 0 := by
    have := mul_one_eq (x := V (Q.take q)) (y := 0) (c := V (Q.drop q)) (d := T (p + 1) * c) hB n1 l (Int.le_refl _) hB (by rw [← s, e1]; omega)
    exact this
  rw [e0, Int.zero_add, e1] at s
  have e2 : T (p + 1) * c = V (Q.drop q) := Int.eq_of_mul_eq_mul_left (by omega) s
  rw [d] at e2
  refine ⟨c - T (31 - p) * V (Q.drop (q + 1)), ?_, ?_⟩
  · have hT := T_pos (p + 1)
    have e3 : T (p + 1) * (c - T (31 - p) * V (Q.drop (q + 1))) = Q.getD q 0 := by
      rw [Int.mul_sub, e2, ← Int.mul_assoc, ← T_add, show p + 1 + (31 - p) = 32 by omega]
      have : T 32 = 4294967296 := by decide
      rw [this]; omega
    have e4 := (hQ.getD q).1
    rw [← e3] at e4
    rcases ltge (c - T (31 - p) * V (Q.drop (q + 1))) 0 with h1 | h1
    · have := Int.mul_lt_mul_of_pos_left h1 hT
      rw [Int.mul_zero] at this
      omega
    · exact h1
  · rw [Int.mul_sub, e2, ← Int.mul_assoc, ← T_add, show p + 1 + (31 - p) = 32 by omega]
    have : T 32 = 4294967296 := by decide
    rw [this]; omega

theorem or_bit (p : Nat) (hp : p < 32) (m y : Int) (hm : 0 ≤ m) (hy : y = T (p + 1) * m) (hy1 : y < 4294967296) : bits .or .u32 y (2 ^ p) = y + T p ∧ y + T p < 4294967296 := by
  obtain ⟨M, rfl⟩ := Int.eq_ofNat_of_zero_le hm
  have hp2 : (2 : Nat) ^ p < 2 ^ 32 := Nat.pow_lt_pow_right (by decide) hp
  have hp3 : (2 : Nat) ^ 32 = 4294967296 := by decide
  have e0 : y = ((2 ^ (p + 1) * M : Nat) : Int) := by rw [hy, T_nat]; simp
  have e1 : ((2 : Int) ^ p) = ((2 ^ p : Nat) : Int) := by simp
  have hlt : (2 : Nat) ^ p < 2 ^ (p + 1) := Nat.pow_lt_pow_right (by decide) (by omega)
  have hy2 : 2 ^ (p + 1) * M < 4294967296 := by omega
  have hor := or_nat (p + 1) M (2 ^ p) hlt
  have hr : 2 ^ (p + 1) * M ||| 2 ^ p < 2 ^ 32 := Nat.or_lt_two_pow (by omega) (by omega)
  refine ⟨?_, ?_⟩
  · rw [e0, e1, u32_or_nat _ _ hy2 (by omega), hor, T_nat]; simp
  · rw [e0, T_nat]; omega

theorem rdiv_step (x y c r bit : Int) (hy : 0 < y) (hr0 : 0 ≤ r) (hr1 : r < y) (h : x = 2 * (y * c + r) + bit) (hb0 : 0 ≤ bit) (hb1 : bit ≤ 1) :
    (y ≤ 2 * r + bit → x = y * (2 * c + 1) + (2 * r + bit - y) ∧ 0 ≤ 2 * r + bit - y ∧ 2 * r + bit - y < y) ∧ (2 * r + bit < y → x = y * (2 * c) + (2 * r + bit) ∧ 0 ≤ 2 * r + bit) := by
  have e : y * (2 * c) = 2 * (y * c) := by rw [Int.mul_left_comm]
  have e2 : y * (2 * c + 1) = 2 * (y * c) + y := by rw [Int.mul_add, e, Int.mul_one]
  refine ⟨fun h1 => ⟨by rw [e2]; omega, by omega, by omega⟩, fun h1 => ⟨by rw [e]; omega, by omega⟩⟩

def DivRel2 (a b : List Int) (R Q : List Int) (m : Nat) : Prop :=
  Q.length = a.length ∧ Ok Q ∧ Nm R ∧ V R < V b ∧ ∃ c, V Q = T m * c ∧ V a / T m = V b * c + V R

set_option maxRecDepth 100000 in
set_option maxHeartbeats 4000000 in
theorem rdiv_any (va vb : Value) (a b : List Int) (w : World) (ha : Sl w va a) (hb : Sl w vb b) (hla : a.length ≤ 10000) (hlb : b.length ≤ 10000) :
    Calls Try.prog 13 #[va, vb] w fun e w' => DivPost w (V a) (V b) (a.length + b.length + 1) e w' := by
  obtain ⟨pa, ca, rfl⟩ := ha.shape
  obtain ⟨pb, cb, rfl⟩ := hb.shape
  have HOA : Hid (0 < a.length → ∃ k, (Value.slice pa a.length ca).ownBlock = some k ∧ k < w.heap.size) := fun h => ha.block h
  have HOB : Hid (0 < b.length → ∃ k, (Value.slice pb b.length cb).ownBlock = some k ∧ k < w.heap.size) := fun h => hb.block h
  go_enter Try.func13, Try.ntmps13
  go_wp2_with fail
  refine (rnorm_any _ b _ hb (by omega)).mono ?_
  rintro e w1 ⟨v1, C, rfl, s1, m1, x1, l1, b1, -⟩
  have X1 : Hid _ := x1
  obtain ⟨p1, c1, rfl⟩ := s1.shape
  clear x1
  by_cases h0 : C.length = 0
  · have hb0 : ((C.length : Int) == 0) = true := beq_iff_eq.2 (by omega)
    have HF : Hid (V b = 0) := by
      show V b = 0
      rw [← X1.out, List.eq_nil_of_length_eq_zero h0]; rfl
    go_wp2_with fail
    go_ret2
    exact ⟨_, _, [], [], rfl, Sl.nil _, Sl.nil _, Nm_nil, Nm_nil, Nat.zero_le _, Nat.zero_le _, b1, fun _ => ⟨rfl, rfl⟩, fun h => absurd HF.out h⟩
  · have hb0 : ((C.length : Int) == 0) = false := beq_eq_false_iff_ne.2 (by omega)
    have hbpos : 0 < V b := by
      have h1 := V_ge s1.ok m1 (by omega)
      have h2 := B_pos (C.length - 1)
      rw [← X1.out]
      omega
    replace ha := ha.below b1
    replace hb := hb.below b1
    go_wp2_with (first | (at_make; refine wpList_make_u32 rfl _ _ rfl _ _ a.length rfl rfl (by omega) (by omega) (by omega) ?_; intro w2 hrow2 hbel2) | fail)
    replace ha := ha.below hbel2
    replace hb := hb.below hbel2
    have B2 := b1.trans (hbel2.mono b1.size)
    refine (rlen_any _ a _ ha (by omega)).mono ?_
    rintro e w3 ⟨n, rfl, b3, hlen, hnb⟩
    have hrow3 := hrow2.below b3 hrow2.lt
    have hgq := b1.size
    replace ha := ha.below b3
    replace hb := hb.below b3
    have B3 := B2.trans (b3.mono B2.size)
    have HL : Hid (IsLen (V a) n) := hlen
    have hstart : DivRel2 a b [] (zer a.length) n := by
      refine ⟨zer_len _, zer_ok _, Nm_nil, hbpos, 0, by rw [zer_V]; omega, ?_⟩
      rw [isLen_top hlen]; simp [V]
    have HST : Hid _ := hstart
    clear hrow2 hbel2 hlen hstart
    obtain ⟨G, hG⟩ : ∃ G, G = w1.heap.size := ⟨_, rfl⟩
    rw [← hG] at hrow3 hgq ⊢
    clear hG
    go_wp2_with fail
    go_loopw [7, 8] (fun v s wr => ∃ (k : Nat) (R Q : List Int), k ≤ n ∧ s = .int .i64 ((k : Int) - 1) ∧ Sl wr v R ∧ Row wr G Q ∧ Below w.heap.size w wr ∧ Sl wr (.slice pa a.length ca) a ∧ Sl wr (.slice pb b.length cb) b ∧ Hid (DivRel2 a b R Q k) ∧ Hid (∀ k, v.ownBlock = some k → k ≠ G)) (fun _ s _ => ((intOf s) + 1).toNat)
    case atStart => exact ⟨n, [], zer a.length, Nat.le_refl _, rfl, Sl.nil _, hrow3, B3, ha, hb, HST, fun k hk => by simp [Value.ownBlock] at hk⟩
    case round =>
      obtain ⟨k, R, Q, hk, rfl, hsR, hrQ, hbel, hsa, hsb, HR, HO⟩ := hrel
      clear ha hb hrow3 B2 B3 HST
      cases k with
      | zero =>
        obtain ⟨hQl, hQok, hRn, hRlt, c0, hQ0, hU⟩ := HR.out
        have HU : Hid (V Q * V b + V R = V a) := by
          show V Q * V b + V R = V a
          simp only [T, Int.one_mul, Int.ediv_one] at hQ0 hU
          rw [hQ0, hU, Int.mul_comm]
        have HLT : Hid _ := hRlt
        have hRl := len_le_of hsR.ok hRn (Int.lt_trans hRlt (V_lt hsb.ok))
        have hsl := hrQ.all hQok (by omega)
        rw [hQl] at hsl
        clear hQ0 hU hRlt
        go_wp2_with fail
        refine (rnorm_any _ Q _ hsl (by omega)).mono ?_
        rintro e w5 ⟨v5, z5, rfl, s5, m5, x5, l5, b5, g5⟩
        have X5 : Hid _ := x5
        have hsR5 := hsR.below b5
        have B5 := hbel.trans (b5.mono hbel.size)
        clear x5
        go_wp2_with fail
        go_ret2
        exact ⟨_, _, z5, R, rfl, s5, hsR5, m5, hRn, by omega, by omega, B5, fun h => by omega, fun _ => ⟨by rw [X5.out]; exact HU.out, HLT.out⟩⟩
      | succ m =>
        rw [show ((m + 1 : Nat) : Int) - 1 = (m : Int) by omega]
        obtain ⟨hQl, hQok, hRn, hRlt, c0, hQ0, hU⟩ := HR.out
        have hRl := len_le_of hsR.ok hRn (Int.lt_trans hRlt (V_lt hsb.ok))
        have hRok := hsR.ok
        have HRlt : Hid _ := hRlt
        have HQ0 : Hid _ := hQ0
        obtain ⟨q, hq⟩ : ∃ q, q = m / 32 := ⟨_, rfl⟩
        obtain ⟨p, hp⟩ : ∃ p, p = m % 32 := ⟨_, rfl⟩
        have hq' : (m : Int) / 32 = (q : Int) := by omega
        have hp' : (m : Int) % 32 = (p : Int) := by omega
        have hp32 : p < 32 := by omega
        have HM : Hid (m = 32 * q + p) := by show m = 32 * q + p; omega
        have hqA : q < a.length := by omega
        have hqA' : (q : Int) < (a.length : Int) := by omega
        clear hq hp
        have HNA : Hid ((Value.slice pa a.length ca).ownBlock ≠ some G) := by
          intro e
          obtain ⟨k', h1, h2⟩ := HOA.out (by omega)
          rw [e] at h1; injection h1 with h1; omega
        have hbl : 0 < b.length := by
          rcases Nat.eq_zero_or_pos b.length with h | h
          · rw [List.eq_nil_of_length_eq_zero h] at hbpos; simp [V] at hbpos
          · exact h
        have HNB : Hid ((Value.slice pb b.length cb).ownBlock ≠ some G) := by
          intro e
          obtain ⟨k', h1, h2⟩ := HOB.out hbl
          rw [e] at h1; injection h1 with h1; omega
        obtain ⟨mm, hmm0, hmm⟩ := quo_limb Q hQok q p hp32 (by omega) c0 (by rw [hQ0, HM.out])
        obtain ⟨y, hye⟩ : ∃ y, y = Q.getD q 0 := ⟨_, rfl⟩
        have hyl := (hQok.getD q)
        rw [← hye] at hmm hyl
        obtain ⟨hor, hyb⟩ := or_bit p hp32 mm y hmm0 hmm hyl.2
        have hpm : (2 : Int) ^ p % 4294967296 = 2 ^ p := by
          rw [← T_pow]
          have h1 := T_mono (show p ≤ 31 by omega)
          have h2 : T 31 = 2147483648 := by decide
          exact Int.emod_eq_of_lt (Int.le_of_lt (T_pos p)) (by omega)
        rw [← hpm] at hor
        have HYE : Hid (y = Q.getD q 0) := hye
        have hTp := T_pos p
        have hbv := bit_V a hsa.ok q p hp32
        have hup := bit_up (V a) m
        rw [hU] at hup
        rw [← HM.out] at hbv
        rw [hbv] at hup
        have HUP0 : Hid _ := hup
        obtain ⟨b9, off9, hpa, hc⟩ := hsa.at q hqA
        have hx := hsa.ok.getD q
        obtain ⟨x, hxe⟩ : ∃ x, x = a.getD q 0 := ⟨_, rfl⟩
        rw [← hxe] at hc hx HUP0
        have hsb9 := shr_bd x p hx.1 hx.2
        have hand := and_one (x / T p) hsb9.1 hsb9.2
        obtain ⟨r, hr⟩ : ∃ r, r = x / T p % 2 := ⟨_, rfl⟩
        rw [← hr] at hand HUP0
        rw [T_pow] at hand hsb9
        have hr2 : r = 0 ∨ r = 1 := by omega
        have HR2 : Hid (2 * (V b * c0 + V R) + r = 2 * (V b * c0 + V R) + r) := rfl
        clear hr hmm hU hQ0 hRlt hbv hup hxe HR hye hpm
        have hGlt := hrQ.lt
        go_wp2_with fail
        refine (rshl_any _ R 1 _ hsR (by omega)).mono ?_
        rintro e w5 ⟨v5, z5, rfl, s5, m5, x5, l5, b5, g5⟩
        have X5 : Hid (V z5 = 2 * V R) := by
          show V z5 = 2 * V R
          rw [x5, show upN 1 = 1 from rfl]; simp only [T]; omega
        replace hrQ := hrQ.below b5 hrQ.lt
        replace hsa := hsa.below b5
        replace hsb := hsb.below b5
        replace hc := (b5.cell (p := ⟨b9, off9 + q, none⟩) (by have := World.block_lt_of_cell? _ _ hc; exact this)).trans hc
        replace hbel := hbel.trans (b5.mono hbel.size)
        subst hpa
        clear x5 hsR b5
        rcases hr2 with rfl | rfl
        · have HUP : Hid (V a / T m = 2 * (V b * c0 + V R) + 0) := HUP0.out
          have X7 : Hid (V z5 = 2 * V R + 0) := by show V z5 = 2 * V R + 0; rw [X5.out]; omega
          go_wp2_with fail
          refine (rcmp_any _ _ z5 b _ s5 hsb (by omega) (by omega)).mono ?_
          rintro e w' ⟨rfl, hw⟩
          have hw' := hw.symm
          subst hw'
          clear hw
          by_cases hge : V b ≤ V z5
          · have hsg : 0 ≤ sg (V z5) (V b) := by
              rcases Int.lt_trichotomy (V z5) (V b) with h | h | h
              · omega
              · rw [h, sg_self]; omega
              · rw [sg_gt h]; omega
            have HGE : Hid (V b ≤ V z5) := hge
            generalize sg (V z5) (V b) = sgn at *
            clear hge
            go_wp2_with fail
            refine (rsub_any _ _ z5 b _ s5 hsb (by omega) (by omega)).mono ?_
            rintro e w8 ⟨v8, z8, rfl, s8, m8, x8, l8, b8, g8⟩
            have X8 : Hid (V z8 = V z5 - V b) := x8.trans (subV_ge HGE.out)
            have hGc := hrQ.lt
            have hrQ8 := hrQ.below b8 hrQ.lt
            have hsa8 := hsa.below b8
            have hsb8 := hsb.below b8
            have hbel8 := hbel.trans (b8.mono hbel.size)
            have hQc := hrQ8.cell q (by omega)
            have hQf := hrQ8.frozen q
            rw [← HYE.out] at hQc
            clear x8 s5 hrQ hsa hsb hbel
            go_wp2_with fail
            go_roundw
            case rel =>
              have hbut := (But.refl G w8).setCell q (.int .u32 (y + T p))
              refine ⟨m, z8, Q.set q (y + T p), by omega, by go_num, s8.but hbut (by intro e; have := g8 _ e; omega), hrQ8.set q _, hbel8.trans (hbut.below hgq), hsa8.but hbut HNA.out, hsb8.but hbut HNB.out, ?_, fun k hk => by have := g8 _ hk; omega⟩
              have hd := (rdiv_step (V a / T m) (V b) c0 (V R) _ hbpos (V_nonneg hRok) HRlt.out HUP.out (by omega) (by omega)).1 (by rw [← X7.out]; exact HGE.out)
              refine ⟨by simpa using hQl, hQok.set q (by omega) hyb, m8, by rw [X8.out, X7.out]; exact hd.2.2, 2 * c0 + 1, ?_, by rw [X8.out, X7.out]; exact hd.1⟩
              rw [V_set Q q _ (by omega), ← HYE.out, HQ0.out, show y + T p - y = T p by omega, ← T_32, ← T_add, ← HM.out]
              simp only [T]
              rw [Int.mul_add, Int.mul_one, Int.mul_assoc, Int.mul_left_comm]
            case measure => simp [intOf]
          · have hlt : V z5 < V b := by omega
            have HLT : Hid _ := hlt
            rw [sg_lt hlt]
            clear hlt hge
            go_wp2_with fail
            go_roundw
            case rel =>
              refine ⟨m, z5, Q, by omega, by go_num, s5, hrQ, hbel, hsa, hsb, ?_, fun k hk => by have := g5 _ hk; omega⟩
              have hd := (rdiv_step (V a / T m) (V b) c0 (V R) _ hbpos (V_nonneg hRok) HRlt.out HUP.out (by omega) (by omega)).2 (by rw [← X7.out]; exact HLT.out)
              refine ⟨hQl, hQok, m5, HLT.out, 2 * c0, ?_, by rw [X7.out]; exact hd.1⟩
              rw [HQ0.out]
              simp only [T]
              rw [Int.mul_assoc, Int.mul_left_comm]
            case measure => simp [intOf]
        · have HUP : Hid (V a / T m = 2 * (V b * c0 + V R) + 1) := HUP0.out
          have sL := sl_lit w5 1 (by decide) (by decide)
          have bA := (Below.refl w5.heap.size w5).alloc (Nat.le_refl _) (.cells #[.int .u32 1] 33)
          have s5A := s5.below bA
          go_wp2_with fail
          refine (radd_any _ _ z5 [1] _ s5A sL (by omega) (by simp)).mono ?_
          rintro e w6 ⟨v6, z6, rfl, s6, m6, x6, l6, b6, g6⟩
          have X7 : Hid (V z6 = 2 * V R + 1) := by
            show V z6 = 2 * V R + 1
            rw [x6, X5.out]; simp [V]
          have b56 := bA.trans (b6.mono bA.size)
          have hG5 := hrQ.lt
          replace hrQ := hrQ.below b56 hrQ.lt
          replace hsa := hsa.below b56
          replace hsb := hsb.below b56
          have hGlt6 := hrQ.lt
          have hG56 := b56.size
          replace hbel := hbel.trans (b56.mono hbel.size)
          simp only [List.length_cons, List.length_nil] at l6
          have g6' : ∀ k, v6.ownBlock = some k → G < k := fun k hk => by
            have h1 := g6 k hk
            have h2 := bA.size
            omega
          clear x6 s5 s5A sL b6 bA b56 hc g6
          go_wp2_with fail
          refine (rcmp_any _ _ z6 b _ s6 hsb (by omega) (by omega)).mono ?_
          rintro e w' ⟨rfl, hw⟩
          have hw' := hw.symm
          subst hw'
          clear hw
          by_cases hge : V b ≤ V z6
          · have hsg : 0 ≤ sg (V z6) (V b) := by
              rcases Int.lt_trichotomy (V z6) (V b) with h | h | h
              · omega
              · rw [h, sg_self]; omega
              · rw [sg_gt h]; omega
            have HGE : Hid (V b ≤ V z6) := hge
            generalize sg (V z6) (V b) = sgn at *
            clear hge
            go_wp2_with fail
            refine (rsub_any _ _ z6 b _ s6 hsb (by omega) (by omega)).mono ?_
            rintro e w8 ⟨v8, z8, rfl, s8, m8, x8, l8, b8, g8⟩
            have X8 : Hid (V z8 = V z6 - V b) := x8.trans (subV_ge HGE.out)
            have hGc := hrQ.lt
            have hrQ8 := hrQ.below b8 hrQ.lt
            have hsa8 := hsa.below b8
            have hsb8 := hsb.below b8
            have hbel8 := hbel.trans (b8.mono hbel.size)
            have hQc := hrQ8.cell q (by omega)
            have hQf := hrQ8.frozen q
            rw [← HYE.out] at hQc
            clear x8 s6 hrQ hsa hsb hbel
            go_wp2_with fail
            go_roundw
            case rel =>
              have hbut := (But.refl G w8).setCell q (.int .u32 (y + T p))
              refine ⟨m, z8, Q.set q (y + T p), by omega, by go_num, s8.but hbut (by intro e; have := g8 _ e; omega), hrQ8.set q _, hbel8.trans (hbut.below hgq), hsa8.but hbut HNA.out, hsb8.but hbut HNB.out, ?_, fun k hk => by have := g8 _ hk; omega⟩
              have hd := (rdiv_step (V a / T m) (V b) c0 (V R) _ hbpos (V_nonneg hRok) HRlt.out HUP.out (by omega) (by omega)).1 (by rw [← X7.out]; exact HGE.out)
              refine ⟨by simpa using hQl, hQok.set q (by omega) hyb, m8, by rw [X8.out, X7.out]; exact hd.2.2, 2 * c0 + 1, ?_, by rw [X8.out, X7.out]; exact hd.1⟩
              rw [V_set Q q _ (by omega), ← HYE.out, HQ0.out, show y + T p - y = T p by omega, ← T_32, ← T_add, ← HM.out]
              simp only [T]
              rw [Int.mul_add, Int.mul_one, Int.mul_assoc, Int.mul_left_comm]
            case measure => simp [intOf]
          · have hlt : V z6 < V b := by omega
            have HLT : Hid _ := hlt
            rw [sg_lt hlt]
            clear hlt hge
            go_wp2_with fail
            go_roundw
            case rel =>
              refine ⟨m, z6, Q, by omega, by go_num, s6, hrQ, hbel, hsa, hsb, ?_, fun k hk => by have := g6' _ hk; omega⟩
              have hd := (rdiv_step (V a / T m) (V b) c0 (V R) _ hbpos (V_nonneg hRok) HRlt.out HUP.out (by omega) (by omega)).2 (by rw [← X7.out]; exact HLT.out)
              refine ⟨hQl, hQok, m6, HLT.out, 2 * c0, ?_, by rw [X7.out]; exact hd.1⟩
              rw [HQ0.out]
              simp only [T]
              rw [Int.mul_assoc, Int.mul_left_comm]
            case measure => simp [intOf]
end Go.Proofs.Ytedomcijnoekhaa
