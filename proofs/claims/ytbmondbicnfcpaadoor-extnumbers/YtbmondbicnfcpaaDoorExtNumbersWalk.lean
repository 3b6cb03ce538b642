
/-
  relictlaw04.ExtNumbers.
-/
import Derived.Test.YtbmondbicnfcpaaDoorExtGet
import Derived.Test.YtbmondbicnfcpaaDoorExtRd
import Derived.Test.YtbmondbicnfcpaaDoorZExtN
import Derived.Test.YtbmondbicnfcpaaDoorNumRoomsWalk
import Derived.Deep.CutBlock
namespace Go.Proofs.YtbmondbicnfcpaaDoor
open Go.RowKit
set_option linter.unusedVariables false
set_option linter.unusedSimpArgs false

/-- The number that the law makes. -/
def xNum (k : Nat) (less neg : Bool) : Int := if neg = true then -(if less = true then T k - 1 else T k) else (if less = true then T k - 1 else T k)
theorem num_room {k : Nat} (hk : k ≤ 379) : opS 9 1 (k : Int) = some (T k) ∧ opS 2 (T k) 1 = some (T k - 1) := by
  obtain ⟨h1, -⟩ := rooms_math k (by omega) false
  refine ⟨h1, ?_⟩
  have hp := T_pos k
  have h2 : T k ≤ T 383 := T_mono (by omega)
  have h3 : T (383 + 1) = B 12 := T_32 12
  have h4 : T (383 + 1) = 2 * T 383 := rfl
  generalize T 383 = m at *
  generalize T (383 + 1) = m2 at *
  rw [opS_2]
  exact fitS_some (by omega) (by omega)

set_option maxRecDepth 100000 in
set_option maxHeartbeats 16000000 in
theorem extNumbers_walk (a : Int) (neg less : Bool) (w : World) (hS : Shp w) (hG : (0 : Nat) < w.heap.size) (h0 : -9223372036854775808 ≤ a) (h1 : a ≤ 9223372036854775807) :
    Calls Tryd.prog 7 #[.int .i64 a, .bool neg, .bool less] w fun e w' => e = .returned (.bool true) ∧ Below w.heap.size w w' := by
  have HGET : Hid (∀ W v l, Below w.heap.size w W → By W v l → l.length ≤ 1000000000 → Calls Tryd.prog 19 #[v, .int .i64 0] W fun e w' => GtP W (RT l 0 0 1) e w') := fun W v l hW hy hl => eget_any W v l 0 (hS.under hW) hy hl (by decide) (by decide) (by have := hW.size; omega)
  obtain ⟨k, hk⟩ := Int.eq_ofNat_of_zero_le (Int.emod_nonneg a (show (380 : Int) ≠ 0 by decide))
  have hk2 := Int.emod_lt_of_pos a (show (0 : Int) < 380 by decide)
  have hk379 : k ≤ 379 := by omega
  obtain ⟨M1, M2⟩ := num_room hk379
  have HM : Hid (opS 9 1 (k : Int) = some (T k) ∧ opS 2 (T k) 1 = some (T k - 1)) := ⟨M1, M2⟩
  clear M1 M2 hS
  go_enter Tryd.func7, Tryd.ntmps7
  go_wp2_with fail
  refine (place_any a 380 _ (by decide) (by decide) h0 h1).mono ?_
  rintro e w' ⟨rfl, rfl⟩
  rw [hk]
  clear hk hk2
  go_wp2_with fail
  refine (of_any 1 _ (by decide) (by decide)).mono ?_
  rintro e w1 ⟨v1, rfl, i1, b1⟩
  go_wp2_with fail
  refine (of_any _ _ (by omega) (by omega)).mono ?_
  rintro e w2 ⟨v2, rfl, i2, b2⟩
  have B2 := b1.trans (b2.mono b1.size)
  go_wp2_with fail
  refine (op_any 9 _ _ 1 (k : Int) _ (i1.below b2).nx i2.nx).mono ?_
  rw [HM.out.1]
  rintro e w3 ⟨v3, rfl, i3, b3⟩
  have B3 := B2.trans (b3.mono B2.size)
  obtain ⟨n3, p3, z3, c3, rfl, t3, g3, x3⟩ := i3.open
  have vx := Var.new t3 g3 x3
  have hB := B3.alloc B3.size (.cells #[.bool n3, .slice p3 z3.length c3] 26)
  have hgx := B3.size
  simp only [Option.getD] at vx
  clear i1 i2 b1 b2 b3 B2 i3 t3 g3 x3 B3
  go_upto_if 26 with fail
  generalize w3.alloc (.cells #[.bool n3, .slice p3 z3.length c3] 26) = w4 at *
  generalize w3.heap.size = gx at *
  have HV4 : Hid (Var w4 (.pointer (some ⟨gx, 0, none⟩)) (T k)) := vx
  have HB4 : Hid (Below w.heap.size w w4) := hB
  obtain ⟨nx, px, zx, cx, ux, ix⟩ := vx.at
  obtain ⟨q0, q1, q2, q3, -⟩ := ux.facts
  have lx := ux.lt
  have hBs := hB.size
  clear vx hB
  obtain ⟨xl, hxl⟩ : ∃ xl, xl = (if less = true then T k - 1 else T k) := ⟨_, rfl⟩
  have HXL : Hid (xl = (if less = true then T k - 1 else T k)) := hxl
  clear hxl
  have HIX : Hid (IsN w4 (.agg #[.bool nx, .slice px zx.length cx]) (T k)) := ix
  have HUX : Hid (Bx w4 gx nx (.slice px zx.length cx)) := ux
  clear ix ux
  go_cut [9] from 27 to 32 (fun s wc => s = .bool true ∧ Hid (Var wc (.pointer (some ⟨gx, 0, none⟩)) xl) ∧ Hid (Below w.heap.size w wc))
  case first =>
    cases less with
    | true =>
      have HXT : Hid (T k - 1 = xl) := HXL.out.symm
      go_wp2_with fail
      go_region_law (first
        | (go_simp; go_at_call 26; refine (of_any 1 _ (by decide) (by decide)).mono ?_; rintro e wO ⟨vO, rfl, iO, bO⟩; have hO : Below w4.heap.size w4 wO := (by first | exact (Below.refl _ _).drew.trans bO | exact bO); obtain ⟨r0, r1, -⟩ := (HUX.out.under hO).facts)
        | (go_simp; go_at_call 25; refine (op_any 2 _ _ (T k) 1 _ (by first | exact (HIX.out.below hO).nx | exact HIX.out.nx) iO.nx).mono ?_; rw [HM.out.2]; rintro e wP ⟨vP, rfl, iP, bP⟩; obtain ⟨n9, p9, z9, c9, rfl, t9, g9, x9⟩ := iP.open; clear iP; have hP : Below w4.heap.size w4 wP := hO.trans (bP.mono hO.size); obtain ⟨y0, y1, y2, y3, -⟩ := (HUX.out.under hP).facts))
      all_goals
        go_wp2_with fail
        go_meet
        case rel => exact ⟨rfl, Var.put (HUX.out.under hP) t9 g9 (x9.trans HXT.out), (HB4.out.trans (hP.mono HB4.out.size)).trans ((setBx_but _ _ _ _).below (by omega))⟩
    | false =>
      have HVD : Hid (Var w4 (.pointer (some ⟨gx, 0, none⟩)) xl) := by
        have e : xl = T k := HXL.out
        rw [e]; exact HV4.out
      go_wp2_with fail
      go_meet
      case rel => exact ⟨rfl, HVD, HB4.out⟩
  case rest =>
    obtain ⟨rfl, HVD, HBD⟩ := hcut
    have HXX : Hid ((if neg = true then -xl else xl) = xNum k less neg) := by unfold Hid xNum; rw [HXL.out]
    clear HV4 HB4 q0 q1 q2 q3 lx hBs HIX HUX HM HXL
    have hvd := HVD.out
    obtain ⟨ny, py, zy, cy, uy, iy⟩ := hvd.at
    obtain ⟨q0, q1, q2, q3, -⟩ := uy.facts
    have HUY : Hid (Bx wc gx ny (.slice py zy.length cy)) := uy
    have HIY : Hid (IsN wc (.agg #[.bool ny, .slice py zy.length cy]) xl) := iy
    clear hvd uy iy
    go_upto_if 33 with fail
    go_cut [9] from 34 to 35 (fun s we => s = .bool true ∧ Hid (Var we (.pointer (some ⟨gx, 0, none⟩)) (xNum k less neg)) ∧ Hid (Below w.heap.size w we))
    case first =>
      cases neg with
      | true =>
        have HXT : Hid (-xl = xNum k less true) := HXX.out
        go_wp2_with fail
        refine (neg_any _ xl _ HIY.out.nx).mono ?_
        rintro e wN ⟨vN, rfl, iN, bN⟩
        obtain ⟨n9, p9, z9, c9, rfl, t9, g9, x9⟩ := iN.open
        have hBN : Below w.heap.size w wN := HBD.out.trans (bN.mono HBD.out.size)
        have hU := HUY.out.under bN
        obtain ⟨y0, y1, y2, y3, -⟩ := hU.facts
        have HF : Hid (Var (setBx wN gx n9 (.slice p9 z9.length c9)) (.pointer (some ⟨gx, 0, none⟩)) (xNum k less true) ∧ Below w.heap.size w (setBx wN gx n9 (.slice p9 z9.length c9))) := ⟨Var.put hU t9 g9 (x9.trans HXT.out), hBN.trans ((setBx_but _ _ _ _).below (by omega))⟩
        clear iN t9 g9 x9 hBN bN hU
        go_wp2_with fail
        go_meet
        case rel => exact ⟨rfl, HF.out.1, HF.out.2⟩
      | false =>
        have HVE : Hid (Var wc (.pointer (some ⟨gx, 0, none⟩)) (xNum k less false)) := by
          have e : xl = xNum k less false := HXX.out
          rw [← e]; exact HVD.out
        go_wp2_with fail
        go_meet
        case rel => exact ⟨rfl, HVE.out, HBD.out⟩
    case rest =>
      obtain ⟨rfl, HVC, HBC⟩ := hcut
      clear q0 q1 q2 q3 HUY HIY HVD HBD HXX
      obtain ⟨X, hX⟩ : ∃ X, X = xNum k less neg := ⟨_, rfl⟩
      rw [← hX] at HVC
      clear hX
      have hvc := HVC.out
      obtain ⟨gx', nx, px, zx, cx, hge, ux, sx, gox, xx⟩ := hvc
      injection hge with hge
      injection hge with hge
      injection hge with hge
      subst hge
      obtain ⟨q0, q1, q2, q3, -⟩ := ux.facts
      have HUX : Hid (Bx wc gx nx (.slice px zx.length cx)) := ux
      have HIX : Hid (IsN wc (.agg #[.bool nx, .slice px zx.length cx]) X) := ⟨nx, zx, ⟨_, rfl, sx⟩, gox, xx⟩
      have HGX : Hid (Good nx zx ∧ Ok zx ∧ Z nx (V zx) = X) := ⟨gox, sx.ok, xx⟩
      have HPUT : Hid (putO (Tm.mk 1 nx zx ⟨#[]⟩ 0 []) = intL X) := by unfold Hid; rw [put_num gox, xx]
      have HIT : Hid (IsT wc (.mk 1 nx zx ⟨#[]⟩ 0 []) (.agg #[.int .i64 1, .bool nx, .slice px zx.length cx, .string ⟨#[]⟩, .int .i64 0, .slice none 0 0])) := IsT.shut (by omega) (by omega) (by decide) sx (Ts.nil wc)
      clear ux sx gox xx HVC
      go_wp2_with fail
      refine (eput_any _ _ [] _ wc (By.nil wc) (by decide) HIT.out).mono ?_
      rintro e w5 ⟨v5, rfl, hr5, -, b5⟩
      rw [HPUT.out, List.nil_append] at hr5
      obtain ⟨L, hL⟩ : ∃ L, L = intL X := ⟨_, rfl⟩
      have HL : Hid (L = intL X) := hL
      rw [← hL] at hr5
      clear hL HPUT HIT q0 q1 q2 q3
      have hlen : L.length ≤ 60 := by
        have := intL_60 HGX.out.1 HGX.out.2.1
        rw [HGX.out.2.2, ← HL.out] at this
        exact this
      obtain ⟨a5, c5, rfl, -⟩ := hr5.by.shape
      have HR5 : Hid (By w5 (.slice a5 L.length c5) L) := hr5.by
      have HU5 : Hid (Bx w5 gx nx (.slice px zx.length cx)) := HUX.out.under b5
      have HI5 : Hid (IsN w5 (.agg #[.bool nx, .slice px zx.length cx]) X) := HIX.out.below b5
      have HB5 : Hid (Below w.heap.size w w5) := HBC.out.trans (b5.mono HBC.out.size)
      obtain ⟨q0, q1, -⟩ := HU5.out.facts
      clear hr5 b5 HUX HIX HBC
      go_wp2_with fail
      refine (bits_any _ X _ HI5.out.nx).mono ?_
      rintro e w6 ⟨nb, rfl, hlb, hnb, b6⟩
      obtain ⟨q, hq⟩ : ∃ q : Nat, q = (nb + 7) / 8 := ⟨_, rfl⟩
      have hq1 : (((nb : Int) + 7) / 8) = (q : Int) := by omega
      have hq2 : (((nb : Int) + 7).tdiv 8) = (q : Int) := by rw [Int.tdiv_eq_ediv_of_nonneg (by omega)]; exact hq1
      have hnbi : (nb : Int) ≤ 384 := by omega
      have hqi : (q : Int) ≤ 48 := by omega
      have HQ : Hid (q = (nb + 7) / 8 ∧ IsLen (Int.natAbs X) nb) := ⟨hq, hlb⟩
      have HU6 : Hid (Bx w6 gx nx (.slice px zx.length cx)) := HU5.out.under b6
      have HI6 : Hid (IsN w6 (.agg #[.bool nx, .slice px zx.length cx]) X) := HI5.out.below b6
      have HB6 : Hid (Below w.heap.size w w6) := HB5.out.trans (b6.mono HB5.out.size)
      have HR6 : Hid (By w6 (.slice a5 L.length c5) L) := HR5.out.under b6
      clear q0 q1 hq hlb b6 HU5 HI5 HB5 HR5
      obtain ⟨q0, q1, -⟩ := HU6.out.facts
      go_wp2_with fail
      refine (int_any _ X _ HI6.out.nx).mono ?_
      rintro e w7 ⟨rfl, b7⟩
      have HU7 : Hid (Bx w7 gx nx (.slice px zx.length cx)) := HU6.out.under b7
      have HI7 : Hid (IsN w7 (.agg #[.bool nx, .slice px zx.length cx]) X) := HI6.out.below b7
      have HB7 : Hid (Below w.heap.size w w7) := HB6.out.trans (b7.mono HB6.out.size)
      have HR7 : Hid (By w7 (.slice a5 L.length c5) L) := HR6.out.under b7
      clear q0 q1 b7 HU6 HI6 HB6 HR6
      obtain ⟨io, hio⟩ : ∃ io, io = (intS X).isSome := ⟨_, rfl⟩
      obtain ⟨iv, hiv⟩ : ∃ iv, iv = (intS X).getD 0 := ⟨_, rfl⟩
      rw [← hio, ← hiv]
      have HIO : Hid (io = (intS X).isSome ∧ iv = (intS X).getD 0) := ⟨hio, hiv⟩
      clear hio hiv
      go_upto_block 0 with fail
      go_cut [11] from 49 to 69 (fun s wc2 => s = .int .i64 (L.length : Int) ∧ w7 = wc2)
      case first =>
        have HW : Hid ((0 ≤ X ∧ X ≤ 255 → L.length = 2) ∧ (¬ (0 ≤ X ∧ X ≤ 255) → -2147483648 ≤ X ∧ X ≤ 2147483647 → L.length = 5) ∧ (¬ (0 ≤ X ∧ X ≤ 255) → ¬ (-2147483648 ≤ X ∧ X ≤ 2147483647) → L.length = 3 + q)) := by
          obtain ⟨i1, i2, i3⟩ := intL_len X
          have h8 : lenN X.natAbs = nb := IsLen.one (lenN_is _) HQ.out.2
          rw [h8, ← HL.out, ← HQ.out.1] at i3
          rw [← HL.out] at i1 i2
          exact ⟨i1, i2, i3⟩
        by_cases c0 : X < 0
        · by_cases c1 : -2147483648 ≤ X
          · have HLL : Hid ((L.length : Int) = 5) := by unfold Hid; have := HW.out.2.1 (by omega) (by omega); omega
            have c0' : ¬ (0 ≤ X) := by omega
            have c2 : X < 2147483648 := by omega
            obtain ⟨rfl, rfl⟩ : io = true ∧ iv = X := by rw [HIO.out.1, HIO.out.2]; unfold intS; rw [if_pos (by omega)]; exact ⟨rfl, rfl⟩
            clear HW HIO HQ
            go_wp2_with fail
            go_meet
            case rel => exact ⟨by rw [HLL.out], rfl⟩
          · have HLL : Hid ((L.length : Int) = 3 + (q : Int)) := by unfold Hid; have := HW.out.2.2 (by omega) (by omega); omega
            have c0' : ¬ (0 ≤ X) := by omega
            have hout : (io = true ∧ iv = X) ∨ (io = false ∧ iv = 0) := by
              rw [HIO.out.1, HIO.out.2]; unfold intS; split
              · exact .inl ⟨rfl, rfl⟩
              · exact .inr ⟨rfl, rfl⟩
            rcases hout with ⟨rfl, rfl⟩ | ⟨rfl, rfl⟩ <;> (clear HW HIO HQ; go_wp2_with fail; go_meet; case rel => exact ⟨by rw [HLL.out], rfl⟩)
        · have c0p : 0 ≤ X := by omega
          by_cases c1 : X ≤ 255
          · have HLL : Hid ((L.length : Int) = 2) := by unfold Hid; have := HW.out.1 (by omega); omega
            obtain ⟨rfl, rfl⟩ : io = true ∧ iv = X := by rw [HIO.out.1, HIO.out.2]; unfold intS; rw [if_pos (by omega)]; exact ⟨rfl, rfl⟩
            clear HW HIO HQ
            go_wp2_with fail
            go_meet
            case rel => exact ⟨by rw [HLL.out], rfl⟩
          · by_cases c2 : X < 2147483648
            · have HLL : Hid ((L.length : Int) = 5) := by unfold Hid; have := HW.out.2.1 (by omega) (by omega); omega
              have c3 : -2147483648 ≤ X := by omega
              obtain ⟨rfl, rfl⟩ : io = true ∧ iv = X := by rw [HIO.out.1, HIO.out.2]; unfold intS; rw [if_pos (by omega)]; exact ⟨rfl, rfl⟩
              clear HW HIO HQ
              go_wp2_with fail
              go_meet
              case rel => exact ⟨by rw [HLL.out], rfl⟩
            · have HLL : Hid ((L.length : Int) = 3 + (q : Int)) := by unfold Hid; have := HW.out.2.2 (by omega) (by omega); omega
              have hout : (io = true ∧ iv = X) ∨ (io = false ∧ iv = 0) := by
                rw [HIO.out.1, HIO.out.2]; unfold intS; split
                · exact .inl ⟨rfl, rfl⟩
                · exact .inr ⟨rfl, rfl⟩
              rcases hout with ⟨rfl, rfl⟩ | ⟨rfl, rfl⟩ <;> (clear HW HIO HQ; go_wp2_with fail; go_meet; case rel => exact ⟨by rw [HLL.out], rfl⟩)
      case rest =>
        obtain ⟨rfl, rfl⟩ := hcut
        have hRT : RT L 0 0 1 = ⟨0, .mk 1 nx zx ⟨#[]⟩ 0 [], L.length, 1⟩ := by
          have h := RT_int (l := L) (rest := []) (p := 0) (n := 0) (d := 1) HGX.out.1 HGX.out.2.1 (by rw [HGX.out.2.2, ← HL.out]; simp) (by decide) (by decide)
          rw [h, HGX.out.2.2, ← HL.out, Nat.zero_add]
        have hg8 := HGET.out w7 _ L HB7.out HR7.out (by omega)
        rw [hRT] at hg8
        have HG8 : Hid (Calls Tryd.prog 19 #[.slice a5 L.length c5, .int .i64 0] w7 fun e w' => GtP w7 ⟨0, .mk 1 nx zx ⟨#[]⟩ 0 [], L.length, 1⟩ e w') := hg8
        clear hg8 hRT HGET HIO HQ hq1 hq2
        go_wp2_with fail
        refine HG8.out.mono ?_
        rintro e w8 ⟨tv, he, b8, hit⟩
        dsimp only at he hit
        rw [if_pos rfl] at he hit
        subst he
        obtain ⟨sl8, sk8, rfl, hl8, hk8, -⟩ := hit.open
        obtain ⟨pl8, cl8, rfl⟩ := hl8.shape
        obtain ⟨pk8, ck8, rfl, -⟩ := hk8.shape
        simp only [tmV, Tm.kind, Tm.neg, Tm.limbs, Tm.str, Tm.num, Tm.kids, List.length_nil] at hl8 hit ⊢
        obtain ⟨w9, hw9⟩ : ∃ w9, w8.alloc (.cells #[.int .i64 1, .bool nx, .slice pl8 zx.length cl8, .string ⟨#[]⟩, .int .i64 0, .slice pk8 0 ck8] 29) = w9 := ⟨_, rfl⟩
        have b9 : Below w8.heap.size w8 w9 := by rw [← hw9]; exact (Below.refl _ _).alloc (Nat.le_refl _) _
        have hT9 : Bt w9 w8.heap.size 1 nx (.slice pl8 zx.length cl8) ⟨#[]⟩ 0 (.slice pk8 0 ck8) := by rw [← hw9]; exact Bt.new w8 _ _ _ _ _ _ ⟨_, _, _, rfl⟩ ⟨_, _, _, rfl⟩
        have hb79 : Below w7.heap.size w7 w9 := b8.trans (b9.mono b8.size)
        obtain ⟨q0, q1, -⟩ := (HU7.out.under hb79).facts
        obtain ⟨t0, t1, t2, -⟩ := hT9.cells
        have HIA : Hid (IsN w9 (.agg #[.bool nx, .slice pl8 zx.length cl8]) X) := ⟨nx, zx, ⟨_, rfl, hl8.below b9⟩, HGX.out.1, HGX.out.2.2⟩
        have HIB : Hid (IsN w9 (.agg #[.bool nx, .slice px zx.length cx]) X) := HI7.out.below hb79
        have HB9 : Hid (Below w.heap.size w w9) := HB7.out.trans (hb79.mono HB7.out.size)
        have hll : ((L.length : Int) == (L.length : Int)) = true := by simp
        clear hT9 hb79 b9 b8 hit hl8 hk8 HB7 HI7 HU7 HR7 HG8
        go_wp2_with fail
        refine (ncmp_any _ _ X X _ HIA.out.nx HIB.out.nx).mono ?_
        rintro e w10 ⟨rfl, b10⟩
        rw [sg_self]
        have HB10 : Hid (Below w.heap.size w w10) := HB9.out.trans (b10.mono HB9.out.size)
        clear b10
        go_wp2_with fail
        refine (awake4 _).mono ?_
        rintro e wz ⟨rfl, bz⟩
        have HBZ : Hid (Below w.heap.size w wz) := HB10.out.trans (bz.mono HB10.out.size)
        clear bz
        go_wp2_with fail
        go_ret
        exact ⟨rfl, HBZ.out⟩
end Go.Proofs.YtbmondbicnfcpaaDoor
