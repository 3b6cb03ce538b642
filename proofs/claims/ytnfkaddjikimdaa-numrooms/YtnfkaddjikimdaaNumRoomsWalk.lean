/-
  The law NumRooms: for every int and every bool it returns true.
-/
import Derived.Test.YtnfkaddjikimdaaNumLenB
namespace Go.Proofs.Ytnfkaddjikimdaa
open Go.RowKit
set_option linter.unusedVariables false

theorem far_id {y : Int} (h0 : 0 ≤ y) (h1 : y ≤ 4096) : upN (farS y) = y.toNat := by unfold upN farS; omega
theorem shS_up {x y : Int} (h0 : 0 ≤ y) (h1 : y ≤ 4096) : shS x y = x * T y.toNat := by unfold shS; rw [if_pos h0, far_id h0 h1]
theorem shS_down {x y : Int} (h0 : 0 ≤ y) (h1 : y ≤ 4096) (h2 : y ≠ 0) : shS x (-y) = x / T y.toNat := by
  unfold shS
  rw [if_neg (by omega)]
  congr 2
  unfold downN farS; omega
theorem fitS_some {z : Int} (h0 : -(B 12) < z) (h1 : z < B 12) : fitS z = some z := by unfold fitS; rw [if_pos ⟨h0, h1⟩]
theorem fitS_none {z : Int} (h : z ≤ -(B 12) ∨ B 12 ≤ z) : fitS z = none := by unfold fitS; rw [if_neg (by omega)]

theorem rooms_math (k : Nat) (hk : k ≤ 383) (neg : Bool) : opS 9 1 (k : Int) = some (T k) ∧ opS 9 (Z neg (T k)) (384 - (k : Int)) = none ∧ opS 9 (Z neg (T k)) (383 - (k : Int)) = some (Z neg (T 383)) ∧ opS 10 (Z neg (T 383)) (383 - (k : Int)) = some (Z neg (T k)) := by
  have hB : B 12 = T 384 := T384.symm
  have h1 := T_mono (show k ≤ 383 by omega)
  have h2 := T_pos k
  have h3 : T 384 = 2 * T 383 := rfl
  have h4 := T_pos 383
  refine ⟨?_, ?_, ?_, ?_⟩
  · rw [opS_9, shS_up (by omega) (by omega), Int.one_mul, show ((k : Int)).toNat = k by omega, fitS_some (by omega) (by omega)]
  · rw [opS_9, shS_up (by omega) (by omega), show (384 - (k : Int)).toNat = 384 - k by omega]
    have e : T k * T (384 - k) = T 384 := by rw [← T_add, show k + (384 - k) = 384 by omega]
    cases neg
    · rw [show Z false (T k) = T k from rfl, e, fitS_none (by omega)]
    · rw [show Z true (T k) = -T k from rfl, Int.neg_mul, e, fitS_none (by omega)]
  · rw [opS_9, shS_up (by omega) (by omega), show (383 - (k : Int)).toNat = 383 - k by omega]
    have e : T k * T (383 - k) = T 383 := by rw [← T_add, show k + (383 - k) = 383 by omega]
    cases neg
    · rw [show Z false (T k) = T k from rfl, e, fitS_some (by omega) (by omega)]; rfl
    · rw [show Z true (T k) = -T k from rfl, Int.neg_mul, e, fitS_some (by omega) (by omega)]; rfl
  · rw [opS_10]
    by_cases hk0 : k = 383
    · subst hk0
      rw [show -(383 - ((383 : Nat) : Int)) = 0 by omega, shS_up (by omega) (by omega)]
      cases neg
      · rw [show Z false (T 383) * T (Int.toNat 0) = T 383 from Int.mul_one _, fitS_some (by omega) (by omega)]; rfl
      · rw [show Z true (T 383) * T (Int.toNat 0) = -T 383 from Int.mul_one _, fitS_some (by omega) (by omega)]; rfl
    · rw [shS_down (by omega) (by omega) (by omega), show (383 - (k : Int)).toNat = 383 - k by omega]
      have e : T 383 = T k * T (383 - k) := by rw [← T_add, show k + (383 - k) = 383 by omega]
      have hp := T_pos (383 - k)
      cases neg
      · rw [show Z false (T 383) = T 383 from rfl, e, Int.mul_ediv_cancel _ (by omega), fitS_some (by omega) (by omega)]; rfl
      · rw [show Z true (T 383) = -T 383 from rfl, e, ← Int.neg_mul, Int.mul_ediv_cancel _ (by omega), fitS_some (by omega) (by omega)]; rfl

theorem abs_T (neg : Bool) (k : Nat) : ((Z neg (T k)).natAbs : Int) = T k := by
  have := T_pos k
  cases neg <;> simp [Z] <;> omega
theorem isLen_T (k : Nat) : IsLen (T k) (k + 1) := .inr ⟨by omega, by simp, by have := T_pos k; simp only [T]; omega⟩
/-- THE WALK. -/
def RoomsPost (w : World) (e : Ending) (w' : World) : Prop := e = .returned (.bool true) ∧ Below w.heap.size w w'

set_option maxHeartbeats 16000000 in
theorem numRooms_walk (a : Int) (neg : Bool) (w : World) (h0 : -9223372036854775808 ≤ a) (h1 : a ≤ 9223372036854775807) :
    Calls Try.prog 7 #[.int .i64 a, .bool neg] w fun e w' => e = .returned (.bool true) ∧ Below w.heap.size w w' := by
  obtain ⟨k, hk⟩ := Int.eq_ofNat_of_zero_le (Int.emod_nonneg a (show (384 : Int) ≠ 0 by decide))
  have hk2 := Int.emod_lt_of_pos a (show (0 : Int) < 384 by decide)
  have hk383 : k ≤ 383 := by omega
  obtain ⟨M1, M2, M3, M4⟩ := rooms_math k hk383 neg
  have HM : Hid (opS 9 1 (k : Int) = some (T k) ∧ opS 9 (Z neg (T k)) (384 - (k : Int)) = none ∧ opS 9 (Z neg (T k)) (383 - (k : Int)) = some (Z neg (T 383)) ∧ opS 10 (Z neg (T 383)) (383 - (k : Int)) = some (Z neg (T k))) := ⟨M1, M2, M3, M4⟩
  clear M1 M2 M3 M4
  go_enter Try.func7, Try.ntmps7
  go_wp2_with fail
  refine (place_any a 384 _ (by decide) (by decide) h0 h1).mono ?_
  rintro e w' ⟨rfl, rfl⟩
  rw [hk]
  clear hk hk2
  go_wp2_with fail
  refine (of_any 1 _ (by decide) (by decide)).mono ?_
  rintro e w1 ⟨v1, rfl, i1, b1⟩
  go_wp2_with fail
  refine (of_any _ _ (by omega) (by omega)).mono ?_
  rintro e w2 ⟨v2, rfl, i2, b2⟩
  have B2 := b1.trans (b2.mono b1.size)
  go_wp2_with fail
  refine (op_any 9 _ _ 1 (k : Int) _ (i1.below b2).nx i2.nx).mono ?_
  rw [HM.out.1]
  rintro e w3 ⟨v3, rfl, i3, b3⟩
  have B3 := B2.trans (b3.mono B2.size)
  obtain ⟨n3, p3, z3, c3, rfl, t3, g3, x3⟩ := i3.open
  have vx := Var.new t3 g3 x3
  have hB := B3.alloc B3.size (.cells #[.bool n3, .slice p3 z3.length c3] 24)
  have hgx := B3.size
  have i0 := i3.below ((Below.refl _ _).alloc (Nat.le_refl _) (.cells #[.bool n3, .slice p3 z3.length c3] 24))
  simp only [Option.getD] at i0
  clear i1 i2 b1 b2 b3 B2 i3 t3 g3 x3 B3
  cases neg
  · go_wp2_with fail
    generalize w3.alloc (.cells #[.bool n3, .slice p3 z3.length c3] 24) = w4 at *
    generalize w3.heap.size = gx at *
    obtain ⟨nx, px, zx, cx, ux, ix⟩ := vx.at
    have hwK : IntKind.i64.wrap (384 - (k : Int)) = 384 - (k : Int) := by rw [IntKind.wrap_i64]; omega
    have lx := ux.lt
    obtain ⟨q0, q1, -⟩ := ux.facts
    go_cut [8, 9] from 14 (fun s q wc => q = .bool false ∧ Var wc (.pointer (some ⟨gx, 0, none⟩)) (Z false (T k)) ∧ Below w.heap.size w wc)
    case first =>
      go_region_held3 (fun w' => w'.cell? ⟨gx, 0, none⟩ = some (.bool nx) ∧ w'.cell? ⟨gx, 1, none⟩ = some (.slice px zx.length cx))
        (first | exact ux.held ((Below.refl _ _).drew) | exact ux.held (((Below.refl _ _).alloc (Nat.le_refl _) _).drew) | exact ux.held hP | exact ux.held hO | exact ux.held (hP.alloc hP.size _) | exact ux.held (hO.alloc hO.size _) | exact ux.held3 hP (by omega))
        (first
          | (go_at_call 21; refine (of_any _ _ ?_ ?_).mono ?_; omega; omega; rintro e wO ⟨vO, rfl, iO, bO⟩; first | (have hO : Below w4.heap.size w4 wO := (Below.refl _ _).drew.trans bO) | (have hO : Below w4.heap.size w4 wO := laid_below bO; have xz := laid_box bO))
          | (go_at_call 12; refine (op_any 9 _ _ (Z false (T k)) (384 - (k : Int)) _ ?_ ?_).mono ?_; (first | exact (ix.below hO).nx | exact (ix.below (hO.alloc hO.size _)).nx); (first | exact iO.nx | exact (iO.below ((Below.refl _ _).alloc (Nat.le_refl _) _)).nx); rw [HM.out.2.1]; rintro e wP ⟨vP, rfl, iP, bP⟩; obtain ⟨n9, p9, z9, c9, rfl, t9, g9, x9⟩ := iP.open; clear iP; have hOs := hO.size; first | (have hP : Below w4.heap.size w4 wP := hO.trans (bP.mono hO.size); first | (have xzP := xz.under bP; obtain ⟨y0, y1, y2, y3, y4⟩ := xzP.facts) | skip) | (have hP : Below w4.heap.size w4 wP := laid_below2 hO bP; have xzP := laid_box2 bP; obtain ⟨y0, y1, y2, y3, y4⟩ := xzP.facts)))
      all_goals
        go_wp2_with fail
        go_meet
        case rel => first | exact ⟨rfl, vx.below (hP.alloc hP.size _), hB.trans ((hP.alloc hP.size _).mono hB.size)⟩ | exact ⟨rfl, (vx.below hP).keep xzP (setBx_but _ _ _ _) (ptr_ne (by omega)), (hB.trans (hP.mono hB.size)).trans ((setBx_but _ _ _ _).below (by have := hB.size; omega))⟩
    case rest =>
      obtain ⟨rfl, vx', hB'⟩ := hcut
      clear vx hB ux ix lx q0 q1
      have vx := vx'
      have hB := hB'
      clear vx' hB'
      generalize wc = w4 at *
      go_wp2_with fail
      obtain ⟨nx, px, zx, cx, ux, ix⟩ := vx.at
      have hwK : IntKind.i64.wrap (383 - (k : Int)) = 383 - (k : Int) := by rw [IntKind.wrap_i64]; omega
      have lx := ux.lt
      obtain ⟨q0, q1, -⟩ := ux.facts
      go_cut [10, 11] from 14 (fun s q wc => q = .bool true ∧ Var wc s (Z false (T 383)) ∧ Var wc (.pointer (some ⟨gx, 0, none⟩)) (Z false (T k)) ∧ Below w.heap.size w wc)
      case first =>
        go_region_held3 (fun w' => w'.cell? ⟨gx, 0, none⟩ = some (.bool nx) ∧ w'.cell? ⟨gx, 1, none⟩ = some (.slice px zx.length cx))
          (first | exact ux.held ((Below.refl _ _).drew) | exact ux.held (((Below.refl _ _).alloc (Nat.le_refl _) _).drew) | exact ux.held hP | exact ux.held hO | exact ux.held (hP.alloc hP.size _) | exact ux.held (hO.alloc hO.size _) | exact ux.held3 hP (by omega))
          (first
            | (go_at_call 21; refine (of_any _ _ ?_ ?_).mono ?_; omega; omega; rintro e wO ⟨vO, rfl, iO, bO⟩; first | (have hO : Below w4.heap.size w4 wO := (Below.refl _ _).drew.trans bO) | (have hO : Below w4.heap.size w4 wO := laid_below bO; have xz := laid_box bO))
            | (go_at_call 12; refine (op_any 9 _ _ (Z false (T k)) (383 - (k : Int)) _ ?_ ?_).mono ?_; (first | exact (ix.below hO).nx | exact (ix.below (hO.alloc hO.size _)).nx); (first | exact iO.nx | exact (iO.below ((Below.refl _ _).alloc (Nat.le_refl _) _)).nx); rw [HM.out.2.2.1]; rintro e wP ⟨vP, rfl, iP, bP⟩; obtain ⟨n9, p9, z9, c9, rfl, t9, g9, x9⟩ := iP.open; clear iP; have hOs := hO.size; first | (have hP : Below w4.heap.size w4 wP := hO.trans (bP.mono hO.size); first | (have xzP := xz.under bP; obtain ⟨y0, y1, y2, y3, y4⟩ := xzP.facts) | skip) | (have hP : Below w4.heap.size w4 wP := laid_below2 hO bP; have xzP := laid_box2 bP; obtain ⟨y0, y1, y2, y3, y4⟩ := xzP.facts)))
        all_goals
          go_wp2_with fail
          go_meet
          case rel => first | exact ⟨rfl, Var.new t9 g9 x9, vx.below (hP.alloc hP.size _), hB.trans ((hP.alloc hP.size _).mono hB.size)⟩ | exact ⟨rfl, Var.put xzP t9 g9 x9, (vx.below hP).keep xzP (setBx_but _ _ _ _) (ptr_ne (by omega)), (hB.trans (hP.mono hB.size)).trans ((setBx_but _ _ _ _).below (by have := hB.size; omega))⟩
      case rest =>
        obtain ⟨rfl, vy, vx', hB'⟩ := hcut
        obtain ⟨gy, ny, py, zy, cy, rfl, uy, ty, ggy, hy⟩ := vy
        have vy : Var wc (.pointer (some ⟨gy, 0, none⟩)) (Z false (T 383)) := ⟨gy, ny, py, zy, cy, rfl, uy, ty, ggy, hy⟩
        have iy : IsN wc (.agg #[.bool ny, .slice py zy.length cy]) (Z false (T 383)) := ⟨ny, zy, ⟨_, rfl, ty⟩, ggy, hy⟩
        clear vx hB ux ix lx q0 q1 ty ggy hy
        have vx := vx'
        have hB := hB'
        clear vx' hB'
        generalize wc = w5 at *
        go_wp2_with fail
        obtain ⟨nx, px, zx, cx, ux, ix⟩ := vx.at
        have lx := ux.lt
        have hwK : IntKind.i64.wrap (383 - (k : Int)) = 383 - (k : Int) := by rw [IntKind.wrap_i64]; omega
        have ly := uy.lt
        obtain ⟨q0, q1, -⟩ := uy.facts
        go_cut [12, 13] from 14 (fun s q wc => q = .bool true ∧ Var wc s (Z false (T k)) ∧ Var wc (.pointer (some ⟨gy, 0, none⟩)) (Z false (T 383)) ∧ Var wc (.pointer (some ⟨gx, 0, none⟩)) (Z false (T k)) ∧ Below w.heap.size w wc)
        case first =>
          go_region_held3 (fun w' => w'.cell? ⟨gy, 0, none⟩ = some (.bool ny) ∧ w'.cell? ⟨gy, 1, none⟩ = some (.slice py zy.length cy))
            (first | exact uy.held ((Below.refl _ _).drew) | exact uy.held (((Below.refl _ _).alloc (Nat.le_refl _) _).drew) | exact uy.held hP | exact uy.held hO | exact uy.held (hP.alloc hP.size _) | exact uy.held (hO.alloc hO.size _) | exact uy.held3 hP (by omega))
            (first
              | (go_at_call 21; refine (of_any _ _ ?_ ?_).mono ?_; omega; omega; rintro e wO ⟨vO, rfl, iO, bO⟩; first | (have hO : Below w5.heap.size w5 wO := (Below.refl _ _).drew.trans bO) | (have hO : Below w5.heap.size w5 wO := laid_below bO; have xz := laid_box bO))
              | (go_at_call 12; refine (op_any 10 _ _ (Z false (T 383)) (383 - (k : Int)) _ ?_ ?_).mono ?_; (first | exact (iy.below hO).nx | exact (iy.below (hO.alloc hO.size _)).nx); (first | exact iO.nx | exact (iO.below ((Below.refl _ _).alloc (Nat.le_refl _) _)).nx); rw [HM.out.2.2.2]; rintro e wP ⟨vP, rfl, iP, bP⟩; obtain ⟨n9, p9, z9, c9, rfl, t9, g9, x9⟩ := iP.open; clear iP; have hOs := hO.size; first | (have hP : Below w5.heap.size w5 wP := hO.trans (bP.mono hO.size); first | (have xzP := xz.under bP; obtain ⟨y0, y1, y2, y3, y4⟩ := xzP.facts) | skip) | (have hP : Below w5.heap.size w5 wP := laid_below2 hO bP; have xzP := laid_box2 bP; obtain ⟨y0, y1, y2, y3, y4⟩ := xzP.facts)))
          all_goals
            go_wp2_with fail
            go_meet
            case rel => first | exact ⟨rfl, Var.new t9 g9 x9, vy.below (hP.alloc hP.size _), vx.below (hP.alloc hP.size _), hB.trans ((hP.alloc hP.size _).mono hB.size)⟩ | exact ⟨rfl, Var.put xzP t9 g9 x9, (vy.below hP).keep xzP (setBx_but _ _ _ _) (ptr_ne (by omega)), (vx.below hP).keep xzP (setBx_but _ _ _ _) (ptr_ne (by omega)), (hB.trans (hP.mono hB.size)).trans ((setBx_but _ _ _ _).below (by have := hB.size; omega))⟩
        case rest =>
          obtain ⟨rfl, vz, vy', vx', hB'⟩ := hcut
          clear vx hB ux ix lx q0 q1 vy uy iy ly
          obtain ⟨gz, nz, pz, zz, cz, rfl, uz, tz, ggz, hz⟩ := vz
          have iz : IsN wc (.agg #[.bool nz, .slice pz zz.length cz]) (Z false (T k)) := ⟨nz, zz, ⟨_, rfl, tz⟩, ggz, hz⟩
          obtain ⟨ny, py, zy, cy, uy, iy⟩ := vy'.at
          obtain ⟨nx, px, zx, cx, ux, ix⟩ := vx'.at
          obtain ⟨z0, z1, -⟩ := uz.facts
          obtain ⟨q0, q1, -⟩ := ux.facts
          clear tz ggz hz vy' vx'
          go_wp2_with fail
          refine (ncmp_any _ _ _ _ _ iz.nx ix.nx).mono ?_
          rintro e w7 ⟨rfl, b7⟩
          rw [sg_self]
          have uy7 := uy.under b7
          have iy7 := iy.below b7
          have ux7 := ux.under b7
          have ix7 := ix.below b7
          have B7 := hB'.trans (b7.mono hB'.size)
          obtain ⟨r0, r1, -⟩ := uy7.facts
          clear uz iz z0 z1 uy iy ux ix q0 q1 b7 hB'
          go_wp2_with fail
          refine (bits_any _ _ _ iy7.nx).mono ?_
          rintro e w8 ⟨nb, rfl, hn, hn2, b8⟩
          rw [abs_T] at hn
          obtain rfl : nb = 383 + 1 := hn.one (isLen_T 383)
          have ux8 := ux7.under b8
          have ix8 := ix7.below b8
          have B8 := B7.trans (b8.mono B7.size)
          obtain ⟨q0, q1, -⟩ := ux8.facts
          clear hn hn2 uy7 iy7 ux7 ix7 r0 r1 b8 B7
          go_wp2_with fail
          refine (bits_any _ _ _ ix8.nx).mono ?_
          rintro e w9 ⟨nc, rfl, hn, hn2, b9⟩
          rw [abs_T] at hn
          obtain rfl : nc = k + 1 := hn.one (isLen_T k)
          have B9 := B8.trans (b9.mono B8.size)
          have hkk : (((k + 1 : Nat) : Int) == (k : Int) + 1) = true := by simp
          clear hn hn2 ux8 ix8 q0 q1 b9 B8
          go_wp2_with fail
          refine (awake_any _).mono ?_
          rintro e wA ⟨rfl, bA⟩
          have BA := B9.trans (bA.mono B9.size)
          go_wp2_with fail
          go_ret
          exact ⟨rfl, BA⟩
  · go_wp2_with fail
    have vx0 := vx
    generalize w3.alloc (.cells #[.bool n3, .slice p3 z3.length c3] 24) = w6 at *
    generalize w3.heap.size = gx at *
    obtain ⟨g', n', p', z', c', he, ux0, tx0, -, -⟩ := vx0
    simp only [Value.pointer.injEq, Option.some.injEq, Addr.mk.injEq, and_true] at he
    subst he
    have ix0 := i0
    refine (neg_any _ (T k) _ ix0.nx).mono ?_
    rintro e w7 ⟨v7, rfl, i7, b7⟩
    obtain ⟨n7, p7, z7, c7, rfl, t7, g7, x7⟩ := i7.open
    have ux7 := ux0.under b7
    obtain ⟨s0, s1, s2, s3, s4⟩ := ux7.facts
    have vx9 : Var (setBx w7 gx n7 (.slice p7 z7.length c7)) (.pointer (some ⟨gx, 0, none⟩)) (Z true (T k)) := Var.put ux7 t7 g7 x7
    have hB9 := (hB.trans (b7.mono hB.size)).trans ((setBx_but w7 gx n7 (.slice p7 z7.length c7)).below hgx)
    clear vx hB i7 t7 g7 x7 ux0 tx0 ix0 b7
    go_wp2_with fail
    rw [setBx_eq]
    have vx := vx9
    have hB := hB9
    clear vx9 hB9 ux7 s0 s1 s2 s3 s4
    generalize setBx w7 gx n7 (.slice p7 z7.length c7) = w4 at *
    obtain ⟨nx, px, zx, cx, ux, ix⟩ := vx.at
    have hwK : IntKind.i64.wrap (384 - (k : Int)) = 384 - (k : Int) := by rw [IntKind.wrap_i64]; omega
    have lx := ux.lt
    obtain ⟨q0, q1, -⟩ := ux.facts
    go_cut [8, 9] from 14 (fun s q wc => q = .bool false ∧ Var wc (.pointer (some ⟨gx, 0, none⟩)) (Z true (T k)) ∧ Below w.heap.size w wc)
    case first =>
      go_region_held3 (fun w' => w'.cell? ⟨gx, 0, none⟩ = some (.bool nx) ∧ w'.cell? ⟨gx, 1, none⟩ = some (.slice px zx.length cx))
        (first | exact ux.held ((Below.refl _ _).drew) | exact ux.held (((Below.refl _ _).alloc (Nat.le_refl _) _).drew) | exact ux.held hP | exact ux.held hO | exact ux.held (hP.alloc hP.size _) | exact ux.held (hO.alloc hO.size _) | exact ux.held3 hP (by omega))
        (first
          | (go_at_call 21; refine (of_any _ _ ?_ ?_).mono ?_; omega; omega; rintro e wO ⟨vO, rfl, iO, bO⟩; first | (have hO : Below w4.heap.size w4 wO := (Below.refl _ _).drew.trans bO) | (have hO : Below w4.heap.size w4 wO := laid_below bO; have xz := laid_box bO))
          | (go_at_call 12; refine (op_any 9 _ _ (Z true (T k)) (384 - (k : Int)) _ ?_ ?_).mono ?_; (first | exact (ix.below hO).nx | exact (ix.below (hO.alloc hO.size _)).nx); (first | exact iO.nx | exact (iO.below ((Below.refl _ _).alloc (Nat.le_refl _) _)).nx); rw [HM.out.2.1]; rintro e wP ⟨vP, rfl, iP, bP⟩; obtain ⟨n9, p9, z9, c9, rfl, t9, g9, x9⟩ := iP.open; clear iP; have hOs := hO.size; first | (have hP : Below w4.heap.size w4 wP := hO.trans (bP.mono hO.size); first | (have xzP := xz.under bP; obtain ⟨y0, y1, y2, y3, y4⟩ := xzP.facts) | skip) | (have hP : Below w4.heap.size w4 wP := laid_below2 hO bP; have xzP := laid_box2 bP; obtain ⟨y0, y1, y2, y3, y4⟩ := xzP.facts)))
      all_goals
        go_wp2_with fail
        go_meet
        case rel => first | exact ⟨rfl, vx.below (hP.alloc hP.size _), hB.trans ((hP.alloc hP.size _).mono hB.size)⟩ | exact ⟨rfl, (vx.below hP).keep xzP (setBx_but _ _ _ _) (ptr_ne (by omega)), (hB.trans (hP.mono hB.size)).trans ((setBx_but _ _ _ _).below (by have := hB.size; omega))⟩
    case rest =>
      obtain ⟨rfl, vx', hB'⟩ := hcut
      clear vx hB ux ix lx q0 q1
      have vx := vx'
      have hB := hB'
      clear vx' hB'
      generalize wc = w4 at *
      go_wp2_with fail
      obtain ⟨nx, px, zx, cx, ux, ix⟩ := vx.at
      have hwK : IntKind.i64.wrap (383 - (k : Int)) = 383 - (k : Int) := by rw [IntKind.wrap_i64]; omega
      have lx := ux.lt
      obtain ⟨q0, q1, -⟩ := ux.facts
      go_cut [10, 11] from 14 (fun s q wc => q = .bool true ∧ Var wc s (Z true (T 383)) ∧ Var wc (.pointer (some ⟨gx, 0, none⟩)) (Z true (T k)) ∧ Below w.heap.size w wc)
      case first =>
        go_region_held3 (fun w' => w'.cell? ⟨gx, 0, none⟩ = some (.bool nx) ∧ w'.cell? ⟨gx, 1, none⟩ = some (.slice px zx.length cx))
          (first | exact ux.held ((Below.refl _ _).drew) | exact ux.held (((Below.refl _ _).alloc (Nat.le_refl _) _).drew) | exact ux.held hP | exact ux.held hO | exact ux.held (hP.alloc hP.size _) | exact ux.held (hO.alloc hO.size _) | exact ux.held3 hP (by omega))
          (first
            | (go_at_call 21; refine (of_any _ _ ?_ ?_).mono ?_; omega; omega; rintro e wO ⟨vO, rfl, iO, bO⟩; first | (have hO : Below w4.heap.size w4 wO := (Below.refl _ _).drew.trans bO) | (have hO : Below w4.heap.size w4 wO := laid_below bO; have xz := laid_box bO))
            | (go_at_call 12; refine (op_any 9 _ _ (Z true (T k)) (383 - (k : Int)) _ ?_ ?_).mono ?_; (first | exact (ix.below hO).nx | exact (ix.below (hO.alloc hO.size _)).nx); (first | exact iO.nx | exact (iO.below ((Below.refl _ _).alloc (Nat.le_refl _) _)).nx); rw [HM.out.2.2.1]; rintro e wP ⟨vP, rfl, iP, bP⟩; obtain ⟨n9, p9, z9, c9, rfl, t9, g9, x9⟩ := iP.open; clear iP; have hOs := hO.size; first | (have hP : Below w4.heap.size w4 wP := hO.trans (bP.mono hO.size); first | (have xzP := xz.under bP; obtain ⟨y0, y1, y2, y3, y4⟩ := xzP.facts) | skip) | (have hP : Below w4.heap.size w4 wP := laid_below2 hO bP; have xzP := laid_box2 bP; obtain ⟨y0, y1, y2, y3, y4⟩ := xzP.facts)))
        all_goals
          go_wp2_with fail
          go_meet
          case rel => first | exact ⟨rfl, Var.new t9 g9 x9, vx.below (hP.alloc hP.size _), hB.trans ((hP.alloc hP.size _).mono hB.size)⟩ | exact ⟨rfl, Var.put xzP t9 g9 x9, (vx.below hP).keep xzP (setBx_but _ _ _ _) (ptr_ne (by omega)), (hB.trans (hP.mono hB.size)).trans ((setBx_but _ _ _ _).below (by have := hB.size; omega))⟩
      case rest =>
        obtain ⟨rfl, vy, vx', hB'⟩ := hcut
        obtain ⟨gy, ny, py, zy, cy, rfl, uy, ty, ggy, hy⟩ := vy
        have vy : Var wc (.pointer (some ⟨gy, 0, none⟩)) (Z true (T 383)) := ⟨gy, ny, py, zy, cy, rfl, uy, ty, ggy, hy⟩
        have iy : IsN wc (.agg #[.bool ny, .slice py zy.length cy]) (Z true (T 383)) := ⟨ny, zy, ⟨_, rfl, ty⟩, ggy, hy⟩
        clear vx hB ux ix lx q0 q1 ty ggy hy
        have vx := vx'
        have hB := hB'
        clear vx' hB'
        generalize wc = w5 at *
        go_wp2_with fail
        obtain ⟨nx, px, zx, cx, ux, ix⟩ := vx.at
        have lx := ux.lt
        have hwK : IntKind.i64.wrap (383 - (k : Int)) = 383 - (k : Int) := by rw [IntKind.wrap_i64]; omega
        have ly := uy.lt
        obtain ⟨q0, q1, -⟩ := uy.facts
        go_cut [12, 13] from 14 (fun s q wc => q = .bool true ∧ Var wc s (Z true (T k)) ∧ Var wc (.pointer (some ⟨gy, 0, none⟩)) (Z true (T 383)) ∧ Var wc (.pointer (some ⟨gx, 0, none⟩)) (Z true (T k)) ∧ Below w.heap.size w wc)
        case first =>
          go_region_held3 (fun w' => w'.cell? ⟨gy, 0, none⟩ = some (.bool ny) ∧ w'.cell? ⟨gy, 1, none⟩ = some (.slice py zy.length cy))
            (first | exact uy.held ((Below.refl _ _).drew) | exact uy.held (((Below.refl _ _).alloc (Nat.le_refl _) _).drew) | exact uy.held hP | exact uy.held hO | exact uy.held (hP.alloc hP.size _) | exact uy.held (hO.alloc hO.size _) | exact uy.held3 hP (by omega))
            (first
              | (go_at_call 21; refine (of_any _ _ ?_ ?_).mono ?_; omega; omega; rintro e wO ⟨vO, rfl, iO, bO⟩; first | (have hO : Below w5.heap.size w5 wO := (Below.refl _ _).drew.trans bO) | (have hO : Below w5.heap.size w5 wO := laid_below bO; have xz := laid_box bO))
              | (go_at_call 12; refine (op_any 10 _ _ (Z true (T 383)) (383 - (k : Int)) _ ?_ ?_).mono ?_; (first | exact (iy.below hO).nx | exact (iy.below (hO.alloc hO.size _)).nx); (first | exact iO.nx | exact (iO.below ((Below.refl _ _).alloc (Nat.le_refl _) _)).nx); rw [HM.out.2.2.2]; rintro e wP ⟨vP, rfl, iP, bP⟩; obtain ⟨n9, p9, z9, c9, rfl, t9, g9, x9⟩ := iP.open; clear iP; have hOs := hO.size; first | (have hP : Below w5.heap.size w5 wP := hO.trans (bP.mono hO.size); first | (have xzP := xz.under bP; obtain ⟨y0, y1, y2, y3, y4⟩ := xzP.facts) | skip) | (have hP : Below w5.heap.size w5 wP := laid_below2 hO bP; have xzP := laid_box2 bP; obtain ⟨y0, y1, y2, y3, y4⟩ := xzP.facts)))
          all_goals
            go_wp2_with fail
            go_meet
            case rel => first | exact ⟨rfl, Var.new t9 g9 x9, vy.below (hP.alloc hP.size _), vx.below (hP.alloc hP.size _), hB.trans ((hP.alloc hP.size _).mono hB.size)⟩ | exact ⟨rfl, Var.put xzP t9 g9 x9, (vy.below hP).keep xzP (setBx_but _ _ _ _) (ptr_ne (by omega)), (vx.below hP).keep xzP (setBx_but _ _ _ _) (ptr_ne (by omega)), (hB.trans (hP.mono hB.size)).trans ((setBx_but _ _ _ _).below (by have := hB.size; omega))⟩
        case rest =>
          obtain ⟨rfl, vz, vy', vx', hB'⟩ := hcut
          clear vx hB ux ix lx q0 q1 vy uy iy ly
          obtain ⟨gz, nz, pz, zz, cz, rfl, uz, tz, ggz, hz⟩ := vz
          have iz : IsN wc (.agg #[.bool nz, .slice pz zz.length cz]) (Z true (T k)) := ⟨nz, zz, ⟨_, rfl, tz⟩, ggz, hz⟩
          obtain ⟨ny, py, zy, cy, uy, iy⟩ := vy'.at
          obtain ⟨nx, px, zx, cx, ux, ix⟩ := vx'.at
          obtain ⟨z0, z1, -⟩ := uz.facts
          obtain ⟨q0, q1, -⟩ := ux.facts
          clear tz ggz hz vy' vx'
          go_wp2_with fail
          refine (ncmp_any _ _ _ _ _ iz.nx ix.nx).mono ?_
          rintro e w7 ⟨rfl, b7⟩
          rw [sg_self]
          have uy7 := uy.under b7
          have iy7 := iy.below b7
          have ux7 := ux.under b7
          have ix7 := ix.below b7
          have B7 := hB'.trans (b7.mono hB'.size)
          obtain ⟨r0, r1, -⟩ := uy7.facts
          clear uz iz z0 z1 uy iy ux ix q0 q1 b7 hB'
          go_wp2_with fail
          refine (bits_any _ _ _ iy7.nx).mono ?_
          rintro e w8 ⟨nb, rfl, hn, hn2, b8⟩
          rw [abs_T] at hn
          obtain rfl : nb = 383 + 1 := hn.one (isLen_T 383)
          have ux8 := ux7.under b8
          have ix8 := ix7.below b8
          have B8 := B7.trans (b8.mono B7.size)
          obtain ⟨q0, q1, -⟩ := ux8.facts
          clear hn hn2 uy7 iy7 ux7 ix7 r0 r1 b8 B7
          go_wp2_with fail
          refine (bits_any _ _ _ ix8.nx).mono ?_
          rintro e w9 ⟨nc, rfl, hn, hn2, b9⟩
          rw [abs_T] at hn
          obtain rfl : nc = k + 1 := hn.one (isLen_T k)
          have B9 := B8.trans (b9.mono B8.size)
          have hkk : (((k + 1 : Nat) : Int) == (k : Int) + 1) = true := by simp
          clear hn hn2 ux8 ix8 q0 q1 b9 B8
          go_wp2_with fail
          refine (awake_any _).mono ?_
          rintro e wA ⟨rfl, bA⟩
          have BA := B9.trans (bA.mono B9.size)
          go_wp2_with fail
          go_ret
          exact ⟨rfl, BA⟩
end Go.Proofs.Ytnfkaddjikimdaa
