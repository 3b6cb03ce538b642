
/-
  ext: limbs; num.Of in new memory.
-/
import Derived.Test.YtbmondbicnfcpaaDoorExtI
import Derived.Test.YtbmondbicnfcpaaDoorExtV
namespace Go.Proofs.YtbmondbicnfcpaaDoor
open Go.RowKit
set_option linter.unusedVariables false
set_option linter.unusedSimpArgs false

theorem Sl.veil {w : World} {P : Nat → Bool} {v : Value} {zs : List Int} (h : Sl w v zs) (hP : ∀ k, v.ownBlock = some k → P k = true) : Sl (veil P w) v zs := by
  obtain ⟨hok, a, n, cap, rfl, hl, hc, hm, hn, hp⟩ := h
  refine ⟨hok, a, n, cap, rfl, hl, hc, hm, hn, fun h0 => ?_⟩
  obtain ⟨b, off, rfl, hlt, hcell⟩ := hp h0
  exact ⟨b, off, rfl, by rw [veil_size]; exact hlt, fun i hi => veil_put (hP b rfl) (hcell i hi)⟩
/-- The blocks from b on. -/
def fromB (b : Nat) : Nat → Bool := fun k => decide (b ≤ k)
theorem fromB_is {b k : Nat} : fromB b k = true ↔ b ≤ k := by simp [fromB]

/-- A number's value, its limbs in new memory. -/
def OfPost (w : World) (x : Int) (e : Ending) (w' : World) : Prop :=
  ∃ n p z c, e = .returned (.agg #[.bool n, .slice p z.length c]) ∧ Sl (veil (fromB w.heap.size) w') (.slice p z.length c) z ∧ Good n z ∧ Z n (V z) = x ∧ Below w.heap.size w w'

set_option maxHeartbeats 1000000 in
theorem signed_same (neg : Bool) (p : Option Addr) (c : Nat) (zs : List Int) (w : World) (hs : Sl w (.slice p zs.length c) zs) :
    Calls Tryd.prog 53 #[.bool neg, .slice p zs.length c] w fun e w' => e = .returned (.agg #[.bool (neg && decide (0 < zs.length)), .slice p zs.length c]) ∧ Below w.heap.size w w' := by
  have hbw := fun n : Bool => (Below.refl w.heap.size w).alloc (Nat.le_refl _) (.cells #[.bool n, .slice p zs.length c] 26)
  cases neg
  · go_enter Tryd.func53, Tryd.ntmps53
    go_wp2_with fail
    refine bodyPost_ret (results_box1 rfl _ _ w.heap.size _ _ rfl (Bx.new w _ p zs.length c)) rfl ?_
    exact ⟨rfl, hbw _⟩
  · go_enter Tryd.func53, Tryd.ntmps53
    go_wp2_with fail
    refine bodyPost_ret (results_box1 rfl _ _ w.heap.size _ _ rfl (Bx.new w _ p zs.length c)) rfl ?_
    exact ⟨rfl, hbw _⟩

theorem of_end {w w4 : World} {g n c : Nat} {neg n0 : Bool} {s0 : Value} {p : Option Addr} {zs : List Int} (hB : Below w.heap.size w w4) (hu : Bx w4 g n0 s0) (hg : w.heap.size ≤ g) (t : Sl w4 (.slice p n c) zs) (hz : zs.length = n) (hn : Nm zs) (hl : zs.length ≤ 12) (hnew : ∀ k, (Value.slice p n c).ownBlock = some k → w.heap.size ≤ k) :
    OfPost w (Z neg (V zs)) (.returned (.agg #[.bool (neg && decide (0 < zs.length)), .slice p n c])) (setBx w4 g (neg && decide (0 < zs.length)) (.slice p n c)) := by
  subst hz
  exact ⟨_, p, zs, c, rfl, (t.box hu (setBx_but _ _ _ _)).veil (fun k hk => fromB_is.2 (hnew k hk)), (good_signed neg hn).2 hl, Z_signed neg zs, hB.trans ((setBx_but _ _ _ _).below hg)⟩

set_option maxHeartbeats 2000000 in
theorem of_new (x : Int) (w : World) (h0 : -9223372036854775808 ≤ x) (h1 : x ≤ 9223372036854775807) : Calls Tryd.prog 26 #[.int .i64 x] w fun e w' => OfPost w x e w' := by
  by_cases hn : x < 0
  · obtain ⟨y, hy⟩ : ∃ y, y = -x := ⟨_, rfl⟩
    have hw : IntKind.u64.wrap (-IntKind.u64.wrap x) = y := by rw [IntKind.wrap_u64, IntKind.wrap_u64]; omega
    have hy0 : 0 ≤ y := by omega
    have hy1 : y < 18446744073709551616 := by omega
    have HY : Hid (y = -x) := hy
    clear hy
    obtain ⟨b0, x1, q1⟩ := box_lit w y
    have sl := sl_lit2 (w.alloc (.cells #[.bool false, .slice none 0 0] 26)) (y % 4294967296) (y / 4294967296) (by omega) (by omega) (by omega) (by omega)
    rw [World.size_alloc] at sl
    go_enter Tryd.func26, Tryd.ntmps26
    go_wp2_with fail
    refine (norm_any _ [y % 4294967296, y / 4294967296] _ sl (by simp)).mono ?_
    intro e w1 h1
    obtain ⟨v1, z1, rfl, s1, m1, v1', l1, b1, k1⟩ := h1.num (by simp)
    have hV : Hid (V z1 = y) := by
      show V z1 = y
      rw [v1']; simp only [V]; omega
    have l1' : z1.length ≤ 2 := l1
    have u1 := x1.under b1
    have hbw := b0.trans (b1.mono b0.size)
    obtain ⟨p1, c1, rfl⟩ := s1.shape
    have K1 : Hid (∀ k, (Value.slice p1 z1.length c1).ownBlock = some k → w.heap.size ≤ k) := fun k hk => Nat.le_trans (by simp; omega) (k1 k hk)
    clear h1 l1 v1' sl b0 x1 q1 b1 k1
    go_wp2_with fail
    refine (signed_same _ p1 c1 z1 _ s1).mono ?_
    rintro e w2 ⟨rfl, b2⟩
    have t2 := s1.below b2
    replace u1 := u1.under b2
    replace hbw := hbw.trans (b2.mono hbw.size)
    obtain ⟨d0, d1, g0, g1, l1⟩ := u1.facts
    go_wp2_with fail
    refine bodyPost_ret (results_box1 rfl _ _ w.heap.size _ _ rfl u1.set) rfl ?_
    have e := of_end (neg := true) hbw u1 (Nat.le_refl _) t2 rfl m1 (by omega) K1.out
    rw [hV.out] at e
    rw [show Z true y = x by simp only [Z]; rw [HY.out]; simp] at e
    exact e
  · have hx0 : 0 ≤ x := by omega
    obtain ⟨b0, x1, q1⟩ := box_lit w x
    have sl := sl_lit2 (w.alloc (.cells #[.bool false, .slice none 0 0] 26)) (x % 4294967296) (x / 4294967296) (by omega) (by omega) (by omega) (by omega)
    rw [World.size_alloc] at sl
    go_enter Tryd.func26, Tryd.ntmps26
    go_wp2_with fail
    refine (norm_any _ [x % 4294967296, x / 4294967296] _ sl (by simp)).mono ?_
    intro e w1 h1
    obtain ⟨v1, z1, rfl, s1, m1, v1', l1, b1, k1⟩ := h1.num (by simp)
    have hV : Hid (V z1 = x) := by
      show V z1 = x
      rw [v1']; simp only [V]; omega
    have l1' : z1.length ≤ 2 := l1
    have u1 := x1.under b1
    have hbw := b0.trans (b1.mono b0.size)
    obtain ⟨p1, c1, rfl⟩ := s1.shape
    have K1 : Hid (∀ k, (Value.slice p1 z1.length c1).ownBlock = some k → w.heap.size ≤ k) := fun k hk => Nat.le_trans (by simp; omega) (k1 k hk)
    clear h1 l1 v1' sl b0 x1 q1 b1 k1
    go_wp2_with fail
    refine (signed_same _ p1 c1 z1 _ s1).mono ?_
    rintro e w2 ⟨rfl, b2⟩
    have t2 := s1.below b2
    replace u1 := u1.under b2
    replace hbw := hbw.trans (b2.mono hbw.size)
    obtain ⟨d0, d1, g0, g1, l1⟩ := u1.facts
    go_wp2_with fail
    refine bodyPost_ret (results_box1 rfl _ _ w.heap.size _ _ rfl u1.set) rfl ?_
    have e := of_end (neg := false) hbw u1 (Nat.le_refl _) t2 rfl m1 (by omega) K1.out
    rw [hV.out] at e
    exact e

/-- Bytes as a number, the lowest first. -/
def leL : List UInt8 → Nat
  | [] => 0
  | x :: r => x.toNat + 256 * leL r
theorem leL_snoc : ∀ (a : List UInt8) (x : UInt8), leL (a ++ [x]) = leL a + x.toNat * 256 ^ a.length
  | [], x => by simp [leL]
  | y :: a, x => by
    simp only [List.cons_append, leL, leL_snoc a x, List.length_cons, Nat.pow_succ, Nat.mul_add]
    rw [Nat.add_assoc, Nat.mul_comm (256 ^ a.length) 256, ← Nat.mul_assoc, ← Nat.mul_assoc, Nat.mul_comm 256 x.toNat]
theorem leL_lt : ∀ (a : List UInt8), leL a < 256 ^ a.length
  | [] => by simp [leL]
  | y :: a => by
    have h1 := leL_lt a
    have h2 := y.toNat_lt
    simp only [leL, List.length_cons, Nat.pow_succ]
    omega
/-- A limb of bytes, the first k of which are there. -/
def limB (L : List UInt8) (k j : Nat) : Nat := leL ((L.drop (4 * j)).take (min 4 (k - 4 * j)))
def limR (L : List UInt8) (k : Nat) : List Int := (List.range ((L.length + 3) / 4)).map fun j => (limB L k j : Int)
theorem limR_len (L : List UInt8) (k : Nat) : (limR L k).length = (L.length + 3) / 4 := by simp [limR]
theorem limR_get (L : List UInt8) (k j : Nat) (h : j < (L.length + 3) / 4) : (limR L k).getD j 0 = (limB L k j : Int) := by simp [limR, List.getD, h]
theorem limB_lt (L : List UInt8) (k j : Nat) : limB L k j < 4294967296 := by
  have h1 := leL_lt ((L.drop (4 * j)).take (min 4 (k - 4 * j)))
  have h2 : ((L.drop (4 * j)).take (min 4 (k - 4 * j))).length ≤ 4 := by simp; omega
  have h3 : 256 ^ ((L.drop (4 * j)).take (min 4 (k - 4 * j))).length ≤ 256 ^ 4 := Nat.pow_le_pow_right (by omega) h2
  have h4 : (256 : Nat) ^ 4 = 4294967296 := by decide
  unfold limB
  omega
theorem limR_ok (L : List UInt8) (k : Nat) : Ok (limR L k) := by
  intro x hx
  simp only [limR, List.mem_map, List.mem_range] at hx
  obtain ⟨j, _, rfl⟩ := hx
  have := limB_lt L k j
  omega
theorem limB_low (L : List UInt8) (k : Nat) (h : k < L.length) : limB L k (k / 4) < 256 ^ (k % 4) := by
  have h1 := leL_lt ((L.drop (4 * (k / 4))).take (min 4 (k - 4 * (k / 4))))
  have h2 : ((L.drop (4 * (k / 4))).take (min 4 (k - 4 * (k / 4)))).length = k % 4 := by simp; omega
  rw [h2] at h1
  exact h1
theorem limB_step (L : List UInt8) (k : Nat) (h : k < L.length) : limB L (k + 1) (k / 4) = limB L k (k / 4) + (L.getD k 0).toNat * 256 ^ (k % 4) := by
  unfold limB
  have e1 : min 4 (k + 1 - 4 * (k / 4)) = k % 4 + 1 := by omega
  have e2 : min 4 (k - 4 * (k / 4)) = k % 4 := by omega
  have hl : k % 4 < (L.drop (4 * (k / 4))).length := by simp; omega
  rw [e1, e2, List.take_succ_eq_append_getElem hl, leL_snoc]
  have e3 : ((L.drop (4 * (k / 4))).take (k % 4)).length = k % 4 := by simp; omega
  have e4 : (L.drop (4 * (k / 4)))[k % 4] = L.getD k 0 := by
    simp [List.getD, h, show 4 * (k / 4) + k % 4 = k by omega]
  rw [e3, e4]
theorem limB_other (L : List UInt8) (k i : Nat) (h : i ≠ k / 4) : limB L (k + 1) i = limB L k i := by
  unfold limB
  rw [show min 4 (k + 1 - 4 * i) = min 4 (k - 4 * i) by omega]
theorem limR_step (L : List UInt8) (k : Nat) (h : k < L.length) : (limR L k).set (k / 4) ((limB L k (k / 4) + (L.getD k 0).toNat * 256 ^ (k % 4) : Nat) : Int) = limR L (k + 1) := by
  rw [← limB_step L k h]
  apply List.ext_getElem?
  intro i
  by_cases hi : i < (L.length + 3) / 4
  · by_cases e : i = k / 4
    · subst e
      simp [limR, hi]
    · rw [List.getElem?_set_ne (by omega)]
      simp [limR, hi, limB_other L k i e]
  · rw [List.getElem?_eq_none (by simp [limR]; omega), List.getElem?_eq_none (by simp [limR]; omega)]
theorem limR_zero (L : List UInt8) : limR L 0 = zer ((L.length + 3) / 4) := by
  apply List.ext_getElem?
  intro i
  by_cases hi : i < (L.length + 3) / 4
  · simp [limR, zer, hi, limB, leL]
  · rw [List.getElem?_eq_none (by simp [limR]; omega), List.getElem?_eq_none (by simp [zer]; omega)]

theorem or_byte (i z x : Nat) (hz : z < 2 ^ i) (hi : i ≤ 24) (hx : x < 256) : bits .or .u32 (z : Int) ((x : Int) * ((2 ^ i : Nat) : Int)) = ((z + x * 2 ^ i : Nat) : Int) := by
  have h1 : (2 : Nat) ^ i ≤ 2 ^ 24 := Nat.pow_le_pow_right (by omega) hi
  have h2 : (2 : Nat) ^ 24 = 16777216 := by decide
  have h3 : x * 2 ^ i ≤ 255 * 2 ^ i := Nat.mul_le_mul_right _ (by omega)
  have e : (x : Int) * ((2 ^ i : Nat) : Int) = ((x * 2 ^ i : Nat) : Int) := by simp
  rw [e, u32_or_nat _ _ (by omega) (by omega), Nat.or_comm, nat_join i _ _ (Nat.mul_mod_left _ _) hz, Nat.add_comm]

def LimPost (w : World) (L : List UInt8) (e : Ending) (w' : World) : Prop :=
  ∃ p c, e = .returned (.slice p ((L.length + 3) / 4) c) ∧ Sl (veil (fromB w.heap.size) w') (.slice p ((L.length + 3) / 4) c) (limR L L.length) ∧ Below w.heap.size w w'

set_option maxRecDepth 100000 in
set_option maxHeartbeats 2000000 in
theorem limbs_any (v : Value) (L : List UInt8) (w : World) (h : By w v L) (hl : L.length ≤ 1000) : Calls Tryd.prog 157 #[v] w fun e w' => LimPost w L e w' := by
  obtain ⟨a, cap, rfl, hc, hm, hn⟩ := h.shape
  obtain ⟨n, hnd⟩ : ∃ n, n = (L.length + 3) / 4 := ⟨_, rfl⟩
  have hq : ((L.length : Int) + 4 - 1) / 4 = (n : Int) := by omega
  have HN : Hid (n = (L.length + 3) / 4) := hnd
  have hn1 : n ≤ 1000 := by omega
  have hli : (L.length : Int) ≤ 1000 := by omega
  clear hnd
  go_enter Tryd.func157, Tryd.ntmps157
  go_wp2_with (first | (at_make; refine wpList_make_u32 rfl _ _ rfl _ _ n rfl rfl (by omega) (by omega) (by omega) ?_; intro w1 hrow1 hbel1) | fail)
  have HR1 : Hid (Row w1 w.heap.size (limR L 0)) := by unfold Hid; rw [limR_zero, ← HN.out]; exact hrow1
  have HB1 : Hid (Below w.heap.size w w1) := hbel1
  have HY : Hid (By w (.slice a L.length cap) L) := h
  clear hrow1 hbel1 h
  go_loopg [14] L.length (fun gk s14 wr => ∃ k : Nat, k + gk = L.length ∧ s14 = .int .i64 (k : Int) ∧ Hid (Row wr w.heap.size (limR L k)) ∧ Hid (Below w.heap.size w wr))
  case atStart => exact ⟨0, by omega, rfl, HR1, HB1⟩
  case round =>
    obtain ⟨k, hk, rfl, HR, HB⟩ := hrel
    cases gk with
    | zero =>
      obtain rfl : k = L.length := by omega
      go_wp2_with fail
      go_ret
      refine ⟨some ⟨w.heap.size, 0, none⟩, n, by rw [← HN.out]; rfl, ?_, HB.out⟩
      rw [← HN.out]
      have hs := (HR.out.all (limR_ok _ _) (by rw [limR_len]; omega)).veil (P := fromB w.heap.size) (fun k hk => by injection hk with hk; subst hk; exact fromB_is.2 (Nat.le_refl _))
      rw [limR_len, ← HN.out] at hs
      exact hs
    | succ g =>
      have hkL : k < L.length := by omega
      obtain ⟨b, off, rfl, hlt, hcell⟩ := (HY.out.under HB.out).at k hkL
      have hc1 := hcell k hkL
      have hbx := ubd L k
      have hjn : k / 4 < (L.length + 3) / 4 := by omega
      have hc2 := HR.out.cell (k / 4) (by rw [limR_len]; exact hjn)
      have hf2 := HR.out.frozen (k / 4)
      rw [limR_get L k _ hjn] at hc2
      have hst := limR_step L k hkL
      have hlow := limB_low L k hkL
      obtain ⟨j, hj⟩ : ∃ j, j = k / 4 := ⟨_, rfl⟩
      rw [← hj] at hc2 hf2 hst hlow hjn
      have hki : (k : Int) / 4 = (j : Int) := by omega
      have hjni : (j : Int) < (n : Int) := by have := HN.out; omega
      have hkl : (k : Int) < (L.length : Int) := by omega
      obtain ⟨x, hx⟩ : ∃ x : Nat, x = (L.getD k 0).toNat := ⟨_, rfl⟩
      rw [← hx] at hc1 hbx hst
      obtain ⟨z, hz⟩ : ∃ z : Nat, z = limB L k j := ⟨_, rfl⟩
      rw [← hz] at hc2 hst hlow
      have hr : k % 4 = 0 ∨ k % 4 = 1 ∨ k % 4 = 2 ∨ k % 4 = 3 := by omega
      clear hcell hx hz hj
      have hx8 : x < 256 := by omega
      obtain ⟨Y, hY⟩ : ∃ Y : Int, Y = ((z + x * 256 ^ (k % 4) : Nat) : Int) := ⟨_, rfl⟩
      rw [← hY] at hst
      have HST : Hid _ := hst
      clear hst
      have o0 : k % 4 = 0 → bits BinOp.or IntKind.u32 (z : Int) (x : Int) = Y := fun hr => by
        have := or_byte 0 z x (by rw [hr] at hlow; simpa using hlow) (by omega) hx8
        rw [hY, hr]; simpa using this
      have o1 : k % 4 = 1 → bits BinOp.or IntKind.u32 (z : Int) ((x : Int) * 256) = Y := fun hr => by
        have := or_byte 8 z x (by rw [hr] at hlow; simpa using hlow) (by omega) hx8
        rw [hY, hr]; simpa using this
      have o2 : k % 4 = 2 → bits BinOp.or IntKind.u32 (z : Int) ((x : Int) * 65536) = Y := fun hr => by
        have := or_byte 16 z x (by rw [hr] at hlow; simpa using hlow) (by omega) hx8
        rw [hY, hr]; simpa using this
      have o3 : k % 4 = 3 → bits BinOp.or IntKind.u32 (z : Int) ((x : Int) * 16777216) = Y := fun hr => by
        have := or_byte 24 z x (by rw [hr] at hlow; simpa using hlow) (by omega) hx8
        rw [hY, hr]; simpa using this
      clear hY hlow
      rcases hr with hr | hr | hr | hr
      all_goals
        have hri : (k : Int) % 4 = ((k % 4 : Nat) : Int) := by omega
        rw [hr] at hri
        first | replace o0 := o0 hr | replace o1 := o1 hr | replace o2 := o2 hr | replace o3 := o3 hr
        go_wp2_with fail
        go_region
        go_wp2_with fail
        go_roundg g
        case measure => omega
        case rel =>
          refine ⟨k + 1, by omega, by go_num, ?_, ?_⟩
          · have h := HR.out.set j Y
            rw [HST.out] at h
            exact h
          · exact (HB.out.setCell (p := ⟨w.heap.size, j, none⟩) (Nat.le_refl _) _).drew
end Go.Proofs.YtbmondbicnfcpaaDoor
