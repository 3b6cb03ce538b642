
/-
  ext: putInt, of numbers that an int holds within 32 bits; putBig.
-/
import Derived.Test.YtbmondbicnfcpaaDoorExtA
import Derived.Test.YtbmondbicnfcpaaDoorNumLenB
namespace Go.Proofs.YtbmondbicnfcpaaDoor
open Go.RowKit
set_option linter.unusedVariables false
set_option linter.unusedSimpArgs false

/-- Byte i of a number's size, the lowest first. -/
def sByte (A : Nat) (i : Nat) : UInt8 := UInt8.ofNat (A / 256 ^ i)
/-- How many bytes a number has. -/
def bLen (x : Int) (n : Nat) : Prop := IsLen (Int.natAbs x) n
/-- The bytes of a number that is not small: by how many bits it has. -/
def bigB (x : Int) (n : Nat) : List UInt8 := 110 :: UInt8.ofNat ((n + 7) / 8) :: (if x < 0 then 1 else 0) :: (List.range ((n + 7) / 8)).map (sByte x.natAbs)
/-- What stands for a number. -/
def IntB (x : Int) (L : List UInt8) : Prop :=
  (0 ≤ x ∧ x ≤ 255 ∧ L = [97, UInt8.ofNat x.toNat]) ∨ ((x < 0 ∨ 255 < x) ∧ -2147483648 ≤ x ∧ x ≤ 2147483647 ∧ L = 98 :: four (u32of x)) ∨ ((x < -2147483648 ∨ 2147483647 < x) ∧ ∃ n, bLen x n ∧ n ≤ 384 ∧ L = bigB x n)

theorem B_256 : ∀ k : Nat, B k = ((256 ^ (4 * k) : Nat) : Int)
  | 0 => rfl
  | k + 1 => by
    have h := B_256 k
    have e : (256 : Nat) ^ (4 * (k + 1)) = 256 ^ (4 * k) * 4294967296 := by
      rw [show 4 * (k + 1) = 4 * k + 4 by omega, Nat.pow_add]
    have e2 : B (k + 1) = 4294967296 * B k := rfl
    rw [e2, h, e]
    simp
    omega
/-- Some byte of a limb. -/
theorem limb_byte (zs : List Int) (A : Nat) (hok : Ok zs) (hV : V zs = (A : Int)) (k r : Nat) (hr : r < 4) (hk : k < zs.length) : zs.getD k 0 / 2 ^ (r * 8) % 256 = ((sByte A (4 * k + r)).toNat : Int) := by
  have hd := V_drop zs k hk
  have hs := V_split zs k (by omega)
  have ht := V_lt (hok.take k)
  have h0 := V_nonneg (hok.take k)
  have hD0 := V_nonneg (hok.drop k)
  have hM0 := V_nonneg (hok.drop (k + 1))
  have hz := hok.getD k
  have hlen : (zs.take k).length = k := by simp; omega
  rw [hlen, B_256] at ht
  rw [B_256, hV] at hs
  obtain ⟨D, hD⟩ := Int.eq_ofNat_of_zero_le hD0
  obtain ⟨t, hT⟩ := Int.eq_ofNat_of_zero_le h0
  obtain ⟨M, hM⟩ := Int.eq_ofNat_of_zero_le hM0
  obtain ⟨z, hZ⟩ := Int.eq_ofNat_of_zero_le hz.1
  rw [hT] at ht hs
  rw [hD] at hs hd
  rw [hM, hZ] at hd
  have hA : A = t + 256 ^ (4 * k) * D := by exact_mod_cast hs
  have htl : t < 256 ^ (4 * k) := by exact_mod_cast ht
  have hq : A / 256 ^ (4 * k) = D := by
    rw [hA, Nat.add_mul_div_left _ _ (Nat.lt_of_le_of_lt (Nat.zero_le t) htl), Nat.div_eq_of_lt htl, Nat.zero_add]
  have hzl : z < 4294967296 := by omega
  have hDz : D = z + 4294967296 * M := by omega
  unfold sByte
  rw [u8n, Nat.pow_add, ← Nat.div_div_eq_div_mul, hq, hZ]
  have : r = 0 ∨ r = 1 ∨ r = 2 ∨ r = 3 := by omega
  rcases this with rfl | rfl | rfl | rfl
  all_goals
    simp only [Nat.zero_mul, Nat.one_mul, Nat.reduceMul, Int.reducePow, Nat.reducePow, Nat.pow_zero, Int.pow_zero, Nat.div_one, Int.ediv_one]
    omega

/-- What a call that puts answers: a row of bytes of the call's own; what lay ahead of W0, and all that is no row of bytes, stands. -/
def PutPost (W0 w : World) (l : List UInt8) (P : List UInt8 → Prop) (e : Ending) (w' : World) : Prop :=
  ∃ v' L, e = .returned v' ∧ OB w' W0.heap.size v' (l ++ L) ∧ P L ∧ Below W0.heap.size W0 w' ∧ Keep w w'

set_option maxRecDepth 100000 in
set_option maxHeartbeats 4000000 in
theorem putInt_small (W0 : World) (v vn : Value) (l : List UInt8) (x : Int) (w : World) (hW : Below W0.heap.size W0 w) (h : RB w W0.heap.size v l) (hn : IsN W0 vn x) (hl : l.length ≤ 100000000) (hx0 : -2147483648 ≤ x) (hx1 : x ≤ 2147483647) :
    Calls Tryd.prog 75 #[v, vn] w fun e w' => PutPost W0 w l (IntB x) e w' := by
  have hnx := hn.nx.below hW
  obtain ⟨neg, zs, ⟨s, rfl, hs⟩, -⟩ := hn
  obtain ⟨p, c, rfl⟩ := hs.shape
  have hb := hW.size
  have hb1 := (Below.refl w.heap.size w).alloc (Nat.le_refl _) (.cells #[.bool neg, .slice p zs.length c] 26)
  have h1 := hnx.below hb1
  have hi : intS x = some x := by unfold intS; rw [if_pos (by omega)]
  have HI : Hid _ := hi
  clear hi
  go_enter Tryd.func75, Tryd.ntmps75
  go_wp2_with fail
  refine (int_any _ _ _ h1).mono ?_
  rintro e w1 ⟨rfl, b1⟩
  rw [HI.out]
  simp only [Option.getD_some, Option.isSome_some]
  have hR1 := (h.under hb1).under b1
  have hk1 : Keep w w1 := (Keep.alloc w _).trans (Keep.below b1)
  have hW1 : Below W0.heap.size W0 w1 := (hW.alloc hW.size _).trans (b1.mono (by simp; omega))
  have hsz := hW1.size
  have HK1 : Hid (Keep w w1) := hk1
  have HW1 : Hid _ := hW1
  clear hb1 h1 b1 hnx hs hk1 hW1
  by_cases t1 : 0 ≤ x ∧ x ≤ 255
  · obtain ⟨t1, t2⟩ := t1
    have hnw : ∀ j u, (bv [97, UInt8.ofNat x.toNat])[j]? = some u → (w1.alloc (.cells #[.int .u8 97, .int .u8 x] 5)).cell? ((⟨w1.heap.size, 0, none⟩ : Addr).add j) = some u := by
      have e : bv [97, UInt8.ofNat x.toNat] = [.int .u8 97, .int .u8 x] := by
        simp only [bv, List.map_cons, List.map_nil, u8n]
        congr 2
        congr 1
        omega
      rw [e]
      exact new_cells w1 _ _
    go_wp2_with (first
      | (at_builtin; refine wpList_append_rb rfl _ _ rfl W0.heap.size _ l rfl (hR1.under ((Below.refl _ _).alloc (Nat.le_refl _) _)) (by omega) (by simp; omega) ⟨w1.heap.size, 0, none⟩ 2 2 [97, UInt8.ofNat x.toNat] rfl (by omega) (by omega) rfl hnw ?_; intro v2 w2 o2 g2 k2)
      | fail)
    go_ret
    exact ⟨v2, _, rfl, o2, .inl ⟨t1, t2, rfl⟩, g2 _ _ (by simp; omega) (Nat.le_refl _) (HW1.out.alloc hsz _), (HK1.out.trans (Keep.alloc _ _)).trans k2⟩
  · have t1' : x < 0 ∨ 255 < x := by omega
    have hnw : ∀ j u, (bv [98])[j]? = some u → (w1.alloc (.cells #[.int .u8 98] 5)).cell? ((⟨w1.heap.size, 0, none⟩ : Addr).add j) = some u := new_cells w1 (bv [98]) _
    have HT : Hid _ := t1'
    have hcase : x < 0 ∨ (0 ≤ x ∧ 255 < x) := by omega
    clear t1 t1'
    rcases hcase with hc | ⟨hc, hc2⟩
    all_goals
      go_wp2_with (first
        | (at_builtin; refine wpList_append_rb rfl _ _ rfl W0.heap.size _ l rfl (hR1.under ((Below.refl _ _).alloc (Nat.le_refl _) _)) (by omega) (by simp; omega) ⟨w1.heap.size, 0, none⟩ 1 1 [98] rfl (by omega) (by omega) rfl hnw ?_; intro v2 w2 o2 g2 k2)
        | fail)
      have hW2 := g2 _ _ (by simp; omega) (Nat.le_refl _) (HW1.out.alloc hsz _)
      refine (putFour_any W0.heap.size v2 _ x _ o2 (by simp; omega) hx0 (by omega) hW2.size).mono ?_
      rintro e w3 ⟨v3, rfl, o3, g3⟩
      go_wp2_with fail
      go_ret
      exact ⟨v3, 98 :: four (u32of x), rfl, by simpa using o3, .inr (.inl ⟨HT.out, hx0, hx1, rfl⟩), OB.belowG o2 hW2 g3 hW2.size (Nat.le_refl _), ((HK1.out.trans (Keep.alloc _ _)).trans k2).trans (Keep.row o2 g3)⟩
end Go.Proofs.YtbmondbicnfcpaaDoor
