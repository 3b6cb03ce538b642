
/-
  ext: putBig.
-/
import Derived.Test.YtbmondbicnfcpaaDoorExtB
namespace Go.Proofs.YtbmondbicnfcpaaDoor
open Go.RowKit
set_option linter.unusedVariables false
set_option linter.unusedSimpArgs false

theorem Bx.keep {w w' : World} {g : Nat} {neg : Bool} {s : Value} (h : Bx w g neg s) (k : Keep w w') : Bx w' g neg s :=
  ⟨k.2 g _ h.1 (fun cs e => by injection e with _ e2 _; exact absurd e2 (by decide)), h.2⟩

/-- How many bytes the limbs have room for. -/
theorem len_room {zs : List Int} {A n : Nat} (hok : Ok zs) (hV : V zs = (A : Int)) (h : IsLen (A : Int) n) : (n + 7) / 8 ≤ 4 * zs.length := by
  have ht := V_lt hok
  rw [← T_32, hV] at ht
  rcases h with ⟨_, rfl⟩ | ⟨h1, h2, _⟩
  · omega
  · by_cases hc : 32 * zs.length ≤ n - 1
    · have := T_mono hc; omega
    · omega

/-- What the loop has laid. -/
def bgH (x : Int) (q i : Nat) : List UInt8 := 110 :: UInt8.ofNat q :: (if x < 0 then 1 else 0) :: (List.range i).map (sByte x.natAbs)
theorem bgH_succ (x : Int) (q i : Nat) : bgH x q (i + 1) = bgH x q i ++ [sByte x.natAbs i] := by simp [bgH, List.range_succ]
theorem bgH_len (x : Int) (q i : Nat) : (bgH x q i).length = i + 3 := by simp [bgH]

/-- The loop's state. -/
def BgRow (W0 w1 : World) (X : List UInt8) (v : Value) (wr : World) : Prop := OB wr W0.heap.size v X ∧ Below W0.heap.size W0 wr ∧ Keep w1 wr

set_option maxRecDepth 100000 in
set_option maxHeartbeats 4000000 in
theorem putBig_any (W0 : World) (v vn : Value) (l : List UInt8) (x : Int) (w : World) (hW : Below W0.heap.size W0 w) (h : RB w W0.heap.size v l) (hn : IsN W0 vn x) (hl : l.length ≤ 100000000) :
    Calls Tryd.prog 125 #[v, vn] w fun e w' => PutPost W0 w l (fun L => ∃ n, bLen x n ∧ n ≤ 384 ∧ L = bigB x n) e w' := by
  have hnx := hn.nx.below hW
  obtain ⟨neg, zs, ⟨s, rfl, hs⟩, hg, hx⟩ := hn
  obtain ⟨p, c, rfl⟩ := hs.shape
  have hb1 := (Below.refl w.heap.size w).alloc (Nat.le_refl _) (.cells #[.bool neg, .slice p zs.length c] 26)
  have h1 := hnx.below hb1
  have x0 := Bx.new w neg p zs.length c
  go_enter Tryd.func125, Tryd.ntmps125
  go_wp2_with fail
  refine (bits_any _ _ _ h1).mono ?_
  rintro e w1 ⟨n, rfl, hlen, hn384, b1⟩
  have y0 := x0.below b1 (by simp)
  have hR1 := (h.under hb1).under b1
  have hk1 : Keep w w1 := (Keep.alloc w _).trans (Keep.below b1)
  have hW1 : Below W0.heap.size W0 w1 := (hW.alloc hW.size _).trans (b1.mono (by simp; have := hW.size; omega))
  have hsz := hW1.size
  obtain ⟨A, hA⟩ := Int.eq_ofNat_of_zero_le (V_nonneg hs.ok)
  have hab : x.natAbs = A := by rw [← hx]; exact natAbs_Z neg hs.ok hA
  have hsg := Z_pos hg hs.ok
  rw [hx] at hsg
  obtain ⟨a0, a1, f0, f1, l0⟩ := y0.facts
  obtain ⟨q, hq⟩ : ∃ q, q = (n + 7) / 8 := ⟨_, rfl⟩
  have hq48 : q ≤ 48 := by omega
  have hqi : ((n : Int) + 8 - 1) / 8 = (q : Int) := by omega
  have hsgn : (if x < 0 then (1 : UInt8) else 0) = if neg = true then 1 else 0 := by
    cases neg
    · rw [if_neg (by have := hsg.2 rfl; omega)]; rfl
    · rw [if_pos (hsg.1 rfl)]; rfl
  have hqz : q ≤ 4 * zs.length := by rw [hq]; rw [hab] at hlen; exact len_room hs.ok hA hlen
  have hzc : zs.length ≤ 12 ∨ True := .inr trivial
  obtain ⟨sg, hsgd⟩ : ∃ sg : UInt8, sg = if neg = true then 1 else 0 := ⟨_, rfl⟩
  have hnw : ∀ j u, (bv [110, UInt8.ofNat q, sg])[j]? = some u → (w1.alloc (.cells #[.int .u8 110, .int .u8 (q : Int), .int .u8 (sg.toNat : Int)] 5)).cell? ((⟨w1.heap.size, 0, none⟩ : Addr).add j) = some u := by
    have e : bv [110, UInt8.ofNat q, sg] = [.int .u8 110, .int .u8 (q : Int), .int .u8 (sg.toNat : Int)] := by
      simp only [bv, List.map_cons, List.map_nil, u8n]
      congr 2
      congr 1
      omega
    rw [e]
    exact new_cells w1 _ _
  have HS : Hid (Sl W0 (.slice p zs.length c) zs) := hs
  have HV : Hid (V zs = (A : Int)) := hA
  have HLen : Hid (IsLen (x.natAbs) n) := hlen
  have HQ : Hid (q = (n + 7) / 8) := hq
  have HY0 : Hid (Bx w1 w.heap.size neg (.slice p zs.length c)) := y0
  have HAb : Hid (x.natAbs = A) := hab
  have HSg : Hid (sg = if x < 0 then 1 else 0) := by unfold Hid; rw [hsgd, hsgn]
  have HK1 : Hid (Keep w w1) := hk1
  have HW1 : Hid _ := hW1
  clear hA hlen hq y0 hab hsgn hsg hb1 h1 x0 b1 hx hnx hs hg hk1 hW1 hzc
  cases neg
  all_goals
    rw [show sg.toNat = _ from congrArg UInt8.toNat hsgd] at hnw
    simp only [if_true, if_false, Bool.false_eq_true] at hnw
    go_wp2_with (first
      | (at_builtin; refine wpList_append_rb rfl _ _ rfl W0.heap.size _ l rfl (hR1.under ((Below.refl _ _).alloc (Nat.le_refl _) _)) (by omega) (by simp; omega) ⟨w1.heap.size, 0, none⟩ 3 3 [110, UInt8.ofNat q, sg] rfl (by omega) (by omega) rfl hnw ?_; intro v2 w2 o2 g2 k2)
      | fail)
    have hW2 := g2 _ _ (by simp; omega) (Nat.le_refl _) (HW1.out.alloc hsz _)
    have r2 : BgRow W0 w1 (l ++ bgH x q 0) v2 w2 := by
      refine ⟨?_, hW2, (Keep.alloc _ _).trans k2⟩
      have : bgH x q 0 = [110, UInt8.ofNat q, sg] := by rw [HSg.out]; rfl
      rw [this]
      exact o2
    clear o2 g2 k2 hnw hW2 a0 a1 f0 f1
    have R2 : Hid (BgRow W0 w1 (l ++ bgH x q 0) v2 w2) := r2
    clear r2
    go_loopg [0, 22] q (fun gk s0 s22 wr => ∃ k : Nat, k + gk = q ∧ s22 = .int .i64 (k : Int) ∧ Hid (BgRow W0 w1 (l ++ bgH x q k) s0 wr))
    case atStart => exact ⟨0, by omega, rfl, R2⟩
    case round =>
      obtain ⟨k, hk, rfl, hrow⟩ := hrel
      obtain ⟨ro, rw0, rk⟩ := hrow.out
      cases gk with
      | zero =>
        obtain rfl : k = q := by omega
        go_wp2_with fail
        go_ret
        exact ⟨_, _, rfl, ro, ⟨n, HLen.out, hn384, by unfold bigB; rw [← HQ.out]; rfl⟩, rw0, HK1.out.trans rk⟩
      | succ g =>
        obtain ⟨a0, a1, f0, f1, l0'⟩ := (HY0.out.keep rk).facts
        obtain ⟨b, off, rfl, hc⟩ := (HS.out.below rw0).at (k / 4) (by omega)
        have hkq : (k : Int) < (q : Int) := by omega
        have hki : (k : Int) / 4 = ((k / 4 : Nat) : Int) := by omega
        have hz := HS.out.ok.getD (k / 4)
        have hB := limb_byte zs A HS.out.ok HV.out (k / 4) (k % 4) (by omega) (by omega)
        rw [show 4 * (k / 4) + k % 4 = k by omega, ← HAb.out] at hB
        obtain ⟨j, hj⟩ : ∃ j, j = k / 4 := ⟨_, rfl⟩
        rw [← hj] at hc hki hz hB
        obtain ⟨y, hy⟩ : ∃ y, y = zs.getD j 0 := ⟨_, rfl⟩
        rw [← hy] at hc hz hB
        obtain ⟨hz0, hz1⟩ := hz
        have hjl : (j : Int) < (zs.length : Int) := by omega
        have hcm : (zs.length : Int) ≤ 9223372036854775807 := by have := HS.out.len; omega
        have HB : Hid _ := hB
        have hr : k % 4 = 0 ∨ k % 4 = 1 ∨ k % 4 = 2 ∨ k % 4 = 3 := by omega
        have hro := ro
        have hlk : (l ++ bgH x q k).length ≤ 1000000000 := by rw [List.length_append, bgH_len]; omega
        have HO : Hid (OB wr W0.heap.size u0 (l ++ bgH x q k)) := ro
        clear ro hB hy hj
        obtain ⟨u, hu⟩ : ∃ u : Int, u = ((sByte x.natAbs k).toNat : Int) := ⟨_, rfl⟩
        rcases hr with hr | hr | hr | hr
        all_goals
          rw [hr] at HB
          have hri : (k : Int) % 4 = ((k % 4 : Nat) : Int) := by omega
          rw [hr] at hri
          have hB := HB.out
          rw [← hu] at hB
          simp only [Nat.zero_mul, Nat.one_mul, Nat.reduceMul, Int.reducePow, Int.pow_zero, Int.ediv_one] at hB
          have hnw : ∀ j u', (bv [sByte x.natAbs k])[j]? = some u' → (wr.alloc (.cells #[.int .u8 u] 5)).cell? ((⟨wr.heap.size, 0, none⟩ : Addr).add j) = some u' := by
            rw [hu]
            exact new_cells wr (bv [sByte x.natAbs k]) _
          try (have hB3 : y / 16777216 = u := by omega)
          have hRB : RB (wr.alloc (.cells #[.int .u8 u] 5)) W0.heap.size u0 (l ++ bgH x q k) := .inl (HO.out.under ((Below.refl _ _).alloc (Nat.le_refl _) _))
          have hsA : W0.heap.size ≤ (wr.alloc (.cells #[.int .u8 u] 5)).heap.size := by
            have := rw0.size
            simp
            omega
          have HU : Hid _ := hu
          have HNW : Hid _ := hnw
          have HRB : Hid (RB (wr.alloc (.cells #[.int .u8 u] 5)) W0.heap.size u0 (l ++ bgH x q k)) := hRB
          have HSA : Hid _ := hsA
          clear hu hnw hRB hsA hro
          go_wp2_with (first
            | (at_builtin; refine wpList_append_rb rfl _ _ rfl W0.heap.size _ (l ++ bgH x q k) rfl HRB.out hlk HSA.out ⟨wr.heap.size, 0, none⟩ 1 1 [sByte x.natAbs k] rfl (by omega) (by omega) rfl HNW.out ?_; intro v3 w3 o3 g3 k3)
            | fail)
          go_roundg g
          case measure => omega
          case rel => exact ⟨k + 1, by omega, by go_num, by unfold Hid; exact ⟨by rw [bgH_succ, ← List.append_assoc]; exact o3, g3 _ _ (by simp; have := rw0.size; omega) (Nat.le_refl _) (rw0.alloc rw0.size _), (rk.trans (Keep.alloc _ _)).trans k3⟩⟩
end Go.Proofs.YtbmondbicnfcpaaDoor
