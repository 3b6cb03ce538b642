
/-
  num.Int: the number, if Go has it.
-/
import Derived.Test.YtnfnnngdbeplaaaDoorNumCmp
namespace Go.Proofs.YtnfnnngdbeplaaaDoor
open Go.RowKit
set_option linter.unusedVariables false

/-- The number, if Go has it. -/
def intS (x : Int) : Option Int := if -9223372036854775808 ≤ x ∧ x ≤ 9223372036854775807 then some x else none

def IntPost (w : World) (r : Option Int) (e : Ending) (w' : World) : Prop := e = .returned (.tuple #[.int .i64 (r.getD 0), .bool r.isSome]) ∧ Below w.heap.size w w'

theorem or_low (x1 x0 : Int) (h1 : 0 ≤ x1) (h2 : x1 < 4294967296) (h3 : 0 ≤ x0) (h4 : x0 < 4294967296) : bits .or .u64 x0 (x1 * 4294967296) = x0 + x1 * 4294967296 := by
  obtain ⟨X, rfl⟩ := Int.eq_ofNat_of_zero_le h1
  obtain ⟨Y, rfl⟩ := Int.eq_ofNat_of_zero_le h3
  have e : ((X : Int) * 4294967296) = ((2 ^ 32 * X : Nat) : Int) := by simp; omega
  have hp : (2 : Nat) ^ 32 = 4294967296 := by decide
  rw [e, u64_or_nat _ _ (by omega) (by omega), Nat.or_comm, or_nat 32 X Y (by omega)]
  simp
  omega
theorem or_zero (x : Int) (h1 : 0 ≤ x) (h2 : x < 18446744073709551616) : bits .or .u64 0 x = x := by
  obtain ⟨X, rfl⟩ := Int.eq_ofNat_of_zero_le h1
  rw [show (0 : Int) = ((0 : Nat) : Int) from rfl, u64_or_nat _ _ (by omega) (by omega), Nat.zero_or]

theorem len_big {a : List Int} (ha : Ok a) (hn : Nm a) {n : Nat} (h : IsLen (V a) n) (hl : 2 < a.length) : 64 < n ∧ 18446744073709551616 ≤ V a := by
  have h1 := V_ge ha hn (by omega)
  have h2 := B_mono (show 2 ≤ a.length - 1 by omega)
  have h3 : B 2 = 18446744073709551616 := by decide
  have h4 : T 64 = 18446744073709551616 := by decide +kernel
  refine ⟨?_, by omega⟩
  rcases h with ⟨e, _⟩ | ⟨k1, k2, k3⟩
  · omega
  · by_cases hc : 64 < n
    · exact hc
    · have := T_mono (show n ≤ 64 by omega)
      omega
theorem len_small {a : List Int} (ha : Ok a) {n : Nat} (h : IsLen (V a) n) (hl : a.length ≤ 2) : n ≤ 64 ∧ V a < 18446744073709551616 := by
  have h1 := V_lt ha
  have h2 := B_mono hl
  have h3 : B 2 = 18446744073709551616 := by decide
  have h4 : T 64 = 18446744073709551616 := by decide +kernel
  refine ⟨?_, by omega⟩
  rcases h with ⟨e, k⟩ | ⟨k1, k2, k3⟩
  · omega
  · by_cases hc : n ≤ 64
    · exact hc
    · have := T_mono (show 64 ≤ n - 1 by omega)
      omega

set_option maxHeartbeats 4000000 in
theorem int_any (v : Value) (x : Int) (w : World) (h : Nx w v x) : Calls Tryd.prog 68 #[v] w fun e w' => IntPost w (intS x) e w' := by
  have h0 := h
  obtain ⟨neg, zs, ⟨s, rfl, hs⟩, hv⟩ := h
  obtain ⟨p, c, rfl⟩ := hs.shape
  have hb1 := (Below.refl w.heap.size w).alloc (Nat.le_refl _) (.cells #[.bool neg, .slice p zs.length c] 24)
  have x0 := Bx.new w neg p zs.length c
  have h1 := h0.below hb1
  clear h0
  go_enter Tryd.func68, Tryd.ntmps68
  go_wp2_with fail
  refine (taken_any _ x _ h1).mono ?_
  rintro e w1 ⟨v1, rfl, ⟨n1, z1, ⟨s1, rfl, t1⟩, hg1, hx1⟩, hb2⟩
  obtain ⟨p1, c1, rfl⟩ := t1.shape
  have y0 := x0.below hb2 (by simp)
  have hbw := hb1.trans (hb2.mono (by simp))
  have hx : Hid (Z n1 (V z1) = x) := hx1
  have hl1 : z1.length ≤ 12 := hg1.1
  have hnm : Nm z1 := hg1.2.1
  have hneg : z1 = [] → n1 = false := hg1.2.2
  clear hb1 hb2 x0 hv hs h1 hg1 hx1
  obtain ⟨a0, a1, f0, f1, l0⟩ := y0.facts
  go_wp2_with fail
  rw [setBx_eq]
  have hbut := setBx_but w1 w.heap.size n1 (.slice p1 z1.length c1)
  have u0 := y0.set (neg' := n1) (p := p1) (n := z1.length) (c := c1)
  replace t1 := t1.box y0 hbut
  replace hbw := hbw.trans (hbut.below (Nat.le_refl _))
  clear a0 a1 f0 f1 l0 y0 hbut
  generalize setBx w1 w.heap.size n1 (.slice p1 z1.length c1) = w2 at *
  obtain ⟨c0, c1', -⟩ := u0.facts
  refine (len_any _ z1 _ t1 (by omega)).mono ?_
  rintro e w3 ⟨n, rfl, rfl, hn, hn2⟩
  have hnn := V_nonneg t1.ok
  by_cases hlen : 2 < z1.length
  · obtain ⟨hn64, hV⟩ := len_big t1.ok hnm hn hlen
    have hn64' : (64 : Int) < (n : Int) := by omega
    have e : Hid (intS x = none) := by
      show intS x = none
      rw [← hx.out]
      unfold intS
      rw [if_neg (by cases n1 <;> simp [Z] <;> omega)]
    clear hV hn hn2 hlen hnm hneg hnn
    go_wp2_with fail
    go_ret2
    exact ⟨by rw [e.out]; rfl, hbw⟩
  · obtain ⟨hn64, hV⟩ := len_small t1.ok hn (by omega)
    have hn64' : ¬ ((64 : Int) < (n : Int)) := by omega
    have hlen' : z1.length ≤ 2 := by omega
    clear hlen hn hn2
    go_wp2_with fail
    have HV : Hid (V z1 < 18446744073709551616) := hV
    clear hV
    go_loop [4, 17] (fun a i => ∃ (k : Nat) (m : Int), k ≤ z1.length ∧ a = .int .u64 m ∧ i = .int .i64 k ∧ m = V (z1.take k)) (fun _ i => z1.length - (intOf i).toNat)
    case atStart => exact ⟨0, 0, by omega, rfl, rfl, rfl⟩
    case round =>
      obtain ⟨k, m, hk, rfl, rfl, hm⟩ := hrel
      by_cases hkl : k < z1.length
      · obtain ⟨b, off, rfl, hc⟩ := t1.at k hkl
        have hkl' : (k : Int) < (z1.length : Int) := by omega
        have hz := t1.ok.getD k
        have hst := V_take_next z1 k
        have hk1 : k = 0 ∨ k = 1 := by omega
        rcases hk1 with rfl | rfl
        · generalize z1.getD 0 0 = d at *
          have ho := or_zero d hz.1 (by omega)
          have HS : Hid (d = V (z1.take 1)) := by
            show d = V (z1.take 1)
            rw [hst]; simp [B, V]
          obtain rfl : m = 0 := hm
          clear hst
          simp only [Nat.add_zero] at hc
          go_wp2_with fail
          go_round
          case rel => exact ⟨1, d, by omega, rfl, rfl, HS.out⟩
          case measure => simp [intOf]; omega
        · have hm0 := V_nonneg (t1.ok.take 1)
          have hm1 : V (z1.take 1) < 4294967296 := by
            have := V_lt (t1.ok.take 1)
            have e : (z1.take 1).length = 1 := by simp; omega
            rw [e] at this
            simpa [B] using this
          rw [← hm] at hm0 hm1 hst
          generalize z1.getD 1 0 = d at *
          have ho := or_low d m hz.1 hz.2 hm0 hm1
          have HS : Hid (m + d * 4294967296 = V (z1.take 2)) := by
            show m + d * 4294967296 = V (z1.take 2)
            rw [hst]; simp only [B]; omega
          clear hst hm
          go_wp2_with fail
          go_round
          case rel => exact ⟨2, _, by omega, rfl, rfl, HS.out⟩
          case measure => simp [intOf]; omega
      · obtain rfl : k = z1.length := by omega
        rw [List.take_length] at hm
        have hm1 : m < 18446744073709551616 := by rw [hm]; exact HV.out
        rw [← hm] at hnn hx
        have hneg' : n1 = true → 0 < m := fun h => by
          have h1 : z1 ≠ [] := fun h' => by have := hneg h'; rw [h] at this; cases this
          have h2 : V z1 ≠ 0 := fun h' => h1 (len_zero t1.ok hnm h')
          rw [hm]; rw [hm] at hnn; omega
        clear hneg hm
        cases n1
        · by_cases hbig : m ≤ 9223372036854775807
          · have e : Hid (intS x = some m) := by
              show intS x = some m
              rw [← hx.out]
              unfold intS
              rw [if_pos (by simp [Z]; omega)]; rfl
            go_wp2_with fail
            go_ret2
            exact ⟨by rw [e.out]; rfl, hbw⟩
          · have e : Hid (intS x = none) := by
              show intS x = none
              rw [← hx.out]
              unfold intS
              rw [if_neg (by simp [Z]; omega)]
            have hw : IntKind.i64.wrap m = m - 18446744073709551616 := by rw [IntKind.wrap_i64]; omega
            go_wp2_with fail
            go_ret2
            exact ⟨by rw [e.out]; rfl, hbw⟩
        · have hm0 := hneg' rfl
          by_cases hbig : m ≤ 9223372036854775808
          · have e : Hid (intS x = some (-m)) := by
              show intS x = some (-m)
              rw [← hx.out]
              unfold intS
              rw [if_pos (by simp [Z]; omega)]; rfl
            by_cases hm2 : m = 9223372036854775808
            · subst hm2
              have hz : wrap64 (-wrap64 9223372036854775808) = -9223372036854775808 := by unfold wrap64; omega
              go_wp2_with fail
              go_ret2
              exact ⟨by rw [e.out]; rfl, hbw⟩
            · have hm3 : m ≤ 9223372036854775807 := by omega
              have hm4 : -m < 0 := by omega
              go_wp2_with fail
              go_ret2
              exact ⟨by rw [e.out]; rfl, hbw⟩
          · have e : Hid (intS x = none) := by
              show intS x = none
              rw [← hx.out]
              unfold intS
              rw [if_neg (by simp [Z]; omega)]
            obtain ⟨r, hr⟩ : ∃ r, r = 18446744073709551616 - m := ⟨_, rfl⟩
            have hw : IntKind.i64.wrap m = -r := by rw [IntKind.wrap_i64]; omega
            have hr0 : 0 < r := by omega
            have hr1 : r ≤ 9223372036854775807 := by omega
            have ht : (!decide (r < 0)) = true := by simp; omega
            clear hr
            go_wp2_with fail
            go_ret2
            exact ⟨by rw [e.out]; rfl, hbw⟩
end Go.Proofs.YtnfnnngdbeplaaaDoor
