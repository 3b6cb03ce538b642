
/-
  num.Cmp; two numbers taken.
-/
import Derived.Test.YtnfnnngdbeplaaaDoorNumNeg
import Derived.Deep.Cut
namespace Go.Proofs.YtnfnnngdbeplaaaDoor
open Go.RowKit
set_option linter.unusedVariables false
attribute [local go_sem ↓] Go.wp_at_zero Go.wp_at_succ

/-- Two boxes, at g and behind it, hold numbers that may be: x and y. -/
def Two (w : World) (g : Nat) (x y : Int) (wc : World) : Prop := ∃ n1 p1 c1 z1 n2 p2 c2 z2, Bx wc g n1 (.slice p1 (List.length z1) c1) ∧ Bx wc (g + 1) n2 (.slice p2 (List.length z2) c2) ∧ Sl wc (.slice p1 z1.length c1) z1 ∧ Sl wc (.slice p2 z2.length c2) z2 ∧
  Good n1 z1 ∧ Good n2 z2 ∧ Z n1 (V z1) = x ∧ Z n2 (V z2) = y ∧ Below w.heap.size w wc

theorem Two.mk {w w2 : World} {g : Nat} {x y : Int} {m1 m2 n1 n2 : Bool} {o1 o2 : Value} {p1 p2 : Option Addr} {c1 c2 : Nat} {z1 z2 : List Int} (u1 : Bx w2 g m1 o1) (u2 : Bx w2 (g + 1) m2 o2)
    (t1 : Sl w2 (.slice p1 z1.length c1) z1) (t2 : Sl w2 (.slice p2 z2.length c2) z2) (h1 : Good n1 z1) (h2 : Good n2 z2) (hx : Z n1 (V z1) = x) (hy : Z n2 (V z2) = y) (hB : Below w.heap.size w w2) (hg : w.heap.size ≤ g) :
    Two w g x y (setBx (setBx w2 g n1 (.slice p1 z1.length c1)) (g + 1) n2 (.slice p2 z2.length c2)) := by
  have b1 := setBx_but w2 g n1 (.slice p1 z1.length c1)
  have v1 := u1.set (neg' := n1) (p := p1) (n := z1.length) (c := c1)
  have v2 := u2.other b1 (by omega)
  have b2 := setBx_but (setBx w2 g n1 (.slice p1 z1.length c1)) (g + 1) n2 (.slice p2 z2.length c2)
  exact ⟨n1, p1, c1, z1, n2, p2, c2, z2, v1.other b2 (by omega), v2.set, (t1.box u1 b1).box v2 b2, (t2.box u1 b1).box v2 b2, h1, h2, hx, hy, (hB.trans (b1.below hg)).trans (b2.below (by omega))⟩

theorem sg_neg (a b : Int) : sg (-a) (-b) = sg b a := by
  rcases Int.lt_trichotomy a b with h | h | h
  · rw [sg_gt h, sg_gt (by omega)]
  · rw [h, sg_self, sg_self]
  · rw [sg_lt h, sg_lt (by omega)]

theorem Z_pos {n : Bool} {zs : List Int} (hg : Good n zs) (hok : Ok zs) : (n = true → Z n (V zs) < 0) ∧ (n = false → 0 ≤ Z n (V zs)) := by
  have h0 := V_nonneg hok
  refine ⟨?_, ?_⟩
  · rintro rfl
    have h1 : zs ≠ [] := fun h => by cases hg.2.2 h
    have h2 : V zs ≠ 0 := fun h => h1 (len_zero hok hg.2.1 h)
    simp [Z]; omega
  · rintro rfl
    simpa [Z] using h0

set_option maxHeartbeats 4000000 in
theorem ncmp_any (va vb : Value) (x y : Int) (w : World) (ha : Nx w va x) (hb : Nx w vb y) : Calls Tryd.prog 48 #[va, vb] w fun e w' => CmpPost w x y e w' := by
  have ha0 := ha
  have hb0 := hb
  obtain ⟨na, za, ⟨sa, rfl, hsa⟩, -⟩ := ha
  obtain ⟨nb, zb, ⟨sb, rfl, hsb⟩, -⟩ := hb
  obtain ⟨pa, ca, rfl⟩ := hsa.shape
  obtain ⟨pb, cb, rfl⟩ := hsb.shape
  obtain ⟨hB0, xa, xb⟩ := boxes2' w na nb pa pb za.length ca zb.length cb
  clear hsa hsb
  go_enter Tryd.func48, Tryd.ntmps48
  go_wp2_with fail
  replace ha0 := ha0.below hB0
  replace hb0 := hb0.below hB0
  generalize hw0 : (w.alloc (.cells #[.bool na, .slice pa za.length ca] 24)).alloc (.cells #[.bool nb, .slice pb zb.length cb] 24) = w0 at *
  clear hw0
  obtain ⟨i0, i1, -⟩ := xa.facts
  obtain ⟨j0, j1, -⟩ := xb.facts
  go_cut [] from 5 (fun wc => Two w w.heap.size x y wc)
  case first =>
    go_region_with (first
      | (go_at_call_of 64 (Value.slice pa za.length ca); refine (taken_any _ x _ ?_).mono ?_; exact ha0.below ((Below.refl _ _).drew); rintro e w1 ⟨v1, rfl, ⟨n1, z1, ⟨s1, rfl, t1⟩, hg1, hx1⟩, hb1⟩; have hB1 : Below w0.heap.size w0 w1 := (Below.refl _ _).drew.trans hb1; obtain ⟨c10, c11, f10, f11, l1⟩ := (xb.under hB1).facts)
      | (go_at_call_of 64 (Value.slice pb zb.length cb); refine (taken_any _ y _ ?_).mono ?_; exact hb0.below hB1; rintro e w2 ⟨v2, rfl, ⟨n2, z2, ⟨s2, rfl, t2⟩, hg2, hx2⟩, hb2⟩; have hB2 : Below w0.heap.size w0 w2 := hB1.trans (hb2.mono hB1.size); obtain ⟨p1, c1, rfl⟩ := t1.shape; obtain ⟨p2, c2, rfl⟩ := t2.shape; obtain ⟨d20, d21, g20, g21, l2⟩ := (xa.under hB2).facts; obtain ⟨c20, c21, f20, f21, l3⟩ := (xb.under hB2).facts))
    all_goals
      go_wp2_with fail
      go_meet
      case rel => exact Two.mk (xa.under hB2) (xb.under hB2) (t1.below hb2) t2 hg1 hg2 hx1 hx2 (hB0.trans (hB2.mono hB0.size)) (Nat.le_refl _)
  case rest =>
    obtain ⟨n1, p1, c1, z1, n2, p2, c2, z2, u1, u2, t1, t2, hg1, hg2, hx, hy, hB⟩ := hcut
    clear ha0 hb0 xa xb hB0 i0 i1 j0 j1
    obtain ⟨i0, i1, -⟩ := u1.facts
    obtain ⟨j0, j1, -⟩ := u2.facts
    have s1 := Z_pos hg1 t1.ok
    have s2 := Z_pos hg2 t2.ok
    have HX : Hid (Z n1 (V z1) = x) := hx
    have HY : Hid (Z n2 (V z2) = y) := hy
    clear hg1 hg2 hx hy
    cases n1 <;> cases n2
    · clear s1 s2
      go_wp2_with fail
      refine (cmp_any _ _ z1 z2 _ t1 t2).mono ?_
      rintro e w3 ⟨rfl, hb3⟩
      go_wp2_with fail
      go_ret
      exact ⟨by rw [← HX.out, ← HY.out]; rfl, hB.trans (hb3.mono hB.size)⟩
    · have e : Hid (sg x y = 1) := sg_gt (by have := s1.2 rfl; have := s2.1 rfl; rw [HX.out] at *; rw [HY.out] at *; omega)
      clear s1 s2
      go_wp2_with fail
      go_ret
      exact ⟨by rw [e.out]; rfl, hB⟩
    · have e : Hid (sg x y = -1) := sg_lt (by have := s1.1 rfl; have := s2.2 rfl; rw [HX.out] at *; rw [HY.out] at *; omega)
      clear s1 s2
      go_wp2_with fail
      go_ret
      exact ⟨by rw [e.out]; rfl, hB⟩
    · clear s1 s2
      go_wp2_with fail
      refine (cmp_any _ _ z2 z1 _ t2 t1).mono ?_
      rintro e w3 ⟨rfl, hb3⟩
      go_wp2_with fail
      go_ret
      refine ⟨?_, hB.trans (hb3.mono hB.size)⟩
      rw [← HX.out, ← HY.out]
      simp only [Z, if_true]
      rw [sg_neg]; rfl
end Go.Proofs.YtnfnnngdbeplaaaDoor
