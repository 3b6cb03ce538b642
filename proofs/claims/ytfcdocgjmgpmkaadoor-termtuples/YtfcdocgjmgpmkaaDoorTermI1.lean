
/-
  relictref02.Of, relictref19.Int, relictlaw00.I1: a number's term, its limbs in new memory.
-/
import Derived.Test.YtfcdocgjmgpmkaaDoorNumRef
import Derived.Test.YtfcdocgjmgpmkaaDoorZTermC
namespace Go.Proofs.YtfcdocgjmgpmkaaDoor
open Go.RowKit
set_option linter.unusedVariables false

/-- A number whose limbs lie in no block below b. -/
def New (b : Nat) (v : Value) : Prop := ∃ n s, v = .agg #[.bool n, s] ∧ ∀ k, s.ownBlock = some k → b ≤ k
theorem New.mono {b c : Nat} {v : Value} (h : New b v) (hc : c ≤ b) : New c v := by
  obtain ⟨n, s, e, h⟩ := h
  exact ⟨n, s, e, fun k hk => Nat.le_trans hc (h k hk)⟩
def OpNew (w : World) (r : Option Int) (e : Ending) (w' : World) : Prop := ∃ v, e = .returned (.tuple #[v, .bool r.isSome]) ∧ IsN w' v (r.getD 0) ∧ Below w.heap.size w w' ∧ New w.heap.size v
def NNew (w : World) (x : Int) (e : Ending) (w' : World) : Prop := ∃ v, e = .returned v ∧ IsN w' v x ∧ Below w.heap.size w w' ∧ New w.heap.size v

set_option maxHeartbeats 2000000 in
theorem made_new (neg : Bool) (s : Value) (zs : List Int) (w : World) (hs : Sl w s zs) (hl : zs.length ≤ 1000000) :
    Calls Tryd.prog 64 #[.bool neg, s] w fun e w' => OpNew w (fitS (Z neg (V zs))) e w' := by
  obtain ⟨p, c, rfl⟩ := hs.shape
  obtain ⟨hb1, x0⟩ := box0 w
  go_enter Tryd.func64, Tryd.ntmps64
  go_wp2_with fail
  refine (rnorm_any _ zs _ (hs.below hb1) hl).mono ?_
  intro e w1 h1
  obtain ⟨v1, z1, rfl, s1, m1, v1', l1, b1, hnew⟩ := h1
  obtain ⟨p1, c1, rfl⟩ := s1.shape
  have HNW : Hid (∀ k, (Value.slice p1 z1.length c1).ownBlock = some k → w.heap.size ≤ k) := fun k hk => by have := hnew k hk; rw [World.size_alloc] at this; omega
  have u1 := x0.under b1
  have hbw := hb1.trans (b1.mono hb1.size)
  have hV : Hid (V z1 = V zs) := v1'
  clear hb1 x0 hs b1 v1' hnew
  obtain ⟨d0, d1, g0, g1, k1⟩ := u1.facts
  by_cases h12 : z1.length ≤ 12
  · have h12' : ¬ ((12 : Int) < (z1.length : Int)) := by omega
    have HG : Hid (Good (neg && decide (0 < z1.length)) z1) := (good_signed neg m1).2 h12
    have HF : Hid (fitS (Z neg (V zs)) = some (Z (neg && decide (0 < z1.length)) (V z1))) := by
      show fitS (Z neg (V zs)) = _
      rw [← hV.out, fitS_Z neg s1.ok, if_pos ((room_len s1.ok m1).1 h12), Z_signed]
    clear hV
    cases neg
    · go_wp2_with fail
      refine bodyPost_ret (results_box2 rfl _ _ w.heap.size _ _ rfl u1.set) rfl ?_
      rw [HF.out]
      refine ⟨_, rfl, ?_, hbw.trans ((setBx_but w1 w.heap.size _ _).below (Nat.le_refl _)), _, _, rfl, HNW.out⟩
      exact ⟨_, z1, ⟨_, rfl, s1.box u1 (setBx_but w1 w.heap.size _ _)⟩, HG.out, rfl⟩
    · go_wp2_with fail
      refine bodyPost_ret (results_box2 rfl _ _ w.heap.size _ _ rfl u1.set) rfl ?_
      rw [HF.out]
      refine ⟨_, rfl, ?_, hbw.trans ((setBx_but w1 w.heap.size _ _).below (Nat.le_refl _)), _, _, rfl, HNW.out⟩
      exact ⟨_, z1, ⟨_, rfl, s1.box u1 (setBx_but w1 w.heap.size _ _)⟩, HG.out, rfl⟩
  · have h12' : (12 : Int) < (z1.length : Int) := by omega
    have HF : Hid (fitS (Z neg (V zs)) = none) := by
      show fitS (Z neg (V zs)) = _
      rw [← hV.out, fitS_Z neg s1.ok, if_neg (fun h => h12 ((room_len s1.ok m1).2 h))]
    clear hV h12
    go_wp2_with fail
    refine bodyPost_ret (results_box2 rfl _ _ w.heap.size false (.slice none 0 0) rfl u1.set) rfl ?_
    rw [HF.out]
    exact ⟨_, rfl, IsN.zero _, hbw.trans ((setBx_but w1 w.heap.size false _).below (Nat.le_refl _)), _, _, rfl, fun k hk => by cases hk⟩

set_option maxHeartbeats 2000000 in
theorem rof_new (x : Int) (w : World) (h0 : -9223372036854775808 ≤ x) (h1 : x ≤ 9223372036854775807) : Calls Tryd.prog 49 #[.int .i64 x] w fun e w' => NNew w x e w' := by
  by_cases hn : x < 0
  · obtain ⟨y, hy⟩ : ∃ y, y = -x := ⟨_, rfl⟩
    have hw : IntKind.u64.wrap (-IntKind.u64.wrap x) = y := by rw [IntKind.wrap_u64, IntKind.wrap_u64]; omega
    have hy0 : 0 ≤ y := by omega
    have hy1 : y < 18446744073709551616 := by omega
    have HY : Hid (y = -x) := hy
    clear hy
    obtain ⟨b0, x1, q1⟩ := box_lit w y
    have sl := sl_lit2 (w.alloc (.cells #[.bool false, .slice none 0 0] 24)) (y % 4294967296) (y / 4294967296) (by omega) (by omega) (by omega) (by omega)
    rw [World.size_alloc] at sl
    go_enter Tryd.func49, Tryd.ntmps49
    go_wp2_with fail
    refine (made_new true _ [y % 4294967296, y / 4294967296] _ sl (by simp)).mono ?_
    rw [rof_fit true y hy0 (by omega)]
    rintro e w1 ⟨v1, rfl, i1, b1, nw⟩
    replace i1 : IsN w1 v1 (Z true y) := i1
    rw [show Z true y = x by simp only [Z]; rw [HY.out]; simp] at i1
    have HNW : Hid (New w.heap.size v1) := nw.mono (by simp; omega)
    obtain ⟨n1, p1, z1, c1, rfl, t1, g1, e1⟩ := i1.open
    have u1 := x1.under b1
    have hbw := b0.trans (b1.mono b0.size)
    have bd := (Below.refl w1.heap.size w1).alloc (Nat.le_refl _) (.cells #[.bool n1, .slice p1 z1.length c1] 24)
    have u2 := u1.under bd
    have hbv := hbw.trans (bd.mono hbw.size)
    have i2 := i1.below bd
    clear sl b0 x1 q1 b1 t1 g1 e1 i1 u1 nw
    obtain ⟨d0, d1, g0, g1, l1⟩ := u2.facts
    go_wp2_with fail
    refine bodyPost_ret (results_box1 rfl _ _ w.heap.size _ _ rfl u2.set) rfl ?_
    exact ⟨_, rfl, i2.box u2 (setBx_but _ w.heap.size n1 _), hbv.trans ((setBx_but _ w.heap.size n1 _).below (Nat.le_refl _)), HNW.out⟩
  · have hx0 : 0 ≤ x := by omega
    obtain ⟨b0, x1, q1⟩ := box_lit w x
    have sl := sl_lit2 (w.alloc (.cells #[.bool false, .slice none 0 0] 24)) (x % 4294967296) (x / 4294967296) (by omega) (by omega) (by omega) (by omega)
    rw [World.size_alloc] at sl
    go_enter Tryd.func49, Tryd.ntmps49
    go_wp2_with fail
    refine (made_new false _ [x % 4294967296, x / 4294967296] _ sl (by simp)).mono ?_
    rw [rof_fit false x hx0 (by omega)]
    rintro e w1 ⟨v1, rfl, i1, b1, nw⟩
    replace i1 : IsN w1 v1 (Z false x) := i1
    rw [show Z false x = x from rfl] at i1
    have HNW : Hid (New w.heap.size v1) := nw.mono (by simp; omega)
    obtain ⟨n1, p1, z1, c1, rfl, t1, g1, e1⟩ := i1.open
    have u1 := x1.under b1
    have hbw := b0.trans (b1.mono b0.size)
    have bd := (Below.refl w1.heap.size w1).alloc (Nat.le_refl _) (.cells #[.bool n1, .slice p1 z1.length c1] 24)
    have u2 := u1.under bd
    have hbv := hbw.trans (bd.mono hbw.size)
    have i2 := i1.below bd
    clear sl b0 x1 q1 b1 t1 g1 e1 i1 u1 nw
    obtain ⟨d0, d1, g0, g1, l1⟩ := u2.facts
    go_wp2_with fail
    refine bodyPost_ret (results_box1 rfl _ _ w.heap.size _ _ rfl u2.set) rfl ?_
    exact ⟨_, rfl, i2.box u2 (setBx_but _ w.heap.size n1 _), hbv.trans ((setBx_but _ w.heap.size n1 _).below (Nat.le_refl _)), HNW.out⟩

/-- A number's term, and the tree that it is: its limbs are read in w and lie in no block that bad names. -/
def IntE (w : World) (bad : Nat → Prop) (p : Value × Tm) : Prop := ∃ n a z c, p.1 = tmV 1 n (.slice a z.length c) ⟨#[]⟩ 0 (.slice none 0 0) ∧ p.2 = .mk 1 n z ⟨#[]⟩ 0 [] ∧ Sl w (.slice a z.length c) z ∧ Good n z ∧ ∀ k, 0 < z.length → (Value.slice a z.length c).ownBlock = some k → ¬ bad k
def tval (t : Tm) : Int := val t.neg t.limbs
def IntTPost (w : World) (x : Int) (e : Ending) (w' : World) : Prop := ∃ v t, e = .returned v ∧ IntE w' (fun k => k < w.heap.size) (v, t) ∧ tval t = x ∧ Below w.heap.size w w'

theorem slBut {g : Nat} {w w' : World} {v : Value} {zs : List Int} (h : Sl w v zs) (hb : But g w w') (hne : 0 < zs.length → v.ownBlock ≠ some g) : Sl w' v zs := by
  by_cases h0 : 0 < zs.length
  · exact h.but hb (hne h0)
  · obtain ⟨hok, a, n, cap, rfl, hl, hc, hm, hn, hp⟩ := h
    exact ⟨hok, a, n, cap, rfl, hl, hc, hm, hn, fun h1 => absurd h1 (by omega)⟩
theorem bt0 (w : World) : Below w.heap.size w (w.alloc (.cells #[.int .i64 0, .bool false, .slice none 0 0, .string ⟨#[]⟩, .int .i64 0, .slice none 0 0] 27)) ∧ Bt (w.alloc (.cells #[.int .i64 0, .bool false, .slice none 0 0, .string ⟨#[]⟩, .int .i64 0, .slice none 0 0] 27)) w.heap.size 0 false (.slice none 0 0) ⟨#[]⟩ 0 (.slice none 0 0) :=
  ⟨(Below.refl w.heap.size w).alloc (Nat.le_refl _) _, Bt.new w 0 false (.slice none 0 0) ⟨#[]⟩ 0 (.slice none 0 0) ⟨_, _, _, rfl⟩ ⟨_, _, _, rfl⟩⟩

set_option maxHeartbeats 2000000 in
theorem rint_new (x : Int) (w : World) (h0 : -9223372036854775808 ≤ x) (h1 : x ≤ 9223372036854775807) : Calls Tryd.prog 33 #[.int .i64 x] w fun e w' => IntTPost w x e w' := by
  obtain ⟨b0, u0⟩ := bt0 w
  have HB0 : Hid (Below w.heap.size w (w.alloc (.cells #[.int .i64 0, .bool false, .slice none 0 0, .string ⟨#[]⟩, .int .i64 0, .slice none 0 0] 27))) := b0
  have HU0 : Hid (Bt (w.alloc (.cells #[.int .i64 0, .bool false, .slice none 0 0, .string ⟨#[]⟩, .int .i64 0, .slice none 0 0] 27)) w.heap.size 0 false (.slice none 0 0) ⟨#[]⟩ 0 (.slice none 0 0)) := u0
  clear b0 u0
  go_enter Tryd.func33, Tryd.ntmps33
  go_wp2_with fail
  refine (rof_new x _ h0 h1).mono ?_
  rintro e w1 ⟨v1, rfl, i1, b1, nw⟩
  obtain ⟨n1, p1, z1, c1, rfl, t1, g1, e1⟩ := i1.open
  have HNW : Hid (∀ k, (Value.slice p1 z1.length c1).ownBlock = some k → w.heap.size < k) := fun k hk => by
    obtain ⟨n, s, e, h⟩ := nw
    simp at e
    have := h k (by rw [← e.2]; exact hk)
    rw [World.size_alloc] at this
    omega
  have u1 := HU0.out.under b1
  have hbw := HB0.out.trans (b1.mono HB0.out.size)
  have HT : Hid (Sl w1 (.slice p1 z1.length c1) z1) := t1
  have HG : Hid (Good n1 z1 ∧ Z n1 (V z1) = x) := ⟨g1, e1⟩
  clear HU0 HB0 i1 b1 nw t1 g1 e1
  obtain ⟨a0, a1, a2, a3, a4, a5⟩ := u1.cells
  obtain ⟨f0, f1, f2, f3, f4, f5⟩ := u1.froz
  go_wp2_with fail
  refine bodyPost_ret (results_bt1 rfl _ _ w.heap.size 1 n1 (.slice p1 z1.length c1) ⟨#[]⟩ 0 (.slice none 0 0) rfl (u1.set 1 n1 (.slice p1 z1.length c1) ⟨#[]⟩ 0 (.slice none 0 0) ⟨_, _, _, rfl⟩ ⟨_, _, _, rfl⟩)) rfl ?_
  have hbu := setBt_but w1 w.heap.size 1 n1 (.slice p1 z1.length c1) ⟨#[]⟩ 0 (.slice none 0 0)
  refine ⟨_, .mk 1 n1 z1 ⟨#[]⟩ 0 [], rfl, ⟨n1, p1, z1, c1, rfl, rfl, HT.out.but hbu (fun e => by have := HNW.out _ e; omega), HG.out.1, fun k _ hk => by have := HNW.out k hk; omega⟩, by rw [tval]; show val n1 z1 = x; rw [val, if_pos HG.out.1]; exact HG.out.2, hbw.trans (hbu.below (Nat.le_refl _))⟩

set_option maxHeartbeats 2000000 in
theorem i1_new (x : Int) (w : World) (h0 : -9223372036854775808 ≤ x) (h1 : x ≤ 9223372036854775807) : Calls Tryd.prog 19 #[.int .i64 x] w fun e w' => IntTPost w x e w' := by
  obtain ⟨b0, u0⟩ := bt0 w
  have HB0 : Hid (Below w.heap.size w (w.alloc (.cells #[.int .i64 0, .bool false, .slice none 0 0, .string ⟨#[]⟩, .int .i64 0, .slice none 0 0] 27))) := b0
  have HU0 : Hid (Bt (w.alloc (.cells #[.int .i64 0, .bool false, .slice none 0 0, .string ⟨#[]⟩, .int .i64 0, .slice none 0 0] 27)) w.heap.size 0 false (.slice none 0 0) ⟨#[]⟩ 0 (.slice none 0 0)) := u0
  clear b0 u0
  go_enter Tryd.func19, Tryd.ntmps19
  go_wp2_with fail
  refine (rint_new x _ h0 h1).mono ?_
  rintro e w1 ⟨v1, tt, rfl, ⟨n1, p1, z1, c1, hv1, htt, t1, g1, nw⟩, e1, b1⟩
  dsimp only at hv1 htt
  subst hv1 htt
  have HNW : Hid (∀ k, 0 < z1.length → (Value.slice p1 z1.length c1).ownBlock = some k → w.heap.size < k) := fun k h0 hk => by
    have := nw k h0 hk
    simp only [World.size_alloc] at this
    omega
  have u1 := HU0.out.under b1
  have hbw := HB0.out.trans (b1.mono HB0.out.size)
  have HT : Hid (Sl w1 (.slice p1 z1.length c1) z1) := t1
  have HG : Hid (Good n1 z1) := g1
  have HE : Hid (tval (.mk 1 n1 z1 ⟨#[]⟩ 0 []) = x) := e1
  clear HU0 HB0 b1 nw t1 g1 e1
  obtain ⟨a0, a1, a2, a3, a4, a5⟩ := u1.cells
  obtain ⟨f0, f1, f2, f3, f4, f5⟩ := u1.froz
  simp only [tmV]
  go_wp2_with fail
  refine bodyPost_ret (results_bt1 rfl _ _ w.heap.size 1 n1 (.slice p1 z1.length c1) ⟨#[]⟩ 0 (.slice none 0 0) rfl (u1.set 1 n1 (.slice p1 z1.length c1) ⟨#[]⟩ 0 (.slice none 0 0) ⟨_, _, _, rfl⟩ ⟨_, _, _, rfl⟩)) rfl ?_
  have hbu := setBt_but w1 w.heap.size 1 n1 (.slice p1 z1.length c1) ⟨#[]⟩ 0 (.slice none 0 0)
  refine ⟨_, .mk 1 n1 z1 ⟨#[]⟩ 0 [], rfl, ⟨n1, p1, z1, c1, rfl, rfl, slBut HT.out hbu (fun h0 e => by have := HNW.out _ h0 e; omega), HG.out, fun k h0 hk => by have := HNW.out k h0 hk; omega⟩, HE.out, hbw.trans (hbu.below (Nat.le_refl _))⟩
end Go.Proofs.YtfcdocgjmgpmkaaDoor
