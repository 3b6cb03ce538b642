/-
  The document's own answers of layer 2 (relictref02): Neg, Bits.
-/
import Derived.Test.YtmhcgdigccaogaaNumRefC
import Derived.Test.YtmhcgdigccaogaaRefZ
import Derived.Test.YtmhcgdigccaogaaNumLenB
namespace Go.Proofs.Ytmhcgdigccaogaa
open Go.RowKit
set_option linter.unusedVariables false

theorem fit_neg {n : Bool} {zs : List Int} (hg : Good n zs) (hok : Ok zs) : fitS (Z (!n) (V zs)) = some (-(Z n (V zs))) := by
  rw [fitS_Z (!n) hok, if_pos ((room_len hok hg.2.1).1 hg.1), Z_not]

set_option maxHeartbeats 2000000 in
theorem rneg_any (v : Value) (x : Int) (w : World) (h : Nx w v x) : Calls Try.prog 20 #[v] w fun e w' => NPost w (-x) e w' := by
  have h0 := h
  obtain ⟨neg, zs, ⟨s, rfl, hs⟩, hv⟩ := h
  obtain ⟨p, c, rfl⟩ := hs.shape
  obtain ⟨hb1, x0, x1⟩ := boxes1 w neg p zs.length c
  have h1 := h0.below hb1
  clear h0 hv hs
  go_enter Try.func20, Try.ntmps20
  go_wp2_with fail
  refine (ris_any _ x _ h1).mono ?_
  rintro e w1 ⟨v1, rfl, i1, hb2⟩
  obtain ⟨n1, p1, z1, c1, rfl, t1, g1, e1⟩ := i1.open
  have y1 := x1.below hb2 (by simp)
  have hbw := hb1.trans (hb2.mono (by simp; omega))
  clear hb1 hb2 x0 x1 h1 i1
  go_wp2_with fail
  have bd := (Below.refl w1.heap.size w1).alloc (Nat.le_refl _) (.cells #[.bool n1, .slice p1 z1.length c1] 24)
  have y2 := y1.under bd
  have hb3 := hbw.trans (bd.mono hbw.size)
  have t2 := t1.below bd
  refine (made_any (!n1) _ z1 _ t2 (by have := g1.1; omega)).mono ?_
  rw [fit_neg g1 t1.ok, e1]
  rintro e w4 ⟨v4, rfl, j4, b4⟩
  have i4 : IsN w4 v4 (-x) := j4
  obtain ⟨n4, p4, z4, c4, rfl, -, -, -⟩ := i4.open
  have be := (Below.refl w4.heap.size w4).alloc (Nat.le_refl _) (.cells #[.bool n4, .slice p4 z4.length c4] 24)
  have y3 := (y2.under b4).under be
  have hb4 := (hb3.trans (b4.mono hb3.size))
  have hb5 := hb4.trans (be.mono hb4.size)
  have i5 := i4.below be
  clear j4 i4 b4 be y1 y2 hbw hb3 hb4 t1 t2 g1 e1 bd
  obtain ⟨d0, d1, f0, f1, l1⟩ := y3.facts
  go_wp2_with fail
  refine bodyPost_ret (results_box1 rfl _ _ (w.heap.size + 1) _ _ rfl y3.set) rfl ?_
  exact ⟨_, rfl, i5.box y3 (setBx_but _ (w.heap.size + 1) n4 _), hb5.trans ((setBx_but _ (w.heap.size + 1) n4 _).below (by omega))⟩

set_option maxHeartbeats 2000000 in
theorem rbits_any (v : Value) (x : Int) (w : World) (h : Nx w v x) : Calls Try.prog 22 #[v] w fun e w' => BitsPost w x e w' := by
  have h0 := h
  obtain ⟨neg, zs, ⟨s, rfl, hs⟩, hv⟩ := h
  obtain ⟨p, c, rfl⟩ := hs.shape
  have hb1 := (Below.refl w.heap.size w).alloc (Nat.le_refl _) (.cells #[.bool neg, .slice p zs.length c] 24)
  have h1 := h0.below hb1
  clear h0
  have kf := run_fieldL
  go_enter Try.func22, Try.ntmps22
  go_wp2_with fail
  refine (ris_any _ x _ h1).mono ?_
  rintro e w1 ⟨v1, rfl, ⟨n1, z1, ⟨s1, rfl, t1⟩, hg1, hx1⟩, hb2⟩
  obtain ⟨p1, c1, rfl⟩ := t1.shape
  have hbw := hb1.trans (hb2.mono (by simp))
  have hx : Hid (Z n1 (V z1) = x) := hx1
  have hl1 : z1.length ≤ 12 := hg1.1
  clear hb1 hb2 hv hs h1 hg1 hx1
  go_wp2_with fail
  refine (rlen_any _ z1 _ t1 (by omega)).mono ?_
  rintro e w2 ⟨n, rfl, b2, hn, hn2⟩
  replace hbw := hbw.trans (b2.mono hbw.size)
  go_wp2_with fail
  go_ret
  exact ⟨n, rfl, by rw [← hx.out, abs_Z _ t1.ok]; exact hn, by omega, hbw⟩
end Go.Proofs.Ytmhcgdigccaogaa
