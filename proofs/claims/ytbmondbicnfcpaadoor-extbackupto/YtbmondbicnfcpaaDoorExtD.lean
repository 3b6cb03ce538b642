
/-
  ext: putInt, of any number.
-/
import Derived.Test.YtbmondbicnfcpaaDoorExtC
namespace Go.Proofs.YtbmondbicnfcpaaDoor
open Go.RowKit
set_option linter.unusedVariables false
set_option linter.unusedSimpArgs false

set_option maxRecDepth 100000 in
set_option maxHeartbeats 4000000 in
theorem putInt_big (W0 : World) (v vn : Value) (l : List UInt8) (x : Int) (w : World) (hW : Below W0.heap.size W0 w) (h : RB w W0.heap.size v l) (hn : IsN W0 vn x) (hl : l.length ≤ 100000000) (hx0 : x < -2147483648 ∨ 2147483647 < x) :
    Calls Tryd.prog 75 #[v, vn] w fun e w' => PutPost W0 w l (IntB x) e w' := by
  have hnx := hn.nx.below hW
  have HN : Hid (IsN W0 vn x) := hn
  obtain ⟨neg, zs, ⟨s, rfl, hs⟩, -⟩ := hn
  obtain ⟨p, c, rfl⟩ := hs.shape
  have hb := hW.size
  have hb1 := (Below.refl w.heap.size w).alloc (Nat.le_refl _) (.cells #[.bool neg, .slice p zs.length c] 26)
  have h1 := hnx.below hb1
  have x0 := Bx.new w neg p zs.length c
  obtain ⟨iv, io, hio, hcase⟩ : ∃ (iv : Int) (io : Bool), (iv = (intS x).getD 0 ∧ io = (intS x).isSome) ∧ (io = false ∨ (io = true ∧ iv < -2147483648) ∨ (io = true ∧ 2147483647 < iv)) := by
    refine ⟨_, _, ⟨rfl, rfl⟩, ?_⟩
    unfold intS
    split
    · rcases hx0 with h | h
      · exact .inr (.inl ⟨rfl, h⟩)
      · exact .inr (.inr ⟨rfl, h⟩)
    · exact .inl rfl
  obtain ⟨hi1, hi2⟩ := hio
  have HX : Hid (x < -2147483648 ∨ 2147483647 < x) := hx0
  clear hx0
  go_enter Tryd.func75, Tryd.ntmps75
  go_wp2_with fail
  refine (int_any _ _ _ h1).mono ?_
  rintro e w1 ⟨rfl, b1⟩
  rw [← hi1, ← hi2]
  have y0 := x0.below b1 (by simp)
  have hR1 := (h.under hb1).under b1
  have hk1 : Keep w w1 := (Keep.alloc w _).trans (Keep.below b1)
  have hW1 : Below W0.heap.size W0 w1 := (hW.alloc hW.size _).trans (b1.mono (by simp; omega))
  obtain ⟨a0, a1, f0, f1, l0⟩ := y0.facts
  have HK1 : Hid (Keep w w1) := hk1
  have HW1 : Hid (Below W0.heap.size W0 w1) := hW1
  have HR1 : Hid (RB w1 W0.heap.size v l) := hR1
  clear hb1 h1 b1 hnx hs hk1 hW1 hi1 hi2 x0 y0 hR1
  rcases hcase with rfl | ⟨rfl, hc⟩ | ⟨rfl, hc⟩
  all_goals
    go_wp2_with fail
    refine (putBig_any W0 v _ l x w1 HW1.out HR1.out HN.out hl).mono ?_
    rintro e w3 ⟨v3, L, rfl, o3, ⟨n, hn1, hn2, hL⟩, hb3, k3⟩
    go_wp2_with fail
    go_ret
    exact ⟨v3, L, rfl, o3, .inr (.inr ⟨HX.out, n, hn1, hn2, hL⟩), hb3, HK1.out.trans k3⟩

/-- putInt. -/
theorem putInt_any (W0 : World) (v vn : Value) (l : List UInt8) (x : Int) (w : World) (hW : Below W0.heap.size W0 w) (h : RB w W0.heap.size v l) (hn : IsN W0 vn x) (hl : l.length ≤ 100000000) :
    Calls Tryd.prog 75 #[v, vn] w fun e w' => PutPost W0 w l (IntB x) e w' := by
  by_cases hc : x < -2147483648 ∨ 2147483647 < x
  · exact putInt_big W0 v vn l x w hW h hn hl hc
  · exact putInt_small W0 v vn l x w hW h hn hl (by omega) (by omega)
end Go.Proofs.YtbmondbicnfcpaaDoor
