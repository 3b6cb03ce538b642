/-
  SameArgs of two lists of singles; SameArg of what is alike.
-/
import Derived.Test.YtmoonigeghoeeaaDoorCgSame
import Derived.Deep.RegionHeld3
namespace Go.Proofs.YtmoonigeghoeeaaDoor
open Go.RowKit
set_option linter.unusedVariables false
set_option linter.unusedSimpArgs false

/-- Two lists alike, of singles. -/
def Alk (L M : List El) : Prop := L.length = M.length ∧ ∀ i (h : i < L.length) (h' : i < M.length), L[i].t = M[i].t ∧ L[i].n = M[i].n ∧ L[i].m = 0 ∧ M[i].m = 0

set_option maxRecDepth 100000 in
set_option maxHeartbeats 2000000 in
theorem sameArgs_any (w : World) (u v : Value) (L M : List El) (hu : Rw3 w u L) (hv : Rw3 w v M) (h : Alk L M) : Calls Tryd.prog 28 #[u, v] w fun e w' => e = .returned (.bool true) ∧ Below w.heap.size w w' := by
  obtain ⟨a, c, rfl, hc1, hc2, hc3⟩ := hu.shape
  obtain ⟨b, d, rfl, hd1, hd2, hd3⟩ := hv.shape
  obtain ⟨hlm, hal⟩ := h
  rw [← hlm] at hd1 ⊢
  have HU : Hid (Rw3 w (.slice a L.length c) L) := hu
  have HV : Hid (Rw3 w (.slice b L.length d) M) := by rw [← hlm] at hv; exact hv
  have HA : Hid (∀ i (h : i < L.length) (h' : i < M.length), L[i].t = M[i].t ∧ L[i].n = M[i].n ∧ L[i].m = 0 ∧ M[i].m = 0) := hal
  have HLM : Hid (L.length = M.length) := hlm
  clear hu hv hal hlm
  go_enter Tryd.func28, Tryd.ntmps28
  go_wp2_with fail
  go_loopg [5] L.length (fun gk s5 wr => ∃ k : Nat, k + gk = L.length ∧ s5 = .int .i64 (k : Int) ∧ Hid (Below w.heap.size w wr))
  case atStart => exact ⟨0, by omega, rfl, Below.refl _ _⟩
  case round =>
    obtain ⟨k, hk, rfl, HB⟩ := hrel
    cases gk with
    | zero =>
      obtain rfl : k = L.length := by omega
      go_wp2_with fail
      go_ret
      exact ⟨rfl, HB.out⟩
    | succ g =>
      have hkl : k < L.length := by omega
      have hkm : k < M.length := by have := HLM.out; omega
      have hki : (k : Int) < (L.length : Int) := by omega
      have hkc : (k : Int) < (c : Int) := by omega
      have hkd : (k : Int) < (d : Int) := by omega
      obtain ⟨b1, o1, rfl, hl1, ⟨p0, p1, p2⟩, f1⟩ := (HU.out.under HB.out).at k hkl
      obtain ⟨b2, o2, rfl, hl2, ⟨q0, q1, q2⟩, f2⟩ := (HV.out.under HB.out).at k hkm
      obtain ⟨g1, g2, g3, g4⟩ := HA.out k hkl hkm
      obtain ⟨x, hx⟩ : ∃ x, x = L[k] := ⟨_, rfl⟩
      obtain ⟨y, hy⟩ : ∃ y, y = M[k] := ⟨_, rfl⟩
      rw [← hx] at p0 p1 p2 g1 g2 g3
      rw [← hy] at q0 q1 q2 g1 g2 g4
      obtain ⟨xt, xn, xa, xm, xc⟩ := x
      obtain ⟨yt, yn, ya, ym, yc⟩ := y
      unfold El.sl at p2 q2
      dsimp only at p0 p1 p2 q0 q1 q2 g1 g2 g3 g4
      subst g1; subst g2; subst g3; subst g4
      clear hx hy f1 f2
      have HSA : Hid (∀ W, Calls Tryd.prog 17 #[.agg #[.int .i64 xt, .int .i64 xn, .slice xa 0 xc], .agg #[.int .i64 xt, .int .i64 xn, .slice ya 0 yc]] W fun e w' => e = .returned (.bool true) ∧ Below W.heap.size W w') := fun W => sameArg_with W xt xn xa ya 0 xc yc (fun W' _ => sameArgs_nil W' _ _ _ _)
      have HSD : Hid (∀ W, Below wr.heap.size wr W → Below w.heap.size w W) := fun W hW => HB.out.trans (hW.mono HB.out.size)
      clear HB
      go_wp2_with fail
      go_region_law (first
        | (go_simp; go_at_call 17; refine (HSA.out _).mono ?_; rintro e x1 ⟨rfl, bb1⟩; have hq1 : Below wr.heap.size wr x1 := ((Below.refl _ _).drew).trans (bb1.mono (Nat.le_refl _))))
      all_goals
        have HG : Hid (Below w.heap.size w x1) := HSD.out _ hq1
        clear bb1 hq1
        go_wp2_with fail
        go_roundg g
        case measure => omega
        case rel => exact ⟨k + 1, by omega, by go_num, HG⟩
end Go.Proofs.YtmoonigeghoeeaaDoor
