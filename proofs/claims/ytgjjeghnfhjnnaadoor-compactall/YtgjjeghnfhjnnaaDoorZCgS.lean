import Derived.Test.YtgjjeghnfhjnnaaDoorCgBase
import Derived.Deep.RegionHeld3
/-
  relictlaw00.SameArg, SameArgs: of operands alike, none deeper than a list of singles.
-/
namespace Go.Proofs.YtgjjeghnfhjnnaaDoor
open Go.RowKit
set_option linter.unusedVariables false
set_option linter.unusedSimpArgs false

set_option maxRecDepth 100000 in
set_option maxHeartbeats 2000000 in
theorem sameArgs_nil (w : World) (a b : Option Addr) (c d : Nat) : Calls Tryd.prog 42 #[.slice a 0 c, .slice b 0 d] w fun e w' => e = .returned (.bool true) ∧ Below w.heap.size w w' := by
  go_enter Tryd.func42, Tryd.ntmps42
  go_wp2_with fail
  go_loopg [5] 0 (fun gk s5 wr => s5 = .int .i64 0 ∧ w = wr)
  case atStart => exact ⟨rfl, rfl⟩
  case round =>
    obtain ⟨rfl, rfl⟩ := hrel
    go_wp2_with fail
    go_ret
    exact ⟨rfl, Below.refl _ _⟩

set_option maxRecDepth 100000 in
set_option maxHeartbeats 2000000 in
theorem sameArg_with (w : World) (t n : Int) (a b : Option Addr) (m c d : Nat)
    (h : ∀ W, Below w.heap.size w W → Calls Tryd.prog 42 #[.slice a m c, .slice b m d] W fun e w' => e = .returned (.bool true) ∧ Below W.heap.size W w') :
    Calls Tryd.prog 17 #[agV t n (.slice a m c), agV t n (.slice b m d)] w fun e w' => e = .returned (.bool true) ∧ Below w.heap.size w w' := by
  unfold agV
  have HB : Hid (Below w.heap.size w ((w.alloc (.cells #[.int .i64 t, .int .i64 n, .slice a m c] 25)).alloc (.cells #[.int .i64 t, .int .i64 n, .slice b m d] 25))) := ((Below.refl _ _).alloc (Nat.le_refl _) _).alloc (by simp) _
  have HC := h _ HB.out
  have HC2 : Hid (Calls Tryd.prog 42 #[.slice a m c, .slice b m d] ((w.alloc (.cells #[.int .i64 t, .int .i64 n, .slice a m c] 25)).alloc (.cells #[.int .i64 t, .int .i64 n, .slice b m d] 25)) fun e w' => e = .returned (.bool true) ∧ Below ((w.alloc (.cells #[.int .i64 t, .int .i64 n, .slice a m c] 25)).alloc (.cells #[.int .i64 t, .int .i64 n, .slice b m d] 25)).heap.size ((w.alloc (.cells #[.int .i64 t, .int .i64 n, .slice a m c] 25)).alloc (.cells #[.int .i64 t, .int .i64 n, .slice b m d] 25)) w') := HC
  clear h HC
  go_enter Tryd.func17, Tryd.ntmps17
  go_wp2_with fail
  refine HC2.out.mono ?_
  rintro e w2 ⟨rfl, b2⟩
  have HB2 : Hid (Below w.heap.size w w2) := HB.out.trans (b2.mono HB.out.size)
  clear b2
  go_wp2_with fail
  go_ret
  exact ⟨rfl, HB2.out⟩
end Go.Proofs.YtgjjeghnfhjnnaaDoor

/-
  SameArgs of two lists of singles; SameArg of what is alike.
-/
namespace Go.Proofs.YtgjjeghnfhjnnaaDoor
open Go.RowKit
set_option linter.unusedVariables false
set_option linter.unusedSimpArgs false

/-- Two lists alike, of singles. -/
def Alk (L M : List El) : Prop := L.length = M.length ∧ ∀ i (h : i < L.length) (h' : i < M.length), L[i].t = M[i].t ∧ L[i].n = M[i].n ∧ L[i].m = 0 ∧ M[i].m = 0

set_option maxRecDepth 100000 in
set_option maxHeartbeats 2000000 in
theorem sameArgs_any (w : World) (u v : Value) (L M : List El) (hu : Rw3 w u L) (hv : Rw3 w v M) (h : Alk L M) : Calls Tryd.prog 42 #[u, v] w fun e w' => e = .returned (.bool true) ∧ Below w.heap.size w w' := by
  obtain ⟨a, c, rfl, hc1, hc2, hc3⟩ := hu.shape
  obtain ⟨b, d, rfl, hd1, hd2, hd3⟩ := hv.shape
  obtain ⟨hlm, hal⟩ := h
  rw [← hlm] at hd1 ⊢
  have HU : Hid (Rw3 w (.slice a L.length c) L) := hu
  have HV : Hid (Rw3 w (.slice b L.length d) M) := by rw [← hlm] at hv; exact hv
  have HA : Hid (∀ i (h : i < L.length) (h' : i < M.length), L[i].t = M[i].t ∧ L[i].n = M[i].n ∧ L[i].m = 0 ∧ M[i].m = 0) := hal
  have HLM : Hid (L.length = M.length) := hlm
  clear hu hv hal hlm
  go_enter Tryd.func42, Tryd.ntmps42
  go_wp2_with fail
  go_loopg [5] L.length (fun gk s5 wr => ∃ k : Nat, k + gk = L.length ∧ s5 = .int .i64 (k : Int) ∧ Hid (Below w.heap.size w wr))
  case atStart => exact ⟨0, by omega, rfl, Below.refl _ _⟩
  case round =>
    obtain ⟨k, hk, rfl, HB⟩ := hrel
    cases gk with
    | zero =>
      obtain rfl : k = L.length := by omega
      go_wp2_with fail
      go_ret
      exact ⟨rfl, HB.out⟩
    | succ g =>
      have hkl : k < L.length := by omega
      have hkm : k < M.length := by have := HLM.out; omega
      have hki : (k : Int) < (L.length : Int) := by omega
      have hkc : (k : Int) < (c : Int) := by omega
      have hkd : (k : Int) < (d : Int) := by omega
      obtain ⟨b1, o1, rfl, hl1, ⟨p0, p1, p2⟩, f1⟩ := (HU.out.under HB.out).at k hkl
      obtain ⟨b2, o2, rfl, hl2, ⟨q0, q1, q2⟩, f2⟩ := (HV.out.under HB.out).at k hkm
      obtain ⟨g1, g2, g3, g4⟩ := HA.out k hkl hkm
      obtain ⟨x, hx⟩ : ∃ x, x = L[k] := ⟨_, rfl⟩
      obtain ⟨y, hy⟩ : ∃ y, y = M[k] := ⟨_, rfl⟩
      rw [← hx] at p0 p1 p2 g1 g2 g3
      rw [← hy] at q0 q1 q2 g1 g2 g4
      obtain ⟨xt, xn, xa, xm, xc⟩ := x
      obtain ⟨yt, yn, ya, ym, yc⟩ := y
      unfold El.sl at p2 q2
      dsimp only at p0 p1 p2 q0 q1 q2 g1 g2 g3 g4
      subst g1; subst g2; subst g3; subst g4
      clear hx hy f1 f2
      have HSA : Hid (∀ W, Calls Tryd.prog 17 #[.agg #[.int .i64 xt, .int .i64 xn, .slice xa 0 xc], .agg #[.int .i64 xt, .int .i64 xn, .slice ya 0 yc]] W fun e w' => e = .returned (.bool true) ∧ Below W.heap.size W w') := fun W => sameArg_with W xt xn xa ya 0 xc yc (fun W' _ => sameArgs_nil W' _ _ _ _)
      have HSD : Hid (∀ W, Below wr.heap.size wr W → Below w.heap.size w W) := fun W hW => HB.out.trans (hW.mono HB.out.size)
      clear HB
      go_wp2_with fail
      go_region_law (first
        | (go_simp; go_at_call 17; refine (HSA.out _).mono ?_; rintro e x1 ⟨rfl, bb1⟩; have hq1 : Below wr.heap.size wr x1 := ((Below.refl _ _).drew).trans (bb1.mono (Nat.le_refl _))))
      all_goals
        have HG : Hid (Below w.heap.size w x1) := HSD.out _ hq1
        clear bb1 hq1
        go_wp2_with fail
        go_roundg g
        case measure => omega
        case rel => exact ⟨k + 1, by omega, by go_num, HG⟩
end Go.Proofs.YtgjjeghnfhjnnaaDoor
