/-
  Operands as trees: Ag, IsG (a value that reads in a world as a tree), Gs (a slice that reads as trees).
-/
import Derived.Test.YtgjjeghnfhjnnaaDoorCpL
import Derived.Test.YtgjjeghnfhjnnaaDoorZCpN
namespace Go.Proofs.YtgjjeghnfhjnnaaDoor
open Go.RowKit
set_option linter.unusedVariables false
set_option linter.unusedSimpArgs false

set_option maxRecDepth 100000 in
set_option maxHeartbeats 2000000 in
/-- FewArgs answers, whatever. -/
theorem few_all : ∀ (a : Ag) (w : World) (v : Value) (deep : Int), Gs w v a.kids → -1 ≤ deep → deep ≤ 1000 → Calls Tryd.prog 8 #[v, .int .i64 deep] w fun e w' => AnyB w e w' := by
  refine Ag.ind (P := fun a => ∀ (w : World) (v : Value) (deep : Int), Gs w v a.kids → -1 ≤ deep → deep ≤ 1000 → Calls Tryd.prog 8 #[v, .int .i64 deep] w fun e w' => AnyB w e w') ?_
  intro t n K ih w v deep h hd1 hd2
  dsimp only at h
  obtain ⟨p, cap, rfl, hc1, hc2, hc3⟩ := h.shape
  have HG : Hid (Gs w (.slice p K.length cap) K) := h
  have HIH : Hid (∀ a, a ∈ K → ∀ (w : World) (v : Value) (deep : Int), Gs w v a.kids → -1 ≤ deep → deep ≤ 1000 → Calls Tryd.prog 8 #[v, .int .i64 deep] w fun e w' => AnyB w e w') := ih
  clear h ih
  by_cases h60 : (60 : Int) < (K.length : Int)
  · go_enter Tryd.func8, Tryd.ntmps8
    go_wp2_with fail
    go_ret
    exact ⟨⟨_, rfl⟩, rfl⟩
  by_cases hdn : deep < 0
  · go_enter Tryd.func8, Tryd.ntmps8
    go_wp2_with fail
    go_ret
    exact ⟨⟨_, rfl⟩, rfl⟩
  go_enter Tryd.func8, Tryd.ntmps8
  go_wp2_with fail
  go_loopg [5] K.length (fun gk s5 wr => ∃ k : Nat, k + gk = K.length ∧ s5 = .int .i64 (k : Int) ∧ w = wr)
  case atStart => exact ⟨0, by omega, rfl, rfl⟩
  case round =>
    obtain ⟨k, hk, rfl, rfl⟩ := hrel
    cases gk with
    | zero =>
      obtain rfl : k = K.length := by omega
      go_wp2_with fail
      go_ret
      exact ⟨⟨_, rfl⟩, rfl⟩
    | succ g =>
      have hkl : k < K.length := by omega
      have hki : (k : Int) < (K.length : Int) := by omega
      have hkc : (k : Int) < (cap : Int) := by omega
      obtain ⟨b, off, x, rfl, hlt, ⟨a0, a1, a2⟩, hft, hx⟩ := HG.out.at k hkl
      obtain ⟨e1, e2, e3, hgk⟩ := hx.el
      have HC : Hid (Calls Tryd.prog 8 #[x.sl, .int .i64 (deep - 1)] w fun e w' => AnyB w e w') := HIH.out _ (List.getElem_mem hkl) w x.sl (deep - 1) hgk (by omega) (by omega)
      obtain ⟨xt, xn, xa, xm, xc⟩ := x
      unfold El.sl at a2 HC
      dsimp only at a0 a1 a2 HC
      clear e1 e2 e3 hgk hx hft
      by_cases hm : (0 : Int) < (xm : Int)
      · go_wp2_with fail
        refine HC.out.mono ?_
        rintro e w2 ⟨⟨q, rfl⟩, rfl⟩
        cases q
        · go_wp2_with fail
          go_ret
          exact ⟨⟨_, rfl⟩, rfl⟩
        · go_wp2_with fail
          go_roundg g
          case measure => omega
          case rel => exact ⟨k + 1, by omega, by go_num, rfl⟩
      · have hm0 : xm = 0 := by omega
        subst hm0
        go_wp2_with fail
        go_roundg g
        case measure => omega
        case rel => exact ⟨k + 1, by omega, by go_num, rfl⟩
end Go.Proofs.YtgjjeghnfhjnnaaDoor
