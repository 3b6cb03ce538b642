
/-
  slices.Backward over a slice of terms: the iterator's contract.
-/
import Derived.RangeFuncNested
import Derived.RangeFuncBound
import Derived.RangeFuncCalls
import Derived.RangeFuncLeaves
import Derived.Shelf.Abstract
import Derived.Shelf.RegionOpen
import Derived.WalkKit
import Derived.OwnWalkIn
import Derived.TacticsInMore
import Derived.LoopNIn
import Derived.LoopIn
import Derived.Test.YtnfnnngdbeplaaaDoorTermBox
namespace Go.Proofs.YtnfnnngdbeplaaaDoor
open Go.RowKit Go.Shelf
set_option linter.unusedVariables false
set_option linter.unusedSimpArgs false
attribute [local go_sem] Oper.semAt_some

/-- What a round is handed: a number and a term that is read in w0. -/
structure El (w0 : World) where
  i : Nat
  v : Value
  t : Tm
  h : IsT w0 t v

/-- What has come, from the last one on. -/
def Came {w0 : World} (K : List Tm) (pre : List (El w0)) : Prop := pre.length ≤ K.length ∧ ∀ j (h : j < pre.length), pre[j].i + j + 1 = K.length ∧ K[pre[j].i]? = some pre[j].t

theorem Came.nil {w0 : World} (K : List Tm) : Came (w0 := w0) K [] := ⟨by simp, fun j h => absurd h (by simp)⟩
theorem Came.more {w0 : World} {K : List Tm} {pre : List (El w0)} (h : Came K pre) (x : El w0) (h1 : x.i + pre.length + 1 = K.length) (h2 : K[x.i]? = some x.t) : Came K (pre ++ [x]) := by
  refine ⟨by simp; omega, fun j hj => ?_⟩
  by_cases hl : j < pre.length
  · rw [List.getElem_append_left hl]; exact h.2 j hl
  · have : j = pre.length := by simp at hj; omega
    subst this
    rw [List.getElem_append_right (by omega)]
    simpa using ⟨h1, h2⟩

/-- What a round keeps: all that lay below m, and the block Bn. -/
def KpB (m Bn : Nat) (W W' : World) : Prop := Below m W W' ∧ W'.heap[Bn]? = W.heap[Bn]?
theorem KpB.refl (m Bn : Nat) (W : World) : KpB m Bn W W := ⟨Below.refl _ _, rfl⟩
theorem KpB.trans {m Bn : Nat} {A B C : World} (h : KpB m Bn A B) (k : KpB m Bn B C) : KpB m Bn A C := ⟨h.1.trans k.1, k.2.trans h.2⟩

theorem back_any (sv : Value) (w : World) (hs : IsS sv) : Calls Tryd.prog 34 #[sv] w fun e w' => e = .returned (.func (.func 52) #[] #[.pointer (some ⟨w.heap.size, 0, none⟩)]) ∧ w' = w.alloc (.cells #[sv] 25) := by
  obtain ⟨p, n, c, rfl⟩ := hs
  go_enter Tryd.func34, Tryd.ntmps34
  go_wp2_with fail
  go_ret
  exact ⟨rfl, rfl⟩

set_option maxRecDepth 100000 in
set_option maxHeartbeats 2000000 in
theorem back_stops (F : Fence) (n : Nat) (hF : F.fn 52) (hro : F.round = none) (hn : 1 ≤ n) (Bn : Nat) (sv : Value) (K : List Tm) (w0 w : World) (hT : Ts w0 sv K) (hb : Below w0.heap.size w0 w) (hBn : Bn < w.heap.size) (hcell : w.cell? ⟨Bn, 0, none⟩ = some sv) :
    SeqStopsK F n Tryd.prog 52 #[.pointer (some ⟨Bn, 0, none⟩)] (fun x : El w0 => #[Value.int .i64 (x.i : Int), x.v]) (KpB w0.heap.size Bn) (fun xs => Came K xs ∧ xs.length = K.length) (fun _ => True) K.length w := fun l J Jx W hW _ _ hY h0 => by
  have hcW : W.cell? ⟨Bn, 0, none⟩ = some sv := (hW.cell (p := ⟨Bn, 0, none⟩) hBn).trans hcell
  have hbW : Below w0.heap.size w0 W := hb.trans (hW.mono hb.size)
  obtain ⟨a, cap, rfl, hc1, hc2, hc3⟩ := hT.shape
  have hlen : (K.length : Int) ≤ 9223372036854775807 := by omega
  refine callsIn_of_wp Tryd.func52 rfl hF ?_ hro
  simp only [Tryd.ntmps52, List.size_toArray, List.length_cons, List.length_nil, Nat.reduceAdd, Nat.reduceSub, Array.replicate_succ, Array.replicate_zero, List.push_toArray, List.append_toArray, List.nil_append, List.cons_append]
  gi_wp2
  gi_loopw [3] (fun i wr => ∃ (k : Nat) (pre : List (El w0)), k + pre.length = K.length ∧ i = .int .i64 ((k : Int) - 1) ∧ Came K pre ∧ J pre wr ∧ KpB w0.heap.size Bn W wr)
    (fun i _ => (intOf i + 1).toNat)
  case atStart => exact ⟨K.length, [], by simp, rfl, Came.nil K, h0, KpB.refl _ _ _⟩
  case round =>
    obtain ⟨k, pre, hk, rfl, hcm, hJ, hKp⟩ := hrel
    cases k with
    | zero =>
      gi_wp2
      go_end0
      exact ⟨⟨_, rfl⟩, .inl ⟨pre, ⟨hcm, by omega⟩, hJ⟩⟩
    | succ q =>
      rw [show ((q + 1 : Nat) : Int) - 1 = (q : Int) by omega]
      have hqk : q < K.length := by omega
      have hqk' : (q : Int) < (K.length : Int) := by omega
      obtain ⟨b, off, v, rfl, hlt, h6, hv⟩ := hT.at q hqk
      have hcB : wr.cell? ⟨Bn, 0, none⟩ = some (.slice (some ⟨b, off, none⟩) K.length cap) := by
        rw [World.cell?_of_block (w := W) (a := ⟨Bn, 0, none⟩) hKp.2]; exact hcW
      replace h6 := h6.below (hbW.trans hKp.1) hlt
      have hcm2 : Came K (pre ++ [⟨q, v, K[q], hv⟩]) := hcm.more ⟨q, v, K[q], hv⟩ (by show q + pre.length + 1 = K.length; omega) (by simp [hqk])
      obtain ⟨fn, tmps, assign, body, hy, hR⟩ := hY pre ⟨q, v, K[q], hv⟩ wr hJ (by omega)
      dsimp only at hy
      obtain ⟨e0, e1, e2, e3, e4, e5, rfl, p0, p1, p2, p3, p4, p5⟩ := h6
      gi_wp2
      refine hR.mono ?_
      rintro e W3 (⟨rfl, hJ3, hk3⟩ | ⟨rfl, hJx3⟩)
      · gi_wp2
        go_roundw
        case rel => exact ⟨q, _, by simp; omega, rfl, hcm2, hJ3, hKp.trans hk3⟩
        case measure => simp [intOf]
      · gi_wp2
        refine bodyPost_ret (results_none rfl _ _ _) rfl ?_
        exact ⟨⟨_, rfl⟩, .inr ⟨_, trivial, hJx3⟩⟩
end Go.Proofs.YtnfnnngdbeplaaaDoor
