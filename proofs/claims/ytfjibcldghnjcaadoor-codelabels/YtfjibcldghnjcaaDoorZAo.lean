import Derived.Test.YtfjibcldghnjcaaDoorProg
import Derived.ProofKit
import Derived.Test.YtfjibcldghnjcaaDoorAgA
import Derived.OpenShut
import Derived.ChangeSlices
import Derived.SizedLaws
import Derived.Lib.SmallJoins
import Derived.Test.YtfjibcldghnjcaaDoorCgBase
import Derived.Test.YtfjibcldghnjcaaDoorZOpen
/-
  The bounds of an integer that came in.
-/
namespace Go.Proofs.YtfjibcldghnjcaaDoor
theorem bdI {n : Int} (h : (Lit.int .i64 n).wf = true) : -9223372036854775808 ≤ n ∧ n ≤ 9223372036854775807 := by
  simp [Lit.wf, IntKind.min, IntKind.max, IntKind.signed, IntKind.bits] at h
  omega
end Go.Proofs.YtfjibcldghnjcaaDoor

/-
  Operands and instructions that came in, as data: the trees that they read as.
-/
namespace Go.Proofs.YtfjibcldghnjcaaDoor
open Go.ChangeShapes Go.WideShapes Go.ChangeAt Go.RowKit Go.Joins
set_option linter.unusedVariables false
set_option linter.unusedSimpArgs false

theorem cellsGi : Tryd.prog.cellsOf 3 = 1 := by kernel_rfl
theorem cellsGk : Tryd.prog.cellsOf 25 = 1 := by kernel_rfl
theorem cellsGa : Tryd.prog.cellsOf 30 = 3 := by kernel_rfl
theorem list3 {α : Type} {cs : List α} (h : cs.length = 3) : ∃ c0 c1 c2, cs = [c0, c1, c2] := by
  match cs, h with
  | [c0, c1, c2], _ => exact ⟨c0, c1, c2, rfl⟩
section
variable {H : Type} {enc : TypeId × Value → H} {W : World}

theorem gs_of_trod {n : Nat} {cs : List Value} {x : DataW H × List MemPlace} (h : DataW.trod enc Tryd.prog W 0 (fun _ => true) true n 25 cs = some x)
    (ih : ∀ (m : Nat), m < n → ∀ (cs : List Value) (y : DataW H × List MemPlace), DataW.trod enc Tryd.prog W 0 (fun _ => true) true m 30 cs = some y → ∃ a z, cs = [.int .i64 (El.t z), .int .i64 (El.n z), El.sl z] ∧ El.fit z ∧ IsG W a z.v) :
    ∃ p c K, cs = [.slice p (List.length K) c] ∧ K.length ≤ c ∧ (c : Int) ≤ 9223372036854775807 ∧ Gs W (.slice p K.length c) K := by
  rcases DataW.trod_slice Tryd.underlying25 h with ⟨hcs, _⟩ | ⟨a, len, cap, elems, rest, m, hn, hcs, hx, hb, hl, hm, hlen, hel, hsp, hns⟩
  · exact ⟨none, 0, [], hcs, Nat.le_refl _, by decide, none, 0, [], rfl, rfl, Rw3.nil W, fun i h => absurd h (by simp)⟩
  · subst hn
    have each : ∀ i, i < len → ∃ (t : Ag) (z : El) (b off : Nat), a.add (i * 3) = ⟨b, off, none⟩ ∧ b < W.heap.size ∧ At3 W b off z.t z.n z.sl ∧ El.fit z ∧ IsG W t z.v := by
      intro i hi
      have h1 := hel i hi
      rw [cellsGa, List.getElem?_eq_getElem (by omega), Option.bind_eq_some_iff] at h1
      obtain ⟨cs', hc, ht⟩ := h1
      obtain ⟨t, z, e5, e6, e7⟩ := ih m (by omega) cs' _ ht
      obtain ⟨hb, hl, hc⟩ := World.cells?_some hc
      rw [e5] at hc
      generalize a.add (i * 3) = ad at hc hb ⊢
      obtain ⟨b, off, spot⟩ := ad
      have h0 : W.cell? ((⟨b, off, spot⟩ : Addr).add 0) = some (.int .i64 z.t) := hc 0 (by omega)
      have hspot : spot = none := by simpa [Addr.add] using World.cell?_spot h0
      subst hspot
      have add : ∀ j, (⟨b, off, none⟩ : Addr).add j = ⟨b, off + j, none⟩ := fun j => by unfold Addr.add; split <;> simp_all
      have g0 : W.cell? ⟨b, off, none⟩ = some (.int .i64 z.t) := by rw [add] at h0; exact h0
      have g1 : W.cell? ⟨b, off + 1, none⟩ = some (.int .i64 z.n) := by have := hc 1 (by omega); rw [add] at this; exact this
      have g2 : W.cell? ⟨b, off + 2, none⟩ = some z.sl := by have := hc 2 (by omega); rw [add] at this; exact this
      exact ⟨t, z, b, off, rfl, World.block_lt_of_cell? W _ g0, ⟨g0, g1, g2⟩, e6, e7⟩
    have hp : ∀ i : Nat, ∃ q : Ag × El, i < len → ∃ b off : Nat, a.add (i * 3) = ⟨b, off, none⟩ ∧ b < W.heap.size ∧ At3 W b off q.2.t q.2.n q.2.sl ∧ El.fit q.2 ∧ IsG W q.1 q.2.v := by
      intro i
      by_cases hi : i < len
      · obtain ⟨t, z, b, off, h⟩ := each i hi
        exact ⟨(t, z), fun _ => ⟨b, off, h⟩⟩
      · exact ⟨(.mk 0 0 [], ⟨0, 0, none, 0, 0⟩), fun h => absurd h hi⟩
    obtain ⟨f, hf⟩ := Classical.axiomOfChoice hp
    have hmx : cap ≤ 9223372036854775807 := by simpa [maxLen] using hm
    have hrw : Rw3 W (.slice (some a) len cap) ((List.range len).map fun i => (f i).2) := by
      refine ⟨some a, cap, by simp, by simpa using hl, hmx, fun e => (by cases e), fun x hx => ?_, fun h0 => ?_⟩
      · obtain ⟨i, hi, rfl⟩ := List.mem_map.1 hx
        obtain ⟨b, off, -, -, -, h, -⟩ := hf i (List.mem_range.1 hi)
        exact h
      · simp at h0
        obtain ⟨b, off, e1, e2, -⟩ := hf 0 h0
        obtain ⟨ab, ao, asp⟩ := a
        have hs : asp = none := by
          have := congrArg Addr.spot e1
          simpa [Addr.add] using this
        subst hs
        have add : ∀ j, (⟨ab, ao, none⟩ : Addr).add j = ⟨ab, ao + j, none⟩ := fun j => by unfold Addr.add; split <;> simp_all
        rw [add] at e1
        simp at e1
        refine ⟨ab, ao, rfl, by rw [e1.1]; exact e2, fun i hi => ?_⟩
        simp at hi
        obtain ⟨b', off', e3, e4, e5, -⟩ := hf i hi
        rw [add] at e3
        simp at e3
        simp only [List.getElem_map, List.getElem_range]
        rw [e3.1, e3.2]
        exact e5
    refine ⟨some a, cap, (List.range len).map fun i => (f i).1, by simpa using hcs, by simpa using hl, by omega, some a, cap, (List.range len).map fun i => (f i).2, by simp, by simp, by simpa using hrw, fun i h1 h2 => ?_⟩
    simp only [List.getElem_map, List.getElem_range]
    simp at h1
    obtain ⟨b', off', -, -, -, -, e6⟩ := hf i h1
    exact e6

theorem arg_open : ∀ (n : Nat) (cs : List Value) (x : DataW H × List MemPlace), DataW.trod enc Tryd.prog W 0 (fun _ => true) true n 30 cs = some x →
    ∃ a z, cs = [.int .i64 (El.t z), .int .i64 (El.n z), El.sl z] ∧ El.fit z ∧ IsG W a z.v := by
  intro n
  induction n using Nat.strongRecOn with
  | _ n ihn =>
    intro cs x h
    obtain ⟨xs, m, hn, hx, hl, hlen, hf⟩ := DataW.trod_struct Tryd.underlying30 h
    subst hn
    rw [cellsGa] at hl
    obtain ⟨c0, c1, c2, rfl⟩ := list3 hl
    match xs, hlen with
    | [y0, y1, y2], _ =>
      have f0 : DataW.trod enc Tryd.prog W 0 (fun _ => true) true m 3 [c0] = some y0 := by simpa [cellsGi] using hf 0 _ rfl
      have f1 : DataW.trod enc Tryd.prog W 0 (fun _ => true) true m 3 [c1] = some y1 := by simpa [cellsGi] using hf 1 _ rfl
      have f2 : DataW.trod enc Tryd.prog W 0 (fun _ => true) true m 25 [c2] = some y2 := by simpa [cellsGk] using hf 2 _ rfl
      obtain ⟨t, e0, -, w0⟩ := DataW.trod_int Tryd.underlying3 f0
      obtain ⟨k, e1, -, w1⟩ := DataW.trod_int Tryd.underlying3 f1
      obtain ⟨p, c, K, e2, hc, hm, hg⟩ := gs_of_trod f2 (fun j hj => ihn j (by omega))
      simp only [List.cons.injEq, and_true] at e0 e1 e2
      subst e0 e1 e2
      have hfit : El.fit ⟨t, k, p, K.length, c⟩ := by
        have b0 := bdI w0
        have b1 := bdI w1
        exact ⟨b0.1, b0.2, b1.1, b1.2, hc, hm⟩
      obtain ⟨p', c', L, he, hL, hr, hk⟩ := hg
      exact ⟨.mk t k K, ⟨t, k, p, K.length, c⟩, rfl, hfit, (isG_mk ..).2 ⟨p, c, L, rfl, hfit, hL, hr, hk⟩⟩
end
end Go.Proofs.YtfjibcldghnjcaaDoor


/-
  An operand that came in, as data: the tree that it reads as.
-/
namespace Go.Proofs.YtfjibcldghnjcaaDoor
open Go.ChangeShapes Go.WideShapes Go.ChangeAt Go.RowKit Go.Joins
set_option linter.unusedVariables false
set_option linter.unusedSimpArgs false

end Go.Proofs.YtfjibcldghnjcaaDoor
