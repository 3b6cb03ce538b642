
/-
  A script of calls that came in, as data.
-/
import Derived.Test.YtgdlilgkbjiiaaaArOp
import Derived.Test.YtgdlilgkbjiiaaaWordBd
import Derived.ProofKit
import Derived.OpenShut
import Derived.ChangeSlices
import Derived.SizedLaws
import Derived.Lib.SmallJoins
namespace Go.Proofs.Ytgdlilgkbjiiaaa
open Go.ChangeShapes Go.WideShapes Go.ChangeAt Go.RowKit Go.Joins
set_option linter.unusedVariables false
set_option linter.unusedSimpArgs false

theorem cellsQi : Try.prog.cellsOf 3 = 1 := by kernel_rfl
theorem cellsQw : Try.prog.cellsOf 27 = 1 := by kernel_rfl
theorem cellsQo : Try.prog.cellsOf 29 = 3 := by kernel_rfl
section
variable {H : Type} {enc : TypeId × Value → H} {W : World}

theorem cl_open {n : Nat} {cs : List Value} {x : DataW H × List MemPlace} (h : DataW.trod enc Try.prog W 0 (fun _ => true) true n 29 cs = some x) :
    ∃ c : Cl, cs = [.int .i64 c.1, .int .i64 c.2.1, .int .u64 c.2.2] ∧ c.ok := by
  obtain ⟨xs, m, hn, hx, hl, hlen, hf⟩ := DataW.trod_struct Try.underlying29 h
  rw [cellsQo] at hl
  match cs, hl with
  | [c0, c1, c2], _ =>
    match xs, hlen with
    | [y0, y1, y2], _ =>
      have f0 : DataW.trod enc Try.prog W 0 (fun _ => true) true m 3 [c0] = some y0 := by simpa [cellsQi] using hf 0 _ rfl
      have f1 : DataW.trod enc Try.prog W 0 (fun _ => true) true m 3 [c1] = some y1 := by simpa [cellsQi] using hf 1 _ rfl
      have f2 : DataW.trod enc Try.prog W 0 (fun _ => true) true m 27 [c2] = some y2 := by simpa [cellsQi, cellsQw] using hf 2 _ rfl
      obtain ⟨t, e0, -, w0⟩ := DataW.trod_int Try.underlying3 f0
      obtain ⟨k, e1, -, w1⟩ := DataW.trod_int Try.underlying3 f1
      obtain ⟨u, e2, -, w2⟩ := DataW.trod_int Try.underlying27 f2
      simp only [List.cons.injEq, and_true] at e0 e1 e2
      subst e0 e1 e2
      have := bdX w2
      exact ⟨(t, k, u), rfl, bdI w0, bdI w1, by dsimp only; omega⟩

theorem at3_of_cells {a : Addr} {c : Cl} (h : W.cells? 0 a 3 = some [.int .i64 c.1, .int .i64 c.2.1, .int .u64 c.2.2]) : ∃ b off, a = ⟨b, off, none⟩ ∧ b < W.heap.size ∧ At3c W b off c := by
  obtain ⟨hb, hl, hc⟩ := World.cells?_some h
  obtain ⟨b, off, spot⟩ := a
  have h0 : W.cell? ((⟨b, off, spot⟩ : Addr).add 0) = some (.int .i64 c.1) := hc 0 (by omega)
  have hspot : spot = none := by simpa [Addr.add] using World.cell?_spot h0
  subst hspot
  have add : ∀ j, (⟨b, off, none⟩ : Addr).add j = ⟨b, off + j, none⟩ := fun j => by unfold Addr.add; split <;> simp_all
  have g0 : W.cell? ⟨b, off, none⟩ = some (.int .i64 c.1) := by rw [add] at h0; exact h0
  have g1 : W.cell? ⟨b, off + 1, none⟩ = some (.int .i64 c.2.1) := by have := hc 1 (by omega); rw [add] at this; exact this
  have g2 : W.cell? ⟨b, off + 2, none⟩ = some (.int .u64 c.2.2) := by have := hc 2 (by omega); rw [add] at this; exact this
  exact ⟨b, off, rfl, World.block_lt_of_cell? W _ g0, g0, g1, g2⟩

/-- A slice of calls that came in. -/
theorem sc_of_trod {n : Nat} {cs : List Value} {x : DataW H × List MemPlace} (h : DataW.trod enc Try.prog W 0 (fun _ => true) true n 22 cs = some x) :
    ∃ s K, cs = [s] ∧ Sc W s K := by
  rcases DataW.trod_slice Try.underlying22 h with ⟨hcs, _⟩ | ⟨a, len, cap, elems, rest, m, hn, hcs, hx, hb, hl, hm, hlen, hel, hsp, hns⟩
  · exact ⟨_, [], hcs, Sc.nil W⟩
  · subst hn
    have each : ∀ i, i < len → ∃ (c : Cl) (b off : Nat), a.add (i * 3) = ⟨b, off, none⟩ ∧ b < W.heap.size ∧ At3c W b off c ∧ c.ok := by
      intro i hi
      have h1 := hel i hi
      rw [cellsQo, List.getElem?_eq_getElem (by omega), Option.bind_eq_some_iff] at h1
      obtain ⟨cs', hc, ht⟩ := h1
      obtain ⟨c, rfl, hk⟩ := cl_open ht
      obtain ⟨b, off, e1, e2, e3⟩ := at3_of_cells hc
      exact ⟨c, b, off, e1, e2, e3, hk⟩
    have hp : ∀ i : Nat, ∃ c : Cl, i < len → ∃ b off : Nat, a.add (i * 3) = ⟨b, off, none⟩ ∧ b < W.heap.size ∧ At3c W b off c ∧ c.ok := by
      intro i
      by_cases hi : i < len
      · obtain ⟨c, h⟩ := each i hi
        exact ⟨c, fun _ => h⟩
      · exact ⟨((0 : Int), (0 : Int), (0 : Int)), fun h => absurd h hi⟩
    obtain ⟨f, hf⟩ := Classical.axiomOfChoice hp
    refine ⟨_, (List.range len).map f, hcs, ?_, some a, cap, by simp, by simpa using hl, by simpa [maxLen] using hm, fun e => (by cases e), fun h0 => ?_⟩
    · intro c hc
      simp only [List.mem_map, List.mem_range] at hc
      obtain ⟨i, hi, rfl⟩ := hc
      obtain ⟨b, off, -, -, -, h⟩ := hf i hi
      exact h
    · simp at h0
      obtain ⟨b, off, e1, e2, -⟩ := hf 0 h0
      obtain ⟨ab, ao, asp⟩ := a
      have hs : asp = none := by
        have := congrArg Addr.spot e1
        simpa [Addr.add] using this
      subst hs
      have add : ∀ j, (⟨ab, ao, none⟩ : Addr).add j = ⟨ab, ao + j, none⟩ := fun j => by unfold Addr.add; split <;> simp_all
      rw [add] at e1
      simp at e1
      refine ⟨ab, ao, rfl, by rw [e1.1]; exact e2, fun i hi => ?_⟩
      simp at hi
      obtain ⟨b', off', e3, e4, e5, -⟩ := hf i hi
      rw [add] at e3
      simp at e3
      simp only [List.getElem_map, List.getElem_range]
      rw [e3.1, e3.2]
      exact e5
end
end Go.Proofs.Ytgdlilgkbjiiaaa
