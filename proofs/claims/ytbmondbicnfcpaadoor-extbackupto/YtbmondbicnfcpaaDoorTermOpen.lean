/-
  A term that came in, as data: the tree that it reads as.
-/
import Derived.Test.YtbmondbicnfcpaaDoorZTermA
import Derived.Test.YtbmondbicnfcpaaDoorZLimbA
import Derived.ProofKit
import Derived.OpenShut
import Derived.ChangeSlices
import Derived.SizedLaws
import Derived.Lib.SmallJoins
namespace Go.Proofs.YtbmondbicnfcpaaDoor
open Go.ChangeShapes Go.WideShapes Go.ChangeAt Go.RowKit Go.Joins
set_option linter.unusedVariables false
set_option linter.unusedSimpArgs false

theorem cellsT1 : Tryd.prog.cellsOf 3 = 1 := by kernel_rfl
theorem cellsTb : Tryd.prog.cellsOf 4 = 1 := by kernel_rfl
theorem cellsTs : Tryd.prog.cellsOf 9 = 1 := by kernel_rfl
theorem cellsTn : Tryd.prog.cellsOf 26 = 2 := by kernel_rfl
theorem cellsTk : Tryd.prog.cellsOf 27 = 1 := by kernel_rfl
theorem cellsTl : Tryd.prog.cellsOf 24 = 1 := by kernel_rfl
theorem cellsTu : Tryd.prog.cellsOf 59 = 1 := by kernel_rfl
theorem cellsTt : Tryd.prog.cellsOf 29 = 6 := by kernel_rfl

theorem list6 {α : Type} {cs : List α} (h : cs.length = 6) : ∃ c0 c1 c2 c3 c4 c5, cs = [c0, c1, c2, c3, c4, c5] := by
  match cs, h with
  | [c0, c1, c2, c3, c4, c5], _ => exact ⟨c0, c1, c2, c3, c4, c5, rfl⟩

section
variable {H : Type} {enc : TypeId × Value → H} {W : World}

theorem sl_of_trod {n : Nat} {cs : List Value} {x : DataW H × List MemPlace} (h : DataW.trod enc Tryd.prog W 0 (fun _ => true) true n 24 cs = some x) : ∃ s zs, cs = [s] ∧ Sl W s zs := by
  rcases open_ints Tryd.underlying24 Tryd.underlying59 cellsTu h with ⟨hcs, _⟩ | ⟨a, l, c, zs, hcs, _, hl, hm, hz, _, hcell, hwz⟩
  · exact ⟨_, [], hcs, Sl.nil W⟩
  · refine ⟨_, zs.take l, hcs, sl_of_row (.inr ⟨a, rfl, hl, hm, by simpa using hz, hcell, hwz⟩)⟩

theorem at6_of_cells {a : Addr} {cs : List Value} (h : W.cells? 0 a 6 = some cs) : ∃ b off c0 c1 c2 c3 c4 c5, a = ⟨b, off, none⟩ ∧ b < W.heap.size ∧ cs = [c0, c1, c2, c3, c4, c5] ∧ At6 W b off (.agg #[c0, c1, c2, c3, c4, c5]) := by
  obtain ⟨hb, hl, hc⟩ := World.cells?_some h
  obtain ⟨c0, c1, c2, c3, c4, c5, rfl⟩ := list6 hl
  obtain ⟨b, off, spot⟩ := a
  have h0 : W.cell? ((⟨b, off, spot⟩ : Addr).add 0) = some c0 := hc 0 (by omega)
  have hspot : spot = none := by simpa [Addr.add] using World.cell?_spot h0
  subst hspot
  have add : ∀ j, (⟨b, off, none⟩ : Addr).add j = ⟨b, off + j, none⟩ := fun j => by unfold Addr.add; split <;> simp_all
  have g0 : W.cell? ⟨b, off, none⟩ = some c0 := by rw [add] at h0; exact h0
  have g1 : W.cell? ⟨b, off + 1, none⟩ = some c1 := by have := hc 1 (by omega); rw [add] at this; exact this
  have g2 : W.cell? ⟨b, off + 2, none⟩ = some c2 := by have := hc 2 (by omega); rw [add] at this; exact this
  have g3 : W.cell? ⟨b, off + 3, none⟩ = some c3 := by have := hc 3 (by omega); rw [add] at this; exact this
  have g4 : W.cell? ⟨b, off + 4, none⟩ = some c4 := by have := hc 4 (by omega); rw [add] at this; exact this
  have g5 : W.cell? ⟨b, off + 5, none⟩ = some c5 := by have := hc 5 (by omega); rw [add] at this; exact this
  exact ⟨b, off, c0, c1, c2, c3, c4, c5, rfl, World.block_lt_of_cell? W _ g0, rfl, c0, c1, c2, c3, c4, c5, rfl, g0, g1, g2, g3, g4, g5⟩

theorem reach_le {n : Nat} (h : n ≤ reachBytes) : (n : Int) ≤ 140737488355328 := by
  unfold reachBytes at h
  omega

theorem all_app {l r : List Nat} (h : (l ++ r).all (fun n => decide (n ≤ reachBytes)) = true) : l.all (fun n => decide (n ≤ reachBytes)) = true ∧ r.all (fun n => decide (n ≤ reachBytes)) = true := by
  rw [List.all_append, Bool.and_eq_true] at h
  exact h
theorem all_elem : ∀ {l : List (DataW H)} {i : Nat} {d : DataW H} {e : TypeId}, (DataW.weightsAll Tryd.prog e l).all (fun n => decide (n ≤ reachBytes)) = true → l[i]? = some d → (d.weights Tryd.prog e).all (fun n => decide (n ≤ reachBytes)) = true
  | [], i, d, e, _, hi => by simp at hi
  | x :: l, 0, d, e, h, hi => by
    simp only [DataW.weightsAll] at h
    simp at hi
    subst hi
    exact (all_app h).1
  | x :: l, i + 1, d, e, h, hi => by
    simp only [DataW.weightsAll] at h
    exact all_elem (all_app h).2 (by simpa using hi)

/-- A slice of terms, each of which is a tree. -/
theorem ts_of_trod {n : Nat} {cs : List Value} {x : DataW H × List MemPlace} (h : DataW.trod enc Tryd.prog W 0 (fun _ => true) true n 27 cs = some x) (hw : (x.1.weights Tryd.prog 27).all (fun n => decide (n ≤ reachBytes)) = true)
    (ih : ∀ (m : Nat), m < n → ∀ (cs : List Value) (y : DataW H × List MemPlace), DataW.trod enc Tryd.prog W 0 (fun _ => true) true m 29 cs = some y → (y.1.weights Tryd.prog 29).all (fun n => decide (n ≤ reachBytes)) = true → ∃ t c0 c1 c2 c3 c4 c5, cs = [c0, c1, c2, c3, c4, c5] ∧ IsT W t (.agg #[c0, c1, c2, c3, c4, c5])) :
    ∃ s K, cs = [s] ∧ Ts W s K := by
  rcases DataW.trod_slice Tryd.underlying27 h with ⟨hcs, _⟩ | ⟨a, len, cap, elems, rest, m, hn, hcs, hx, hb, hl, hm, hlen, hel, hsp, hns⟩
  · exact ⟨_, [], hcs, Ts.nil W⟩
  · subst hn
    have hwe : (DataW.weightsAll Tryd.prog 29 (elems.map (·.1))).all (fun n => decide (n ≤ reachBytes)) = true := by
      rw [hx] at hw
      simp only [DataW.weights, Tryd.underlying27, List.all_cons, Bool.and_eq_true] at hw
      exact (all_app hw.2).1
    have each : ∀ i, i < len → ∃ (t : Tm) (v : Value) (b off : Nat), a.add (i * 6) = ⟨b, off, none⟩ ∧ b < W.heap.size ∧ At6 W b off v ∧ IsT W t v := by
      intro i hi
      have h1 := hel i hi
      rw [cellsTt, List.getElem?_eq_getElem (by omega), Option.bind_eq_some_iff] at h1
      obtain ⟨cs', hc, ht⟩ := h1
      obtain ⟨b, off, c0, c1, c2, c3, c4, c5, e1, e2, e3, e4⟩ := at6_of_cells hc
      obtain ⟨t, d0, d1, d2, d3, d4, d5, e5, e6⟩ := ih m (by omega) cs' _ ht (all_elem (i := i) hwe (by rw [List.getElem?_map, List.getElem?_eq_getElem (by omega)]; rfl))
      rw [e3] at e5
      simp only [List.cons.injEq, and_true] at e5
      obtain ⟨rfl, rfl, rfl, rfl, rfl, rfl⟩ := e5
      exact ⟨t, _, b, off, e1, e2, e4, e6⟩
    have hp : ∀ i : Nat, ∃ p : Tm × Value, i < len → ∃ b off : Nat, a.add (i * 6) = ⟨b, off, none⟩ ∧ b < W.heap.size ∧ At6 W b off p.2 ∧ IsT W p.1 p.2 := by
      intro i
      by_cases hi : i < len
      · obtain ⟨t, v, b, off, h⟩ := each i hi
        exact ⟨(t, v), fun _ => ⟨b, off, h⟩⟩
      · exact ⟨(tmNil, .bool false), fun h => absurd h hi⟩
    obtain ⟨f, hf⟩ := Classical.axiomOfChoice hp
    refine ⟨_, (List.range len).map (fun i => (f i).1), hcs, some a, cap, fun i => (f i).2, by simp, ⟨by simpa using hl, by simpa [maxLen] using hm, fun e => (by cases e), fun h0 => ?_⟩, fun i hi => ?_⟩
    · simp at h0
      obtain ⟨b, off, e1, e2, -⟩ := hf 0 h0
      obtain ⟨ab, ao, asp⟩ := a
      have hs : asp = none := by
        have := congrArg Addr.spot e1
        simpa [Addr.add] using this
      subst hs
      have add : ∀ j, (⟨ab, ao, none⟩ : Addr).add j = ⟨ab, ao + j, none⟩ := fun j => by unfold Addr.add; split <;> simp_all
      rw [add] at e1
      simp at e1
      refine ⟨ab, ao, rfl, by rw [e1.1]; exact e2, fun i hi => ?_⟩
      simp at hi
      obtain ⟨b', off', e3, e4, e5, -⟩ := hf i hi
      rw [add] at e3
      simp at e3
      rw [e3.1, e3.2]
      exact e5
    · simp at hi
      obtain ⟨b', off', e3, e4, e5, e6⟩ := hf i hi
      simpa using e6

theorem term_open : ∀ (n : Nat) (cs : List Value) (x : DataW H × List MemPlace), DataW.trod enc Tryd.prog W 0 (fun _ => true) true n 29 cs = some x → (x.1.weights Tryd.prog 29).all (fun n => decide (n ≤ reachBytes)) = true →
    ∃ t c0 c1 c2 c3 c4 c5, cs = [c0, c1, c2, c3, c4, c5] ∧ IsT W t (.agg #[c0, c1, c2, c3, c4, c5]) := by
  intro n
  induction n using Nat.strongRecOn with
  | _ n ihn =>
    intro cs x h hw
    obtain ⟨xs, m, hn, hx, hl, hlen, hf⟩ := DataW.trod_struct Tryd.underlying29 h
    subst hn
    rw [cellsTt] at hl
    obtain ⟨c0, c1, c2, c3, c4, c5, rfl⟩ := list6 hl
    match xs, hlen with
    | [y0, y1, y2, y3, y4], _ =>
      have f0 : DataW.trod enc Tryd.prog W 0 (fun _ => true) true m 3 [c0] = some y0 := by simpa [cellsT1] using hf 0 _ rfl
      have f1 : DataW.trod enc Tryd.prog W 0 (fun _ => true) true m 26 [c1, c2] = some y1 := by simpa [cellsTn] using hf 1 _ rfl
      have f2 : DataW.trod enc Tryd.prog W 0 (fun _ => true) true m 9 [c3] = some y2 := by simpa [cellsTs] using hf 2 _ rfl
      have f3 : DataW.trod enc Tryd.prog W 0 (fun _ => true) true m 3 [c4] = some y3 := by simpa [cellsT1] using hf 3 _ rfl
      have f4 : DataW.trod enc Tryd.prog W 0 (fun _ => true) true m 27 [c5] = some y4 := by simpa [cellsTk] using hf 4 _ rfl
      rw [hx] at hw
      simp only [DataW.weights, Tryd.underlying29, List.map_cons, List.map_nil, DataW.weightsEach, List.append_nil] at hw
      obtain ⟨-, hw⟩ := all_app hw
      obtain ⟨-, hw⟩ := all_app hw
      obtain ⟨hw2, hw⟩ := all_app hw
      obtain ⟨-, hw4⟩ := all_app hw
      obtain ⟨k, e0, -, w0⟩ := DataW.trod_int Tryd.underlying3 f0
      obtain ⟨N, e3, -, w3⟩ := DataW.trod_int Tryd.underlying3 f3
      obtain ⟨S, e2, hS, -⟩ := DataW.trod_string Tryd.underlying9 f2
      obtain ⟨ys, m', hm', -, -, hlen', hf'⟩ := DataW.trod_struct Tryd.underlying26 f1
      match ys, hlen' with
      | [z0, z1], _ =>
        have g0 : DataW.trod enc Tryd.prog W 0 (fun _ => true) true m' 4 [c1] = some z0 := by simpa [cellsTb] using hf' 0 _ rfl
        have g1 : DataW.trod enc Tryd.prog W 0 (fun _ => true) true m' 24 [c2] = some z1 := by simpa [cellsTl] using hf' 1 _ rfl
        obtain ⟨b, e1, -⟩ := DataW.trod_bool Tryd.underlying4 g0
        obtain ⟨s, zs, e1', hsl⟩ := sl_of_trod g1
        obtain ⟨sk, K, e4, hts⟩ := ts_of_trod f4 hw4 (fun j hj => ihn j (by omega))
        simp only [List.cons.injEq, and_true] at e0 e1 e1' e2 e3 e4
        subst e0 e1 e1' e2 e3 e4
        refine ⟨.mk k b zs S N K, _, _, _, _, _, _, rfl, IsT.shut (bd64 w0) (bd64 w3) ?_ hsl hts⟩
        rw [hS] at hw2
        simp only [DataW.weights, List.all_cons, List.all_nil, Bool.and_true, decide_eq_true_eq] at hw2
        exact reach_le (by simpa using hw2)
end
end Go.Proofs.YtbmondbicnfcpaaDoor
