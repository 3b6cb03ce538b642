/-
  Bytes, chunks and texts that came in, as data.
-/
import Derived.Test.YtifofcodmgglkaaIffBase
import Derived.ProofKit
import Derived.OpenShut
import Derived.ChangeSlices
import Derived.SizedLaws
import Derived.Lib.SmallJoins
namespace Go.Proofs.Ytifofcodmgglkaa
open Go.ChangeShapes Go.WideShapes Go.ChangeAt Go.RowKit Go.Joins
set_option linter.unusedVariables false
set_option linter.unusedSimpArgs false

theorem bd64 {n : Int} (h : (Lit.int .i64 n).wf = true) : -9223372036854775808 ≤ n ∧ n ≤ 9223372036854775807 := by
  simp [Lit.wf, IntKind.min, IntKind.max, IntKind.signed, IntKind.bits] at h
  omega
theorem bdu32 {n : Int} (h : (Lit.int .u32 n).wf = true) : 0 ≤ n ∧ n ≤ 4294967295 := by
  simp [Lit.wf, IntKind.min, IntKind.max, IntKind.signed, IntKind.bits] at h
  omega

/-- Bytes that came in. -/
theorem by_of_row {w : World} {a : Option Addr} {len cap : Nat} {zs : List Int}
    (h : (a = none ∧ len = 0 ∧ cap = 0 ∧ zs = []) ∨
      ∃ x, a = some x ∧ len ≤ cap ∧ cap ≤ maxLen ∧ zs.length = cap ∧ (∀ i, i < zs.length → w.cell? (x.add i) = some (.int .u8 (zs.getD i 0))) ∧ ∀ n ∈ zs, (Lit.int .u8 n).wf = true) :
    By w (.slice a len cap) ((zs.take len).map fun z => UInt8.ofNat z.toNat) := by
  rcases h with ⟨rfl, rfl, rfl, rfl⟩ | ⟨x, rfl, hl, hm, hz, hc, hw⟩
  · exact By.nil w
  · have hlen : ((zs.take len).map fun z => UInt8.ofNat z.toNat).length = len := by simp; omega
    refine ⟨_, cap, by rw [hlen], by rw [hlen]; exact hl, by simpa [maxLen] using hm, fun e => (by cases e), fun h0 => ?_⟩
    rw [hlen] at h0
    obtain ⟨b, off, spot⟩ := x
    have h1 := hc 0 (by omega)
    have hspot : spot = none := by simpa [Addr.add] using World.cell?_spot h1
    subst hspot
    have hlt : b < w.heap.size := by
      have := World.block_lt_of_cell? w _ h1
      simpa [Addr.add] using this
    refine ⟨b, off, rfl, hlt, fun i hi => ?_⟩
    rw [hlen] at hi
    have h2 := hc i (by omega)
    rw [show (⟨b, off, none⟩ : Addr).add i = ⟨b, off + i, none⟩ by unfold Addr.add; split <;> simp_all] at h2
    rw [h2]
    have hzi : zs.getD i 0 = zs[i] := by simp [List.getD, show i < zs.length by omega]
    have hwi := hw zs[i] (List.getElem_mem _)
    simp [Lit.wf, IntKind.min, IntKind.max, IntKind.signed, IntKind.bits] at hwi
    have hg : ((zs.take len).map fun z => UInt8.ofNat z.toNat).getD i 0 = UInt8.ofNat (zs[i]).toNat := by
      simp [List.getD, List.getElem?_take, hi, show i < zs.length by omega]
    rw [hzi, hg, u8n]
    congr 2
    omega

theorem cellsS : Try.prog.cellsOf 9 = 1 := by kernel_rfl
theorem cellsC : Try.prog.cellsOf 39 = 2 := by kernel_rfl

section
variable {H : Type} {enc : TypeId × Value → H} {W : World}

theorem reach_le {n : Nat} (h : n ≤ reachBytes) : (n : Int) ≤ 140737488355328 := by
  unfold reachBytes at h
  omega
theorem all_app {l r : List Nat} (h : (l ++ r).all (fun n => decide (n ≤ reachBytes)) = true) : l.all (fun n => decide (n ≤ reachBytes)) = true ∧ r.all (fun n => decide (n ≤ reachBytes)) = true := by
  rw [List.all_append, Bool.and_eq_true] at h
  exact h
theorem all_elem : ∀ {l : List (DataW H)} {i : Nat} {d : DataW H} {e : TypeId}, (DataW.weightsAll Try.prog e l).all (fun n => decide (n ≤ reachBytes)) = true → l[i]? = some d → (d.weights Try.prog e).all (fun n => decide (n ≤ reachBytes)) = true
  | [], i, d, e, _, hi => by simp at hi
  | x :: l, 0, d, e, h, hi => by
    simp only [DataW.weightsAll] at h
    simp at hi
    subst hi
    exact (all_app h).1
  | x :: l, i + 1, d, e, h, hi => by
    simp only [DataW.weightsAll] at h
    exact all_elem (all_app h).2 (by simpa using hi)

theorem str_open {n : Nat} {c : Value} {x : DataW H × List MemPlace} (h : DataW.trod enc Try.prog W 0 (fun _ => true) true n 9 [c] = some x) (hw : (x.1.weights Try.prog 9).all (fun n => decide (n ≤ reachBytes)) = true) : ∃ S : ByteArray, c = .string S ∧ (S.size : Int) ≤ 140737488355328 := by
  obtain ⟨S, e2, hS, -⟩ := DataW.trod_string Try.underlying9 h
  simp only [List.cons.injEq, and_true] at e2
  refine ⟨S, e2, ?_⟩
  rw [hS] at hw
  simp only [DataW.weights, List.all_cons, List.all_nil, Bool.and_true, decide_eq_true_eq] at hw
  exact reach_le (by simpa using hw)

theorem ck_open {n : Nat} {cs : List Value} {x : DataW H × List MemPlace} (h : DataW.trod enc Try.prog W 0 (fun _ => true) true n 39 cs = some x) (hw : (x.1.weights Try.prog 39).all (fun n => decide (n ≤ reachBytes)) = true) :
    ∃ c : Ck, cs = [.string c.1, .string c.2] ∧ (c.1.size : Int) ≤ 140737488355328 ∧ (c.2.size : Int) ≤ 140737488355328 := by
  obtain ⟨xs, m, hn, hx, hl, hlen, hf⟩ := DataW.trod_struct Try.underlying39 h
  rw [cellsC] at hl
  match cs, hl with
  | [c0, c1], _ =>
    match xs, hlen with
    | [y0, y1], _ =>
      have f0 : DataW.trod enc Try.prog W 0 (fun _ => true) true m 9 [c0] = some y0 := by simpa [cellsS] using hf 0 _ rfl
      have f1 : DataW.trod enc Try.prog W 0 (fun _ => true) true m 9 [c1] = some y1 := by simpa [cellsS] using hf 1 _ rfl
      rw [hx] at hw
      simp only [DataW.weights, Try.underlying39, List.map_cons, List.map_nil, DataW.weightsEach, List.append_nil] at hw
      obtain ⟨hw0, hw1⟩ := all_app hw
      obtain ⟨S, rfl, s1⟩ := str_open f0 hw0
      obtain ⟨S2, rfl, s2⟩ := str_open f1 hw1
      exact ⟨(S, S2), rfl, s1, s2⟩

theorem at2_of_cells {a : Addr} {x y : Value} (h : W.cells? 0 a 2 = some [x, y]) : ∃ b off, a = ⟨b, off, none⟩ ∧ b < W.heap.size ∧ W.cell? ⟨b, off, none⟩ = some x ∧ W.cell? ⟨b, off + 1, none⟩ = some y := by
  obtain ⟨hb, hl, hc⟩ := World.cells?_some h
  obtain ⟨b, off, spot⟩ := a
  have h0 : W.cell? ((⟨b, off, spot⟩ : Addr).add 0) = some x := hc 0 (by omega)
  have hspot : spot = none := by simpa [Addr.add] using World.cell?_spot h0
  subst hspot
  have add : ∀ j, (⟨b, off, none⟩ : Addr).add j = ⟨b, off + j, none⟩ := fun j => by unfold Addr.add; split <;> simp_all
  have g0 : W.cell? ⟨b, off, none⟩ = some x := by rw [add] at h0; exact h0
  have g1 : W.cell? ⟨b, off + 1, none⟩ = some y := by have := hc 1 (by omega); rw [add] at this; exact this
  exact ⟨b, off, rfl, World.block_lt_of_cell? W _ g0, g0, g1⟩

/-- A slice of chunks that came in. -/
theorem ch_of_trod {n : Nat} {cs : List Value} {x : DataW H × List MemPlace} (h : DataW.trod enc Try.prog W 0 (fun _ => true) true n 23 cs = some x) (hw : (x.1.weights Try.prog 23).all (fun n => decide (n ≤ reachBytes)) = true) :
    ∃ s K, cs = [s] ∧ Ch W s K := by
  rcases DataW.trod_slice Try.underlying23 h with ⟨hcs, _⟩ | ⟨a, len, cap, elems, rest, m, hn, hcs, hx, hb, hl, hm, hlen, hel, hsp, hns⟩
  · exact ⟨_, [], hcs, Ch.nil W⟩
  · subst hn
    have hwe : (DataW.weightsAll Try.prog 39 (elems.map (·.1))).all (fun n => decide (n ≤ reachBytes)) = true := by
      rw [hx] at hw
      simp only [DataW.weights, Try.underlying23, List.all_cons, Bool.and_eq_true] at hw
      exact (all_app hw.2).1
    have each : ∀ i, i < len → ∃ (c : Ck) (b off : Nat), a.add (i * 2) = ⟨b, off, none⟩ ∧ b < W.heap.size ∧ W.cell? ⟨b, off, none⟩ = some (.string c.1) ∧ W.cell? ⟨b, off + 1, none⟩ = some (.string c.2) ∧ (c.1.size : Int) ≤ 140737488355328 ∧ (c.2.size : Int) ≤ 140737488355328 := by
      intro i hi
      have h1 := hel i hi
      rw [cellsC, List.getElem?_eq_getElem (by omega), Option.bind_eq_some_iff] at h1
      obtain ⟨cs', hc, ht⟩ := h1
      obtain ⟨c, rfl, s1, s2⟩ := ck_open ht (all_elem (i := i) hwe (by rw [List.getElem?_map, List.getElem?_eq_getElem (by omega)]; rfl))
      obtain ⟨b, off, e1, e2, e3, e4⟩ := at2_of_cells hc
      exact ⟨c, b, off, e1, e2, e3, e4, s1, s2⟩
    have hp : ∀ i : Nat, ∃ c : Ck, i < len → ∃ b off : Nat, a.add (i * 2) = ⟨b, off, none⟩ ∧ b < W.heap.size ∧ W.cell? ⟨b, off, none⟩ = some (.string c.1) ∧ W.cell? ⟨b, off + 1, none⟩ = some (.string c.2) ∧ (c.1.size : Int) ≤ 140737488355328 ∧ (c.2.size : Int) ≤ 140737488355328 := by
      intro i
      by_cases hi : i < len
      · obtain ⟨c, h⟩ := each i hi
        exact ⟨c, fun _ => h⟩
      · exact ⟨ckZ, fun h => absurd h hi⟩
    obtain ⟨f, hf⟩ := Classical.axiomOfChoice hp
    refine ⟨_, (List.range len).map f, hcs, ?_, some a, cap, by simp, by simpa using hl, by simpa [maxLen] using hm, fun e => (by cases e), fun h0 => ?_⟩
    · intro c hc
      simp only [List.mem_map, List.mem_range] at hc
      obtain ⟨i, hi, rfl⟩ := hc
      obtain ⟨b, off, -, -, -, -, s1, s2⟩ := hf i hi
      exact ⟨s1, s2⟩
    · simp at h0
      obtain ⟨b, off, e1, e2, -⟩ := hf 0 h0
      obtain ⟨ab, ao, asp⟩ := a
      have hs : asp = none := by
        have := congrArg Addr.spot e1
        simpa [Addr.add] using this
      subst hs
      have add : ∀ j, (⟨ab, ao, none⟩ : Addr).add j = ⟨ab, ao + j, none⟩ := fun j => by unfold Addr.add; split <;> simp_all
      rw [add] at e1
      simp at e1
      refine ⟨ab, ao, rfl, by rw [e1.1]; exact e2, fun i hi => ?_⟩
      simp at hi
      obtain ⟨b', off', e3, e4, e5, e6, -⟩ := hf i hi
      rw [add] at e3
      simp at e3
      simp only [List.getElem_map, List.getElem_range]
      rw [e3.1, e3.2]
      exact ⟨e5, e6⟩

/-- The slice v has in w the texts. -/
def Ss (w : World) (v : Value) (ss : List ByteArray) : Prop :=
  (∀ s ∈ ss, (s.size : Int) ≤ 140737488355328) ∧ ∃ a cap, v = .slice a ss.length cap ∧ ss.length ≤ cap ∧ cap ≤ 9223372036854775807 ∧ (a = none → cap = 0) ∧
    (0 < ss.length → ∃ b off, a = some ⟨b, off, none⟩ ∧ b < w.heap.size ∧ ∀ i (h : i < ss.length), w.cell? ⟨b, off + i, none⟩ = some (.string ss[i]))
theorem Ss.shape {w : World} {v : Value} {l : List ByteArray} (h : Ss w v l) : ∃ a cap, v = .slice a l.length cap ∧ l.length ≤ cap ∧ (cap : Int) ≤ 9223372036854775807 ∧ (a = none → cap = 0) := by
  obtain ⟨_, a, cap, rfl, h1, h2, h3, _⟩ := h
  exact ⟨a, cap, rfl, h1, by omega, h3⟩
theorem Ss.under {w w' : World} {v : Value} {l : List ByteArray} (h : Ss w v l) (hb : Below w.heap.size w w') : Ss w' v l := by
  obtain ⟨hs, a, cap, rfl, hl, hc, hn, hp⟩ := h
  refine ⟨hs, a, cap, rfl, hl, hc, hn, fun h0 => ?_⟩
  obtain ⟨b, off, rfl, hlt, hcell⟩ := hp h0
  refine ⟨b, off, rfl, Nat.lt_of_lt_of_le hlt hb.size, fun i hi => ?_⟩
  rw [hb.cell (p := ⟨b, off + i, none⟩) hlt]
  exact hcell i hi
theorem Ss.at {w : World} {a : Option Addr} {n cap : Nat} {l : List ByteArray} (h : Ss w (.slice a n cap) l) (k : Nat) (hk : k < l.length) :
    ∃ b off, a = some ⟨b, off, none⟩ ∧ b < w.heap.size ∧ w.cell? ⟨b, off + k, none⟩ = some (.string l[k]) ∧ (l[k].size : Int) ≤ 140737488355328 := by
  obtain ⟨hs, a', cap', he, _, _, _, hp⟩ := h
  injection he with e1 e2 e3
  subst e1; subst e2; subst e3
  obtain ⟨b, off, rfl, hlt, hc⟩ := hp (by omega)
  exact ⟨b, off, rfl, hlt, hc k hk, hs _ (List.getElem_mem hk)⟩

theorem at1_of_cells {a : Addr} {x : Value} (h : W.cells? 0 a 1 = some [x]) : ∃ b off, a = ⟨b, off, none⟩ ∧ b < W.heap.size ∧ W.cell? ⟨b, off, none⟩ = some x := by
  obtain ⟨hb, hl, hc⟩ := World.cells?_some h
  obtain ⟨b, off, spot⟩ := a
  have h0 : W.cell? ((⟨b, off, spot⟩ : Addr).add 0) = some x := hc 0 (by omega)
  have hspot : spot = none := by simpa [Addr.add] using World.cell?_spot h0
  subst hspot
  have add : ∀ j, (⟨b, off, none⟩ : Addr).add j = ⟨b, off + j, none⟩ := fun j => by unfold Addr.add; split <;> simp_all
  have g0 : W.cell? ⟨b, off, none⟩ = some x := by rw [add] at h0; exact h0
  exact ⟨b, off, rfl, World.block_lt_of_cell? W _ g0, g0⟩

theorem ss_of_trod {n : Nat} {cs : List Value} {x : DataW H × List MemPlace} (h : DataW.trod enc Try.prog W 0 (fun _ => true) true n 41 cs = some x) (hw : (x.1.weights Try.prog 41).all (fun n => decide (n ≤ reachBytes)) = true) :
    ∃ s K, cs = [s] ∧ Ss W s K := by
  rcases DataW.trod_slice Try.underlying41 h with ⟨hcs, _⟩ | ⟨a, len, cap, elems, rest, m, hn, hcs, hx, hb, hl, hm, hlen, hel, hsp, hns⟩
  · exact ⟨_, [], hcs, fun s hs => by simp at hs, none, 0, rfl, Nat.le_refl _, by decide, fun _ => rfl, fun h => absurd h (by decide)⟩
  · subst hn
    have hwe : (DataW.weightsAll Try.prog 9 (elems.map (·.1))).all (fun n => decide (n ≤ reachBytes)) = true := by
      rw [hx] at hw
      simp only [DataW.weights, Try.underlying41, List.all_cons, Bool.and_eq_true] at hw
      exact (all_app hw.2).1
    have each : ∀ i, i < len → ∃ (c : ByteArray) (b off : Nat), a.add i = ⟨b, off, none⟩ ∧ b < W.heap.size ∧ W.cell? ⟨b, off, none⟩ = some (.string c) ∧ (c.size : Int) ≤ 140737488355328 := by
      intro i hi
      have h1 := hel i hi
      rw [cellsS, List.getElem?_eq_getElem (by omega), Option.bind_eq_some_iff] at h1
      obtain ⟨cs', hc, ht⟩ := h1
      obtain ⟨x, rfl⟩ : ∃ x, cs' = [x] := by
        have := (World.cells?_some hc).2.1
        match cs', this with
        | [x], _ => exact ⟨x, rfl⟩
      obtain ⟨c, rfl, s1⟩ := str_open ht (all_elem (i := i) hwe (by rw [List.getElem?_map, List.getElem?_eq_getElem (by omega)]; rfl))
      rw [Nat.mul_one] at hc
      obtain ⟨b, off, e1, e2, e3⟩ := at1_of_cells hc
      exact ⟨c, b, off, e1, e2, e3, s1⟩
    have hp : ∀ i : Nat, ∃ c : ByteArray, i < len → ∃ b off : Nat, a.add i = ⟨b, off, none⟩ ∧ b < W.heap.size ∧ W.cell? ⟨b, off, none⟩ = some (.string c) ∧ (c.size : Int) ≤ 140737488355328 := by
      intro i
      by_cases hi : i < len
      · obtain ⟨c, h⟩ := each i hi
        exact ⟨c, fun _ => h⟩
      · exact ⟨⟨#[]⟩, fun h => absurd h hi⟩
    obtain ⟨f, hf⟩ := Classical.axiomOfChoice hp
    refine ⟨_, (List.range len).map f, hcs, ?_, some a, cap, by simp, by simpa using hl, by simpa [maxLen] using hm, fun e => (by cases e), fun h0 => ?_⟩
    · intro c hc
      simp only [List.mem_map, List.mem_range] at hc
      obtain ⟨i, hi, rfl⟩ := hc
      obtain ⟨b, off, -, -, -, s1⟩ := hf i hi
      exact s1
    · simp at h0
      obtain ⟨b, off, e1, e2, -⟩ := hf 0 h0
      obtain ⟨ab, ao, asp⟩ := a
      have hs : asp = none := by
        have := congrArg Addr.spot e1
        simpa [Addr.add] using this
      subst hs
      have add : ∀ j, (⟨ab, ao, none⟩ : Addr).add j = ⟨ab, ao + j, none⟩ := fun j => by unfold Addr.add; split <;> simp_all
      rw [add] at e1
      simp at e1
      refine ⟨ab, ao, rfl, by rw [e1.1]; exact e2, fun i hi => ?_⟩
      simp at hi
      obtain ⟨b', off', e3, e4, e5, -⟩ := hf i hi
      rw [add] at e3
      simp at e3
      simp only [List.getElem_map, List.getElem_range]
      rw [e3.1, e3.2]
      exact e5
end
end Go.Proofs.Ytifofcodmgglkaa
