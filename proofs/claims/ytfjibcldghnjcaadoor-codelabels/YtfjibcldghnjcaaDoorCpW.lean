/-
  compact: list.
-/
import Derived.Test.YtfjibcldghnjcaaDoorCpV
namespace Go.Proofs.YtfjibcldghnjcaaDoor
open Go.RowKit
set_option linter.unusedVariables false
set_option linter.unusedSimpArgs false

/-- Operands that are no lists, cell by cell. -/
def flat3 : List (Int × Int) → List Value
  | [] => []
  | p :: r => .int .i64 p.1 :: .int .i64 p.2 :: .slice none 0 0 :: flat3 r
theorem flat3_len : ∀ l, (flat3 l).length = l.length * 3
  | [] => rfl
  | p :: r => by simp [flat3, flat3_len r]; omega
theorem flat3_set : ∀ (l : List (Int × Int)) (k : Nat) (t n : Int), k < l.length → (((flat3 l).set (k * 3) (.int .i64 t)).set (k * 3 + 1) (.int .i64 n)).set (k * 3 + 2) (.slice none 0 0) = flat3 (l.set k (t, n))
  | p :: r, 0, t, n, _ => by simp [flat3]
  | p :: r, k + 1, t, n, h => by
    have := flat3_set r k t n (by simpa using h)
    rw [show (k + 1) * 3 = k * 3 + 1 + 1 + 1 by omega, show k * 3 + 1 + 1 + 1 + 1 = k * 3 + 1 + 1 + 1 + 1 by rfl, show k * 3 + 1 + 1 + 1 + 2 = k * 3 + 2 + 1 + 1 + 1 by omega, show k * 3 + 1 + 1 + 1 + 1 = (k * 3 + 1) + 1 + 1 + 1 by omega]
    simp only [flat3, List.set_cons_succ]
    rw [this]
theorem flat3_get : ∀ (l : List (Int × Int)) (k : Nat) (h : k < l.length), (flat3 l)[k * 3]? = some (.int .i64 l[k].1) ∧ (flat3 l)[k * 3 + 1]? = some (.int .i64 l[k].2) ∧ (flat3 l)[k * 3 + 2]? = some (.slice none 0 0)
  | p :: r, 0, _ => ⟨rfl, rfl, rfl⟩
  | p :: r, k + 1, h => by
    have := flat3_get r k (by simpa using h)
    rw [show (k + 1) * 3 = k * 3 + 1 + 1 + 1 by omega, show k * 3 + 1 + 1 + 1 + 2 = k * 3 + 2 + 1 + 1 + 1 by omega]
    simpa [flat3] using this

theorem flat3_no : ∀ (L : List (Int × Int)) (j : Nat) (z : Int), (flat3 L)[j]? ≠ some (.int .u8 z)
  | [], j, z => by simp [flat3]
  | p :: r, 0, z => by simp [flat3]
  | p :: r, 1, z => by simp [flat3]
  | p :: r, 2, z => by simp [flat3]
  | p :: r, j + 3, z => by simpa [flat3] using flat3_no r j z
/-- A row of operands of the call's own. -/
def RwA (w : World) (g : Nat) (l : List (Int × Int)) : Prop := w.heap[g]? = some (.cells (flat3 l).toArray 30 (0, 0))
def elOf (p : Int × Int) : El := ⟨p.1, p.2, none, 0, 0⟩

theorem flat3_app : ∀ (a b : List (Int × Int)), flat3 (a ++ b) = flat3 a ++ flat3 b
  | [], b => rfl
  | p :: r, b => by simp [flat3, flat3_app r b]
theorem made3 (n : Nat) : (madeCells (Value.agg #[.int .i64 0, .int .i64 0, .slice none 0 0]).cells (n * 3)).toList = flat3 (List.replicate n (0, 0)) := by
  induction n with
  | zero => simp [madeCells, flat3]
  | succ n ih =>
    have e : (n + 1) * 3 = n * 3 + 1 + 1 + 1 := by omega
    rw [e, List.replicate_succ', flat3_app, ← ih]
    simp only [madeCells, Array.toList_map, Array.toList_range, List.range_succ, List.map_append, List.append_assoc, List.map_cons, List.map_nil, Value.cells]
    congr 1
    simp only [List.size_toArray, List.length_cons, List.length_nil, flat3]
    rw [show n * 3 % (0 + 1 + 1 + 1) = 0 by omega, show (n * 3 + 1) % (0 + 1 + 1 + 1) = 1 by omega, show (n * 3 + 1 + 1) % (0 + 1 + 1 + 1) = 2 by omega]
    rfl
theorem RwA.lt {w : World} {g : Nat} {l : List (Int × Int)} (h : RwA w g l) : g < w.heap.size := (Array.getElem?_eq_some_iff.1 h).1
theorem RwA.cell {w : World} {g : Nat} {l : List (Int × Int)} (h : RwA w g l) (j : Nat) : w.cell? ⟨g, j, none⟩ = (flat3 l)[j]? := by
  unfold RwA at h
  rw [cell_of_row w g j _ _ _ h]
  simp
theorem RwA.facts {w : World} {g : Nat} {l : List (Int × Int)} (h : RwA w g l) (k : Nat) (hk : k < l.length) : w.cell? ⟨g, k * 3, none⟩ = some (.int .i64 l[k].1) ∧ w.cell? ⟨g, k * 3 + 1, none⟩ = some (.int .i64 l[k].2) ∧ w.cell? ⟨g, k * 3 + 2, none⟩ = some (.slice none 0 0) ∧ w.frozen? ⟨g, k * 3, none⟩ = false ∧ w.frozen? ⟨g, k * 3 + 1, none⟩ = false ∧ w.frozen? ⟨g, k * 3 + 2, none⟩ = false := by
  obtain ⟨h0, h1, h2⟩ := flat3_get l k hk
  refine ⟨by rw [h.cell, h0], by rw [h.cell, h1], by rw [h.cell, h2], ?_, ?_, ?_⟩
  all_goals (unfold RwA at h; simp [World.frozen?, h])
def setRwA (w : World) (g k : Nat) (t n : Int) : World := ((w.setCell ⟨g, k * 3, none⟩ (.int .i64 t)).setCell ⟨g, k * 3 + 1, none⟩ (.int .i64 n)).setCell ⟨g, k * 3 + 2, none⟩ (.slice none 0 0)
theorem RwA.set {w : World} {g : Nat} {l : List (Int × Int)} (h : RwA w g l) (k : Nat) (hk : k < l.length) (t n : Int) : RwA (setRwA w g k t n) g (l.set k (t, n)) := by
  unfold RwA at h ⊢
  rw [← flat3_set l k t n hk]
  simp [setRwA, World.setCell, Array.getElem?_modify, h]
theorem setR_block (w : World) (g k : Nat) (t n : Int) (b : Nat) (h : b ≠ g) : (setRwA w g k t n).heap[b]? = w.heap[b]? := by
  unfold setRwA
  rw [set_block _ _ _ _ _ h, set_block _ _ _ _ _ h, set_block _ _ _ _ _ h]
theorem setR_size (w : World) (g k : Nat) (t n : Int) : (setRwA w g k t n).heap.size = w.heap.size := by simp [setRwA, World.setCell]
theorem RwA.oth {w w' : World} {g gl : Nat} {l : List (Int × Int)} (h : RwA w gl l) (ho : Oth g w w') (hne : gl ≠ g) : RwA w' gl l := by
  have hl := h.lt
  unfold RwA at h ⊢
  rw [ho.block gl hl hne]; exact h
theorem Oth.setR {w w' : World} {g gl : Nat} (h : Oth g w w') (h1 : w.heap.size ≤ gl) (h2 : g ≤ gl) (k : Nat) (t n : Int) : Oth g w (setRwA w' gl k t n) :=
  ⟨((Below.setCell (p := ⟨gl, k * 3, none⟩) h.below h2 _).setCell (by exact h2) _).setCell (by exact h2) _, by rw [setR_size]; exact h.size, fun b hb hn => by rw [setR_block _ _ _ _ _ _ (by omega)]; exact h.block b hb hn⟩
theorem BxR.setR {w : World} {g gl : Nat} {v : Value} {at' : Int} (h : BxR w g v at') (hne : g ≠ gl) (k : Nat) (t n : Int) : BxR (setRwA w gl k t n) g v at' := ⟨by rw [setR_block _ _ _ _ _ _ hne]; exact h.1, h.2⟩
theorem BxA.setR {w : World} {g gl : Nat} {t' n' : Int} {sl : Value} (h : BxA w g t' n' sl) (hne : g ≠ gl) (k : Nat) (t n : Int) : BxA (setRwA w gl k t n) g t' n' sl := by
  unfold BxA at h ⊢
  rw [setR_block _ _ _ _ _ _ hne]; exact h
theorem By.setR {w : World} {gl : Nat} {v : Value} {l : List UInt8} {L : List (Int × Int)} (h : By w v l) (hr : RwA w gl L) (k : Nat) (t n : Int) : By (setRwA w gl k t n) v l := by
  obtain ⟨a, cap, rfl, hl, hc, hn, hp⟩ := h
  refine ⟨a, cap, rfl, hl, hc, hn, fun h0 => ?_⟩
  obtain ⟨b, off, rfl, hlt, hcell⟩ := hp h0
  have hne : b ≠ gl := by
    rintro rfl
    have h1 := hcell 0 h0
    rw [hr.cell] at h1
    exact flat3_no _ _ _ h1
  refine ⟨b, off, rfl, by rw [setR_size]; exact hlt, fun i hi => ?_⟩
  have := World.cell?_of_block (a := ⟨b, off + i, none⟩) (setR_block w gl k t n b hne)
  rw [this]
  exact hcell i hi
theorem Spn.setR {w : World} {gl : Nat} {W : World} (h : Spn w) (h0 : 1 < gl) (k : Nat) (t n : Int) : Spn (setRwA w gl k t n) := by
  obtain ⟨h0', h1, h2, h3, h4, h5, h6, h7, h8, h9, h10, h11⟩ := h
  have e : ∀ off, (setRwA w gl k t n).cell? ⟨1, off, none⟩ = w.cell? ⟨1, off, none⟩ := fun off => World.cell?_of_block (a := ⟨1, off, none⟩) (setR_block w gl k t n 1 (by omega))
  refine ⟨?_, ?_, ?_, ?_, ?_, ?_, ?_, ?_, ?_, ?_, ?_, ?_⟩ <;> (rw [e]; assumption)
theorem RwA.rw3 {w : World} {g : Nat} {l : List (Int × Int)} (h : RwA w g l) (hf : ∀ p ∈ l, El.fit (elOf p)) (hl : l.length ≤ 9223372036854775807) : Rw3 w (.slice (some ⟨g, 0, none⟩) l.length l.length) (l.map elOf) := by
  refine ⟨_, l.length, by simp, by simp, hl, fun e => (by cases e), fun x hx => ?_, fun h0 => ⟨g, 0, rfl, h.lt, fun i hi => ?_⟩⟩
  · obtain ⟨p, hp, rfl⟩ := List.mem_map.1 hx
    exact hf p hp
  · have hi' : i < l.length := by simpa using hi
    obtain ⟨c0, c1, c2, -⟩ := h.facts i hi'
    simp only [List.getElem_map, elOf, El.sl]
    rw [Nat.zero_add]
    exact ⟨c0, c1, c2⟩
theorem Tryd.infoA : (Tryd.prog.info? 30).map (fun i => (i.zero, i.size, i.bytes)) = some (some (.agg #[.int .i64 0, .int .i64 0, .slice none 0 0]), 3, 40) := by kernel_rfl
theorem rwA_of_owns {w : World} {base g n : Nat} (h : w.ownsRow base 30 3 (.slice (some ⟨g, 0, none⟩) n n) n (madeCells (Value.agg #[.int .i64 0, .int .i64 0, .slice none 0 0]).cells (n * 3)).toList) : RwA w g (List.replicate n (0, 0)) := by
  obtain ⟨_, h2⟩ := h
  rcases h2 with ⟨h3, _⟩ | ⟨g', cap, cur, hv, _, hh, _, _, hs, ht⟩
  · simp at h3
  · simp only [Value.slice.injEq, Option.some.injEq, Addr.mk.injEq] at hv
    obtain ⟨⟨rfl, _⟩, _, rfl⟩ := hv
    unfold RwA
    rw [hh]
    have e : cur.toList = flat3 (List.replicate n (0, 0)) := by
      rw [List.take_of_length_le (by simp [hs])] at ht
      rw [ht, made3]
    rw [← e]
theorem wpList_make_arg {w : World} {ops : Array Oper} {rest : List Oper} {o : Oper} {a : Act} {Q : Exit → Act → World → Prop} (hgd : o.guard = none) (l c : Operand)
    (ho : o.op = .makeSlice 25 l c) (L C : Int) (n : Nat) (hl : a.eval l = .int .i64 L) (hc : a.eval c = .int .i64 C) (hL : L = n) (hC : C = n) (hn : n ≤ 40)
    (h : ∀ w', RwA w' w.heap.size (List.replicate n (0, 0)) → Below w.heap.size w w' → wpList Tryd.prog ops Q rest (a.put o.dst (.slice (some ⟨w.heap.size, 0, none⟩) n n)) w') : wpList Tryd.prog ops Q (o :: rest) a w := by
  obtain ⟨i, hi, hz0, hz1, hz2⟩ := info_parts Tryd.infoA
  refine wpList_make_full w hgd l c 25 ho w.heap.size 30 i (.agg #[.int .i64 0, .int .i64 0, .slice none 0 0]) 3 Tryd.underlying25 hi hz0 hz1 .i64 .i64 L C n hl hc hL hC (by rw [hz2]; omega) (by simp only [maxLen]; omega) (Nat.le_refl _) ?_
  intro w' hown hgr
  exact h w' (rwA_of_owns hown) ⟨hgr.os, hgr.tape, hgr.output, hgr.size, fun k hk => hgr.block k hk (by simp)⟩
end Go.Proofs.YtfjibcldghnjcaaDoor
