
/-
  arena: words side by side in memory: Ar (an arena's box and its words), Ot (all old blocks but one stand).
-/
import Derived.Test.YtgdlilgkbjiiaaaWordE
import Derived.Laws.MakeOwn
import Derived.Laws.CopyOwn
namespace Go.Proofs.Ytgdlilgkbjiiaaa
open Go.RowKit
set_option linter.unusedVariables false
set_option linter.unusedSimpArgs false

/-- Words that fit. -/
def Q8 (W : List Int) : Prop := ∀ z ∈ W, 0 ≤ z ∧ z < 18446744073709551616
def uv (W : List Int) : List Value := W.map (Value.int .u64)
def zq (n : Nat) : List Int := List.replicate n 0
theorem uv_len (W : List Int) : (uv W).length = W.length := by simp [uv]
theorem uv_app (A B : List Int) : uv (A ++ B) = uv A ++ uv B := by simp [uv]
theorem zq_len (n : Nat) : (zq n).length = n := by simp [zq]
theorem zq_add (a b : Nat) : zq (a + b) = zq a ++ zq b := by simp [zq]
theorem zq_getD (n j : Nat) : (zq n).getD j 0 = 0 := by
  simp only [zq, List.getD_eq_getElem?_getD, List.getElem?_replicate]
  split <;> rfl
theorem Q8.zq (n : Nat) : Q8 (zq n) := fun z h => by
  have := List.eq_of_mem_replicate h
  omega
theorem Q8.append {A B : List Int} (h : Q8 A) (k : Q8 B) : Q8 (A ++ B) := fun z hz => (List.mem_append.1 hz).elim (h z) (k z)
theorem Q8.set {A : List Int} (h : Q8 A) (i : Nat) (x : Int) (hx : 0 ≤ x ∧ x < 18446744073709551616) : Q8 (A.set i x) := fun z hz => by
  rcases List.mem_or_eq_of_mem_set hz with e | e
  · exact h z e
  · rw [e]; exact hx
theorem Q8.getD {A : List Int} (h : Q8 A) (i : Nat) : 0 ≤ A.getD i 0 ∧ A.getD i 0 < 18446744073709551616 := by
  by_cases hi : i < A.length
  · have := h (A[i]) (List.getElem_mem hi)
    simpa [List.getD, hi] using this
  · simp [List.getD, hi]
theorem Q8.nil : Q8 [] := fun z hz => by cases hz

/-- All old blocks but g stand. -/
structure Ot (g : Nat) (w w' : World) : Prop where
  mk ::
  os : w'.os = w.os
  tape : w'.tape = w.tape
  output : w'.output = w.output
  size : w.heap.size ≤ w'.heap.size
  block : ∀ b, b < w.heap.size → b ≠ g → w'.heap[b]? = w.heap[b]?
theorem Ot.refl (g : Nat) (w : World) : Ot g w w := ⟨rfl, rfl, rfl, Nat.le_refl _, fun _ _ _ => rfl⟩
theorem Ot.trans {g : Nat} {a b c : World} (h : Ot g a b) (k : Ot g b c) : Ot g a c := ⟨k.os.trans h.os, k.tape.trans h.tape, k.output.trans h.output, Nat.le_trans h.size k.size, fun x hx hn => (k.block x (Nat.lt_of_lt_of_le hx h.size) hn).trans (h.block x hx hn)⟩
theorem Ot.of {w w' : World} (h : Below w.heap.size w w') (g : Nat) : Ot g w w' := ⟨h.os, h.tape, h.output, h.size, fun b hb _ => h.block b hb⟩
theorem heap_set_ne (w : World) (g j : Nat) (u : Value) (b : Nat) (h : b ≠ g) : (w.setCell ⟨g, j, none⟩ u).heap[b]? = w.heap[b]? := by
  simp only [World.setCell, Array.getElem?_modify]
  rw [if_neg (fun e => h e.symm)]
theorem Ot.set (g j : Nat) (w : World) (u : Value) : Ot g w (w.setCell ⟨g, j, none⟩ u) := ⟨rfl, rfl, rfl, by simp [World.setCell], fun b _ hn => heap_set_ne w g j u b hn⟩
theorem Ot.below {g : Nat} {w w' : World} (h : Ot g w w') {B : Nat} (hB : B ≤ w.heap.size) (hg : B ≤ g) : Below B w w' := ⟨h.os, h.tape, h.output, h.size, fun k hk => h.block k (by omega) (by omega)⟩

/-- An arena: its box p, the block b of its words; the words that are used, how many there are. -/
structure Ar (w : World) (p b : Nat) (W : List Int) (S : Nat) : Prop where
  mk ::
  box : w.heap[p]? = some (.cells #[.slice (some ⟨b, 0, none⟩) W.length S] 50 (0, 0))
  row : w.heap[b]? = some (.cells (uv (W ++ zq (S - W.length))).toArray 27 (0, 0))
  fit : W.length ≤ S
  lim : S ≤ 32768
  ok : Q8 W
theorem Ar.ltp {w : World} {p b S : Nat} {W : List Int} (h : Ar w p b W S) : p < w.heap.size := (Array.getElem?_eq_some_iff.1 h.box).1
theorem Ar.ltb {w : World} {p b S : Nat} {W : List Int} (h : Ar w p b W S) : b < w.heap.size := (Array.getElem?_eq_some_iff.1 h.row).1
theorem Ar.ne {w : World} {p b S : Nat} {W : List Int} (h : Ar w p b W S) : p ≠ b := fun e => by
  have h1 := h.box
  rw [e, h.row] at h1
  injection h1 with h1
  injection h1 with _ h2 _
  exact absurd h2 (by decide)
theorem Ar.facts {w : World} {p b S : Nat} {W : List Int} (h : Ar w p b W S) : w.cell? ⟨p, 0, none⟩ = some (.slice (some ⟨b, 0, none⟩) W.length S) ∧ w.frozen? ⟨p, 0, none⟩ = false := by
  have := h.box
  refine ⟨?_, ?_⟩ <;> simp [World.cell?, World.frozen?, this]
theorem Ar.cell {w : World} {p b S : Nat} {W : List Int} (h : Ar w p b W S) (i : Nat) (hi : i < W.length) : w.cell? ⟨b, i, none⟩ = some (.int .u64 (W.getD i 0)) ∧ w.frozen? ⟨b, i, none⟩ = false := by
  have := h.row
  refine ⟨?_, ?_⟩ <;> simp [World.cell?, World.frozen?, this, uv, List.getD, hi, List.getElem?_append_left]
theorem Ar.moved {w w' : World} {p b S : Nat} {W : List Int} (h : Ar w p b W S) (hp : w'.heap[p]? = w.heap[p]?) (hb : w'.heap[b]? = w.heap[b]?) : Ar w' p b W S := ⟨hp.trans h.box, hb.trans h.row, h.fit, h.lim, h.ok⟩
theorem Ar.under {w w' : World} {p b S : Nat} {W : List Int} (h : Ar w p b W S) (hb : Below w.heap.size w w') : Ar w' p b W S := h.moved (hb.block p h.ltp) (hb.block b h.ltb)
theorem Ar.below {w w' : World} {p b S B : Nat} {W : List Int} (h : Ar w p b W S) (hb : Below B w w') (h1 : p < B) (h2 : b < B) : Ar w' p b W S := h.moved (hb.block p h1) (hb.block b h2)
theorem Ar.ot {w w' : World} {p b S g : Nat} {W : List Int} (h : Ar w p b W S) (ho : Ot g w w') (h1 : p ≠ g) (h2 : b ≠ g) : Ar w' p b W S := h.moved (ho.block p h.ltp h1) (ho.block b h.ltb h2)
theorem Ar.drew {w : World} {p b S : Nat} {W : List Int} (h : Ar w p b W S) : Ar w.drew p b W S := h.moved rfl rfl
theorem Ar.set {w : World} {p b S : Nat} {W : List Int} (h : Ar w p b W S) (i : Nat) (hi : i < W.length) (x : Int) (hx : 0 ≤ x ∧ x < 18446744073709551616) : Ar (w.setCell ⟨b, i, none⟩ (.int .u64 x)) p b (W.set i x) S := by
  refine ⟨?_, ?_, by rw [List.length_set]; exact h.fit, h.lim, h.ok.set i x hx⟩
  · rw [heap_set_ne _ _ _ _ _ h.ne, List.length_set]; exact h.box
  · simp [World.setCell, Array.getElem?_modify, h.row, uv, List.map_set, List.set_append_left _ _ hi, List.set_append_left _ _ (show i < (List.map (Value.int .u64) W).length by simpa using hi)]
theorem Ar.more {w : World} {p b S : Nat} {W : List Int} (h : Ar w p b W S) (n : Nat) (hn : W.length + n ≤ S) : Ar (w.setCell ⟨p, 0, none⟩ (.slice (some ⟨b, 0, none⟩) (W.length + n) S)) p b (W ++ zq n) S := by
  refine ⟨?_, ?_, by rw [List.length_append, zq_len]; exact hn, h.lim, h.ok.append (Q8.zq n)⟩
  · simp [World.setCell, Array.getElem?_modify, h.box, zq_len]
  · rw [heap_set_ne _ _ _ _ _ h.ne.symm, h.row, List.append_assoc, List.length_append, zq_len, ← zq_add, show n + (S - (W.length + n)) = S - W.length by omega]

theorem Try.infoU64 : (Try.prog.info? 27).map (fun i => (i.zero, i.size, i.bytes)) = some (some (.int .u64 0), 1, 8) := by kernel_rfl
theorem row64_of_owns {w : World} {base g n : Nat} (h : w.ownsRow base 27 1 (.slice (some ⟨g, 0, none⟩) n n) n (madeCells (Value.int .u64 0).cells (n * 1)).toList) : w.heap[g]? = some (.cells (uv (zq n)).toArray 27 (0, 0)) := by
  obtain ⟨_, h2⟩ := h
  rcases h2 with ⟨h3, _⟩ | ⟨g', cap, cur, hv, _, hh, _, _, hs, ht⟩
  · simp at h3
  · simp only [Value.slice.injEq, Option.some.injEq, Addr.mk.injEq] at hv
    obtain ⟨⟨rfl, _⟩, _, rfl⟩ := hv
    rw [hh]
    have e : cur.toList = uv (zq n) := by
      rw [Nat.mul_one] at ht hs
      rw [List.take_of_length_le (by simp [hs])] at ht
      rw [ht]
      have := toList_madeCells_one (.int .u64 0) n
      simpa [Value.cells, zq, uv] using this
    rw [← e]
theorem wpList_make_u64 {w : World} {ops : Array Oper} {rest : List Oper} {o : Oper} {a : Act} {Q : Exit → Act → World → Prop} (hgd : o.guard = none) (l c : Operand)
    (ho : o.op = .makeSlice 35 l c) (L C : Int) (n : Nat) (hl : a.eval l = .int .i64 L) (hc : a.eval c = .int .i64 C) (hL : L = n) (hC : C = n) (hn : n ≤ 70368744177)
    (h : ∀ w', w'.heap[w.heap.size]? = some (.cells (uv (zq n)).toArray 27 (0, 0)) → Below w.heap.size w w' → w.heap.size < w'.heap.size → wpList Try.prog ops Q rest (a.put o.dst (.slice (some ⟨w.heap.size, 0, none⟩) n n)) w') : wpList Try.prog ops Q (o :: rest) a w := by
  obtain ⟨i, hi, hz0, hz1, hz2⟩ := info_parts Try.infoU64
  refine wpList_make_full w hgd l c 35 ho w.heap.size 27 i (.int .u64 0) 1 Try.underlying35 hi hz0 hz1 .i64 .i64 L C n hl hc hL hC (by rw [hz2]; omega) (by simp only [maxLen]; omega) (Nat.le_refl _) ?_
  intro w' hown hgr
  have hr := row64_of_owns hown
  exact h w' hr ⟨hgr.os, hgr.tape, hgr.output, hgr.size, fun k hk => hgr.block k hk (by simp)⟩ (Array.getElem?_eq_some_iff.1 hr).1
end Go.Proofs.Ytgdlilgkbjiiaaa
