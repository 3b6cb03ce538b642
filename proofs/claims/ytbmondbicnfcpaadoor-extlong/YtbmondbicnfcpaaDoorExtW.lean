
/-
  ext: shut.
-/
import Derived.Test.YtbmondbicnfcpaaDoorExtR
import Derived.Test.YtbmondbicnfcpaaDoorExtS
namespace Go.Proofs.YtbmondbicnfcpaaDoor
open Go.RowKit
set_option linter.unusedVariables false
set_option linter.unusedSimpArgs false

/-- A row of terms, each of which is read. -/
theorem row_tv {w : World} {base : Nat} {v : Value} {ps : List (Value × Tm)} (hw : WaitT w base v ps) (h : ∀ p ∈ ps, IsT w p.2 p.1) : Ts w v (ps.map Prod.snd) := by
  rcases hw.2 with ⟨rfl, h1⟩ | ⟨g, cap, cur, rfl, hb, hh, hn, hc, _, _⟩
  · obtain rfl : ps = [] := List.eq_nil_of_length_eq_zero h1
    exact Ts.nil w
  · have hl : (ps.map Prod.snd).length = ps.length := by simp
    refine ⟨some ⟨g, 0, none⟩, cap, fun i => (ps.map Prod.fst).getD i (.bool false), by rw [hl], ⟨by rw [hl]; exact hn, by unfold maxLen at hc; omega, fun e => (by cases e), fun _ => ⟨g, 0, rfl, (Array.getElem?_eq_some_iff.1 hh).1, fun i hi => ?_⟩⟩, fun i hi => ?_⟩
    · rw [hl] at hi
      have h6 : ∀ p ∈ ps, (cells6 p.1).length = 6 := fun p hp => (h p hp).six
      have hc : ∀ j, j < 6 → w.cell? ⟨g, i * 6 + j, none⟩ = (cells6 ps[i].1)[j]? := fun j hj => by
        rw [World.ownsRow.cellAt hw (i * 6 + j) (by omega), flat_got ps h6 i j hi hj]
      obtain ⟨sl, sk, h1, -⟩ := (h ps[i] (List.getElem_mem hi)).open
      rw [h1] at hc
      have e : (ps.map Prod.fst).getD i (.bool false) = ps[i].1 := by simp [List.getD, hi]
      show At6 w g (0 + i * 6) ((ps.map Prod.fst).getD i (.bool false))
      rw [e, h1, Nat.zero_add]
      exact ⟨_, _, _, _, _, _, rfl, (hc 0 (by omega)).trans rfl, (hc 1 (by omega)).trans rfl, (hc 2 (by omega)).trans rfl, (hc 3 (by omega)).trans rfl, (hc 4 (by omega)).trans rfl, (hc 5 (by omega)).trans rfl⟩
    · rw [hl] at hi
      have := h ps[i] (List.getElem_mem hi)
      simpa [List.getD, hi] using this
theorem WaitT.see {w w' : World} {base : Nat} {v : Value} {ps : List (Value × Tm)} (h : WaitT w base v ps) (hb : ∀ b, v.ownBlock = some b → w'.heap[b]? = w.heap[b]?) : WaitT w' base v ps := by
  obtain ⟨h1, h2⟩ := h
  refine ⟨h1, ?_⟩
  rcases h2 with h3 | ⟨g, cap, cur, rfl, hb1, hh, h4⟩
  · exact .inl h3
  · exact .inr ⟨g, cap, cur, rfl, hb1, by rw [hb g rfl]; exact hh, h4⟩
theorem HoRow.see {w w' : World} {base : Nat} {ov : Value} {hs : List Ho} (h : HoRow w base ov hs) (hb : ∀ b, ov.ownBlock = some b → w'.heap[b]? = w.heap[b]?) : HoRow w' base ov hs := by
  obtain ⟨⟨h1, h2⟩, h3⟩ := h
  refine ⟨⟨h1, ?_⟩, h3⟩
  rcases h2 with h4 | ⟨k, cap, cur, rfl, hb1, hh, h5⟩
  · exact .inl h4
  · exact .inr ⟨k, cap, cur, rfl, hb1, by rw [hb k rfl]; exact hh, h5⟩
/-- The last one is taken off. -/
theorem HoRow.less {w : World} {base : Nat} {a : Option Addr} {n c : Nat} {hs : List Ho} {h : Ho} (hr : HoRow w base (.slice a n c) (hs ++ [h])) : HoRow w base (.slice a hs.length c) hs := by
  obtain ⟨⟨h1, h2⟩, h3⟩ := hr
  refine ⟨⟨by rw [flatH_len], ?_⟩, fun x hx => h3 x (List.mem_append_left _ hx)⟩
  rcases h2 with ⟨he, h4⟩ | ⟨k, cap, cur, he, hb1, hh, hn, hm, hsz, ht⟩
  · simp at h4
  · injection he with e1 e2 e3
    subst e1; subst e3
    refine .inr ⟨k, c, cur, rfl, hb1, hh, by simp at hn; omega, hm, hsz, ?_⟩
    have ht2 := congrArg (List.take (hs.length * 4)) ht
    rw [List.take_take, flatH_app, List.take_append_of_le_length (by rw [flatH_len]; exact Nat.le_refl _)] at ht2
    rw [show min (hs.length * 4) ((hs ++ [h]).length * 4) = hs.length * 4 by simp] at ht2
    rw [ht2, List.take_of_length_le (by rw [flatH_len]; exact Nat.le_refl _)]
/-- The stack in memory: its row, its parts' rows, the trees in them, which lie in blocks of P. -/
def StI (W0 : World) (B g : Nat) (hs : List Ho) (ov : Value) (P : Nat → Bool) (w : World) : Prop :=
  Below W0.heap.size W0 w ∧ Shp w ∧ HoRow w B ov hs ∧ (∀ h ∈ hs, WaitT w B h.pv h.ps ∧ ∀ q ∈ h.ps, IsT (veil P w) q.2 q.1) ∧
  (∀ b, P b = true → b < w.heap.size ∧ B ≤ b) ∧ (∀ b, ov.ownBlock = some b → P b = false) ∧ (∀ h ∈ hs, ∀ b, h.pv.ownBlock = some b → P b = false) ∧
  (∀ (i j : Nat) (hi : i < hs.length) (hj : j < hs.length), i < j → ∀ b, hs[i].pv.ownBlock = some b → hs[j].pv.ownBlock ≠ some b)
theorem HoRow.lt {w : World} {base : Nat} {ov : Value} {hs : List Ho} (h : HoRow w base ov hs) : ∀ b, ov.ownBlock = some b → base ≤ b ∧ b < w.heap.size ∧ ∃ cur, w.heap[b]? = some (.cells cur 113 (0, 0)) := by
  intro b hb
  rcases h.1.2 with ⟨rfl, _⟩ | ⟨k, cap, cur, rfl, hb1, hh, _⟩
  · cases hb
  · injection hb with hb; subst hb
    exact ⟨hb1, (Array.getElem?_eq_some_iff.1 hh).1, cur, hh⟩
theorem WaitT.lt {w : World} {base : Nat} {v : Value} {ps : List (Value × Tm)} (h : WaitT w base v ps) : ∀ b, v.ownBlock = some b → base ≤ b ∧ b < w.heap.size ∧ ∃ cur, w.heap[b]? = some (.cells cur 29 (0, 0)) := by
  intro b hb
  rcases h.2 with ⟨rfl, _⟩ | ⟨k, cap, cur, rfl, hb1, hh, _⟩
  · cases hb
  · injection hb with hb; subst hb
    exact ⟨hb1, (Array.getElem?_eq_some_iff.1 hh).1, cur, hh⟩
/-- What was not the reader's box stands: so does the stack. -/
theorem StI.grw {W0 : World} {B g : Nat} {hs : List Ho} {ov : Value} {P Q : Nat → Bool} {w w' : World} (h : StI W0 B g hs ov P w) (hgB : g < B) (hW : W0.heap.size ≤ g) (hsh : Shp w') (hg : Grw g w w')
    (hPQ : ∀ b, P b = true → Q b = true) (hQ : ∀ b, Q b = true → b < w'.heap.size ∧ B ≤ b) (hQo : ∀ b, ov.ownBlock = some b → Q b = false) (hQp : ∀ h ∈ hs, ∀ b, h.pv.ownBlock = some b → Q b = false) : StI W0 B g hs ov Q w' := by
  obtain ⟨h1, h2, h3, h4, h5, h6, h7, h8⟩ := h
  have hWs := h1.size
  refine ⟨h1.trans (hg.below hW hWs), hsh, h3.see (fun b hb => hg.block b (h3.lt b hb).2.1 (by have := (h3.lt b hb).1; omega)), fun x hx => ⟨(h4 x hx).1.see (fun b hb => hg.block b ((h4 x hx).1.lt b hb).2.1 (by have := ((h4 x hx).1.lt b hb).1; omega)), fun q hq => ((h4 x hx).2 q hq).veiled hg.size (fun b hb hlt => ⟨hg.block b hlt (by have := (h5 b hb).2; omega), hPQ b hb⟩)⟩, hQ, hQo, hQp, h8⟩

end Go.Proofs.YtbmondbicnfcpaaDoor
