
/-
  What waits side by side: pairs of slices, the lists of trees that they read as.
-/
import Derived.Test.YtfcdocgjmgpmkaaDoorTermSbM
namespace Go.Proofs.YtfcdocgjmgpmkaaDoor
open Go.RowKit
set_option linter.unusedVariables false
set_option linter.unusedSimpArgs false

theorem flat2_len (ps : List (Value × Value)) : (flat2 ps).length = ps.length * 2 := by
  induction ps with
  | nil => rfl
  | cons p r ih => simp [flat2] at ih ⊢; omega
theorem WaitP.top {w : World} {base : Nat} {v : Value} {qs : List (Value × Value)} {p : Value × Value} (h : WaitP w base v (qs ++ [p])) :
    ∃ g cap, v = .slice (some ⟨g, 0, none⟩) (qs.length + 1) cap ∧ base ≤ g ∧ g < w.heap.size ∧ qs.length + 1 ≤ cap ∧ (cap : Int) ≤ 9223372036854775807 ∧ w.cell? ⟨g, qs.length * 2, none⟩ = some p.1 ∧ w.cell? ⟨g, qs.length * 2 + 1, none⟩ = some p.2 ∧ WaitP w base (.slice (some ⟨g, 0, none⟩) qs.length cap) qs := by
  have h' := h
  rcases h.2 with ⟨_, h1⟩ | ⟨g, cap, cur, rfl, hb, hh, hn, hc, _, _⟩
  · simp at h1
  · have hl : (qs ++ [p]).length = qs.length + 1 := by simp
    unfold WaitP at h'
    rw [hl, flat2_app] at h'
    rw [hl] at hn ⊢
    have hq := flat2_len qs
    refine ⟨g, cap, rfl, hb, (Array.getElem?_eq_some_iff.1 hh).1, hn, by unfold maxLen at hc; omega, ?_, ?_, ?_⟩
    · rw [h'.cellAt (qs.length * 2) (by omega), List.getElem?_append_right (by omega), hq]
      simp [flat2]
    · rw [h'.cellAt (qs.length * 2 + 1) (by omega), List.getElem?_append_right (by omega), hq]
      rw [show qs.length * 2 + 1 - qs.length * 2 = 1 by omega]
      simp [flat2]
    · exact ownsRow_pop (last := flat2 [p]) hq h'
theorem WaitP.none {w : World} {base : Nat} {v : Value} (h : WaitP w base v []) : ∃ a cap, v = .slice a 0 cap ∧ (cap : Int) ≤ 9223372036854775807 := by
  rcases h.2 with ⟨h1, _⟩ | ⟨g, cap, cur, rfl, hb, hh, hn, hc, _, _⟩
  · exact ⟨_, _, h1, by decide⟩
  · exact ⟨_, _, rfl, by unfold maxLen at hc; omega⟩
theorem WaitP.below {w w' : World} {base : Nat} {v : Value} {ps : List (Value × Value)} (h : WaitP w base v ps) (hb : Below w.heap.size w w') : WaitP w' base v ps :=
  World.ownsRow.kept (row := Option.none) h ⟨hb.os, hb.tape, hb.output, hb.size, fun k hk _ => hb.block k hk⟩ (by cases v.ownBlock <;> simp)
theorem WaitP.isS {w : World} {base : Nat} {v : Value} {ps : List (Value × Value)} (h : WaitP w base v ps) : IsS v := by
  rcases h.2 with ⟨h1, _⟩ | ⟨g, cap, cur, rfl, _⟩
  · exact ⟨_, _, _, h1⟩
  · exact ⟨_, _, _, rfl⟩
/-- A box of a term is not the row's own block. -/
theorem Bt.grown {w0 w w' : World} {base : Nat} {v : Value} {ps : List (Value × Value)} {g : Nat} {k : Int} {neg : Bool} {sl : Value} {S : ByteArray} {N : Int} {sk : Value} (h : Bt w g k neg sl S N sk) (hW : WaitP w base v ps) (hg : w.grownBy w' v.ownBlock) : Bt w' g k neg sl S N sk := by
  refine ⟨?_, h.2⟩
  rw [hg.block g h.lt ?_]
  · exact h.1
  · intro e
    rcases hW.2 with ⟨h1, _⟩ | ⟨g', cap, cur, h1, _, hh, _⟩
    · rw [h1] at e; simp [Value.ownBlock] at e
    · rw [h1] at e
      simp [Value.ownBlock] at e
      subst e
      have := h.1
      rw [hh] at this
      simp at this

abbrev Pr := (Value × Value) × (List Tm × List Tm)
def stA (ps : List Pr) : List Tm := ps.foldl (fun acc p => p.2.1 ++ acc) []
def stB (ps : List Pr) : List Tm := ps.foldl (fun acc p => p.2.2 ++ acc) []
theorem stA_snoc (qs : List Pr) (p : Pr) : stA (qs ++ [p]) = p.2.1 ++ stA qs := by simp [stA]
theorem stB_snoc (qs : List Pr) (p : Pr) : stB (qs ++ [p]) = p.2.2 ++ stB qs := by simp [stB]
/-- A pair that waits reads as lists of as many trees. -/
def PrOk (w : World) (G : Tm → Prop) (p : Pr) : Prop := Ts w p.1.1 p.2.1 ∧ Ts w p.1.2 p.2.2 ∧ p.2.1.length = p.2.2.length ∧ 0 < p.2.1.length ∧ (∀ t ∈ p.2.1, G t) ∧ ∀ t ∈ p.2.2, G t
theorem stA_len {w : World} {G : Tm → Prop} (ps : List Pr) (h : ∀ p ∈ ps, PrOk w G p) : ps.length ≤ nodesL (stA ps) := by
  have key : ∀ (n : Nat) (ps : List Pr), ps.length = n → (∀ p ∈ ps, PrOk w G p) → ps.length ≤ nodesL (stA ps) := by
    intro n
    induction n with
    | zero => intro ps e _; omega
    | succ n ih =>
      intro ps e hp
      rcases snoc_or ps with rfl | ⟨qs, p, rfl⟩
      · simp at e
      · have h1 := ih qs (by simpa using e) (fun p hm => hp p (by simp [hm]))
        obtain ⟨_, _, _, h2, _⟩ := hp p (by simp)
        have h3 := nodesL_len p.2.1
        rw [stA_snoc, nodesL_app, List.length_append]
        simp only [List.length_singleton]
        omega
  exact key _ ps rfl h
/-- The loop's state. -/
def SbOut (w : World) (G : Tm → Prop) (jd : Tm → Tm → Int) (pt : Tm → List Tm) (R : Int) (gk : Nat) (sr : Value) (wr : World) : Prop :=
  ∃ ps : List Pr, WaitP wr w.heap.size sr (ps.map Prod.fst) ∧ (∀ p ∈ ps, PrOk w G p) ∧ nodesL (stA ps) ≤ gk ∧ gk ≤ 1000000 ∧ sbF jd pt gk (stA ps) (stB ps) = R ∧ Below w.heap.size w wr

/-- What wait leaves, whatever the number. -/
def WaitPost2 (w : World) (base : Nat) (v : Value) (ps : List (Value × Value)) (na : Nat) (sa sb : Value) (e : Ending) (w' : World) : Prop := ∃ v', e = .returned v' ∧ WaitP w' base v' (if na = 0 then ps else ps ++ [(sa, sb)]) ∧ w.grownBy w' v.ownBlock
theorem wait_any (base : Nat) (v : Value) (ps : List (Value × Value)) (pa pb : Option Addr) (na ca nb cb : Nat) (w : World) (hW : WaitP w base v ps) (hbase : base ≤ w.heap.size) (hl : ps.length ≤ 1000000) :
    Calls Tryd.prog 40 #[v, .slice pa na ca, .slice pb nb cb] w fun e w' => WaitPost2 w base v ps na (.slice pa na ca) (.slice pb nb cb) e w' := by
  by_cases h : na = 0
  · subst h
    refine (wait_none v hW.isS pa ca _ ⟨_, _, _, rfl⟩ w).mono ?_
    rintro e w1 ⟨rfl, hw⟩
    subst hw
    exact ⟨v, rfl, by simpa using hW, ⟨rfl, rfl, rfl, Nat.le_refl _, fun _ _ _ => rfl⟩⟩
  · refine (wait_some base v ps pa pb na ca nb cb w hW hbase (by omega) hl).mono ?_
    rintro e w1 ⟨v', rfl, h1, h2⟩
    exact ⟨v', rfl, by rw [if_neg h]; exact h1, h2⟩

/-- What judges two terms. -/
def JdOk (P : World → Prop) (G : Tm → Prop) (jd : Tm → Tm → Int) (J : Nat) : Prop := ∀ (a b : Tm) (va vb : Value) (w : World), P w → G a → G b → IsT w a va → IsT w b vb → Calls Tryd.prog J #[va, vb] w fun e w' => e = .returned (.int .i64 (jd a b)) ∧ Below w.heap.size w w'
/-- What takes a term apart. -/
def PtOk (G : Tm → Prop) (pt : Tm → List Tm) (Q : Nat) : Prop := ∀ (t : Tm) (v : Value) (w : World), G t → IsT w t v → Calls Tryd.prog Q #[v] w fun e w' => PartPost pt t v w e w'
end Go.Proofs.YtfcdocgjmgpmkaaDoor
