
/-
  ext: putList, where putAll serves for less.
-/
import Derived.Test.YtbmondbicnfcpaaDoorExtE
import Derived.Test.YtbmondbicnfcpaaDoorExtT
namespace Go.Proofs.YtbmondbicnfcpaaDoor
open Go.RowKit
set_option linter.unusedVariables false
set_option linter.unusedSimpArgs false

/-- No row of bytes. -/
def NoB (o : Obj) : Prop := ∀ cs, o ≠ .cells cs 5 (0, 0)
/-- The slice v has in w the terms K, each of them as W0 has it; it lies in W0, or in a block that is no row of bytes. -/
def RdT (W0 w : World) (v : Value) (K : List Tm) : Prop :=
  ∃ (a : Option Addr) (cap : Nat) (el : Nat → Value), v = .slice a K.length cap ∧ (K.length ≤ cap ∧ cap ≤ 9223372036854775807 ∧ (a = none → cap = 0)) ∧
    (0 < K.length → ∃ b off, a = some ⟨b, off, none⟩ ∧ (b < W0.heap.size ∨ ∃ o, w.heap[b]? = some o ∧ NoB o) ∧ ∀ i, i < K.length → At6 w b (off + i * 6) (el i)) ∧ ∀ i (h : i < K.length), IsT W0 (K[i]) (el i)
theorem At6.same {w w' : World} {b off : Nat} {v : Value} (h : At6 w b off v) (hb : w'.heap[b]? = w.heap[b]?) : At6 w' b off v := by
  obtain ⟨c0, c1, c2, c3, c4, c5, rfl, h0, h1, h2, h3, h4, h5⟩ := h
  refine ⟨c0, c1, c2, c3, c4, c5, rfl, ?_, ?_, ?_, ?_, ?_, ?_⟩
  · rw [World.cell?_of_block (w := w) hb]; exact h0
  · rw [World.cell?_of_block (w := w) hb]; exact h1
  · rw [World.cell?_of_block (w := w) hb]; exact h2
  · rw [World.cell?_of_block (w := w) hb]; exact h3
  · rw [World.cell?_of_block (w := w) hb]; exact h4
  · rw [World.cell?_of_block (w := w) hb]; exact h5
theorem RdT.of {W0 w : World} {v : Value} {K : List Tm} (h : Ts W0 v K) (hb : Below W0.heap.size W0 w) : RdT W0 w v K := by
  obtain ⟨a, cap, el, rfl, ⟨h1, h2, h3, h4⟩, h5⟩ := h
  refine ⟨a, cap, el, rfl, ⟨h1, h2, h3⟩, fun h0 => ?_, h5⟩
  obtain ⟨b, off, rfl, hlt, hc⟩ := h4 h0
  exact ⟨b, off, rfl, .inl hlt, fun i hi => (hc i hi).below hb hlt⟩
theorem RdT.keep {W0 w w' : World} {v : Value} {K : List Tm} (h : RdT W0 w v K) (h0 : Below W0.heap.size W0 w) (h1 : Below W0.heap.size W0 w') (k : Keep w w') : RdT W0 w' v K := by
  obtain ⟨a, cap, el, rfl, h2, h3, h5⟩ := h
  refine ⟨a, cap, el, rfl, h2, fun hn => ?_, h5⟩
  obtain ⟨b, off, rfl, hlt, hc⟩ := h3 hn
  refine ⟨b, off, rfl, ?_, ?_⟩
  · rcases hlt with h | ⟨o, h, ho⟩
    · exact .inl h
    · exact .inr ⟨o, k.2 b o h ho, ho⟩
  · have hs : w'.heap[b]? = w.heap[b]? := by
      rcases hlt with h | ⟨o, h, ho⟩
      · rw [h1.block b h, h0.block b h]
      · rw [k.2 b o h ho, h]
    exact fun i hi => (hc i hi).same hs
theorem RdT.shape {W0 w : World} {v : Value} {K : List Tm} (h : RdT W0 w v K) : ∃ a cap, v = .slice a K.length cap ∧ K.length ≤ cap ∧ (cap : Int) ≤ 9223372036854775807 ∧ (a = none → cap = 0) := by
  obtain ⟨a, cap, el, rfl, ⟨h1, h2, h3⟩, _⟩ := h
  exact ⟨a, cap, rfl, h1, by omega, h3⟩
theorem RdT.at {W0 w : World} {a : Option Addr} {n cap : Nat} {K : List Tm} (h : RdT W0 w (.slice a n cap) K) (i : Nat) (hi : i < K.length) :
    ∃ b off v, a = some ⟨b, off, none⟩ ∧ At6 w b (off + i * 6) v ∧ IsT W0 (K[i]) v := by
  obtain ⟨a', cap', el, he, -, h4, hr⟩ := h
  injection he with e1 e2 e3
  subst e1; subst e2; subst e3
  obtain ⟨b, off, rfl, hlt, hc⟩ := h4 (by omega)
  exact ⟨b, off, el i, rfl, hc i hi, hr i hi⟩
/-- A row of terms of the call's own, each as W0 has it. -/
theorem row_rd {W0 w : World} {base : Nat} {v : Value} {ps : List (Value × Tm)} (hw : WaitT w base v ps) (h : ∀ p ∈ ps, IsT W0 p.2 p.1) : RdT W0 w v (ps.map Prod.snd) := by
  rcases hw.2 with ⟨rfl, h1⟩ | ⟨g, cap, cur, rfl, hb, hh, hn, hc, _, _⟩
  · obtain rfl : ps = [] := List.eq_nil_of_length_eq_zero h1
    exact ⟨none, 0, fun _ => .bool false, rfl, ⟨Nat.le_refl _, by decide, fun _ => rfl⟩, fun h => absurd h (by simp), fun i h => absurd h (by simp)⟩
  · have hl : (ps.map Prod.snd).length = ps.length := by simp
    refine ⟨some ⟨g, 0, none⟩, cap, fun i => (ps.map Prod.fst).getD i (.bool false), by rw [hl], ⟨by rw [hl]; exact hn, by unfold maxLen at hc; omega, fun e => (by cases e)⟩, fun _ => ⟨g, 0, rfl, .inr ⟨_, hh, fun cs e => by injection e with _ e2 _; exact absurd e2 (by decide)⟩, fun i hi => ?_⟩, fun i hi => ?_⟩
    · rw [hl] at hi
      have h6 : ∀ p ∈ ps, (cells6 p.1).length = 6 := fun p hp => (h p hp).six
      have hc : ∀ j, j < 6 → w.cell? ⟨g, i * 6 + j, none⟩ = (cells6 ps[i].1)[j]? := fun j hj => by
        rw [World.ownsRow.cellAt hw (i * 6 + j) (by omega), flat_got ps h6 i j hi hj]
      obtain ⟨sl, sk, h1, -⟩ := (h ps[i] (List.getElem_mem hi)).open
      rw [h1] at hc
      have e : (ps.map Prod.fst).getD i (.bool false) = ps[i].1 := by simp [List.getD, hi]
      show At6 w g (0 + i * 6) ((ps.map Prod.fst).getD i (.bool false))
      rw [e, h1, Nat.zero_add]
      exact ⟨_, _, _, _, _, _, rfl, (hc 0 (by omega)).trans rfl, (hc 1 (by omega)).trans rfl, (hc 2 (by omega)).trans rfl, (hc 3 (by omega)).trans rfl, (hc 4 (by omega)).trans rfl, (hc 5 (by omega)).trans rfl⟩
    · rw [hl] at hi
      have := h ps[i] (List.getElem_mem hi)
      simpa [List.getD, hi] using this
theorem Bt.keep {w w' : World} {g : Nat} {k : Int} {neg : Bool} {sl : Value} {S : ByteArray} {N : Int} {sk : Value} (h : Bt w g k neg sl S N sk) (kp : Keep w w') : Bt w' g k neg sl S N sk :=
  ⟨kp.2 g _ h.1 (fun cs e => by injection e with _ e2 _; exact absurd e2 (by decide)), h.2⟩
theorem WaitT.keep {w w' : World} {base : Nat} {v : Value} {ps : List (Value × Tm)} (h : WaitT w base v ps) (kp : Keep w w') : WaitT w' base v ps := by
  obtain ⟨h1, h2⟩ := h
  refine ⟨h1, ?_⟩
  rcases h2 with h3 | ⟨g, cap, cur, rfl, hb1, hh, h4⟩
  · exact .inl h3
  · exact .inr ⟨g, cap, cur, rfl, hb1, kp.2 g _ hh (fun cs e => by injection e with _ e2 _; exact absurd e2 (by decide)), h4⟩
theorem OB.notT {w : World} {base base' : Nat} {v u : Value} {l : List UInt8} {ps : List (Value × Tm)} (h : OB w base v l) (hw : WaitT w base' u ps) : v.ownBlock ≠ u.ownBlock ∨ u.ownBlock = none := by
  rcases hw.2 with ⟨rfl, _⟩ | ⟨g, cap, cur, rfl, _, hh, _⟩
  · exact .inr rfl
  · rcases h.2 with ⟨rfl, _⟩ | ⟨g', cap', cur', rfl, _, hh', _⟩
    · exact .inl (by simp [Value.ownBlock])
    · refine .inl (fun e => ?_)
      simp only [Value.ownBlock, Option.some.injEq] at e
      subst e
      rw [hh] at hh'
      injection hh' with hh'
      injection hh' with _ e2 _
      exact absurd e2 (by decide)
theorem Keep.then {w a b : World} (h : Keep w a) (hb : Below w.heap.size a b) (hs : a.heap.size ≤ b.heap.size) : Keep w b :=
  ⟨Nat.le_trans h.1 hs, fun g o h1 h2 => by rw [hb.block g (Array.getElem?_eq_some_iff.1 h1).1]; exact h.2 g o h1 h2⟩

/-- What a call that puts terms answers. -/
def PutKPost (W0 w : World) (v : Value) (l : List UInt8) (K : List Tm) (e : Ending) (w' : World) : Prop :=
  ∃ v', e = .returned v' ∧ RB w' W0.heap.size v' (l ++ putK K) ∧ (0 < K.length → OB w' W0.heap.size v' (l ++ putK K)) ∧ (K.length = 0 → v' = v ∧ w' = w) ∧ (putK K).length ≤ 410 * nodesL K ∧ Below W0.heap.size W0 w' ∧ Keep w w'
def PutUpto (n : Nat) : Prop := ∀ (K : List Tm) (W0 w : World) (v vs : Value) (l : List UInt8), nodesL K < n → Below W0.heap.size W0 w → RB w W0.heap.size v l → RdT W0 w vs K → (∀ t ∈ K, ∃ d, okD t d) → l.length + 410 * nodesL K ≤ 90000000 →
  Calls Tryd.prog 43 #[v, vs] w fun e w' => PutKPost W0 w v l K e w'
/-- The loop's state: what is out, what is left. -/
def PlSt (W0 w : World) (K : List Tm) (tl : Tm) (q : Nat) (sv : Value) (wr : World) : Prop :=
  ∃ (D R : List Tm) (ps : List (Value × Tm)) (k : Int) (n : Bool) (sl : Value) (S : ByteArray) (N : Int) (sk : Value), D ++ R = K ∧ R.length = q ∧ ps.map Prod.snd = D ∧ WaitT wr (w.heap.size + 1) sv ps ∧ (∀ p ∈ ps, IsT W0 p.2 p.1) ∧ Bt wr w.heap.size k n sl S N sk ∧ IsT W0 (listT R tl) (tmV k n sl S N sk) ∧ Below w.heap.size w wr
end Go.Proofs.YtbmondbicnfcpaaDoor
