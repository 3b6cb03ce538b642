
/-
  A row of numbers' terms, made by appending.
-/
import Derived.Test.YtfcdocgjmgpmkaaDoorTermTupM
import Derived.Test.YtfcdocgjmgpmkaaDoorZNumD
import Derived.Test.YtfcdocgjmgpmkaaDoorSlInt
namespace Go.Proofs.YtfcdocgjmgpmkaaDoor
open Go.RowKit
set_option linter.unusedVariables false
set_option linter.unusedSimpArgs false

theorem IntE.under {w w' : World} {bad : Nat → Prop} {p : Value × Tm} (h : IntE w bad p) (hb : Below w.heap.size w w') : IntE w' bad p := by
  obtain ⟨n, a, z, c, h1, h2, h3, h4, h5⟩ := h
  exact ⟨n, a, z, c, h1, h2, h3.below hb, h4, h5⟩
theorem IntE.isT {w : World} {bad : Nat → Prop} {p : Value × Tm} (h : IntE w bad p) : IsT w p.2 p.1 := by
  obtain ⟨n, a, z, c, h1, h2, h3, h4, h5⟩ := h
  rw [h1, h2]
  exact IsT.shut (by omega) (by omega) (by decide) h3 (Ts.nil w)
theorem IntE.isI {w : World} {bad : Nat → Prop} {p : Value × Tm} (h : IntE w bad p) : isI p.2 := by
  obtain ⟨n, a, z, c, h1, h2, h3, h4, h5⟩ := h
  exact ⟨n, z, h2⟩
theorem IntE.six {w : World} {bad : Nat → Prop} {p : Value × Tm} (h : IntE w bad p) : (cells6 p.1).length = 6 := by
  obtain ⟨n, a, z, c, h1, h2, h3, h4, h5⟩ := h
  rw [h1]; rfl

def IntsRow (w : World) (base : Nat) (v : Value) (ps : List (Value × Tm)) : Prop := WaitT w base v ps ∧ ∀ p ∈ ps, IntE w (fun k => v.ownBlock = some k) p

theorem IntsRow.push {w w1 w5 : World} {base : Nat} {v v5 nv : Value} {ps : List (Value × Tm)} {t : Tm} {lit : Obj} (h : IntsRow w base v ps) (hb : Below w.heap.size w w1) (hn : IntE w1 (fun k => k < w.heap.size) (nv, t))
    (hown : w5.ownsRow base 27 6 v5 (ps.length + 1) (flat ps ++ cells6 nv)) (hgr : (w1.alloc lit).grownBy w5 v.ownBlock) (hloc : v5.ownBlock = v.ownBlock ∨ v5.ownBlock = some (w1.alloc lit).heap.size) : IntsRow w5 base v5 (ps ++ [(nv, t)]) := by
  have ba := (Below.refl w1.heap.size w1).alloc (Nat.le_refl _) lit
  have key : ∀ p, IntE w1 (fun k => v.ownBlock = some k) p → IntE w5 (fun k => v5.ownBlock = some k) p := by
    intro p hp
    obtain ⟨n, a, z, c, h1, h2, h3, h4, h5⟩ := hp.under ba
    refine ⟨n, a, z, c, h1, h2, h3.grown hgr (fun h0 => ?_), h4, fun k h0 hk hbad => ?_⟩
    · cases hv : v.ownBlock with
      | none => exact Or.inl rfl
      | some r => exact Or.inr (fun e => h5 r h0 e hv)
    · obtain ⟨k', hk1, hk2⟩ := h3.block h0
      rw [hk] at hk1
      injection hk1 with hk1
      subst hk1
      rcases hloc with hl | hl
      · exact h5 k h0 hk (hl ▸ hbad)
      · rw [hl] at hbad
        injection hbad with hbad
        omega
  refine ⟨?_, fun p hp => ?_⟩
  · unfold WaitT
    rw [flat_app, List.length_append]
    simpa [flat] using hown
  · rcases List.mem_append.1 hp with hp | hp
    · exact key p ((h.2 p hp).under hb)
    · simp only [List.mem_singleton] at hp
      subst hp
      refine key _ ?_
      obtain ⟨n, a, z, c, h1, h2, h3, h4, h5⟩ := hn
      exact ⟨n, a, z, c, h1, h2, h3, h4, fun k h0 hk hbad => h5 k h0 hk (World.ownsRow.lt h.1 k hbad).2⟩

theorem flat_get : ∀ (ps : List (Value × Tm)), (∀ p ∈ ps, (cells6 p.1).length = 6) → ∀ (i j : Nat) (hi : i < ps.length), j < 6 → (flat ps)[i * 6 + j]? = (cells6 ps[i].1)[j]?
  | [], _, i, j, hi, _ => by simp at hi
  | p :: ps, h, 0, j, hi, hj => by
    have h6 := h p (by simp)
    have : flat (p :: ps) = cells6 p.1 ++ flat ps := by simp [flat]
    rw [this, List.getElem?_append_left (by omega)]
    simp
  | p :: ps, h, i + 1, j, hi, hj => by
    have h6 := h p (by simp)
    have : flat (p :: ps) = cells6 p.1 ++ flat ps := by simp [flat]
    rw [this, List.getElem?_append_right (by omega), h6, show (i + 1) * 6 + j - 6 = i * 6 + j by omega, flat_get ps (fun q hq => h q (List.mem_cons_of_mem _ hq)) i j (by simpa using hi) hj]
    simp

theorem IntsRow.ts {w : World} {base : Nat} {v : Value} {ps : List (Value × Tm)} (h : IntsRow w base v ps) : Ts w v (ps.map Prod.snd) := by
  have hw := h.1
  rcases h.1.2 with ⟨rfl, h1⟩ | ⟨g, cap, cur, rfl, hb, hh, hn, hc, _, _⟩
  · obtain rfl : ps = [] := List.eq_nil_of_length_eq_zero h1
    exact Ts.nil w
  · have hl : (ps.map Prod.snd).length = ps.length := by simp
    refine ⟨some ⟨g, 0, none⟩, cap, fun i => (ps.map Prod.fst).getD i (.bool false), by rw [hl], ⟨by rw [hl]; exact hn, by unfold maxLen at hc; omega, fun e => (by cases e), fun _ => ⟨g, 0, rfl, (Array.getElem?_eq_some_iff.1 hh).1, fun i hi => ?_⟩⟩, fun i hi => ?_⟩
    · rw [hl] at hi
      have h6 : ∀ p ∈ ps, (cells6 p.1).length = 6 := fun p hp => (h.2 p hp).six
      have hc : ∀ j, j < 6 → w.cell? ⟨g, i * 6 + j, none⟩ = (cells6 ps[i].1)[j]? := fun j hj => by
        rw [World.ownsRow.cellAt hw (i * 6 + j) (by omega), flat_get ps h6 i j hi hj]
      obtain ⟨n, a, z, c, h1, -⟩ := h.2 ps[i] (List.getElem_mem hi)
      rw [h1] at hc
      have e : (ps.map Prod.fst).getD i (.bool false) = tmV 1 n (.slice a z.length c) ⟨#[]⟩ 0 (.slice none 0 0) := by
        simp [List.getD, hi, h1]
      show At6 w g (0 + i * 6) ((ps.map Prod.fst).getD i (.bool false))
      rw [e, Nat.zero_add]
      exact ⟨_, _, _, _, _, _, rfl, (hc 0 (by omega)).trans rfl, (hc 1 (by omega)).trans rfl, (hc 2 (by omega)).trans rfl, (hc 3 (by omega)).trans rfl, (hc 4 (by omega)).trans rfl, (hc 5 (by omega)).trans rfl⟩
    · rw [hl] at hi
      have := (h.2 ps[i] (List.getElem_mem hi)).isT
      simpa [List.getD, hi] using this
theorem IntsRow.ints {w : World} {base : Nat} {v : Value} {ps : List (Value × Tm)} (h : IntsRow w base v ps) : ∀ t ∈ ps.map Prod.snd, isI t := by
  intro t ht
  obtain ⟨p, hp, rfl⟩ := List.mem_map.1 ht
  exact (h.2 p hp).isI
theorem IntsRow.nil (w : World) (base : Nat) : IntsRow w base (.slice none 0 0) [] := ⟨World.ownsRow_nil w base _ _, fun p hp => by simp at hp⟩

/-- A loop's state: so many are there. -/
def TupSt (w : World) (K : List Int) (q : Nat) (sv si : Value) (wr : World) : Prop :=
  ∃ i ps, i + q = K.length ∧ si = .int .i64 (i : Int) ∧ IntsRow wr w.heap.size sv ps ∧ ps.map (fun p => tval p.2) = K.take i ∧ Below w.heap.size w wr
theorem tup_take {K : List Int} {i : Nat} {ps : List (Value × Tm)} {nv : Value} {t : Tm} (h : ps.map (fun p => tval p.2) = K.take i) (hi : i < K.length) (ht : tval t = K.getD i 0) : (ps ++ [(nv, t)]).map (fun p => tval p.2) = K.take (i + 1) := by
  rw [List.map_append, h, List.take_succ_eq_append_getElem hi]
  simp [ht, List.getD, hi]
end Go.Proofs.YtfcdocgjmgpmkaaDoor
