
/-
  ext: the reader's box; take.
-/
import Derived.Test.YtbmondbicnfcpaaDoorExtJ
import Derived.Deep.QuietTactic
namespace Go.Proofs.YtbmondbicnfcpaaDoor
open Go.RowKit
set_option linter.unusedVariables false
set_option linter.unusedSimpArgs false

/-- The reader's box: its bytes, its place, how many terms there were, those that are open. -/
def RdX (w : World) (g : Nat) (v : Value) (p n : Int) (ov : Value) : Prop := w.heap[g]? = some (.cells #[v, .int .i64 p, .int .i64 n, ov] 80 (0, 0)) ∧ IsS v ∧ IsS ov
theorem RdX.new (w : World) (v : Value) (p n : Int) (ov : Value) (h : IsS v) (ho : IsS ov) : RdX (w.alloc (.cells #[v, .int .i64 p, .int .i64 n, ov] 80)) w.heap.size v p n ov := ⟨heap_alloc_new w _, h, ho⟩
theorem RdX.lt {w : World} {g : Nat} {v ov : Value} {p n : Int} (h : RdX w g v p n ov) : g < w.heap.size := (Array.getElem?_eq_some_iff.1 h.1).1
theorem RdX.facts {w : World} {g : Nat} {v ov : Value} {p n : Int} (h : RdX w g v p n ov) : (w.cell? ⟨g, 0, none⟩ = some v ∧ w.cell? ⟨g, 1, none⟩ = some (.int .i64 p) ∧ w.cell? ⟨g, 2, none⟩ = some (.int .i64 n) ∧ w.cell? ⟨g, 3, none⟩ = some ov) ∧
    w.frozen? ⟨g, 0, none⟩ = false ∧ w.frozen? ⟨g, 1, none⟩ = false ∧ w.frozen? ⟨g, 2, none⟩ = false ∧ w.frozen? ⟨g, 3, none⟩ = false := by
  obtain ⟨h, -⟩ := h
  refine ⟨⟨?_, ?_, ?_, ?_⟩, ?_, ?_, ?_, ?_⟩ <;> simp [World.cell?, World.frozen?, h]
theorem RdX.block {w w' : World} {g : Nat} {v ov : Value} {p n : Int} (h : RdX w g v p n ov) (hb : w'.heap[g]? = w.heap[g]?) : RdX w' g v p n ov := ⟨by rw [hb]; exact h.1, h.2⟩
theorem RdX.under {w w' : World} {g : Nat} {v ov : Value} {p n : Int} (h : RdX w g v p n ov) (hb : Below w.heap.size w w') : RdX w' g v p n ov := h.block (hb.block g h.lt)
theorem RdX.setP {w : World} {g : Nat} {v ov : Value} {p n : Int} (h : RdX w g v p n ov) (q : Int) : RdX (w.setCell ⟨g, 1, none⟩ (.int .i64 q)) g v q n ov := by
  refine ⟨?_, h.2⟩
  simp [World.setCell, Array.getElem?_modify, h.1]
theorem RdX.setN {w : World} {g : Nat} {v ov : Value} {p n : Int} (h : RdX w g v p n ov) (q : Int) : RdX (w.setCell ⟨g, 2, none⟩ (.int .i64 q)) g v p q ov := by
  refine ⟨?_, h.2⟩
  simp [World.setCell, Array.getElem?_modify, h.1]
theorem RdX.setO {w : World} {g : Nat} {v ov : Value} {p n : Int} (h : RdX w g v p n ov) (q : Value) (hq : IsS q) : RdX (w.setCell ⟨g, 3, none⟩ q) g v p n q := by
  refine ⟨?_, h.2.1, hq⟩
  simp [World.setCell, Array.getElem?_modify, h.1]
theorem RdX.drewN {w : World} {g : Nat} {v ov : Value} {p n : Int} (h : RdX w g v p n ov) (m : Nat) : RdX (w.drewN m) g v p n ov := h
theorem RdX.drew {w : World} {g : Nat} {v ov : Value} {p n : Int} (h : RdX w g v p n ov) : RdX w.drew g v p n ov := h
theorem Grw.drewN {g : Nat} {w a : World} (h : Grw g w a) (m : Nat) : Grw g w (a.drewN m) := h.more (below_drewN (Below.refl _ _) m)
theorem Grw.drew {g : Nat} {w a : World} (h : Grw g w a) : Grw g w a.drew := h.more ((Below.refl _ _).drew)
theorem Grw.setCell {g : Nat} {w a : World} (h : Grw g w a) (j : Nat) (u : Value) : Grw g w (a.setCell ⟨g, j, none⟩ u) := h.but ((But.refl g a).setCell j u) (.inl rfl)
/-- A part of bytes. -/
theorem By.part {w : World} {b off n cap : Nat} {l : List UInt8} (h : By w (.slice (some ⟨b, off, none⟩) n cap) l) (i j ob : Nat) (hij : i ≤ j) (hj : j ≤ l.length) (hob : ob = if cap = i then off else off + i) : By w (.slice (some ⟨b, ob, none⟩) (j - i) (cap - i)) ((l.drop i).take (j - i)) := by
  obtain ⟨a', cap', he, h1, h2, h3⟩ := h.shape
  injection he with e1 e2 e3
  subst e3
  have ht := h.take j cap hj (by omega) (Nat.le_refl _)
  have hl : (l.take j).length = j := by simp; omega
  have hd := ht.dropI i ob (by omega) hob
  rw [hl] at hd
  rwa [List.drop_take] at hd

/-- take's answer: the part; else that it is too short. -/
def TkP (W0 w : World) (g : Nat) (bv : Value) (l : List UInt8) (p n : Nat) (ov : Value) (m : Nat) (e : Ending) (w' : World) : Prop :=
  ∃ s k, e = .returned (.tuple #[s, .int .i64 k]) ∧ IsS s ∧ Grw g w w' ∧ ((p + m ≤ l.length ∧ k = 0 ∧ By W0 s ((l.drop p).take m) ∧ RdX w' g bv ((p + m : Nat) : Int) n ov) ∨ (l.length < p + m ∧ k = 3 ∧ s = .slice none 0 0))

set_option maxRecDepth 100000 in
set_option maxHeartbeats 2000000 in
theorem takeX_any (W0 w : World) (g : Nat) (bv : Value) (l : List UInt8) (p n : Nat) (ov : Value) (m : Nat) (hx : RdX w g bv p n ov) (hy : By W0 bv l) (hp : p ≤ l.length) (hm : m ≤ 1000000000) (hl : l.length ≤ 1000000000) :
    Calls Tryd.prog 130 #[.pointer (some ⟨g, 0, none⟩), .int .i64 (m : Int)] w fun e w' => TkP W0 w g bv l p n ov m e w' := by
  obtain ⟨a, cap, rfl, hc, hcm, hnl⟩ := hy.shape
  obtain ⟨⟨d0, d1, d2, d3⟩, e0, e1, e2, e3⟩ := hx.facts
  have hp2 : (p : Int) ≤ (l.length : Int) := by omega
  have hl2 : (l.length : Int) ≤ 1000000000 := by omega
  have hm2 : (m : Int) ≤ 1000000000 := by omega
  have hglt := hx.lt
  by_cases hs : l.length < p + m
  · have hs2 : (l.length : Int) - (p : Int) < (m : Int) := by omega
    have HS : Hid (l.length < p + m) := hs
    clear hs hx
    go_enter Tryd.func130, Tryd.ntmps130
    go_wp2_with fail
    go_quiet (fail)
    go_wp2_with fail
    go_ret2
    exact ⟨_, _, rfl, ⟨_, _, _, rfl⟩, (Grw.refl g w).drewN _, .inr ⟨HS.out, rfl, rfl⟩⟩
  · have hs2 : (m : Int) ≤ (l.length : Int) - (p : Int) := by omega
    have hs3 : (p : Int) + (m : Int) ≤ (cap : Int) := by omega
    have hpn : ((p + m : Nat) : Int) = (p : Int) + (m : Int) := by omega
    have hsl : (p : Int) + (m : Int) - (m : Int) = (p : Int) := by omega
    have HS : Hid (p + m ≤ l.length) := by unfold Hid; omega
    have HBN : Hid (∀ k, RdX ((w.drewN k).setCell ⟨g, 1, none⟩ (.int .i64 ((p : Int) + (m : Int)))) g (.slice a l.length cap) ((p : Int) + (m : Int)) n ov) := fun k => (hx.drewN k).setP ((p : Int) + (m : Int))
    have HON : Hid (∀ k, Grw g w ((w.drewN k).setCell ⟨g, 1, none⟩ (.int .i64 ((p : Int) + (m : Int))))) := fun k => ((Grw.refl g w).drewN k).setCell _ _
    have HPN : Hid (p + m - p = m) := by unfold Hid; omega
    have HPM : Hid (((p + m : Nat) : Int) = (p : Int) + (m : Int)) := hpn
    cases a with
    | none =>
      have hz := hnl rfl
      obtain rfl : l = [] := List.eq_nil_of_length_eq_zero (by omega)
      obtain rfl : p = 0 := by simpa using hp
      obtain rfl : m = 0 := by simp at hs; omega
      clear hs hx hpn
      go_enter Tryd.func130, Tryd.ntmps130
      go_wp2_with fail
      go_quiet (fail)
      go_wp2_with fail
      go_quiet (fail)
      go_wp2_with fail
      go_ret2
      refine ⟨_, _, rfl, ⟨_, _, _, rfl⟩, (HON.out _).drewN _, .inl ⟨HS.out, rfl, ?_, ?_⟩⟩
      · exact By.nil _
      · exact (HBN.out _).drewN _
    | some ad =>
      by_cases h0 : 0 < l.length
      · obtain ⟨b, off, he, hlt, -⟩ := hy.at 0 h0
        injection he with he
        subst he
        obtain ⟨ob, hob⟩ : ∃ ob, ob = if cap = p then off else off + p := ⟨_, rfl⟩
        have hy2 := hy.part p (p + m) ob (by omega) (by omega) hob
        rw [show p + m - p = m by omega] at hy2
        have hq : (if cap = p then some (⟨b, off, none⟩ : Addr) else some ⟨b, off + p, none⟩) = some ⟨b, ob, none⟩ := by rw [hob]; split <;> rfl
        have HY : Hid (By W0 (.slice (some ⟨b, ob, none⟩) m (cap - p)) ((l.drop p).take m)) := hy2
        clear hs hob hpn hx hy2
        go_enter Tryd.func130, Tryd.ntmps130
        go_wp2_with fail
        go_quiet (fail)
        go_wp2_with fail
        go_quiet (fail)
        go_wp2_with fail
        go_ret2
        refine ⟨.slice (some ⟨b, ob, none⟩) (p + m - p) (cap - p), 0, rfl, ⟨_, _, _, rfl⟩, (HON.out _).drewN _, .inl ⟨HS.out, rfl, ?_, ?_⟩⟩
        · rw [HPN.out]; exact HY.out
        · rw [HPM.out]; exact (HBN.out _).drewN _
      · obtain rfl : l = [] := List.eq_nil_of_length_eq_zero (by omega)
        obtain rfl : p = 0 := by simpa using hp
        obtain rfl : m = 0 := by simp at hs; omega
        clear hs hx hpn
        go_enter Tryd.func130, Tryd.ntmps130
        go_wp2_with fail
        go_quiet (fail)
        go_wp2_with fail
        go_quiet (fail)
        go_wp2_with fail
        go_ret2
        refine ⟨_, _, rfl, ⟨_, _, _, rfl⟩, (HON.out _).drewN _, .inl ⟨HS.out, rfl, ?_, ?_⟩⟩
        · exact ⟨some ad, cap, rfl, Nat.zero_le _, by omega, fun e => (by cases e), fun h => absurd h (by decide)⟩
        · exact (HBN.out _).drewN _
end Go.Proofs.YtbmondbicnfcpaaDoor
