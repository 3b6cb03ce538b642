/-
  compact: the reader's box; take.
-/
import Derived.Test.YtfjibcldghnjcaaDoorCpH
import Derived.WalkSmall
namespace Go.Proofs.YtfjibcldghnjcaaDoor
open Go.RowKit
set_option linter.unusedVariables false
set_option linter.unusedSimpArgs false

/-- The reader's box: its bytes, its place. -/
def BxR (w : World) (g : Nat) (v : Value) (at' : Int) : Prop := w.heap[g]? = some (.cells #[v, .int .i64 at'] 69 (0, 0)) ∧ ∃ a n c, v = .slice a n c
theorem BxR.new (w : World) (a : Option Addr) (n c : Nat) (at' : Int) : BxR (w.alloc (.cells #[.slice a n c, .int .i64 at'] 69)) w.heap.size (.slice a n c) at' := ⟨heap_alloc_new w _, a, n, c, rfl⟩
theorem BxR.lt {w : World} {g : Nat} {v : Value} {at' : Int} (h : BxR w g v at') : g < w.heap.size := (Array.getElem?_eq_some_iff.1 h.1).1
theorem BxR.facts {w : World} {g : Nat} {v : Value} {at' : Int} (h : BxR w g v at') : w.cell? ⟨g, 0, none⟩ = some v ∧ w.cell? ⟨g, 1, none⟩ = some (.int .i64 at') ∧ w.frozen? ⟨g, 0, none⟩ = false ∧ w.frozen? ⟨g, 1, none⟩ = false := by
  obtain ⟨h, -⟩ := h
  refine ⟨?_, ?_, ?_, ?_⟩ <;> simp [World.cell?, World.frozen?, h]
theorem BxR.under {w w' : World} {g : Nat} {v : Value} {at' : Int} (h : BxR w g v at') (hb : Below w.heap.size w w') : BxR w' g v at' := ⟨by rw [hb.block g h.lt]; exact h.1, h.2⟩
theorem BxR.set {w : World} {g : Nat} {v : Value} {at' : Int} (h : BxR w g v at') (n : Int) : BxR (w.setCell ⟨g, 1, none⟩ (.int .i64 n)) g v n := by
  refine ⟨?_, h.2⟩
  simp [World.setCell, Array.getElem?_modify, h.1]
/-- All old blocks but g stand. -/
structure Oth (g : Nat) (w w' : World) : Prop where
  mk ::
  below : Below g w w'
  size : w.heap.size ≤ w'.heap.size
  block : ∀ b, b < w.heap.size → b ≠ g → w'.heap[b]? = w.heap[b]?
theorem Oth.refl (g : Nat) (w : World) : Oth g w w := ⟨Below.refl _ _, Nat.le_refl _, fun _ _ _ => rfl⟩
theorem Oth.trans {g : Nat} {a b c : World} (h : Oth g a b) (k : Oth g b c) : Oth g a c := ⟨h.below.trans k.below, Nat.le_trans h.size k.size, fun x hx hn => (k.block x (Nat.lt_of_lt_of_le hx h.size) hn).trans (h.block x hx hn)⟩
theorem Oth.of {g : Nat} {w w' : World} (h : Below w.heap.size w w') (hg : g ≤ w.heap.size) : Oth g w w' := ⟨h.mono hg, h.size, fun b hb _ => h.block b hb⟩
theorem Oth.set (g j : Nat) (w : World) (u : Value) : Oth g w (w.setCell ⟨g, j, none⟩ u) := ⟨Below.setCell (p := ⟨g, j, none⟩) (Below.refl _ _) (Nat.le_refl _) u, by rw [set_size]; exact Nat.le_refl _, fun b _ hn => set_block w g j u b hn⟩
theorem Oth.cell {g : Nat} {w w' : World} (h : Oth g w w') {b off : Nat} (hb : b < w.heap.size) (hn : b ≠ g) : w'.cell? ⟨b, off, none⟩ = w.cell? ⟨b, off, none⟩ := World.cell?_of_block (h.block b hb hn)
theorem BxR.no {w : World} {g : Nat} {v : Value} {at' : Int} (h : BxR w g v at') {off : Nat} {u : Value} (hc : w.cell? ⟨g, off, none⟩ = some u) : u = v ∨ u = .int .i64 at' := by
  obtain ⟨h, -⟩ := h
  match off with
  | 0 => simp [World.cell?, h] at hc; exact .inl hc.symm
  | 1 => simp [World.cell?, h] at hc; exact .inr hc.symm
  | k + 2 => simp [World.cell?, h] at hc
theorem By.oth {w w' : World} {g : Nat} {v vb : Value} {at' : Int} {l : List UInt8} (h : By w v l) (hb : BxR w g vb at') (ho : Oth g w w') : By w' v l := by
  obtain ⟨a, cap, rfl, hl, hc, hn, hp⟩ := h
  refine ⟨a, cap, rfl, hl, hc, hn, fun h0 => ?_⟩
  obtain ⟨b, off, rfl, hlt, hcell⟩ := hp h0
  have hne : b ≠ g := by
    rintro rfl
    obtain ⟨_, _, _, hv⟩ := hb.2
    rcases hb.no (hcell 0 h0) with e | e
    · rw [hv] at e; cases e
    · cases e
  refine ⟨b, off, rfl, Nat.lt_of_lt_of_le hlt ho.size, fun i hi => ?_⟩
  rw [ho.cell hlt hne]
  exact hcell i hi
theorem Rw3.oth {w w' : World} {g : Nat} {v vb : Value} {at' : Int} {l : List El} (h : Rw3 w v l) (hb : BxR w g vb at') (ho : Oth g w w') : Rw3 w' v l := by
  obtain ⟨a, cap, rfl, hl, hc, hn, hf, hp⟩ := h
  refine ⟨a, cap, rfl, hl, hc, hn, hf, fun h0 => ?_⟩
  obtain ⟨b, off, rfl, hlt, hcell⟩ := hp h0
  have hne : b ≠ g := by
    rintro rfl
    obtain ⟨h, -⟩ := hb
    have := (hcell 0 h0).2.2
    simp [World.cell?, h] at this
  refine ⟨b, off, rfl, Nat.lt_of_lt_of_le hlt ho.size, fun i hi => ?_⟩
  obtain ⟨h0, h1, h2⟩ := hcell i hi
  exact ⟨by rw [ho.cell hlt hne]; exact h0, by rw [ho.cell hlt hne]; exact h1, by rw [ho.cell hlt hne]; exact h2⟩
theorem Spn.oth {w w' : World} {g : Nat} {vb : Value} {at' : Int} (h : Spn w) (hb : BxR w g vb at') (ho : Oth g w w') : Spn w' := by
  obtain ⟨h0, h1, h2, h3, h4, h5, h6, h7, h8, h9, h10, h11⟩ := h
  have hlt : 1 < w.heap.size := World.block_lt_of_cell? w ⟨1, 0, none⟩ h0
  have hne : (1 : Nat) ≠ g := by
    rintro rfl
    obtain ⟨h, -⟩ := hb
    simp [World.cell?, h] at h2
  refine ⟨?_, ?_, ?_, ?_, ?_, ?_, ?_, ?_, ?_, ?_, ?_, ?_⟩ <;> (rw [ho.cell hlt hne]; assumption)

/-- A part of bytes. -/
theorem By.sub {w : World} {b off n cap : Nat} {l : List UInt8} (h : By w (.slice (some ⟨b, off, none⟩) n cap) l) (i j ob : Nat) (hij : i ≤ j) (hj : j ≤ l.length) (hob : ob = if cap = i then off else off + i) : By w (.slice (some ⟨b, ob, none⟩) (j - i) (cap - i)) ((l.drop i).take (j - i)) := by
  obtain ⟨a', cap', he, h1, h2, h3⟩ := h.shape
  injection he with e1 e2 e3
  subst e3
  have ht := h.take j cap hj (by omega) (Nat.le_refl _)
  have hl : (l.take j).length = j := by simp; omega
  have hd := ht.dropI i ob (by omega) hob
  rw [hl] at hd
  rwa [List.drop_take] at hd

/-- Some are taken. -/
def TkPost (w : World) (g : Nat) (vb : Value) (l : List UInt8) (p n : Nat) (e : Ending) (w' : World) : Prop :=
  ∃ v, e = .returned (.tuple #[v, .int .i64 0]) ∧ By w' v ((l.drop p).take n) ∧ BxR w' g vb ((p + n : Nat) : Int) ∧ Oth g w w'
theorem Oth.drew {g : Nat} {w w' : World} (h : Oth g w w') : Oth g w w'.drew := ⟨h.below.drew, h.size, h.block⟩
theorem Oth.drewN {g : Nat} {w w' : World} (h : Oth g w w') (n : Nat) : Oth g w (w'.drewN n) := ⟨below_drewN h.below n, h.size, h.block⟩
theorem BxR.drewN {w : World} {g : Nat} {v : Value} {at' : Int} (h : BxR w g v at') (n : Nat) : BxR (w.drewN n) g v at' := h
theorem BxR.drew {w : World} {g : Nat} {v : Value} {at' : Int} (h : BxR w g v at') : BxR w.drew g v at' := h

set_option maxRecDepth 100000 in
set_option maxHeartbeats 2000000 in
theorem take_short (w : World) (g : Nat) (vb : Value) (l : List UInt8) (p n : Nat) (hb : BxR w g vb (p : Int)) (hv : By w vb l) (hp : p ≤ l.length) (hn : n ≤ 9) (hs : l.length - p < n) :
    Calls Tryd.prog 45 #[.pointer (some ⟨g, 0, none⟩), .int .i64 (n : Int)] w fun e w' => e = .returned (.tuple #[.slice none 0 0, .int .i64 3]) ∧ Below w.heap.size w w' := by
  obtain ⟨a, cap, rfl, hc, hm, hnl⟩ := hv.shape
  obtain ⟨d0, d1, e0, e1⟩ := hb.facts
  have hp2 : (p : Int) ≤ (l.length : Int) := by omega
  have hl2 : (l.length : Int) ≤ 9223372036854775807 := by omega
  have hs2 : (l.length : Int) - (p : Int) < (n : Int) := by omega
  clear hs hb
  go_enter Tryd.func45, Tryd.ntmps45
  go_wp2_with fail
  go_quiet (fail)
  go_wp2_with fail
  go_ret2
  exact ⟨rfl, below_drewN (Below.refl _ _) _⟩

set_option maxRecDepth 100000 in
set_option maxHeartbeats 2000000 in
theorem take_some (w : World) (g : Nat) (vb : Value) (l : List UInt8) (p n : Nat) (hb : BxR w g vb (p : Int)) (hv : By w vb l) (hp : p ≤ l.length) (hn : n ≤ 9) (hs : ¬ l.length - p < n) (h0 : 0 < l.length) :
    Calls Tryd.prog 45 #[.pointer (some ⟨g, 0, none⟩), .int .i64 (n : Int)] w fun e w' => TkPost w g vb l p n e w' := by
  obtain ⟨a, cap, rfl, hc, hm, hnl⟩ := hv.shape
  obtain ⟨d0, d1, e0, e1⟩ := hb.facts
  have hp2 : (p : Int) ≤ (l.length : Int) := by omega
  have hl2 : (l.length : Int) ≤ 9223372036854775807 := by omega
  have hs2 : (n : Int) ≤ (l.length : Int) - (p : Int) := by omega
  have hs3 : (p : Int) + (n : Int) ≤ (cap : Int) := by omega
  unfold TkPost
  obtain ⟨b, off, rfl, hlt, -⟩ := hv.at 0 (by omega)
  obtain ⟨ob, hob⟩ : ∃ ob, ob = if cap = p then off else off + p := ⟨_, rfl⟩
  have hy := hv.sub p (p + n) ob (by omega) (by omega) hob
  rw [show p + n - p = n by omega] at hy
  have hq : (if cap = p then some (⟨b, off, none⟩ : Addr) else some ⟨b, off + p, none⟩) = some ⟨b, ob, none⟩ := by rw [hob]; split <;> rfl
  have hpn : ((p + n : Nat) : Int) = (p : Int) + (n : Int) := by omega
  have HY : Hid (∀ w', Oth g w w' → By w' (.slice (some ⟨b, ob, none⟩) n (cap - p)) ((l.drop p).take n)) := fun w' ho => hy.oth hb ho
  have hsl : (p : Int) + (n : Int) - (n : Int) = (p : Int) := by omega
  have hglt := hb.lt
  have HBN : Hid (∀ m, BxR ((w.drewN m).setCell ⟨g, 1, none⟩ (.int .i64 ((p : Int) + (n : Int)))) g (.slice (some ⟨b, off, none⟩) l.length cap) ((p : Int) + (n : Int))) := fun m => (hb.drewN m).set ((p : Int) + (n : Int))
  have HON : Hid (∀ m, Oth g w ((w.drewN m).setCell ⟨g, 1, none⟩ (.int .i64 ((p : Int) + (n : Int))))) := fun m => ((Oth.refl g w).drewN m).trans (Oth.set _ _ _ _)
  have HPN : Hid (p + n - p = n) := by unfold Hid; omega
  rw [hpn]
  clear hs h0 hy hob hpn hb
  go_enter Tryd.func45, Tryd.ntmps45
  go_wp2_with fail
  go_quiet (fail)
  go_wp2_with fail
  go_quiet (fail)
  go_wp2_with fail
  go_ret2
  refine ⟨.slice (some ⟨b, ob, none⟩) (p + n - p) (cap - p), rfl, ?_, (HBN.out _).drewN _, (HON.out _).drewN _⟩
  rw [HPN.out]
  exact HY.out _ ((HON.out _).drewN _)
end Go.Proofs.YtfjibcldghnjcaaDoor
