
/-
  num.Text: the text of a number.
-/
import Derived.Test.YtnfnnngdbeplaaaDoorNumRev
namespace Go.Proofs.YtnfnnngdbeplaaaDoor
open Go.RowKit
set_option linter.unusedVariables false

/-- A text is answered. -/
def TextPost (w : World) (x : Int) (e : Ending) (w' : World) : Prop := e = .returned (.string (strOfNums (decL x))) ∧ Below w.heap.size w w'

theorem OwnB.shape {w : World} {base : Nat} {v : Value} {D : List Int} (h : OwnB w base v D) (h0 : 0 < D.length) : ∃ g cap, v = .slice (some ⟨g, 0, none⟩) D.length cap ∧ base ≤ g ∧ g < w.heap.size ∧ ∀ i, i < D.length → w.cell? ⟨g, 0 + i, none⟩ = some (.int .u8 (D.getD i 0)) := by
  have h' := h
  rcases h.2 with ⟨_, h1⟩ | ⟨g, cap, cur, rfl, hb, hh, _⟩
  · omega
  · refine ⟨g, cap, rfl, hb, (Array.getElem?_eq_some_iff.1 hh).1, fun i hi => ?_⟩
    unfold OwnB at h'
    rw [Nat.zero_add, h'.cellAt i (by omega)]
    simp [List.getD, hi]

theorem natAbs_Z (n : Bool) {zs : List Int} (h : Ok zs) {A : Nat} (hA : V zs = (A : Int)) : (Z n (V zs)).natAbs = A := by
  have := abs_Z n h
  omega

theorem dec_small {A : Nat} (h : (A : Int) < B 12) : 0 < (dg A).length ∧ (dg A).length ≤ 116 := by
  have h2 := B12_dec
  refine dg_len 116 A ?_ (by decide)
  have : (A : Int) < ((10 ^ 116 : Nat) : Int) := by
    refine Int.lt_trans h ?_
    simpa using h2
  exact Int.ofNat_lt.1 this

set_option maxHeartbeats 4000000 in
theorem text_any (v : Value) (x : Int) (w : World) (h : Nx w v x) : Calls Tryd.prog 59 #[v] w fun e w' => TextPost w x e w' := by
  obtain ⟨i, hi, hz0, hz1, hz2⟩ := info_parts Tryd.infoU8
  have h0 := h
  obtain ⟨neg, zs, ⟨s, rfl, hs⟩, hv⟩ := h
  obtain ⟨p, c, rfl⟩ := hs.shape
  have hb1 := (Below.refl w.heap.size w).alloc (Nat.le_refl _) (.cells #[.bool neg, .slice p zs.length c] 24)
  have x0 := Bx.new w neg p zs.length c
  have h1 := h0.below hb1
  clear h0
  go_enter Tryd.func59, Tryd.ntmps59
  go_wp2_with fail
  refine (taken_any _ x _ h1).mono ?_
  rintro e w1 ⟨v1, rfl, ⟨n1, z1, ⟨s1, rfl, t1⟩, hg1, hx1⟩, hb2⟩
  obtain ⟨p1, c1, rfl⟩ := t1.shape
  have y0 := x0.below hb2 (by simp)
  have hbw := hb1.trans (hb2.mono (by simp))
  obtain ⟨A, hA⟩ := Int.eq_ofNat_of_zero_le (V_nonneg t1.ok)
  have hA12 : (A : Int) < B 12 := by rw [← hA]; exact (room_len t1.ok hg1.2.1).1 hg1.1
  have hdl := dec_small hA12
  have hsg := Z_pos hg1 t1.ok
  rw [hx1] at hsg
  have hab : x.natAbs = A := by rw [← hx1]; exact natAbs_Z n1 t1.ok hA
  have hl1 : z1.length ≤ 12 := hg1.1
  have HA : Hid (V z1 = (A : Int)) := hA
  have HDL : Hid (0 < (dg A).length ∧ (dg A).length ≤ 116) := hdl
  have HT : Hid (decL x = if n1 = true then 45 :: (dg A).reverse else (dg A).reverse) := by
    show decL x = _
    unfold decL
    rw [hab]
    cases n1
    · rw [if_neg (by have := hsg.2 rfl; omega)]; rfl
    · rw [if_pos (hsg.1 rfl)]; rfl
  clear hb1 hb2 x0 hv hs h1 hg1 hx1 hA hA12 hdl hsg hab
  obtain ⟨a0, a1, f0, f1, l0⟩ := y0.facts
  go_wp2_with fail
  rw [setBx_eq]
  have hbut := setBx_but w1 w.heap.size n1 (.slice p1 z1.length c1)
  have u0 := y0.set (neg' := n1) (p := p1) (n := z1.length) (c := c1)
  replace t1 := t1.box y0 hbut
  replace hbw := hbw.trans (hbut.below (Nat.le_refl _))
  clear a0 a1 f0 f1 l0 y0 hbut
  generalize setBx w1 w.heap.size n1 (.slice p1 z1.length c1) = w2 at *
  obtain ⟨c0, c1', -⟩ := u0.facts
  refine (digits_any _ z1 A _ t1 HA.out (by omega) (by have := HDL.out; omega)).mono ?_
  rintro e w3 ⟨v3, rfl, o3, b3⟩
  obtain ⟨D, hD⟩ : ∃ D, D = dg A := ⟨_, rfl⟩
  have hDl : 0 < D.length ∧ D.length ≤ 116 := by rw [hD]; exact HDL.out
  rw [← hD] at o3 HT
  replace u0 := u0.under b3
  replace hbw2 := hbw.trans (b3.mono hbw.size)
  have hbase := hbw.size
  have hb3 := b3.size
  clear c0 c1' HDL HA hD t1 b3
  obtain ⟨c0, c1', -⟩ := u0.facts
  cases n1
  · have hD0 := hDl.1
    obtain ⟨g, cap, rfl, hg1, hg2, hcells⟩ := OwnB.shape o3 hD0
    clear hcells
    go_wp2_with fail
    refine (reverse_own g cap _ D _ (by omega) o3).mono ?_
    rintro e w4 ⟨rfl, o4, b4⟩
    have o4' : OwnB w4 w2.heap.size (.slice (some ⟨g, 0, none⟩) (D).reverse.length cap) (D).reverse := by rw [List.length_reverse]; exact o4
    obtain ⟨g', cap', he, -, -, hc'⟩ := OwnB.shape o4' (by simpa using hD0)
    simp only [Value.slice.injEq, Option.some.injEq, Addr.mk.injEq] at he
    obtain ⟨⟨rfl, -⟩, -, rfl⟩ := he
    have hcv := run_convert_bytes_arg (P := Tryd.prog) w4 62 5 Tryd.underlying62 Tryd.underlying5 g 0 (D).length cap (D).reverse (by simp) (fun j hj => hc' j (by simpa using hj)) 9 Tryd.underlying9
    have hbF := hbw2.trans (b4.mono (by omega))
    clear hc' o4 o4' b4
    go_wp2_with fail
    go_ret
    refine ⟨?_, hbF⟩
    rw [HT.out]
    rfl
  · have happ := o3
    unfold OwnB at happ
    have hgr0 : ∀ k, v3.ownBlock = some k → w2.heap.size ≤ k := fun k hk => (World.ownsRow.lt happ k hk).1
    go_wp2_with (first | (at_builtin; refine wpList_append_own_at _ rfl _ _ 62 rfl w2.heap.size 5 i (.int .u8 0) 1 1 Tryd.underlying62 hi hz0 hz1 hz2 rfl (by decide) v3 D.length (D.map (Value.int .u8)) rfl (World.ownsRow.alloc happ _) ⟨w3.heap.size, 0, none⟩ 1 1 [.int .u8 45] rfl rfl (cell_one_new _ _ _) (ints_oneCell .u8 [45]) (by simp only [maxLen]; omega) (by omega) (by simp; omega) ?_; intro v5 w5 hown5 hgr5 hnil5 hloc5) | fail)
    have o5 := OwnB.more hown5
    have hb5 : Below w.heap.size w w5 := (hbw2.alloc (by omega) _).grown hgr5 (by simp; omega) (fun k hk => Nat.le_trans hbase (hgr0 k hk))
    clear hown5 hgr5 hnil5 hloc5 happ o3
    obtain ⟨g, cap, rfl, hg1, hg2, hcells⟩ := OwnB.shape o5 (by simp)
    clear hcells
    go_wp2_with fail
    refine (reverse_own g cap _ (D ++ [45]) _ (by simp; omega) o5).mono ?_
    rintro e w4 ⟨rfl, o4, b4⟩
    have o4' : OwnB w4 w2.heap.size (.slice (some ⟨g, 0, none⟩) (D ++ [45]).reverse.length cap) (D ++ [45]).reverse := by rw [List.length_reverse]; exact o4
    obtain ⟨g', cap', he, -, -, hc'⟩ := OwnB.shape o4' (by simp)
    simp only [Value.slice.injEq, Option.some.injEq, Addr.mk.injEq] at he
    obtain ⟨⟨rfl, -⟩, -, rfl⟩ := he
    have hcv := run_convert_bytes_arg (P := Tryd.prog) w4 62 5 Tryd.underlying62 Tryd.underlying5 g 0 (D.length + 1) cap (D ++ [45]).reverse (by simp) (fun j hj => hc' j (by simpa using hj)) 9 Tryd.underlying9
    have hbF := hb5.trans (b4.mono (by omega))
    clear hc' o4 o4' b4
    go_wp2_with fail
    go_ret
    refine ⟨?_, hbF⟩
    rw [HT.out]
    simp
end Go.Proofs.YtnfnnngdbeplaaaDoor
