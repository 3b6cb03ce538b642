/-
  compact: operand.
-/
import Derived.Test.YtfjibcldghnjcaaDoorCpY
namespace Go.Proofs.YtfjibcldghnjcaaDoor
open Go.RowKit
set_option linter.unusedVariables false
set_option linter.unusedSimpArgs false

theorem num_bad {l : List UInt8} (h : (numR l).e ≠ 0) : (numR l).t = 0 ∧ (numR l).n = 0 := by
  unfold numR at h ⊢
  by_cases h1 : l.length < 1
  · rw [if_pos h1]; exact ⟨rfl, rfl⟩
  rw [if_neg h1] at h ⊢
  by_cases h2 : (szF (l.getD 0 0).toNat).2 = false
  · rw [if_pos h2]; exact ⟨rfl, rfl⟩
  rw [if_neg h2] at h ⊢
  by_cases h3 : ((l.length : Int) - 1) < (szF (l.getD 0 0).toNat).1
  · rw [if_pos h3]; exact ⟨rfl, rfl⟩
  rw [if_neg h3] at h ⊢
  split at h
  · exact absurd rfl h
  · rename_i h4
    rw [if_neg h4]; exact ⟨rfl, rfl⟩
theorem sgl_bad {l : List UInt8} (h : (sglR l).e ≠ 0) : (sglR l).t = 0 ∧ (sglR l).n = 0 := by
  unfold sglR at h ⊢
  split
  · rename_i h1
    rw [if_pos h1] at h
    split
    · rename_i h2
      rw [if_pos h2] at h
      exact absurd rfl h
    · exact ⟨rfl, rfl⟩
  · rename_i h1
    rw [if_neg h1] at h
    exact num_bad h
/-- A slice of operands stands where an operand's box is written. -/
theorem Rw3.setA {w : World} {gr : Nat} {a : Option Addr} {m c : Nat} {l : List El} (h : Rw3 w (.slice a m c) l) (hne : ∀ x, a = some x → x.block ≠ gr) (t n : Int) (sl : Value) : Rw3 (setBxA w gr t n sl) (.slice a m c) l := by
  obtain ⟨a', cap, he, hl, hc, hn, hf, hp⟩ := h
  injection he with e1 e2 e3
  subst e1; subst e2; subst e3
  refine ⟨a, c, rfl, hl, hc, hn, hf, fun h0 => ?_⟩
  obtain ⟨b, off, rfl, hlt, hcell⟩ := hp h0
  have hb := hne _ rfl
  refine ⟨b, off, rfl, by rw [setA_size]; exact hlt, fun i hi => ?_⟩
  obtain ⟨h0, h1, h2⟩ := hcell i hi
  have e : ∀ j, (setBxA w gr t n sl).cell? ⟨b, j, none⟩ = w.cell? ⟨b, j, none⟩ := fun j => World.cell?_of_block (a := ⟨b, j, none⟩) (setA_block w gr t n sl b hb)
  exact ⟨by rw [e]; exact h0, by rw [e]; exact h1, by rw [e]; exact h2⟩

set_option maxRecDepth 100000 in
set_option maxHeartbeats 1000000 in
theorem operand_any (w : World) (g : Nat) (vb : Value) (l : List UInt8) (p : Nat) (hS : Spn w) (hb : BxR w g vb (p : Int)) (hv : By w vb l) (hp : p ≤ l.length) :
    Calls Tryd.prog 34 #[.pointer (some ⟨g, 0, none⟩)] w fun e w' => OpPost w g vb p (opR (l.drop p)) e w' := by
  obtain ⟨av, cap, rfl, hc1, hc2, hc3⟩ := hv.shape
  have hdl : (l.drop p).length = l.length - p := by simp
  have hglt := hb.lt
  obtain ⟨R, hR⟩ : ∃ R, opR (l.drop p) = R := ⟨_, rfl⟩
  have HR : Hid (opR (l.drop p) = R) := hR
  rw [hR]; clear hR
  have hcap2 : (l.length : Int) ≤ (cap : Int) := by omega
  have bA := (Below.refl w.heap.size w).alloc (Nat.le_refl _) (.cells #[.int .i64 0, .int .i64 0, .slice none 0 0] 30)
  have hlt1 : g < (w.alloc (.cells #[.int .i64 0, .int .i64 0, .slice none 0 0] 30)).heap.size := by simp; omega
  have HO1 : Hid (Oth g w (w.alloc (.cells #[.int .i64 0, .int .i64 0, .slice none 0 0] 30))) := Oth.of bA (by omega)
  have HB1 : Hid (BxR (w.alloc (.cells #[.int .i64 0, .int .i64 0, .slice none 0 0] 30)) g (.slice av l.length cap) (p : Int)) := hb.under bA
  have HV1 : Hid (By (w.alloc (.cells #[.int .i64 0, .int .i64 0, .slice none 0 0] 30)) (.slice av l.length cap) l) := hv.under bA
  have HS1 : Hid (Spn (w.alloc (.cells #[.int .i64 0, .int .i64 0, .slice none 0 0] 30))) := hS.under bA
  have HX1 : Hid (BxA (w.alloc (.cells #[.int .i64 0, .int .i64 0, .slice none 0 0] 30)) w.heap.size 0 0 (.slice none 0 0)) := BxA.new w 0 0 _
  have hgr : w.heap.size ≠ g := by omega
  obtain ⟨c0, c1, c2, -⟩ := HX1.out.facts
  obtain ⟨d0, d1, -, d3⟩ := HB1.out.facts
  have hcell : p < l.length → ∃ b off, av = some ⟨b, off, none⟩ ∧ (w.alloc (.cells #[.int .i64 0, .int .i64 0, .slice none 0 0] 30)).cell? ⟨b, off + p, none⟩ = some (.int .u8 ((l.getD p 0).toNat : Int)) := by
    intro h1
    obtain ⟨b, off, e, -, hbc⟩ := HV1.out.at 0 (by omega)
    exact ⟨b, off, e, hbc p h1⟩
  clear bA hS hb hv
  have hwsz : w.heap.size ≤ w.heap.size := Nat.le_refl _
  generalize hgd : w.heap.size = gr at *
  generalize hw1d : w.alloc (.cells #[.int .i64 0, .int .i64 0, .slice none 0 0] 30) = w1 at *
  have HNM : Hid (∀ S, S = sglR (l.drop p) → ∀ m, Calls Tryd.prog 41 #[.pointer (some ⟨g, 0, none⟩)] (w1.drewN m) fun e w' => NmPost w1 g (.slice av l.length cap) p S e w') := by
    intro S hSn m
    rw [hSn]
    have hdb : Below w1.heap.size w1 (w1.drewN m) := below_drewN (Below.refl _ _) m
    refine (single_any (w1.drewN m) g _ l p (HS1.out.under hdb) (HB1.out.under hdb) (HV1.out.under hdb) hp).mono ?_
    rintro e w' ⟨h1, h2, h3⟩
    exact ⟨h1, h2, (Oth.of hdb (by omega)).trans h3⟩
  by_cases h1 : p < l.length
  · obtain ⟨b, off, rfl, hcc⟩ := hcell h1
    have hpi : (p : Int) < (l.length : Int) := by omega
    have hfd2 : (l.drop p).getD 0 0 = l.getD p 0 := by rw [getD_drop]; rfl
    by_cases h2 : l.getD p 0 = 23
    · rw [h2] at hcc
      have hdd : (l.drop p).drop 1 = l.drop (p + 1) := by rw [List.drop_drop]
      obtain ⟨Q, hQ⟩ : ∃ Q, lstR (l.drop (p + 1)) = Q := ⟨_, rfl⟩
      have HE : Hid (R = (Q.1, Q.2.1, if Q.1 = 0 then 1 + Q.2.2 else 0)) := by unfold Hid; rw [← HR.out, op_list ⟨by omega, by rw [hfd2]; exact h2⟩, hdd, hQ]
      have hp1 : ((p + 1 : Nat) : Int) = (p : Int) + 1 := by omega
      have HPL : Hid (∀ m, Calls Tryd.prog 40 #[.pointer (some ⟨g, 0, none⟩)] ((w1.drewN m).setCell ⟨g, 1, none⟩ (.int .i64 ((p : Int) + 1))) fun e w' => OpPost w1 g (.slice (some ⟨b, off, none⟩) l.length cap) (p + 1) Q e w') := by
        intro m
        have ho : Oth g w1 ((w1.drewN m).setCell ⟨g, 1, none⟩ (.int .i64 ((p : Int) + 1))) := ((Oth.refl g w1).drewN m).trans (Oth.set _ _ _ _)
        have hbx := (HB1.out.drewN m).set ((p : Int) + 1)
        rw [← hp1] at hbx ho ⊢
        refine (list_any _ g _ l (p + 1) (HS1.out.oth HB1.out ho) hbx (HV1.out.oth HB1.out ho) (by omega)).mono ?_
        rw [hQ]
        rintro e w' ⟨sl, h1, h2, ⟨sa, sc, h3, h3'⟩, h4, h5⟩
        exact ⟨sl, h1, h2, ⟨sa, sc, h3, fun x hx => Nat.le_trans ho.size (h3' x hx)⟩, h4, ho.trans h5⟩
      clear HNM hfd2 hQ hdd HR HS1 HV1 HB1 h2 hp1 hcell
      go_enter Tryd.func34, Tryd.ntmps34
      go_wp2_with fail
      go_quiet (fail)
      go_wp2_with fail
      refine (HPL.out _).mono ?_
      rintro e w2 ⟨sl, rfl, hrw, ⟨sa, sc, rfl, hnew⟩, hb2, ho2⟩
      have hgw1 : gr < w1.heap.size := HX1.out.lt
      have HNEW : Hid (∀ x, sa = some x → w1.heap.size ≤ x.block) := hnew
      clear hnew
      unfold agV
      have HB2 : Hid (Q.1 = 0 → BxR w2 g (.slice (some ⟨b, off, none⟩) l.length cap) ((p + 1 + Q.2.2 : Nat) : Int)) := hb2
      have HO2 : Hid (Oth g w w2) := HO1.out.trans ho2
      have HX2 : Hid (BxA w2 gr 0 0 (.slice none 0 0)) := HX1.out.oth ho2 hgr
      have HRW : Hid (Rw3 w2 (.slice sa Q.2.1.l.length sc) (Q.2.1.l.map elOf)) := hrw
      obtain ⟨e0, e1, e2, f0, f1, f2⟩ := HX2.out.facts
      clear hb2 ho2 HPL HO1 HX1 c0 c1 c2 d0 d1 d3 hcc hrw
      go_wp2_with fail
      refine bodyPost_ret (results_a2 rfl _ _ gr Q.2.1.t Q.2.1.n (.slice sa Q.2.1.l.length sc) rfl (HX2.out.set Q.2.1.t Q.2.1.n _)) rfl ?_
      rw [HE.out]
      refine ⟨_, rfl, Rw3.setA HRW.out (fun x hx => by have := HNEW.out x hx; omega) _ _ _, ⟨_, _, rfl, fun x hx => by have := HNEW.out x hx; omega⟩, fun h => ?_, HO2.out.setA (by omega) (by omega) _ _ _⟩
      dsimp only at h ⊢
      have := (HB2.out h).setA hgr.symm Q.2.1.t Q.2.1.n (.slice sa Q.2.1.l.length sc)
      rw [if_pos h, show p + (1 + Q.2.2) = p + 1 + Q.2.2 by omega]
      exact this
    · obtain ⟨S, hSd⟩ : ∃ S, S = sglR (l.drop p) := ⟨_, rfl⟩
      have HE : Hid (R = if S.e = 0 then (0, ⟨S.t, S.n, []⟩, S.k) else (S.e, Ar.zero, 0)) := by unfold Hid; rw [← HR.out]; unfold opR; rw [if_neg (by rw [hfd2]; exact fun h => h2 h.2), ← hSd]
      have HSB : Hid (S.e ≠ 0 → S.t = 0 ∧ S.n = 0) := by unfold Hid; rw [hSd]; exact sgl_bad
      have hne : ¬ (((l.getD p 0).toNat : Int) = 23) := fun h => h2 (u8_eq.1 (by rw [h]; rfl))
      have HN3 : Hid (∀ m, Calls Tryd.prog 41 #[.pointer (some ⟨g, 0, none⟩)] (w1.drewN m) fun e w' => NmPost w1 g (.slice (some ⟨b, off, none⟩) l.length cap) p S e w') := HNM.out S hSd
      obtain ⟨x, hx⟩ : ∃ x : Int, x = ((l.getD p 0).toNat : Int) := ⟨_, rfl⟩
      rw [← hx] at hcc hne
      have hneb : (x == 23) = false := by simp [hne]
      clear HNM hfd2 HR h2 hx hcell hSd
      go_enter Tryd.func34, Tryd.ntmps34
      go_wp2_with fail
      go_quiet (fail)
      go_wp2_with fail
      refine (HN3.out _).mono ?_
      rintro e w2 ⟨rfl, hb2, ho2⟩
      unfold agV
      have HB2 : Hid (S.e = 0 → BxR w2 g (.slice (some ⟨b, off, none⟩) l.length cap) ((p + S.k : Nat) : Int)) := hb2
      have HO2 : Hid (Oth g w w2) := HO1.out.trans ho2
      have HX2 : Hid (BxA w2 gr 0 0 (.slice none 0 0)) := HX1.out.oth ho2 hgr
      obtain ⟨e0, e1, e2, f0, f1, f2⟩ := HX2.out.facts
      clear hb2 ho2 HN3 HO1 HX1 c0 c1 c2 d0 d1 d3
      go_wp2_with fail
      refine bodyPost_ret (results_a2 rfl _ _ gr S.t S.n (.slice none 0 0) rfl (HX2.out.set S.t S.n _)) rfl ?_
      by_cases hSe : S.e = 0
      · rw [HE.out, if_pos hSe]
        refine ⟨.slice none 0 0, ?_, Rw3.nil _, ⟨none, 0, rfl, fun x h => by cases h⟩, fun _ => (HB2.out hSe).setA hgr.symm _ _ _, HO2.out.setA (by omega) (by omega) _ _ _⟩
        show Ending.returned (.tuple #[agV S.t S.n (.slice none 0 0), .int .i64 S.e]) = _
        rw [hSe]
      · obtain ⟨z1, z2⟩ := HSB.out hSe
        rw [HE.out, if_neg hSe, z1, z2]
        exact OpPost.bad hSe (HO2.out.setA (by omega) (by omega) _ _ _)
  · obtain rfl : p = l.length := by omega
    obtain ⟨S, hSd⟩ : ∃ S, S = sglR (l.drop l.length) := ⟨_, rfl⟩
    have HE : Hid (R = if S.e = 0 then (0, ⟨S.t, S.n, []⟩, S.k) else (S.e, Ar.zero, 0)) := by unfold Hid; rw [← HR.out]; unfold opR; rw [if_neg (by simp), ← hSd]
    have HSB : Hid (S.e ≠ 0 → S.t = 0 ∧ S.n = 0) := by unfold Hid; rw [hSd]; exact sgl_bad
    have HN3 : Hid (∀ m, Calls Tryd.prog 41 #[.pointer (some ⟨g, 0, none⟩)] (w1.drewN m) fun e w' => NmPost w1 g (.slice av l.length cap) l.length S e w') := HNM.out S hSd
    clear HNM HR hcell h1 hSd
    go_enter Tryd.func34, Tryd.ntmps34
    go_wp2_with fail
    go_quiet (fail)
    go_wp2_with fail
    refine (HN3.out _).mono ?_
    rintro e w2 ⟨rfl, hb2, ho2⟩
    unfold agV
    have HB2 : Hid (S.e = 0 → BxR w2 g (.slice (av) l.length cap) ((l.length + S.k : Nat) : Int)) := hb2
    have HO2 : Hid (Oth g w w2) := HO1.out.trans ho2
    have HX2 : Hid (BxA w2 gr 0 0 (.slice none 0 0)) := HX1.out.oth ho2 hgr
    obtain ⟨e0, e1, e2, f0, f1, f2⟩ := HX2.out.facts
    clear hb2 ho2 HN3 HO1 HX1 c0 c1 c2 d0 d1 d3
    go_wp2_with fail
    refine bodyPost_ret (results_a2 rfl _ _ gr S.t S.n (.slice none 0 0) rfl (HX2.out.set S.t S.n _)) rfl ?_
    by_cases hSe : S.e = 0
    · rw [HE.out, if_pos hSe]
      refine ⟨.slice none 0 0, ?_, Rw3.nil _, ⟨none, 0, rfl, fun x h => by cases h⟩, fun _ => (HB2.out hSe).setA hgr.symm _ _ _, HO2.out.setA (by omega) (by omega) _ _ _⟩
      show Ending.returned (.tuple #[agV S.t S.n (.slice none 0 0), .int .i64 S.e]) = _
      rw [hSe]
    · obtain ⟨z1, z2⟩ := HSB.out hSe
      rw [HE.out, if_neg hSe, z1, z2]
      exact OpPost.bad hSe (HO2.out.setA (by omega) (by omega) _ _ _)
end Go.Proofs.YtfjibcldghnjcaaDoor
