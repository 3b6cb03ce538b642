/-
  compact: single.
-/
import Derived.Test.YtfjibcldghnjcaaDoorCpU
namespace Go.Proofs.YtfjibcldghnjcaaDoor
open Go.RowKit
set_option linter.unusedVariables false
set_option linter.unusedSimpArgs false

theorem BxA.drewN {w : World} {g : Nat} {t n : Int} {sl : Value} (h : BxA w g t n sl) (m : Nat) : BxA (w.drewN m) g t n sl := h
theorem u8_eq {a b : UInt8} : (a.toNat : Int) = (b.toNat : Int) ↔ a = b := by
  constructor
  · intro h; exact UInt8.toNat_inj.1 (by omega)
  · intro h; rw [h]

set_option maxRecDepth 100000 in
set_option maxHeartbeats 1000000 in
theorem single_any (w : World) (g : Nat) (vb : Value) (l : List UInt8) (p : Nat) (hS : Spn w) (hb : BxR w g vb (p : Int)) (hv : By w vb l) (hp : p ≤ l.length) :
    Calls Tryd.prog 41 #[.pointer (some ⟨g, 0, none⟩)] w fun e w' => NmPost w g vb p (sglR (l.drop p)) e w' := by
  obtain ⟨av, cap, rfl, hc1, hc2, hc3⟩ := hv.shape
  have hdl : (l.drop p).length = l.length - p := by simp
  have hglt := hb.lt
  obtain ⟨R, hR⟩ : ∃ R, sglR (l.drop p) = R := ⟨_, rfl⟩
  have HR : Hid (sglR (l.drop p) = R) := hR
  rw [hR]; clear hR
  have hcap2 : (l.length : Int) ≤ (cap : Int) := by omega
  have bA := (Below.refl w.heap.size w).alloc (Nat.le_refl _) (.cells #[.int .i64 0, .int .i64 0, .slice none 0 0] 30)
  have hlt1 : g < (w.alloc (.cells #[.int .i64 0, .int .i64 0, .slice none 0 0] 30)).heap.size := by simp; omega
  have HO1 : Hid (Oth g w (w.alloc (.cells #[.int .i64 0, .int .i64 0, .slice none 0 0] 30))) := Oth.of bA (by omega)
  have HB1 : Hid (BxR (w.alloc (.cells #[.int .i64 0, .int .i64 0, .slice none 0 0] 30)) g (.slice av l.length cap) (p : Int)) := hb.under bA
  have HV1 : Hid (By (w.alloc (.cells #[.int .i64 0, .int .i64 0, .slice none 0 0] 30)) (.slice av l.length cap) l) := hv.under bA
  have HS1 : Hid (Spn (w.alloc (.cells #[.int .i64 0, .int .i64 0, .slice none 0 0] 30))) := hS.under bA
  have HX1 : Hid (BxA (w.alloc (.cells #[.int .i64 0, .int .i64 0, .slice none 0 0] 30)) w.heap.size 0 0 (.slice none 0 0)) := BxA.new w 0 0 _
  have hgr : w.heap.size ≠ g := by omega
  obtain ⟨c0, c1, c2, -⟩ := HX1.out.facts
  obtain ⟨d0, d1, -, d3⟩ := HB1.out.facts
  have hcell : p < l.length → ∃ b off, av = some ⟨b, off, none⟩ ∧ (w.alloc (.cells #[.int .i64 0, .int .i64 0, .slice none 0 0] 30)).cell? ⟨b, off + p, none⟩ = some (.int .u8 ((l.getD p 0).toNat : Int)) := by
    intro h1
    obtain ⟨b, off, e, -, hbc⟩ := HV1.out.at 0 (by omega)
    exact ⟨b, off, e, hbc p h1⟩
  clear bA hS hb hv
  have hwsz : w.heap.size ≤ w.heap.size := Nat.le_refl _
  generalize hgd : w.heap.size = gr at *
  generalize hw1d : w.alloc (.cells #[.int .i64 0, .int .i64 0, .slice none 0 0] 30) = w1 at *
  have HNM : Hid (R = numR (l.drop p) → ∀ m, Calls Tryd.prog 44 #[.pointer (some ⟨g, 0, none⟩)] (w1.drewN m) fun e w' => NmPost w1 g (.slice av l.length cap) p R e w') := by
    intro hRn m
    rw [hRn]
    have hdb : Below w1.heap.size w1 (w1.drewN m) := below_drewN (Below.refl _ _) m
    refine (number_any (w1.drewN m) g _ l p (HS1.out.under hdb) (HB1.out.under hdb) (HV1.out.under hdb) hp).mono ?_
    rintro e w' ⟨h1, h2, h3⟩
    exact ⟨h1, h2, (Oth.of hdb (by omega)).trans h3⟩
  by_cases h1 : p < l.length
  · obtain ⟨b, off, rfl, hcc⟩ := hcell h1
    have hpi : (p : Int) < (l.length : Int) := by omega
    have hfd2 : (l.drop p).getD 0 0 = l.getD p 0 := by rw [getD_drop]; rfl
    by_cases h2 : l.getD p 0 = 71
    · rw [h2] at hcc
      have hdd : (l.drop p).drop 1 = l.drop (p + 1) := by rw [List.drop_drop]
      obtain ⟨Q, hQ⟩ : ∃ Q, plnR (l.drop (p + 1)) = Q := ⟨_, rfl⟩
      have HE : Hid (R = if Q.e = 0 then ⟨0, 6, Q.n, 1 + Q.k⟩ else Rd.bad Q.e) := by unfold Hid; rw [← HR.out]; unfold sglR; rw [if_pos ⟨by omega, by rw [hfd2]; exact h2⟩, hdd, hQ]
      have hp1 : ((p + 1 : Nat) : Int) = (p : Int) + 1 := by omega
      have HPL : Hid (∀ m, Calls Tryd.prog 43 #[.pointer (some ⟨g, 0, none⟩)] ((w1.drewN m).setCell ⟨g, 1, none⟩ (.int .i64 ((p : Int) + 1))) fun e w' => PlPost w1 g (.slice (some ⟨b, off, none⟩) l.length cap) (p + 1) Q e w') := by
        intro m
        have ho : Oth g w1 ((w1.drewN m).setCell ⟨g, 1, none⟩ (.int .i64 ((p : Int) + 1))) := ((Oth.refl g w1).drewN m).trans (Oth.set _ _ _ _)
        have hbx := (HB1.out.drewN m).set ((p : Int) + 1)
        rw [← hp1] at hbx ho ⊢
        refine (plain_any _ g _ l (p + 1) (HS1.out.oth HB1.out ho) hbx (HV1.out.oth HB1.out ho) (by omega)).mono ?_
        rw [hQ]
        rintro e w' ⟨h1, h2, h3⟩
        exact ⟨h1, h2, ho.trans h3⟩
      clear HNM hfd2 hQ hdd HR HS1 HV1 HB1 h2 hp1 hcell
      go_enter Tryd.func41, Tryd.ntmps41
      go_wp2_with fail
      go_quiet (fail)
      go_wp2_with fail
      refine (HPL.out _).mono ?_
      rintro e w2 ⟨rfl, hb2, ho2⟩
      have HB2 : Hid (Q.e = 0 → BxR w2 g (.slice (some ⟨b, off, none⟩) l.length cap) ((p + 1 + Q.k : Nat) : Int)) := hb2
      have HO2 : Hid (Oth g w w2) := HO1.out.trans ho2
      have HX2 : Hid (BxA w2 gr 0 0 (.slice none 0 0)) := HX1.out.oth ho2 hgr
      obtain ⟨e0, e1, e2, f0, f1, f2⟩ := HX2.out.facts
      clear hb2 ho2 HPL HO1 HX1 c0 c1 c2 d0 d1 d3 hcc
      by_cases hq : Q.e = 0
      · have HE2 : Hid (R = ⟨0, 6, Q.n, 1 + Q.k⟩) := by unfold Hid; rw [HE.out, if_pos hq]
        have HB3 := HB2.out hq
        have HB4 : Hid (BxR w2 g (.slice (some ⟨b, off, none⟩) l.length cap) ((p + 1 + Q.k : Nat) : Int)) := HB3
        clear HB3 HE HB2
        rw [hq]
        go_wp2_with fail
        refine bodyPost_ret (results_a2 rfl _ _ gr 6 Q.n (.slice none 0 0) rfl (HX2.out.set 6 Q.n _)) rfl ?_
        rw [HE2.out]
        refine ⟨rfl, fun _ => ?_, HO2.out.setA (by omega) (by omega) _ _ _⟩
        have := HB4.out.setA hgr.symm 6 Q.n (.slice none 0 0)
        rw [show p + (1 + Q.k) = p + 1 + Q.k by omega]
        exact this
      · have HE2 : Hid (R = Rd.bad Q.e) := by unfold Hid; rw [HE.out, if_neg hq]
        obtain ⟨qe, hqe⟩ : ∃ qe, qe = Q.e := ⟨_, rfl⟩
        rw [← hqe] at hq HE2 ⊢
        have hqb : (qe != 0) = true := by simp [hq]
        clear HE HB2 hqe
        go_wp2_with fail
        refine bodyPost_ret (results_a2 rfl _ _ gr 0 0 (.slice none 0 0) rfl (HX2.out.set 0 0 _)) rfl ?_
        rw [HE2.out]
        exact NmPost.bad hq (HO2.out.setA (by omega) (by omega) _ _ _)
    · have HE : Hid (R = numR (l.drop p)) := by unfold Hid; rw [← HR.out]; unfold sglR; rw [if_neg (by rw [hfd2]; exact fun h => h2 h.2)]
      have hne : ¬ (((l.getD p 0).toNat : Int) = 71) := fun h => h2 (u8_eq.1 (by rw [h]; rfl))
      have HN3 : Hid _ := HNM.out HE.out
      obtain ⟨x, hx⟩ : ∃ x : Int, x = ((l.getD p 0).toNat : Int) := ⟨_, rfl⟩
      rw [← hx] at hcc hne
      have hneb : (x == 71) = false := by simp [hne]
      clear HNM hfd2 HR HE h2 hx hcell
      go_enter Tryd.func41, Tryd.ntmps41
      go_wp2_with fail
      go_quiet (fail)
      go_wp2_with fail
      refine (HN3.out _).mono ?_
      rintro e w2 ⟨rfl, hb2, ho2⟩
      unfold agV
      have HB2 : Hid (R.e = 0 → BxR w2 g (.slice (some ⟨b, off, none⟩) l.length cap) ((p + R.k : Nat) : Int)) := hb2
      have HO2 : Hid (Oth g w w2) := HO1.out.trans ho2
      have HX2 : Hid (BxA w2 gr 0 0 (.slice none 0 0)) := HX1.out.oth ho2 hgr
      obtain ⟨e0, e1, e2, f0, f1, f2⟩ := HX2.out.facts
      clear hb2 ho2 HN3 HO1 HX1 c0 c1 c2 d0 d1 d3
      go_wp2_with fail
      refine bodyPost_ret (results_a2 rfl _ _ gr R.t R.n (.slice none 0 0) rfl (HX2.out.set R.t R.n _)) rfl ?_
      exact ⟨rfl, fun h => (HB2.out h).setA hgr.symm _ _ _, HO2.out.setA (by omega) (by omega) _ _ _⟩
  · obtain rfl : p = l.length := by omega
    have HE : Hid (R = numR (l.drop l.length)) := by unfold Hid; rw [← HR.out]; unfold sglR; rw [if_neg (by simp)]
    have HN3 : Hid _ := HNM.out HE.out
    clear HNM HR HE hcell h1
    go_enter Tryd.func41, Tryd.ntmps41
    go_wp2_with fail
    go_quiet (fail)
    go_wp2_with fail
    refine (HN3.out _).mono ?_
    rintro e w2 ⟨rfl, hb2, ho2⟩
    unfold agV
    have HB2 : Hid (R.e = 0 → BxR w2 g (.slice (av) l.length cap) ((l.length + R.k : Nat) : Int)) := hb2
    have HO2 : Hid (Oth g w w2) := HO1.out.trans ho2
    have HX2 : Hid (BxA w2 gr 0 0 (.slice none 0 0)) := HX1.out.oth ho2 hgr
    obtain ⟨e0, e1, e2, f0, f1, f2⟩ := HX2.out.facts
    clear hb2 ho2 HN3 HO1 HX1 c0 c1 c2 d0 d1 d3
    go_wp2_with fail
    refine bodyPost_ret (results_a2 rfl _ _ gr R.t R.n (.slice none 0 0) rfl (HX2.out.set R.t R.n _)) rfl ?_
    exact ⟨rfl, fun h => (HB2.out h).setA hgr.symm _ _ _, HO2.out.setA (by omega) (by omega) _ _ _⟩
end Go.Proofs.YtfjibcldghnjcaaDoor
