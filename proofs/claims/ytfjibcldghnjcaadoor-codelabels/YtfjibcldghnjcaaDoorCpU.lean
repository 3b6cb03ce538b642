/-
  compact: plainNumber, single.
-/
import Derived.Test.YtfjibcldghnjcaaDoorCpT
namespace Go.Proofs.YtfjibcldghnjcaaDoor
open Go.RowKit
set_option linter.unusedVariables false
set_option linter.unusedSimpArgs false

/-- What is answered of a number as of the tag 0. -/
def PlPost (w : World) (g : Nat) (vb : Value) (p : Nat) (R : Rd) (e : Ending) (w' : World) : Prop :=
  e = .returned (.tuple #[.int .i64 R.n, .int .i64 R.e]) ∧ (R.e = 0 → BxR w' g vb ((p + R.k : Nat) : Int)) ∧ Oth g w w'

set_option maxRecDepth 100000 in
set_option maxHeartbeats 1000000 in
theorem plain_any (w : World) (g : Nat) (vb : Value) (l : List UInt8) (p : Nat) (hS : Spn w) (hb : BxR w g vb (p : Int)) (hv : By w vb l) (hp : p ≤ l.length) :
    Calls Tryd.prog 43 #[.pointer (some ⟨g, 0, none⟩)] w fun e w' => PlPost w g vb p (plnR (l.drop p)) e w' := by
  obtain ⟨av, cap, rfl, hc1, hc2, hc3⟩ := hv.shape
  have hdl : (l.drop p).length = l.length - p := by simp
  have hglt := hb.lt
  obtain ⟨d0, d1, -, -⟩ := hb.facts
  obtain ⟨R, hR⟩ : ∃ R, plnR (l.drop p) = R := ⟨_, rfl⟩
  have HR : Hid (plnR (l.drop p) = R) := hR
  rw [hR]; clear hR
  have hcap2 : (l.length : Int) ≤ (cap : Int) := by omega
  -- the tail: number is called
  have HNM : Hid (R = numR (l.drop p) → ∀ m, Calls Tryd.prog 44 #[.pointer (some ⟨g, 0, none⟩)] (w.drewN m) fun e w' => NmPost w g (.slice av l.length cap) p R e w') := by
    intro hRn m
    rw [hRn]
    have hdb : Below w.heap.size w (w.drewN m) := below_drewN (Below.refl _ _) m
    refine (number_any (w.drewN m) g _ l p (hS.under hdb) (hb.under hdb) (hv.under hdb) hp).mono ?_
    rintro e w' ⟨h1, h2, h3⟩
    exact ⟨h1, h2, (Oth.of hdb (by omega)).trans h3⟩
  by_cases h1 : p < l.length
  · obtain ⟨b, off, rfl, hblt, hbc⟩ := hv.at 0 (by omega)
    have hcc := hbc p h1
    have hpi : (p : Int) < (l.length : Int) := by omega
    obtain ⟨f, hfd⟩ : ∃ f, f = (l.getD p 0).toNat := ⟨_, rfl⟩
    have hf : f < 256 := by rw [hfd]; exact UInt8.toNat_lt _
    have hfd2 : ((l.drop p).getD 0 0).toNat = f := by rw [hfd, getD_drop]; rfl
    rw [← hfd] at hcc
    obtain ⟨a7, -, -⟩ := and_u8 f hf
    by_cases h2 : f % 8 = 0
    · have HE : Hid (R = numR (l.drop p)) := by unfold Hid; rw [← HR.out]; unfold plnR; rw [if_neg (by rw [hfd2]; omega)]
      rw [h2] at a7
      have HNM2 := HNM.out HE.out
      have HN3 : Hid _ := HNM2
      clear HNM HNM2 hbc hfd hfd2 hS hb hv HR HE
      go_enter Tryd.func43, Tryd.ntmps43
      go_wp2_with fail
      go_quiet (fail)
      go_wp2_with fail
      refine (HN3.out _).mono ?_
      rintro e w2 ⟨rfl, hb2, ho2⟩
      unfold agV
      have bA := (Below.refl w2.heap.size w2).alloc (Nat.le_refl _) (.cells #[.int .i64 R.t, .int .i64 R.n, .slice none 0 0] 30)
      have HB2 : Hid (R.e = 0 → BxR (w2.alloc (.cells #[.int .i64 R.t, .int .i64 R.n, .slice none 0 0] 30)) g (.slice (some ⟨b, off, none⟩) l.length cap) ((p + R.k : Nat) : Int)) := fun h => (hb2 h).under bA
      have HO2 : Hid (Oth g w (w2.alloc (.cells #[.int .i64 R.t, .int .i64 R.n, .slice none 0 0] 30))) := ho2.call bA (by have := ho2.size; omega)
      clear bA hb2 ho2
      go_wp2_with fail
      go_ret2
      exact ⟨rfl, HB2.out, HO2.out⟩
    · have HE : Hid (R = Rd.bad 4) := by unfold Hid; rw [← HR.out]; unfold plnR; rw [if_pos ⟨by omega, by rw [hfd2]; exact h2⟩]
      have h2i : ¬ (((f % 8 : Nat) : Int) = 0) := by omega
      obtain ⟨tg, htg⟩ : ∃ t : Int, t = ((f % 8 : Nat) : Int) := ⟨_, rfl⟩
      rw [← htg] at a7 h2i
      have h2b : (tg != 0) = true := by simp [h2i]
      have ht0 : 0 ≤ tg := by omega
      have ht8 : tg < 8 := by omega
      clear HNM hbc hfd hfd2 hS hb hv HR htg h2
      go_enter Tryd.func43, Tryd.ntmps43
      go_wp2_with fail
      go_quiet (fail)
      go_wp2_with fail
      go_ret2
      rw [HE.out]
      exact ⟨rfl, fun h => absurd h (by decide), (Oth.refl g w).drewN _⟩
  · obtain rfl : p = l.length := by omega
    have HE : Hid (R = numR (l.drop l.length)) := by unfold Hid; rw [← HR.out]; unfold plnR; rw [if_neg (by simp)]
    have HNM2 := HNM.out HE.out
    have HN3 : Hid _ := HNM2
    clear HNM HNM2 hS hb hv HR HE h1
    go_enter Tryd.func43, Tryd.ntmps43
    go_wp2_with fail
    go_quiet (fail)
    go_wp2_with fail
    refine (HN3.out _).mono ?_
    rintro e w2 ⟨rfl, hb2, ho2⟩
    unfold agV
    have bA := (Below.refl w2.heap.size w2).alloc (Nat.le_refl _) (.cells #[.int .i64 R.t, .int .i64 R.n, .slice none 0 0] 30)
    have HB2 : Hid (R.e = 0 → BxR (w2.alloc (.cells #[.int .i64 R.t, .int .i64 R.n, .slice none 0 0] 30)) g (.slice av l.length cap) ((l.length + R.k : Nat) : Int)) := fun h => (hb2 h).under bA
    have HO2 : Hid (Oth g w (w2.alloc (.cells #[.int .i64 R.t, .int .i64 R.n, .slice none 0 0] 30))) := ho2.call bA (by have := ho2.size; omega)
    clear bA hb2 ho2
    go_wp2_with fail
    go_ret2
    exact ⟨rfl, HB2.out, HO2.out⟩
end Go.Proofs.YtfjibcldghnjcaaDoor
