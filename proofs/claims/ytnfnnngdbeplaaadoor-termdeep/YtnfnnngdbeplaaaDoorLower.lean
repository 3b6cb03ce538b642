
/-
  limb.lower: new memory with a number by 2^n in it, cut.
-/
import Derived.Test.YtnfnnngdbeplaaaDoorRaise
namespace Go.Proofs.YtnfnnngdbeplaaaDoor
open Go.RowKit
set_option linter.unusedVariables false

def LowerPost (w : World) (x : Int) (l : Nat) (e : Ending) (w' : World) : Prop :=
  Below w.heap.size w w' ∧ ((e = .returned (.slice none 0 0) ∧ x = 0) ∨
    ∃ g Z, e = .returned (.slice (some ⟨g, 0, none⟩) Z.length Z.length) ∧ 0 < Z.length ∧ Z.length ≤ l ∧ Ok Z ∧ Row w' g Z ∧ V Z = x ∧ w.heap.size ≤ g)

set_option maxHeartbeats 2000000 in
theorem lower_any (va : Value) (a : List Int) (n q p : Nat) (w : World) (ha : Sl w va a) (hla : a.length ≤ 1000000) (hn : n = 32 * q + p) (hp : p < 32) (hn1 : n ≤ 9223372036854775807) :
    Calls Tryd.prog 109 #[va, .int .i64 n] w fun e w' => LowerPost w (V a / T n) a.length e w' := by
  obtain ⟨aa, acap, rfl⟩ := ha.shape
  have h1 : (n : Int) / 32 = (q : Int) := by omega
  have h2 : (n : Int) % 32 = (p : Int) := by omega
  have hq1 : q ≤ 9223372036854775807 := by omega
  have HN : Hid _ := hn
  clear hn
  by_cases hq : a.length ≤ q
  · have hge : (a.length : Int) ≤ (q : Int) := by omega
    go_enter Tryd.func109, Tryd.ntmps109
    go_wp2_with fail
    go_ret
    exact ⟨Below.refl _ _, .inl ⟨rfl, by rw [HN.out]; exact lower_none a q p ha.ok hq⟩⟩
  · have hge : ¬ (a.length : Int) ≤ (q : Int) := by omega
    obtain ⟨b, off, rfl, hcell⟩ := ha.at q (by omega)
    clear hcell
    have hqc : q < acap := by have := ha.len; omega
    have hcut := ha.cut (q := q) (by omega)
    go_enter Tryd.func109, Tryd.ntmps109
    go_wp2_with (first | (at_make; refine wpList_make_u32 rfl _ _ rfl _ _ (a.length - q) rfl rfl (by omega) (by omega) (by omega) ?_; intro w1 hrow1 hbel1; obtain ⟨w2, hcr, hrow2, hbut2⟩ := copy_run w1 w.heap.size 0 (a.length - q) (a.length - q) (some ⟨b, off + q, none⟩) (a.length - q) (acap - q) _ (a.drop q) hrow1 (hcut.below hbel1) (by rw [zer_len]; simp) (by simp); rw [show (((a.drop q).length : Nat) : Int) = (a.length : Int) - (q : Int) by simp; omega] at hcr) | fail)
    have hbel2 := hbel1.trans (hbut2.below (Nat.le_refl _))
    have hZ0l : (a.drop q).length = a.length - q := by simp
    have hZ0ok : Ok (a.drop q) := ha.ok.drop q
    rw [show zer (a.length - q) = zer (a.drop q).length by rw [hZ0l], over_full] at hrow2
    obtain ⟨Z0, hZ0⟩ : ∃ Z0, Z0 = a.drop q := ⟨_, rfl⟩
    rw [← hZ0] at hrow2 hZ0l hZ0ok
    have HZ0 : Hid _ := hZ0
    have hT := T_pos p
    clear hZ0 hcr hrow1 hbut2 hbel1 hcut
    obtain ⟨r, hr⟩ : ∃ r, r = Z0.getD 0 0 % T p := ⟨_, rfl⟩
    have hr0 := Int.emod_nonneg (Z0.getD 0 0) (show T p ≠ 0 by omega)
    have hr1 := Int.emod_lt_of_pos (Z0.getD 0 0) hT
    rw [← hr] at hr0 hr1
    have HR : Hid _ := hr
    clear hr
    go_loopw [32] (fun i wr => ∃ (k : Nat) (Z : List Int), k ≤ a.length - q - 1 ∧ i = .int .i64 k ∧ Z.length = a.length - q ∧ Ok Z ∧ Row wr w.heap.size Z ∧ Below w.heap.size w wr ∧
      (∀ j, k ≤ j → Z.getD j 0 = Z0.getD j 0) ∧ V (Z.take k) * T p + r = V (Z0.take k) + B k * (Z0.getD k 0 % T p)) (fun i _ => a.length - (intOf i).toNat)
    case atStart => exact ⟨0, Z0, by omega, rfl, hZ0l, hZ0ok, hrow2, hbel2, fun _ _ => rfl, by rw [← HR.out]; simp [V, B]⟩
    case round =>
      obtain ⟨k, Z, hk1, rfl, hZl, hZok, hrow, hbel, hsame, hV⟩ := hrel
      clear hrow2 hbel2
      by_cases hkq : k < a.length - q - 1
      · have c1 := hrow.cell k (by omega)
        have c2 := hrow.cell (k + 1) (by omega)
        have f1 := hrow.frozen k
        have b1 := hZok.getD k
        have b2 := hZok.getD (k + 1)
        obtain ⟨x, hx⟩ : ∃ x, x = Z.getD k 0 := ⟨_, rfl⟩
        obtain ⟨y, hy⟩ : ∃ y, y = Z.getD (k + 1) 0 := ⟨_, rfl⟩
        rw [← hx] at c1 b1
        rw [← hy] at c2 b2
        have HX : Hid _ := hx.trans (hsame k (Nat.le_refl _))
        have HY : Hid _ := hy.trans (hsame (k + 1) (by omega))
        have HS : Hid _ := hsame
        have HV : Hid _ := hV
        have HR2 : Hid _ := HR
        clear hx hy hsame hV
        go_wp2_with fail
        go_region
        rw [or_down p (by omega) x y b1.1 b1.2 b2.1 b2.2]
        have hz := down_bd p (by omega) x y b1.1 b1.2 b2.1
        have HST : Hid _ := lower_step Z0 Z k p x y r (by omega) (by omega) HX.out HY.out (by rw [HX.out]; exact HV.out)
        have hrow' := hrow.set k (x / T p + y % T p * T (32 - p))
        have hbel' := hbel.setCell (p := ⟨w.heap.size, k, none⟩) (Nat.le_refl _) (.int .u32 (x / T p + y % T p * T (32 - p)))
        have HS' : Hid _ := set_same Z Z0 k (x / T p + y % T p * T (32 - p)) HS.out
        generalize x / T p + y % T p * T (32 - p) = z at *
        clear hrow hbel c1 c2 f1 HX HS HV
        have hrow2' : Row (wr.setCell { block := w.heap.size, off := k } (Value.int IntKind.u32 z)).drew w.heap.size (Z.set k z) := hrow'
        have hbel2' := hbel'.drew
        clear hrow' hbel'
        generalize (wr.setCell { block := w.heap.size, off := k } (Value.int IntKind.u32 z)).drew = w5 at *
        go_wp2_with fail
        go_roundw
        case rel => exact ⟨k + 1, Z.set k z, by omega, by go_num, by simpa using hZl, hZok.set k hz.1 hz.2, hrow2', hbel2', HS'.out, by rw [← HY.out]; exact HST.out⟩
        case measure => simp [intOf]; omega
      · obtain rfl : k = a.length - q - 1 := by omega
        have c1 := hrow.cell (a.length - q - 1) (by omega)
        have f1 := hrow.frozen (a.length - q - 1)
        have b1 := hZok.getD (a.length - q - 1)
        obtain ⟨x, hx⟩ : ∃ x, x = Z.getD (a.length - q - 1) 0 := ⟨_, rfl⟩
        rw [← hx] at c1 b1
        have HX : Hid (x = Z0.getD (a.length - q - 1) 0) := hx.trans (hsame _ (Nat.le_refl _))
        have HF : Hid (V (Z.set (a.length - q - 1) (x / T p)) = V a / T (32 * q + p)) := by
          show V (Z.set (a.length - q - 1) (x / T p)) = V a / T (32 * q + p)
          rw [← hZl]
          rw [← hZl] at hV
          exact lower_end a Z0 Z q p x r ha.ok (by omega) (by omega) hZl HZ0.out (by rw [hZl]; exact HX.out) hr0 hr1 (by rw [HX.out, ← hZl]; exact hV)
        clear hx hsame hV
        have hzb : 0 ≤ x / T p ∧ x / T p < 4294967296 := ⟨Int.ediv_nonneg b1.1 (by omega), Int.lt_of_le_of_lt (Int.ediv_le_self _ b1.1) b1.2⟩
        have hrow' := hrow.set (a.length - q - 1) (x / T p)
        have hbel' := hbel.setCell (p := ⟨w.heap.size, a.length - q - 1, none⟩) (Nat.le_refl _) (.int .u32 (x / T p))
        have hzok := hZok.set (a.length - q - 1) hzb.1 hzb.2
        have hlen' : (Z.set (a.length - q - 1) (x / T p)).length = a.length - q := by simpa using hZl
        rw [T_pow p] at hrow' hbel' hzok hlen'
        have HF' : Hid (V (Z.set (a.length - q - 1) (x / 2 ^ p)) = V a / T (32 * q + p)) := by rw [← T_pow p]; exact HF.out
        have hi1 : ((a.length - q : Nat) : Int) - 1 = ((a.length - q - 1 : Nat) : Int) := by omega
        clear HF hzb
        go_wp2_with fail
        go_ret
        refine ⟨hbel', .inr ⟨w.heap.size, Z.set (a.length - q - 1) (x / 2 ^ p), ?_, by omega, by omega, hzok, hrow', by rw [HN.out]; exact HF'.out, Nat.le_refl _⟩⟩
        rw [hlen']
        rfl
end Go.Proofs.YtnfnnngdbeplaaaDoor
