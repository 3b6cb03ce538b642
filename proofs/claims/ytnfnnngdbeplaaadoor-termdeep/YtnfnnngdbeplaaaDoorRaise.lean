
/-
  limb.raise: new memory with a number times 2^n in it.
-/
import Derived.Test.YtnfnnngdbeplaaaDoorTake
import Derived.Test.YtnfnnngdbeplaaaDoorShift
import Derived.RegionTactic
import Derived.BigRegion
namespace Go.Proofs.YtnfnnngdbeplaaaDoor
open Go.RowKit
set_option linter.unusedVariables false

theorem raise_start (Z0 a : List Int) (q p : Nat) (hl : Z0.length = q + a.length + 1) (hZ0 : Z0 = over (zer (q + a.length + 1)) q a) :
    V (Z0.drop (q + a.length + 1)) = V (Z0.drop (q + a.length + 1)) * T p + (Z0.getD (q + a.length) 0 * T p) / 4294967296 := by
  have e1 : Z0.drop (q + a.length + 1) = [] := List.drop_eq_nil_of_le (by omega)
  have e2 : Z0.getD (q + a.length) 0 = 0 := by
    rw [hZ0]
    have := zer_at (q + a.length + 1) (q + a.length)
    simp only [over, List.getD_eq_getElem?_getD] at this ⊢
    rw [List.getElem?_append_right (by rw [List.length_take]; omega), List.getElem?_append_right (by rw [List.length_take, zer_len]; omega), List.getElem?_drop]
    rw [List.length_take, zer_len, show q + a.length + (q + a.length - min q (q + a.length + 1) - a.length) = q + a.length by omega]
    exact this
  rw [e1, e2]
  simp [V]

def RaisePost (w : World) (x : Int) (m : Nat) (e : Ending) (w' : World) : Prop :=
  ∃ g Z, e = .returned (.slice (some ⟨g, 0, none⟩) m m) ∧ Z.length = m ∧ Ok Z ∧ Row w' g Z ∧ V Z = x ∧ Below w.heap.size w w' ∧ w.heap.size ≤ g

set_option maxHeartbeats 2000000 in
theorem raise_any (va : Value) (a : List Int) (n q p : Nat) (w : World) (ha : Sl w va a) (hla : a.length ≤ 1000000) (hn : n = 32 * q + p) (hp : p < 32) (hq : q ≤ 1000) :
    Calls Tryd.prog 107 #[va, .int .i64 n] w fun e w' => RaisePost w (V a * T n) (q + a.length + 1) e w' := by
  obtain ⟨aa, acap, rfl⟩ := ha.shape
  have h1 : (n : Int) / 32 = (q : Int) := by omega
  have h2 : (n : Int) % 32 = (p : Int) := by omega
  have hn0 : n ≤ 40000 := by omega
  have HN : Hid _ := hn
  clear hn
  go_enter Tryd.func107, Tryd.ntmps107
  go_wp2_with (first | (at_make; refine wpList_make_u32 rfl _ _ rfl _ _ (q + a.length + 1) rfl rfl (by omega) (by omega) (by omega) ?_; intro w1 hrow1 hbel1; obtain ⟨w2, hcr, hrow2, hbut2⟩ := copy_run w1 w.heap.size q (q + a.length + 1 - q) (q + a.length + 1 - q) aa a.length acap _ a hrow1 (ha.below hbel1) (by rw [zer_len]; omega) (by omega)) | fail)
  have hZ0l : (over (zer (q + a.length + 1)) q a).length = q + a.length + 1 := by rw [over_len, zer_len]; rw [zer_len]; omega
  have hZ0ok : Ok (over (zer (q + a.length + 1)) q a) := over_ok (zer_ok _) ha.ok q
  have hbel2 := hbel1.trans (hbut2.below (Nat.le_refl _))
  obtain ⟨Z0, hZ0⟩ : ∃ Z0, Z0 = over (zer (q + a.length + 1)) q a := ⟨_, rfl⟩
  rw [← hZ0] at hrow2 hZ0l hZ0ok
  have HZ0 : Hid _ := hZ0
  clear hZ0 hcr hrow1 hbut2 hbel1
  go_loopw [8] (fun i wr => ∃ (k : Nat) (Z : List Int), q ≤ k ∧ k ≤ q + a.length ∧ i = .int .i64 k ∧ Z.length = q + a.length + 1 ∧ Ok Z ∧ Row wr w.heap.size Z ∧ Below w.heap.size w wr ∧
      (∀ j, j ≤ k → Z.getD j 0 = Z0.getD j 0) ∧ V (Z.drop (k + 1)) = V (Z0.drop (k + 1)) * T p + (Z0.getD k 0 * T p) / 4294967296) (fun i _ => (intOf i).toNat - q)
  case atStart => exact ⟨q + a.length, Z0, by omega, by omega, by go_num, hZ0l, hZ0ok, hrow2, hbel2, fun _ _ => rfl, raise_start Z0 a q p hZ0l HZ0.out⟩
  case round =>
    obtain ⟨k, Z, hk1, hk2, rfl, hZl, hZok, hrow, hbel, hsame, hV⟩ := hrel
    by_cases hkq : q < k
    · have c1 := hrow.cell k (by omega)
      have c2 := hrow.cell (k - 1) (by omega)
      have f1 := hrow.frozen k
      have b1 := hZok.getD k
      have b2 := hZok.getD (k - 1)
      obtain ⟨x, hx⟩ : ∃ x, x = Z.getD k 0 := ⟨_, rfl⟩
      obtain ⟨y, hy⟩ : ∃ y, y = Z.getD (k - 1) 0 := ⟨_, rfl⟩
      rw [← hx] at c1 b1
      rw [← hy] at c2 b2
      have hi1 : ((k : Int) - 1).toNat = k - 1 := by omega
      have hi2 : (0 : Int) ≤ (k : Int) - 1 := by omega
      have hi3 : (k : Int) - 1 < (q : Int) + (a.length : Int) + 1 := by omega
      have hi4 : (k : Int) < (q : Int) + (a.length : Int) + 1 := by omega
      have HX : Hid _ := hx
      have HY : Hid _ := hy
      have HS : Hid _ := hsame
      have HV : Hid _ := hV
      clear hx hy hsame hV
      go_wp2_with fail
      go_region
      rw [or_up p (by omega) x y b1.1 b1.2 b2.1 b2.2]
      have hz := part_bd p (by omega) x y b1.1 b2.1 b2.2
      have HST : Hid _ := raise_step Z0 Z k p x y (by omega) (by omega) (by omega) (HX.out.trans (HS.out k (Nat.le_refl _))) (HY.out.trans (HS.out (k - 1) (by omega))) (by rw [HX.out, HS.out k (Nat.le_refl _)]; exact HV.out)
      have hrow' := hrow.set k (x * T p % 4294967296 + y * T p / 4294967296)
      have hbel' := hbel.setCell (p := ⟨w.heap.size, k, none⟩) (Nat.le_refl _) (.int .u32 (x * T p % 4294967296 + y * T p / 4294967296))
      have HS' : Hid (∀ j, j ≤ k - 1 → (Z.set k (x * T p % 4294967296 + y * T p / 4294967296)).getD j 0 = Z0.getD j 0) := by
        intro j hj
        rw [← HS.out j (by omega)]
        simp only [List.getD_eq_getElem?_getD]
        rw [List.getElem?_set_ne (by omega)]
      have HY' : Hid (y = Z0.getD (k - 1) 0) := HY.out.trans (HS.out (k - 1) (by omega))
      generalize x * T p % 4294967296 + y * T p / 4294967296 = z at *
      clear hrow hbel c1 c2 f1 HX HY HS HV
      have hw2 : (wr.setCell { block := w.heap.size, off := k } (Value.int IntKind.u32 z)).drew = (wr.setCell { block := w.heap.size, off := k } (Value.int IntKind.u32 z)).drew := rfl
      have hrow2' : Row (wr.setCell { block := w.heap.size, off := k } (Value.int IntKind.u32 z)).drew w.heap.size (Z.set k z) := hrow'
      have hbel2' := hbel'.drew
      clear hrow' hbel' hw2
      generalize (wr.setCell { block := w.heap.size, off := k } (Value.int IntKind.u32 z)).drew = w5 at *
      go_wp2_with fail
      go_roundw
      case rel => exact ⟨k - 1, Z.set k z, by omega, by omega, by go_num, by simpa using hZl, hZok.set k hz.1 hz.2, hrow2', hbel2', HS'.out, by rw [← HY'.out]; exact HST.out⟩
      case measure => simp [intOf]; omega
    · obtain rfl : k = q := by omega
      have c1 := hrow.cell k (by omega)
      have f1 := hrow.frozen k
      have b1 := hZok.getD k
      obtain ⟨x, hx⟩ : ∃ x, x = Z.getD k 0 := ⟨_, rfl⟩
      rw [← hx] at c1 b1
      have HX : Hid (x = Z0.getD k 0) := hx.trans (hsame k (Nat.le_refl _))
      have HF : Hid _ := raise_end Z0 Z a k p x (by omega) (by omega) HX.out HZ0.out hsame (by rw [HX.out]; exact hV)
      have hi4 : (k : Int) < (k : Int) + (a.length : Int) + 1 := by omega
      clear hx hsame hV
      have hrow' := hrow.set k (x * T p % 4294967296)
      have hbel' := hbel.setCell (p := ⟨w.heap.size, k, none⟩) (Nat.le_refl _) (.int .u32 (x * T p % 4294967296))
      have hzok := hZok.set k (z := x * T p % 4294967296) (by omega) (by omega)
      rw [T_pow] at hrow' hbel' hzok HF
      clear hrow2 hbel2
      go_wp2_with fail
      go_ret
      refine ⟨w.heap.size, _, rfl, by simpa using hZl, hzok, hrow', ?_, hbel', Nat.le_refl _⟩
      rw [HN.out]
      exact HF.out
end Go.Proofs.YtnfnnngdbeplaaaDoor
