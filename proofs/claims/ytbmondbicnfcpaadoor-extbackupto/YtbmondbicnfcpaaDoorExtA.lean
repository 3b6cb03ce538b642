/-
  ext: putFour, highFirst.
-/
import Derived.Test.YtbmondbicnfcpaaDoorByRow
namespace Go.Proofs.YtbmondbicnfcpaaDoor
open Go.RowKit
set_option linter.unusedVariables false
set_option linter.unusedSimpArgs false

def FourPut (w : World) (base : Nat) (v : Value) (l : List UInt8) (n : Int) (e : Ending) (w' : World) : Prop :=
  ∃ v', e = .returned v' ∧ OB w' base v' (l ++ four (u32of n)) ∧ w.grownBy w' v.ownBlock

set_option maxRecDepth 100000 in
set_option maxHeartbeats 1000000 in
/-- Four bytes behind a row of one's own. -/
theorem putFour_any (base : Nat) (v : Value) (l : List UInt8) (n : Int) (w : World) (h : OB w base v l) (hl : (l.length : Int) ≤ 1000000000) (hn0 : -2147483648 ≤ n) (hn : n ≤ 4294967295) (hb : base ≤ w.heap.size) :
    Calls Tryd.prog 77 #[v, .int .i64 n] w fun e w' => FourPut w base v l n e w' := by
  obtain ⟨i0, hi, hz0, hz1, hz2⟩ := info_parts Tryd.infoB
  have HV : Hid _ := four_valsI n hn0 hn
  go_enter Tryd.func77, Tryd.ntmps77
  go_wp2_with (first
      | (at_builtin; refine wpList_append_own _ rfl _ _ 35 rfl base 5 i0 (.int .u8 0) 1 1 Tryd.underlying35 hi hz0 hz1 hz2 rfl (by decide) _ _ _ rfl (World.ownsRow.alloc h _) ⟨w.heap.size, 0, none⟩ 4 4 (bv (four (u32of n))) rfl rfl (by rw [HV.out]; exact new_cells w _ _) (bv_one _) (by unfold maxLen; omega) (by omega) (by simp; omega) ?_; intro v' w2 hown' hgrow2 hnil2)
      | fail)
  go_ret
  exact ⟨v', rfl, OB.more hown' rfl, (World.grownBy_alloc w _ _).trans hgrow2⟩

/-- Bytes as a number, the highest first. -/
def highL (l : List UInt8) : Nat := l.foldl (fun n x => n * 256 + x.toNat) 0
theorem high_snoc (l : List UInt8) (x : UInt8) : highL (l ++ [x]) = highL l * 256 + x.toNat := by simp [highL]
theorem high_acc : ∀ (l : List UInt8) (a : Nat), l.foldl (fun n x => n * 256 + x.toNat) a < (a + 1) * 256 ^ l.length
  | [], a => by simp
  | x :: r, a => by
    have h1 := high_acc r (a * 256 + x.toNat)
    have hx := x.toNat_lt
    simp only [List.foldl_cons, List.length_cons, Nat.pow_succ]
    refine Nat.lt_of_lt_of_le h1 ?_
    rw [Nat.mul_comm (256 ^ r.length) 256, ← Nat.mul_assoc]
    exact Nat.mul_le_mul_right _ (by omega)
theorem high_lt (n : Nat) (l : List UInt8) (h : l.length = n) : highL l < 256 ^ n := by
  have := high_acc l 0
  rw [h] at this
  simpa [highL] using this

set_option maxRecDepth 100000 in
set_option maxHeartbeats 1000000 in
theorem highFirst_any (v : Value) (l : List UInt8) (w : World) (h : By w v l) (hl : l.length ≤ 4) : Calls Tryd.prog 156 #[v] w fun e w' => e = .returned (.int .i64 (highL l : Int)) ∧ w' = w := by
  obtain ⟨a, cap, rfl, hc, hm, hn⟩ := h.shape
  go_enter Tryd.func156, Tryd.ntmps156
  go_wp2_with fail
  go_loopg [3, 8] l.length (fun gk s3 s8 wr => ∃ k : Nat, k + gk = l.length ∧ s3 = .int .i64 (highL (l.take k) : Int) ∧ s8 = .int .i64 (k : Int) ∧ wr = w)
  case atStart => exact ⟨0, by omega, rfl, rfl, rfl⟩
  case round =>
    obtain ⟨k, hk, rfl, rfl, rfl⟩ := hrel
    cases gk with
    | zero =>
      obtain rfl : k = l.length := by omega
      have HE : Hid (highL (l.take l.length) = highL l) := by unfold Hid; rw [List.take_length]
      go_wp2_with fail
      go_ret
      exact ⟨by rw [HE.out]; rfl, rfl⟩
    | succ g =>
      obtain ⟨b, off, rfl, hlt, hcell⟩ := h.at k (by omega)
      have hc1 := hcell k (by omega)
      clear hcell
      have hkl : (k : Int) < (l.length : Int) := by omega
      have hbx := ubd l k
      have hsn : highL (l.take (k + 1)) = highL (l.take k) * 256 + (l.getD k 0).toNat := by
        rw [List.take_succ_eq_append_getElem (by omega), high_snoc]
        simp [List.getD, show k < l.length by omega]
      have hlt3 : highL (l.take k) < 16777216 := by
        have h1 := high_lt (l.take k).length (l.take k) rfl
        have h2 : (l.take k).length ≤ 3 := by simp; omega
        have h3 : 256 ^ (l.take k).length ≤ 256 ^ 3 := Nat.pow_le_pow_right (by omega) h2
        have h4 : (256 : Nat) ^ 3 = 16777216 := by decide
        omega
      obtain ⟨m, hmd⟩ : ∃ m : Int, m = (highL (l.take k) : Int) := ⟨_, rfl⟩
      obtain ⟨x, hxd⟩ : ∃ x : Int, x = ((l.getD k 0).toNat : Int) := ⟨_, rfl⟩
      rw [← hxd] at hc1 hbx
      rw [← hmd]
      have hm0 : 0 ≤ m := by omega
      have hm1 : m < 16777216 := by omega
      obtain ⟨z, hz⟩ : ∃ z, z = m * 256 + x := ⟨_, rfl⟩
      have ho : bits BinOp.or IntKind.i64 (m * 256) x = z := by rw [hz]; exact or_join 8 _ _ (by omega) (by omega) (by omega) (by omega) (by omega) (by omega)
      have HZ : Hid (z = (highL (l.take (k + 1)) : Int)) := by unfold Hid; omega
      clear hz hsn hlt3 hmd hxd
      go_wp2_with fail
      go_roundg g
      case measure => omega
      case rel => exact ⟨k + 1, by omega, by rw [HZ.out], by go_num, rfl⟩
end Go.Proofs.YtbmondbicnfcpaaDoor
