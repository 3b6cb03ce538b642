/-
  relictlaw00.Limbs: a slice in new memory; relictlaw00.SameLimbs: true of two slices of the same limbs.
-/
import Derived.Test.YtedomcijnoekhaaAppZ
namespace Go.Proofs.Ytedomcijnoekhaa
open Go.RowKit
set_option linter.unusedVariables false

def LimbsPost (w : World) (a : List Int) (e : Ending) (w' : World) : Prop := ∃ v, e = .returned v ∧ Owns w' w.heap.size v a ∧ Below w.heap.size w w'

set_option maxHeartbeats 1000000 in
theorem limbs_any (va : Value) (a : List Int) (w : World) (ha : Sl w va a) (hla : a.length ≤ 1000000) :
    Calls Try.prog 11 #[va] w fun e w' => LimbsPost w a e w' := by
  obtain ⟨i, hi, hz0, hz1, hz2⟩ := info_parts Try.infoU32
  obtain ⟨pa, ca, rfl⟩ := ha.shape
  have hown : w.ownsRow w.heap.size 33 1 (.slice none 0 0) 0 [] := World.ownsRow_nil _ _ _ _
  rcases pa with _ | x
  · have h0 := ha.len.2.2.2 rfl
    have h1 : a.length = 0 := by have := ha.len; omega
    obtain rfl : a = [] := List.eq_nil_of_length_eq_zero h1
    subst h0
    go_enter Try.func11, Try.ntmps11
    go_wp2_with (first | (at_builtin; refine wpList_append_own_none rfl _ _ 22 rfl w.heap.size 33 i 1 Try.underlying22 hi (.slice none 0 0) 0 [] rfl hown rfl ?_) | fail)
    go_ret
    exact ⟨_, rfl, World.ownsRow_nil _ _ _ _, Below.refl _ _⟩
  · have hnews : ∀ j u, (a.map (Value.int .u32))[j]? = some u → w.cell? (x.add j) = some u := by
      intro j u hu
      by_cases hj : j < a.length
      · obtain ⟨b, off, he, hc⟩ := ha.at j hj
        injection he with he
        subst he
        rw [show (⟨b, off, none⟩ : Addr).add j = ⟨b, off + j, none⟩ by unfold Addr.add; split <;> simp_all, hc]
        simp [hj] at hu
        simp [List.getD, hj, hu]
      · rw [List.getElem?_eq_none (by simp; omega)] at hu
        cases hu
    go_enter Try.func11, Try.ntmps11
    go_wp2_with (first | (at_builtin; refine wpList_append_own _ rfl _ _ 22 rfl w.heap.size 33 i (.int .u32 0) 1 4 Try.underlying22 hi hz0 hz1 hz2 rfl (by decide) (.slice none 0 0) 0 [] rfl hown x a.length ca (a.map (Value.int .u32)) rfl (by simp) hnews (ints_oneCell _ _) (by simp only [maxLen]; omega) (by omega) (Nat.le_refl _) ?_; intro v' w1 hown1 hgr1 _; simp only [Nat.zero_add, List.nil_append] at hown1) | fail)
    go_ret
    exact ⟨_, rfl, hown1, (Below.refl _ _).grown hgr1 (Nat.le_refl _) (fun k hk => by simp [Value.ownBlock] at hk)⟩

set_option maxHeartbeats 1000000 in
theorem same_yes (va vb : Value) (a : List Int) (w : World) (ha : Sl w va a) (hb : Sl w vb a) :
    Calls Try.prog 14 #[va, vb] w fun e w' => e = .returned (.bool true) ∧ Below w.heap.size w w' := by
  obtain ⟨pa, ca, rfl⟩ := ha.shape
  obtain ⟨pb, cb, rfl⟩ := hb.shape
  have hne : ((a.length : Int) != (a.length : Int)) = false := by simp
  have hlen := ha.len
  go_enter Try.func14, Try.ntmps14
  go_wp2_with fail
  go_loopw [5] (fun i wr => ∃ k : Nat, k ≤ a.length ∧ i = .int .i64 k ∧ Below w.heap.size w wr) (fun i _ => a.length - (intOf i).toNat)
  case atStart => exact ⟨0, by omega, rfl, Below.refl _ _⟩
  case round =>
    obtain ⟨k, hk, rfl, hbel⟩ := hrel
    by_cases hkl : k < a.length
    · obtain ⟨b1, off1, rfl, c1⟩ := (ha.below hbel).at k hkl
      obtain ⟨b2, off2, rfl, c2⟩ := (hb.below hbel).at k hkl
      generalize a.getD k 0 = x at *
      have hx : (x != x) = false := by simp
      have hkl' : (k : Int) < (a.length : Int) := by omega
      go_wp2_with fail
      go_quiet (fail)
      go_wp2_with fail
      go_roundw
      case rel => exact ⟨k + 1, by omega, by go_num, below_drewN hbel _⟩
      case measure => simp [intOf]; omega
    · go_wp2_with fail
      go_ret
      exact ⟨rfl, hbel⟩
end Go.Proofs.Ytedomcijnoekhaa
