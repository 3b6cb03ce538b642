/-
  relictlaw00.Limbs: a slice in new memory.
-/
import Derived.Test.YtmhcgdigccaogaaAppZ
import Derived.Test.YtmhcgdigccaogaaSameL
namespace Go.Proofs.Ytmhcgdigccaogaa
open Go.RowKit
set_option linter.unusedVariables false

def LimbsPost (w : World) (a : List Int) (e : Ending) (w' : World) : Prop := ∃ v, e = .returned v ∧ Owns w' w.heap.size v a ∧ Below w.heap.size w w'

set_option maxHeartbeats 1000000 in
theorem limbs_any (va : Value) (a : List Int) (w : World) (ha : Sl w va a) (hla : a.length ≤ 1000000) :
    Calls Try.prog 27 #[va] w fun e w' => LimbsPost w a e w' := by
  obtain ⟨i, hi, hz0, hz1, hz2⟩ := info_parts Try.infoU32
  obtain ⟨pa, ca, rfl⟩ := ha.shape
  have hown : w.ownsRow w.heap.size 53 1 (.slice none 0 0) 0 [] := World.ownsRow_nil _ _ _ _
  rcases pa with _ | x
  · have h0 := ha.len.2.2.2 rfl
    have h1 : a.length = 0 := by have := ha.len; omega
    obtain rfl : a = [] := List.eq_nil_of_length_eq_zero h1
    subst h0
    go_enter Try.func27, Try.ntmps27
    go_wp2_with (first | (at_builtin; refine wpList_append_own_none rfl _ _ 22 rfl w.heap.size 53 i 1 Try.underlying22 hi (.slice none 0 0) 0 [] rfl hown rfl ?_) | fail)
    go_ret
    exact ⟨_, rfl, World.ownsRow_nil _ _ _ _, Below.refl _ _⟩
  · have hnews : ∀ j u, (a.map (Value.int .u32))[j]? = some u → w.cell? (x.add j) = some u := by
      intro j u hu
      by_cases hj : j < a.length
      · obtain ⟨b, off, he, hc⟩ := ha.at j hj
        injection he with he
        subst he
        rw [show (⟨b, off, none⟩ : Addr).add j = ⟨b, off + j, none⟩ by unfold Addr.add; split <;> simp_all, hc]
        simp [hj] at hu
        simp [List.getD, hj, hu]
      · rw [List.getElem?_eq_none (by simp; omega)] at hu
        cases hu
    go_enter Try.func27, Try.ntmps27
    go_wp2_with (first | (at_builtin; refine wpList_append_own _ rfl _ _ 22 rfl w.heap.size 53 i (.int .u32 0) 1 4 Try.underlying22 hi hz0 hz1 hz2 rfl (by decide) (.slice none 0 0) 0 [] rfl hown x a.length ca (a.map (Value.int .u32)) rfl (by simp) hnews (ints_oneCell _ _) (by simp only [maxLen]; omega) (by omega) (Nat.le_refl _) ?_; intro v' w1 hown1 hgr1 _; simp only [Nat.zero_add, List.nil_append] at hown1) | fail)
    go_ret
    exact ⟨_, rfl, hown1, (Below.refl _ _).grown hgr1 (Nat.le_refl _) (fun k hk => by simp [Value.ownBlock] at hk)⟩
end Go.Proofs.Ytmhcgdigccaogaa
