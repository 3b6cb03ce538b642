/-
  relictlaw00.Bytes.
-/
import Derived.Test.YtbmondbicnfcpaaDoorByRow
namespace Go.Proofs.YtbmondbicnfcpaaDoor
open Go.RowKit
set_option linter.unusedVariables false
set_option linter.unusedSimpArgs false

def ByPost (w : World) (l : List UInt8) (e : Ending) (w' : World) : Prop := ∃ v, e = .returned v ∧ OB w' w.heap.size v l ∧ Below w.heap.size w w'

set_option maxRecDepth 100000 in
set_option maxHeartbeats 1000000 in
theorem bytes_any (va : Value) (l : List UInt8) (w : World) (ha : By w va l) (hla : l.length ≤ 1000000) :
    Calls Tryd.prog 23 #[va] w fun e w' => ByPost w l e w' := by
  obtain ⟨i, hi, hz0, hz1, hz2⟩ := info_parts Tryd.infoB
  obtain ⟨pa, ca, rfl, hc, hm, hn⟩ := ha.shape
  have hown : w.ownsRow w.heap.size 5 1 (.slice none 0 0) 0 [] := World.ownsRow_nil _ _ _ _
  rcases pa with _ | x
  · have h0 := hn rfl
    have h1 : l.length = 0 := by omega
    obtain rfl : l = [] := List.eq_nil_of_length_eq_zero h1
    subst h0
    go_enter Tryd.func23, Tryd.ntmps23
    go_wp2_with (first | (at_builtin; refine wpList_append_own_none rfl _ _ 35 rfl w.heap.size 5 i 1 Tryd.underlying35 hi (.slice none 0 0) 0 [] rfl hown rfl ?_) | fail)
    go_ret
    exact ⟨_, rfl, World.ownsRow_nil _ _ _ _, Below.refl _ _⟩
  · have hnews : ∀ j u, (bv l)[j]? = some u → w.cell? (x.add j) = some u := by
      intro j u hu
      by_cases hj : j < l.length
      · obtain ⟨b, off, he, -, hc⟩ := ha.at j hj
        injection he with he
        subst he
        rw [show (⟨b, off, none⟩ : Addr).add j = ⟨b, off + j, none⟩ by unfold Addr.add; split <;> simp_all, hc j hj]
        simp [bv, hj] at hu
        simp [List.getD, hj, hu]
      · rw [List.getElem?_eq_none (by simp [bv]; omega)] at hu
        cases hu
    go_enter Tryd.func23, Tryd.ntmps23
    go_wp2_with (first | (at_builtin; refine wpList_append_own _ rfl _ _ 35 rfl w.heap.size 5 i (.int .u8 0) 1 1 Tryd.underlying35 hi hz0 hz1 hz2 rfl (by decide) (.slice none 0 0) 0 [] rfl hown x l.length ca (bv l) rfl (by simp [bv]) hnews (bv_one _) (by simp only [maxLen]; omega) (by omega) (Nat.le_refl _) ?_; intro v' w1 hown1 hgr1 _; simp only [Nat.zero_add, List.nil_append] at hown1) | fail)
    go_ret
    exact ⟨_, rfl, hown1, (Below.refl _ _).grown hgr1 (Nat.le_refl _) (fun k hk => by simp [Value.ownBlock] at hk)⟩

end Go.Proofs.YtbmondbicnfcpaaDoor
