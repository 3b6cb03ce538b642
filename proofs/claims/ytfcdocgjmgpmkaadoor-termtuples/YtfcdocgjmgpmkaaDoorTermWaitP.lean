
/-
  term.wait: pairs of slices that wait, two cells each.
-/
import Derived.Test.YtfcdocgjmgpmkaaDoorTermTotal
namespace Go.Proofs.YtfcdocgjmgpmkaaDoor
open Go.RowKit
set_option linter.unusedVariables false
set_option linter.unusedSimpArgs false

/-- The cells of pairs, one behind the other. -/
def flat2 (ps : List (Value × Value)) : List Value := ps.flatMap fun p => [p.1, p.2]
theorem flat2_app (a b : List (Value × Value)) : flat2 (a ++ b) = flat2 a ++ flat2 b := by simp [flat2]
/-- The row of pairs that wait. -/
def WaitP (w : World) (base : Nat) (v : Value) (ps : List (Value × Value)) : Prop := w.ownsRow base 69 2 v ps.length (flat2 ps)
theorem Tryd.infoP : (Tryd.prog.info? 69).map (fun i => (i.zero, i.size, i.bytes)) = some (some (.agg #[.slice none 0 0, .slice none 0 0]), 2, 48) := by kernel_rfl

/-- What wait leaves. -/
def WaitPost (w : World) (base : Nat) (v : Value) (ps : List (Value × Value)) (e : Ending) (w' : World) : Prop := ∃ v', e = .returned v' ∧ WaitP w' base v' ps ∧ w.grownBy w' v.ownBlock

set_option maxRecDepth 100000 in
theorem wait_none (v : Value) (hv : IsS v) (pa : Option Addr) (ca : Nat) (sb : Value) (hb : IsS sb) (w : World) : Calls Tryd.prog 40 #[v, .slice pa 0 ca, sb] w fun e w' => e = .returned v ∧ w' = w := by
  obtain ⟨p, n, c, rfl⟩ := hv
  obtain ⟨p2, n2, c2, rfl⟩ := hb
  go_enter Tryd.func40, Tryd.ntmps40
  go_wp2_with fail
  go_ret
  exact ⟨rfl, rfl⟩

set_option maxRecDepth 100000 in
set_option maxHeartbeats 4000000 in
theorem wait_some (base : Nat) (v : Value) (ps : List (Value × Value)) (pa pb : Option Addr) (na ca nb cb : Nat) (w : World) (hW : WaitP w base v ps) (hbase : base ≤ w.heap.size) (hn : 0 < na) (hl : ps.length ≤ 1000000) :
    Calls Tryd.prog 40 #[v, .slice pa na ca, .slice pb nb cb] w fun e w' => WaitPost w base v (ps ++ [(.slice pa na ca, .slice pb nb cb)]) e w' := by
  obtain ⟨ti, hi, hz0, hz1, hz2⟩ := info_parts Tryd.infoP
  have h0 : ((na : Int) == 0) = false := by simp; omega
  go_enter Tryd.func40, Tryd.ntmps40
  go_wp2_with (first | (at_builtin; refine wpList_append_own_at _ rfl _ _ 70 rfl base 69 ti (.agg #[.slice none 0 0, .slice none 0 0]) 2 48 Tryd.underlying70 hi hz0 hz1 hz2 rfl (by decide) v ps.length (flat2 ps) rfl (World.ownsRow.alloc hW _) ⟨w.heap.size, 0, none⟩ 1 1 [.slice pa na ca, .slice pb nb cb] rfl rfl ?cells (fun u hu => by simp at hu; rcases hu with rfl | rfl <;> rfl) (by simp only [maxLen]; omega) (by omega) (by simp; omega) ?_; rotate_left; intro v5 w5 hown5 hgr5 hnil5 hloc5) | fail)
  case cells =>
    intro j u hj
    have hc := heap_alloc_new w (.cells #[.slice pa na ca, .slice pb nb cb] 69)
    rcases j with _ | _ | j
    · simp at hj; subst hj
      change (w.alloc _).cell? ⟨w.heap.size, 0, none⟩ = _
      unfold World.cell?
      simp only [hc]
      rfl
    · simp at hj; subst hj
      change (w.alloc _).cell? ⟨w.heap.size, 1, none⟩ = _
      unfold World.cell?
      simp only [hc]
      rfl
    · simp at hj
  go_ret
  refine ⟨v5, rfl, ?_, (World.grownBy_alloc _ _ _).trans hgr5⟩
  unfold WaitP
  rw [flat2_app]
  simpa [flat2] using hown5
end Go.Proofs.YtfcdocgjmgpmkaaDoor
