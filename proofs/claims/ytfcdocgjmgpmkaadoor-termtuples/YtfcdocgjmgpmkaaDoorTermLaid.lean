
/-
  What a tied row says of the variable order: its nine cells.
-/
import Derived.Test.YtfcdocgjmgpmkaaDoorTermRank
import Derived.Test.YtfcdocgjmgpmkaaDoorRows
import Derived.LaidMore
import Derived.LaidLaws
import Derived.ProofKit
import Derived.OpenShut
import Derived.Stop.Joined
namespace Go.Proofs.YtfcdocgjmgpmkaaDoor
open Go.ChangeShapes Go.WideShapes Go.ChangeAt Go.RowKit
set_option linter.unusedVariables false
set_option linter.unusedSimpArgs false

theorem gOrder : Tryd.prog.globalNamed "relict/term.order" = some 0 := by kernel_rfl
theorem tOrder : (Tryd.prog.globals[0]?).map (·.type) = some 85 := by kernel_rfl
theorem cOrder : Tryd.prog.cellsOf 3 = 1 := by kernel_rfl

theorem ord_of_laid {W : World} (h : laidMetH Tryd.prog Rows.termKindsRow.laid W) : Ord W := by
  rw [MakeChecks.laidMetH_plain _ _ _ (by kernel_rfl)] at h
  obtain ⟨ps, ⟨g0, t0, cs0, f0, p0, q0, hg0, ht0, hv0, hd0, ⟨g1, t1, cs1, f1, p1, q1, hg1, ht1, hv1, hd1, ⟨g2, t2, cs2, f2, p2, q2, hg2, ht2, hv2, hd2, ⟨g3, t3, cs3, f3, p3, q3, hg3, ht3, hv3, hd3, _, _⟩, _⟩, _⟩, _⟩, _, _⟩ := h
  obtain rfl := Option.some.inj (gOrder.symm.trans hg3)
  obtain rfl := Option.some.inj (tOrder.symm.trans ht3)
  obtain ⟨xs, m1, rfl, hx1, hlen, hn3, hel⟩ := DataW.trod_array Tryd.underlying85 hd3
  have key : ∀ i : Nat, i < 9 → cs3[i]? = some (.int .i64 (ordL.getD i 0)) := by
    intro i hi
    have h0 := hel i hi
    rw [cOrder, Nat.mul_one] at h0
    have hxi : i < xs.length := by omega
    rw [List.getElem?_eq_getElem hxi] at h0
    obtain ⟨k, e1, e2, _⟩ := DataW.trod_int Tryd.underlying3 h0
    simp only [Prod.mk.injEq, Rows.laid_relict_term_order, DataW.agg.injEq] at hx1
    have hk := congrArg (fun l => l[i]?) hx1.1
    simp only [List.getElem?_map, List.getElem?_eq_getElem hxi, e2, Option.map_some] at hk
    have hc : cs3.toList[i]? = some (.int .i64 k) := by
      have := congrArg (fun l => l[0]?) e1
      simpa [List.getElem?_take, List.getElem?_drop] using this
    rw [← Array.getElem?_toList, hc]
    have hkk : k = ordL.getD i 0 := by
      rcases i with _ | _ | _ | _ | _ | _ | _ | _ | _ | i
      all_goals first | omega | (simp at hk; subst hk; rfl) | (simp at hk; rw [← hk]; rfl)
    rw [hkk]
  refine ⟨?_, ?_, ?_, ?_, ?_, ?_, ?_, ?_, ?_⟩
  all_goals (rw [World.var?_cell hg3 hv3, key _ (by decide)]; rfl)
end Go.Proofs.YtfcdocgjmgpmkaaDoor
