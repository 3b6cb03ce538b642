
/-
  What a tied row says of the variable names: its 52 cells.
-/
import Derived.Test.YtgjjeghnfhjnnaaDoorOpB
import Derived.Test.YtgjjeghnfhjnnaaDoorRows
import Derived.LaidMore
import Derived.LaidLaws
import Derived.ProofKit
import Derived.OpenShut
import Derived.Stop.Joined
namespace Go.Proofs.YtgjjeghnfhjnnaaDoor
open Go.ChangeShapes Go.WideShapes Go.ChangeAt Go.RowKit
set_option linter.unusedVariables false
set_option linter.unusedSimpArgs false

theorem gNames : Tryd.prog.globalNamed "relict/ops.names" = some 1 := by kernel_rfl
theorem tNames : (Tryd.prog.globals[1]?).map (·.type) = some 84 := by kernel_rfl
theorem cName : Tryd.prog.cellsOf 9 = 1 := by kernel_rfl
theorem names_data {H : Type} : (Rows.laid_relict_ops_names : DataW H) = .agg ((List.range 52).map fun i : Nat => .lit (.string (nmS (i : Int)))) := rfl

theorem nam_of_laid {W : World} (h : laidMetH Tryd.prog Rows.opsPairsRow.laid W) : Nam W := by
  rw [MakeChecks.laidMetH_plain _ _ _ (by kernel_rfl)] at h
  obtain ⟨ps, ⟨g3, t3, cs3, f3, p3, q3, hg3, ht3, hv3, hd3, _, _⟩, _⟩ := h
  obtain rfl := Option.some.inj (gNames.symm.trans hg3)
  obtain rfl := Option.some.inj (tNames.symm.trans ht3)
  obtain ⟨xs, m1, rfl, hx1, hlen, hn3, hel⟩ := DataW.trod_array Tryd.underlying84 hd3
  intro i hi
  have h0 := hel i hi
  rw [cName, Nat.mul_one] at h0
  have hxi : i < xs.length := by omega
  rw [List.getElem?_eq_getElem hxi] at h0
  obtain ⟨S, e1, e2, _⟩ := DataW.trod_string Tryd.underlying9 h0
  rw [names_data] at hx1
  simp only [Prod.mk.injEq, DataW.agg.injEq] at hx1
  have hk := congrArg (fun l => l[i]?) hx1.1
  simp only [List.getElem?_map, List.getElem?_eq_getElem hxi, e2, Option.map_some, List.getElem?_range hi, Option.some.injEq, DataW.lit.injEq, Lit.string.injEq] at hk
  have hc : cs3.toList[i]? = some (.string S) := by
    have := congrArg (fun l => l[0]?) e1
    simpa [List.getElem?_take, List.getElem?_drop] using this
  have hS : S = ⟨(nmS (i : Int)).toArray⟩ := by
    obtain ⟨d⟩ := S
    simp only at hk
    rw [hk]
  rw [World.var?_cell hg3 hv3, ← Array.getElem?_toList, hc, hS]
  rfl
end Go.Proofs.YtgjjeghnfhjnnaaDoor
