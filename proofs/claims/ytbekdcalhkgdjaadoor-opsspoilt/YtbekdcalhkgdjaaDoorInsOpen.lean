/-
  An instruction that came in, as data.
-/
import Derived.Test.YtbekdcalhkgdjaaDoorAgOpen
import Derived.ProofKit
import Derived.OpenShut
import Derived.ChangeSlices
import Derived.SizedLaws
import Derived.Lib.SmallJoins
namespace Go.Proofs.YtbekdcalhkgdjaaDoor
open Go.ChangeShapes Go.WideShapes Go.ChangeAt Go.RowKit Go.Joins
set_option linter.unusedVariables false
set_option linter.unusedSimpArgs false

section
variable {H : Type} {enc : TypeId × Value → H} {W : World}
theorem list2o {α : Type} {cs : List α} (h : cs.length = 2) : ∃ c0 c1, cs = [c0, c1] := by
  match cs, h with
  | [c0, c1], _ => exact ⟨c0, c1, rfl⟩
theorem cellsIn : Tryd.prog.cellsOf 27 = 2 := by kernel_rfl
theorem ins_open (n : Nat) (cs : List Value) (x : DataW H × List MemPlace) (h : DataW.trod enc Tryd.prog W 0 (fun _ => true) true n 27 cs = some x) :
    ∃ op v K, cs = [.int .i64 op, v] ∧ -9223372036854775808 ≤ op ∧ op ≤ 9223372036854775807 ∧ Gs W v K := by
  obtain ⟨xs, m, hn, hx, hl, hlen, hf⟩ := DataW.trod_struct Tryd.underlying27 h
  rw [cellsIn] at hl
  obtain ⟨c0, c1, rfl⟩ := list2o hl
  match xs, hlen with
  | [y0, y1], _ =>
    have f0 : DataW.trod enc Tryd.prog W 0 (fun _ => true) true m 3 [c0] = some y0 := by simpa [cellsGi] using hf 0 _ rfl
    have f1 : DataW.trod enc Tryd.prog W 0 (fun _ => true) true m 25 [c1] = some y1 := by simpa [cellsGi, cellsGk] using hf 1 _ rfl
    obtain ⟨t, e0, -, w0⟩ := DataW.trod_int Tryd.underlying3 f0
    obtain ⟨p, c, K, e2, hc, hm, hg⟩ := gs_of_trod f1 (fun j hj => arg_open j)
    simp only [List.cons.injEq, and_true] at e0 e2
    subst e0 e2
    exact ⟨t, _, K, rfl, (bdI w0).1, (bdI w0).2, hg⟩
end
end Go.Proofs.YtbekdcalhkgdjaaDoor
