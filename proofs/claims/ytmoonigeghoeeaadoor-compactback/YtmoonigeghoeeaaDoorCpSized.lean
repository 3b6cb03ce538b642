/-
  Bytes that came in, and how many there may be.
-/
import Derived.Test.YtmoonigeghoeeaaDoorCpOpen
namespace Go.Proofs.YtmoonigeghoeeaaDoor
open Go.ChangeShapes Go.WideShapes Go.ChangeAt Go.RowKit Go.Joins
set_option linter.unusedVariables false
set_option linter.unusedSimpArgs false

theorem bytesU8 : Tryd.prog.bytesOf 5 = 1 := by kernel_rfl
theorem bytes_sized {H : Type} {enc : TypeId × Value → H} {W : World} {n : Nat} {cs : List Value} {x : DataW H × List MemPlace} (h : DataW.trod enc Tryd.prog W 0 (fun _ => true) true n 22 cs = some x)
    (hw : (x.1.weights Tryd.prog 22).all (fun n => decide (n ≤ reachBytes)) = true) : ∃ v t, cs = [v] ∧ By W v t ∧ (List.length t : Int) ≤ 140737488351232 := by
  rcases open_ints Tryd.underlying22 Tryd.underlying5 (by kernel_rfl) h with ⟨hcs, _⟩ | ⟨a, l, c, zs, hcs, hb, hl, hm, hz, hx, hcell, hwz⟩
  · exact ⟨_, [], hcs, By.nil W, by decide⟩
  · refine ⟨_, _, hcs, by_of_row (.inr ⟨_, rfl, hl, hm, by simpa using hz, hcell, hwz⟩), ?_⟩
    rw [hx] at hw
    simp only [DataW.weights, Tryd.underlying22, List.all_cons, Bool.and_eq_true, decide_eq_true_eq, bytesU8, Nat.mul_one] at hw
    have h1 := hw.1
    have hz' : zs.length = c := by simpa using hz
    have hlen : (lits IntKind.u8 (zs.take l) : List (DataW H)).length + (lits IntKind.u8 (zs.drop l) : List (DataW H)).length = zs.length := by
      unfold lits
      simp
      omega
    rw [hlen] at h1
    unfold reachBytes at h1
    simp
    omega
end Go.Proofs.YtmoonigeghoeeaaDoor
