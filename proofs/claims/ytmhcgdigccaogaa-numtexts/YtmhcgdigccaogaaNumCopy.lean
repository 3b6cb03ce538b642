/-
  relictlaw00.Num: a number in new memory.
-/
import Derived.Test.YtmhcgdigccaogaaSame
import Derived.Test.YtmhcgdigccaogaaNumSame
namespace Go.Proofs.Ytmhcgdigccaogaa
open Go.RowKit
set_option linter.unusedVariables false

def NCopyPost (w : World) (n : Bool) (zs : List Int) (e : Ending) (w' : World) : Prop := ∃ v, e = .returned v ∧ Nu w' v n zs ∧ Below w.heap.size w w'

set_option maxHeartbeats 1000000 in
theorem ncopy_any (n : Bool) (s : Value) (zs : List Int) (w : World) (hs : Sl w s zs) (hl : zs.length ≤ 1000000) :
    Calls Try.prog 7 #[.agg #[.bool n, s]] w fun e w' => NCopyPost w n zs e w' := by
  obtain ⟨p, c, rfl⟩ := hs.shape
  obtain ⟨hb1, x0, x1⟩ := boxes1 w n p zs.length c
  have hs1 := hs.below hb1
  go_enter Try.func7, Try.ntmps7
  go_wp2_with fail
  generalize (w.alloc (.cells #[.bool n, .slice p zs.length c] 24)).alloc (.cells #[.bool false, .slice none 0 0] 24) = w0 at *
  go_region_held3 (fun w' => w'.cell? ⟨w.heap.size, 0, none⟩ = some (.bool n) ∧ w'.cell? ⟨w.heap.size, 1, none⟩ = some (.slice p zs.length c))
    (first | exact x0.held ((Below.refl _ _).drew) | exact x0.held hk1 | exact x0.held3 hk1 (by omega))
    (first
      | (go_at_call 27; refine (limbs_any _ zs _ (hs1.below ((Below.refl _ _).drew)) hl).mono ?_; rintro e w1 ⟨v1, rfl, o1, b1⟩; have hk1 : Below w0.heap.size w0 w1 := (Below.refl _ _).drew.trans b1; have t1 := o1.sl hs.ok; obtain ⟨p1, c1, rfl⟩ := t1.shape; obtain ⟨d0, d1, f0, f1, l1⟩ := (x1.under hk1).facts))
  have u1 := x1.under hk1
  have hB := hb1.trans (hk1.mono hb1.size)
  clear x0 x1 hs hs1 o1 hk1 hb1
  go_wp2_with fail
  refine bodyPost_ret (results_box1 rfl _ _ (w.heap.size + 1) _ _ rfl u1.set) rfl ?_
  exact ⟨_, rfl, ⟨_, rfl, t1.box u1 (setBx_but _ _ _ _)⟩, hB.trans ((setBx_but _ _ _ _).below (by omega))⟩
end Go.Proofs.Ytmhcgdigccaogaa
