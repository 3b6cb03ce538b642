/-
  relictlaw06.awake; relictlaw00.Bytes, relictlaw00.Place.
-/
import Derived.Test.YtgjjeghnfhjnnaaDoorCpGet
import Derived.Test.YtgjjeghnfhjnnaaDoorZCpN
import Derived.Test.YtgjjeghnfhjnnaaDoorPlaceB
namespace Go.Proofs.YtgjjeghnfhjnnaaDoor
open Go.RowKit
set_option linter.unusedVariables false
set_option linter.unusedSimpArgs false

def ByPost (w : World) (l : List UInt8) (e : Ending) (w' : World) : Prop := ∃ v, e = .returned v ∧ OB w' w.heap.size v l ∧ Below w.heap.size w w'

set_option maxHeartbeats 1000000 in
theorem bytes_any (va : Value) (l : List UInt8) (w : World) (ha : By w va l) (hla : l.length ≤ 1000000) :
    Calls Tryd.prog 28 #[va] w fun e w' => ByPost w l e w' := by
  obtain ⟨i, hi, hz0, hz1, hz2⟩ := info_parts Tryd.infoB
  obtain ⟨pa, ca, rfl, hc, hm, hn⟩ := ha.shape
  have hown : w.ownsRow w.heap.size 5 1 (.slice none 0 0) 0 [] := World.ownsRow_nil _ _ _ _
  rcases pa with _ | x
  · have h0 := hn rfl
    have h1 : l.length = 0 := by omega
    obtain rfl : l = [] := List.eq_nil_of_length_eq_zero h1
    subst h0
    go_enter Tryd.func28, Tryd.ntmps28
    go_wp2_with (first | (at_builtin; refine wpList_append_own_none rfl _ _ 22 rfl w.heap.size 5 i 1 Tryd.underlying22 hi (.slice none 0 0) 0 [] rfl hown rfl ?_) | fail)
    go_ret
    exact ⟨_, rfl, World.ownsRow_nil _ _ _ _, Below.refl _ _⟩
  · have hnews : ∀ j u, (bv l)[j]? = some u → w.cell? (x.add j) = some u := by
      intro j u hu
      by_cases hj : j < l.length
      · obtain ⟨b, off, he, -, hc⟩ := ha.at j hj
        injection he with he
        subst he
        rw [show (⟨b, off, none⟩ : Addr).add j = ⟨b, off + j, none⟩ by unfold Addr.add; split <;> simp_all, hc j hj]
        simp [bv, hj] at hu
        simp [List.getD, hj, hu]
      · rw [List.getElem?_eq_none (by simp [bv]; omega)] at hu
        cases hu
    go_enter Tryd.func28, Tryd.ntmps28
    go_wp2_with (first | (at_builtin; refine wpList_append_own _ rfl _ _ 22 rfl w.heap.size 5 i (.int .u8 0) 1 1 Tryd.underlying22 hi hz0 hz1 hz2 rfl (by decide) (.slice none 0 0) 0 [] rfl hown x l.length ca (bv l) rfl (by simp [bv]) hnews (bv_one _) (by simp only [maxLen]; omega) (by omega) (Nat.le_refl _) ?_; intro v' w1 hown1 hgr1 _; simp only [Nat.zero_add, List.nil_append] at hown1) | fail)
    go_ret
    exact ⟨_, rfl, hown1, (Below.refl _ _).grown hgr1 (Nat.le_refl _) (fun k hk => by simp [Value.ownBlock] at hk)⟩

theorem put_x3 : ([] ++ El.putS ⟨3, 3, none, 0, 0⟩ [] : List UInt8) = [51] := by decide +kernel
theorem put_i1 : ([] ++ El.putS ⟨1, -1, none, 0, 0⟩ [] : List UInt8) = [25, 255, 255] := by decide +kernel
theorem chk_l0 : El.ok ⟨6, 0, none, 0, 0⟩ [] = true := by decide +kernel
/-- Put of an operand that is no list behind nothing. -/
theorem put_one (w : World) (hS : Spn w) (t n : Int) (h1 : 0 ≤ t) (h2 : t ≤ 7) (h3 : -9223372036854775808 ≤ n) (h4 : n ≤ 9223372036854775807) : Calls Tryd.prog 13 #[.slice none 0 0, .agg #[.int .i64 t, .int .i64 n, .slice none 0 0]] w fun e w' => PutA w [] (El.putS ⟨t, n, none, 0, 0⟩ []) e w' :=
  put_any (.slice none 0 0) [] ⟨t, n, none, 0, 0⟩ [] w hS (By.nil _) (by simp) (fit_mk h1 h2 ⟨h3, h4⟩) (Rw3.nil _) rfl

set_option maxRecDepth 100000 in
set_option maxHeartbeats 2000000 in
theorem awake6 (w : World) (hS : Spn w) : Calls Tryd.prog 9 #[] w fun e w' => e = .returned (.bool true) ∧ Below w.heap.size w w' := by
  have HS : Hid (Spn w) := hS
  clear hS
  go_enter Tryd.func9, Tryd.ntmps9
  go_wp2_with fail
  refine (put_one w HS.out 3 3 (by decide) (by decide) (by decide) (by decide)).mono ?_
  rintro e w1 ⟨v1, rfl, y1, b1⟩
  rw [put_x3] at y1
  obtain ⟨a1, c1, rfl, -⟩ := y1.shape
  have t1 := y1.text
  have HB1 : Hid (Below w.heap.size w w1) := b1
  simp only [List.length_cons, List.length_nil] at t1
  clear y1 b1
  go_wp2_with fail
  refine (put_one w1 (HS.out.under HB1.out) 1 (-1) (by decide) (by decide) (by decide) (by decide)).mono ?_
  rintro e w2 ⟨v2, rfl, y2, b2⟩
  rw [put_i1] at y2
  obtain ⟨a2, c2, rfl, -⟩ := y2.shape
  have t2 := y2.text
  have HB2 : Hid (Below w.heap.size w w2) := HB1.out.trans (b2.mono HB1.out.size)
  simp only [List.length_cons, List.length_nil] at t2
  clear y2 b2 t1 HB1
  go_wp2_with fail
  refine (check_any ⟨6, 0, none, 0, 0⟩ [] w2 (HS.out.under HB2.out) (fit_mk (by decide) (by decide) ⟨by decide, by decide⟩) (Rw3.nil _) rfl).mono ?_
  rw [chk_l0]
  rintro e w3 ⟨rfl, b3⟩
  have HB3 : Hid (Below w.heap.size w w3) := HB2.out.trans (b3.mono HB2.out.size)
  clear b3
  go_wp2_with fail
  go_ret
  exact ⟨rfl, HB3.out⟩
end Go.Proofs.YtgjjeghnfhjnnaaDoor
