/-
  strings.CutPrefix with "-": what is left behind a minus, and whether there was one.
-/
import Derived.Test.YtmhcgdigccaogaaNumAwake
import Derived.Lib.Strings
import Derived.Lib.IndexBytes
namespace Go.Proofs.Ytmhcgdigccaogaa
open Go.RowKit
set_option linter.unusedVariables false

set_option maxHeartbeats 1000000 in
theorem has_minus (s : ByteArray) (w : World) (h0 : 0 < s.size) :
    Calls Try.prog 87 #[.string s, .string ⟨#[45]⟩] w fun e w' => e = .returned (.bool ((s.extract 0 1).toList == [45])) ∧ w = w' := by
  have h1 : (1 : Int) ≤ (s.size : Int) := by omega
  have hs : (ByteArray.mk #[45]).size = 1 := rfl
  go_enter Try.func87, Try.ntmps87
  go_wp2_with fail
  go_ret
  exact ⟨rfl, rfl⟩

set_option maxHeartbeats 1000000 in
theorem has_none (s : ByteArray) (w : World) (h0 : s.size = 0) :
    Calls Try.prog 87 #[.string s, .string ⟨#[45]⟩] w fun e w' => e = .returned (.bool false) ∧ w = w' := by
  have h1 : ¬ ((1 : Int) ≤ (s.size : Int)) := by omega
  have hs : (ByteArray.mk #[45]).size = 1 := rfl
  clear h0
  go_enter Try.func87, Try.ntmps87
  go_wp2_with fail
  go_ret
  exact ⟨rfl, rfl⟩

/-- Whether a text begins with a minus. -/
def isM (L : List UInt8) : Bool := L.take 1 == [45]
/-- What is left. -/
def offM (L : List UInt8) : List UInt8 := if isM L = true then L.drop 1 else L

theorem has_any (s : ByteArray) (w : World) :
    Calls Try.prog 87 #[.string s, .string ⟨#[45]⟩] w fun e w' => e = .returned (.bool (isM s.data.toList)) ∧ w = w' := by
  have hsz := Lib.size_eq s
  by_cases h0 : s.size = 0
  · have e : isM s.data.toList = false := by
      have : s.data.toList = [] := List.eq_nil_of_length_eq_zero (by omega)
      rw [this]; rfl
    rw [e]; exact has_none s w h0
  · have e : isM s.data.toList = ((s.extract 0 1).toList == [45]) := by rw [Lib.extract_toList]; rfl
    rw [e]; exact has_minus s w (by omega)

set_option maxHeartbeats 1000000 in
theorem cut1_any (s : ByteArray) (w : World) :
    Calls Try.prog 78 #[.string s, .string ⟨#[45]⟩] w fun e w' => (∃ r : ByteArray, e = .returned (.tuple #[.string r, .bool (isM s.data.toList)]) ∧ r.data.toList = offM s.data.toList) ∧ w = w' := by
  have hs : (ByteArray.mk #[45]).size = 1 := rfl
  have hsz := Lib.size_eq s
  cases hm : isM s.data.toList
  · have ho : Hid (offM s.data.toList = s.data.toList) := by show offM _ = _; unfold offM; rw [hm]; rfl
    have HM : Hid (isM s.data.toList = false) := hm
    clear hm hsz
    go_enter Try.func78, Try.ntmps78
    go_wp2_with fail
    refine (has_any s _).mono ?_
    rintro e w1 ⟨rfl, rfl⟩
    rw [HM.out]
    go_wp2_with fail
    go_ret2
    exact ⟨⟨s, rfl, ho.out.symm⟩, rfl⟩
  · have ho : Hid ((s.extract 1 s.size).data.toList = offM s.data.toList) := by
      show _ = offM _
      unfold offM
      rw [hm, if_pos rfl]
      exact Lib.extract_to_end s 1
    have h1 : (1 : Int) ≤ (s.size : Int) := by
      have : s.size ≠ 0 := fun h => by
        have : s.data.toList = [] := List.eq_nil_of_length_eq_zero (by omega)
        rw [this] at hm; cases hm
      omega
    have HM : Hid (isM s.data.toList = true) := hm
    clear hm hsz
    go_enter Try.func78, Try.ntmps78
    go_wp2_with fail
    refine (has_any s _).mono ?_
    rintro e w1 ⟨rfl, rfl⟩
    rw [HM.out]
    go_wp2_with fail
    go_ret2
    exact ⟨⟨_, rfl, ho.out⟩, rfl⟩

set_option maxHeartbeats 1000000 in
theorem cut_any (s : ByteArray) (w : World) :
    Calls Try.prog 50 #[.string s, .string ⟨#[45]⟩] w fun e w' => (∃ r : ByteArray, e = .returned (.tuple #[.string r, .bool (isM s.data.toList)]) ∧ r.data.toList = offM s.data.toList) ∧ w = w' := by
  obtain ⟨m, hm⟩ : ∃ m, m = isM s.data.toList := ⟨_, rfl⟩
  have HM : Hid (m = isM s.data.toList) := hm
  rw [← hm]
  clear hm
  go_enter Try.func50, Try.ntmps50
  go_wp2_with fail
  refine (cut1_any s _).mono ?_
  rintro e w1 ⟨⟨r, rfl, hr⟩, rfl⟩
  rw [← HM.out]
  have HR : Hid _ := hr
  clear hr
  go_wp2_with fail
  go_ret2
  exact ⟨⟨r, rfl, HR.out⟩, rfl⟩
end Go.Proofs.Ytmhcgdigccaogaa
