/-
  limb.addTimes: adds l, so many times, to the number in a piece of a block of the call's own.
-/
import Derived.Test.YtnfnnngdbeplaaaDoorCmp
namespace Go.Proofs.YtnfnnngdbeplaaaDoor
open Go.RowKit

def AddTPost (w : World) (g : Nat) (P X S L : List Int) (t : Int) (e : Ending) (w' : World) : Prop :=
  e = .returned (.tuple #[]) ∧ But g w w' ∧ ∃ X' c, X'.length = X.length ∧ Ok X' ∧ Row w' g (P ++ (X' ++ S)) ∧ 0 ≤ c ∧ c < 4294967296 ∧ V X' + B X.length * c = V X + V (L.take X.length) * t

set_option maxHeartbeats 1000000 in
theorem addT_any (g cap : Nat) (P X S : List Int) (vl : Value) (L : List Int) (t : Int) (w : World) (hr : Row w g (P ++ (X ++ S))) (hX : Ok X) (hc : X.length ≤ cap) (hm : cap ≤ 9223372036854775807)
    (hl : Sl w vl L) (hne : vl.ownBlock ≠ some g) (ht0 : 0 ≤ t) (ht1 : t < 4294967296) :
    Calls Tryd.prog 116 #[.slice (some ⟨g, P.length, none⟩) X.length cap, vl, .int .u32 t] w fun e w' => AddTPost w g P X S L t e w' := by
  obtain ⟨al, lcap, rfl⟩ := hl.shape
  go_enter Tryd.func116, Tryd.ntmps116
  go_wp2_with fail
  go_loopw [6, 10] (fun c i wr => ∃ (k : Nat) (cc : Int) (X' : List Int), k ≤ X.length ∧ i = .int .i64 k ∧ c = .int .u64 cc ∧ 0 ≤ cc ∧ cc < 4294967296 ∧ X'.length = X.length ∧ Ok X' ∧ Row wr g (P ++ (X' ++ S)) ∧ But g w wr ∧
      V (X'.take k) + B k * cc = V (X.take k) + V (L.take k) * t ∧ (∀ j, k ≤ j → X'.getD j 0 = X.getD j 0)) (fun _ i _ => X.length - (intOf i).toNat)
  case atStart => exact ⟨0, 0, X, by omega, rfl, rfl, by omega, by omega, rfl, hX, hr, But.refl _ _, by simp [V], fun _ _ => rfl⟩
  case round =>
    obtain ⟨k, cc, X', hk, rfl, rfl, hc0, hc1, hlen, hok, hrow, hbut, hV, hsame⟩ := hrel
    by_cases hkl : k < X.length
    · have hsl := hl.but hbut hne
      have hcell := hrow.cellIn k (by omega)
      have hfr : wr.frozen? ⟨g, P.length + k, none⟩ = false := hrow.frozen _
      obtain ⟨x, hx⟩ : ∃ x, x = X'.getD k 0 := ⟨_, rfl⟩
      have hxb := hok.getD k
      have hxX : Hid (x = X.getD k 0) := hx.trans (hsame k (Nat.le_refl _))
      rw [← hx] at hcell hxb
      clear hx
      have hV' : Hid _ := hV
      have hsame' : Hid _ := hsame
      clear hV hsame
      by_cases hk2 : k < L.length
      · obtain ⟨b, off, rfl, hlk⟩ := hsl.at k hk2
        have hLk := hl.ok.getD k
        obtain ⟨l, hll⟩ : ∃ l, l = L.getD k 0 := ⟨_, rfl⟩
        have hp := prod_bd hLk.1 hLk.2 ht0 ht1
        rw [← hll] at hlk hLk hp
        have hlH : Hid (l = L.getD k 0) := hll
        clear hll hsl
        go_wp2_with fail
        go_roundw
        case rel =>
          exact ⟨k + 1, _, X'.set k ((cc + l * t + x) % 4294967296), by omega, by go_num, rfl, by omega, by omega, by simp [hlen], hok.set _ (by omega) (by omega), hrow.setIn _ (by omega) _, hbut.setCell _ _,
            addT_step X' X L k cc t x l (by omega) hxX.out hlH.out hV'.out, set_same _ _ _ _ hsame'.out⟩
        case measure => simp [intOf]; omega
      · have hlH : (0 : Int) = L.getD k 0 := by simp [List.getD, hk2]
        have hst := addT_step X' X L k cc t x 0 (by omega) hxX.out hlH hV'.out
        rw [Int.zero_mul, Int.add_zero] at hst
        have HST : Hid _ := hst
        clear hst hlH hsl
        go_wp2_with fail
        go_roundw
        case rel =>
          exact ⟨k + 1, _, X'.set k ((cc + x) % 4294967296), by omega, by go_num, rfl, by omega, by omega, by simp [hlen], hok.set _ (by omega) (by omega), hrow.setIn _ (by omega) _, hbut.setCell _ _,
            HST.out, set_same _ _ _ _ hsame'.out⟩
        case measure => simp [intOf]; omega
    · obtain rfl : k = X.length := by omega
      have HV : Hid _ := hV
      clear hV hsame
      go_wp2_with fail
      go_end0
      refine ⟨rfl, hbut, X', cc, hlen, hok, hrow, hc0, hc1, ?_⟩
      have := HV.out
      rwa [List.take_of_length_le (by omega), List.take_of_length_le (by omega)] at this
theorem addT_at (g off n cap : Nat) (P X S : List Int) (vl : Value) (L : List Int) (t : Int) (w : World) (hr : Row w g (P ++ (X ++ S))) (hP : P.length = off) (hn : X.length = n) (hX : Ok X) (hc : n ≤ cap) (hm : cap ≤ 9223372036854775807)
    (hl : Sl w vl L) (hne : vl.ownBlock ≠ some g) (ht0 : 0 ≤ t) (ht1 : t < 4294967296) :
    Calls Tryd.prog 116 #[.slice (some ⟨g, off, none⟩) n cap, vl, .int .u32 t] w fun e w' => AddTPost w g P X S L t e w' := by
  subst hP; subst hn
  exact addT_any g cap P X S vl L t w hr hX hc hm hl hne ht0 ht1

end Go.Proofs.YtnfnnngdbeplaaaDoor
