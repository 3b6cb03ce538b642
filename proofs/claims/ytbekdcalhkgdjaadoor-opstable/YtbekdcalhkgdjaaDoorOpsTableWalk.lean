/-
  relictlaw07.OpsTable.
-/
import Derived.Test.YtbekdcalhkgdjaaDoorOpJ
namespace Go.Proofs.YtbekdcalhkgdjaaDoor
open Go.RowKit
set_option linter.unusedVariables false
set_option linter.unusedSimpArgs false

theorem nm_apart : ∀ i < 51, ∀ j < i, (nmT.getD j [] == nmT.getD i []) = false := by decide +kernel
theorem nm_two {k : Nat} {op : Int} (h1 : 1 ≤ k) (h2 : (k : Int) < op) (h3 : op ≤ 51) : (nmS (k : Int) == nmS op) = false := by
  have := nm_apart (op - 1).toNat (by omega) (k - 1) (by omega)
  unfold nmS
  rw [if_pos (by omega), if_pos (by omega), show ((k : Int) - 1).toNat = k - 1 by omega]
  exact this
set_option maxRecDepth 100000 in
set_option maxHeartbeats 4000000 in
theorem opsTable_walk (w : World) (hN : Nam w) : Calls Tryd.prog 3 #[] w (RB true w) := by
  have HN : Hid (Nam w) := hN
  clear hN
  go_enter Tryd.func3, Tryd.ntmps3
  go_wp2_with fail
  go_loopg [1] 57 (fun gk s1 wr => ∃ op : Int, op + (gk : Int) = 55 ∧ -2 ≤ op ∧ s1 = .int .i64 op ∧ Hid (Below w.heap.size w wr))
  case atStart => exact ⟨-2, by decide, by decide, rfl, Below.refl _ _⟩
  case round =>
    obtain ⟨op, hk, ho2, rfl, HB⟩ := hrel
    cases gk with
    | zero =>
      obtain rfl : op = 55 := by omega
      clear hk
      go_wp2_with fail
      refine (awake7 _ (HN.out.under HB.out)).mono ?_
      rintro e w2 ⟨rfl, b2⟩
      have HB2 : Hid (Below w.heap.size w w2) := HB.out.trans (b2.mono HB.out.size)
      clear b2
      go_wp2_with fail
      go_ret
      exact ⟨rfl, HB2.out⟩
    | succ g =>
      have ho1 : op ≤ 54 := by omega
      have HK : Hid (op + 1 + (g : Int) = 55) := by unfold Hid; omega
      clear hk
      have HSG : Hid (∀ W, Calls Tryd.prog 7 #[.int .i64 op] W fun e w' => e = .returned (.string ⟨(sigS op).toArray⟩) ∧ w' = W) := fun W => sig_any op W
      have HRS : Hid (∀ W, Calls Tryd.prog 8 #[.int .i64 op] W fun e w' => e = .returned (.string ⟨(sigS op).toArray⟩) ∧ Below W.heap.size W w') := fun W => rsig_any op W
      have HNM : Hid (∀ W, Below w.heap.size w W → Calls Tryd.prog 9 #[.int .i64 op] W fun e w' => e = .returned (.string ⟨(nmS op).toArray⟩) ∧ w' = W) := fun W h => name_any op W (HN.out.under h)
      have HRN : Hid (∀ W, Calls Tryd.prog 10 #[.int .i64 op] W fun e w' => e = .returned (.string ⟨(nmS op).toArray⟩) ∧ Below W.heap.size W w') := fun W => rname_any op W
      have HEN : Hid (∀ W, Calls Tryd.prog 11 #[.int .i64 op] W fun e w' => e = .returned (.bool (endS op)) ∧ w' = W) := fun W => ends_any op W
      have HRE : Hid (∀ W, Calls Tryd.prog 12 #[.int .i64 op] W fun e w' => e = .returned (.bool (endS op)) ∧ w' = W) := fun W => rends_any op W
      have HTW : Hid (∀ (k : Nat) (s : ByteArray), s = ⟨(nmS op).toArray⟩ → 1 ≤ k → (k : Int) < op → op ≤ 51 → ((⟨(nmS (k : Int)).toArray⟩ : ByteArray).toList == s.toList) = false) := by
        intro k s hs h1 h2 h3
        rw [hs, ByteArray.toList_mk, ByteArray.toList_mk]
        exact nm_two h1 h2 h3
      obtain ⟨s1, hs1⟩ : ∃ s : ByteArray, s = ⟨(sigS op).toArray⟩ := ⟨_, rfl⟩
      obtain ⟨s2, hs2⟩ : ∃ s : ByteArray, s = ⟨(nmS op).toArray⟩ := ⟨_, rfl⟩
      rw [← hs1] at HSG HRS
      rw [← hs2] at HNM HRN
      have HT2 : Hid (∀ (k : Nat), 1 ≤ k → (k : Int) < op → op ≤ 51 → ((⟨(nmS (k : Int)).toArray⟩ : ByteArray).toList == s2.toList) = false) := fun k => HTW.out k s2 hs2
      generalize endS op = qe at *
      clear HTW hs1 hs2
      go_wp2_with fail
      refine (HSG.out _).mono ?_
      rintro e w2 ⟨rfl, rfl⟩
      go_wp2_with fail
      refine (HRS.out _).mono ?_
      rintro e w3 ⟨rfl, b3⟩
      have HB3 : Hid (Below w.heap.size w w3) := HB.out.trans (b3.mono HB.out.size)
      clear b3 HB
      go_wp2_with fail
      refine (HNM.out _ HB3.out).mono ?_
      rintro e w4 ⟨rfl, rfl⟩
      go_wp2_with fail
      refine (HRN.out _).mono ?_
      rintro e w5 ⟨rfl, b5⟩
      have HB5 : Hid (Below w.heap.size w w5) := HB3.out.trans (b5.mono HB3.out.size)
      clear b5 HB3
      go_wp2_with fail
      refine (HEN.out _).mono ?_
      rintro e w6 ⟨rfl, rfl⟩
      go_wp2_with fail
      refine (HRE.out _).mono ?_
      rintro e w7 ⟨rfl, rfl⟩
      go_wp2_with fail
      go_loopg [2] 60 (fun gk s2 wi => ∃ k : Nat, k + gk = 61 ∧ 1 ≤ k ∧ s2 = .int .i64 (k : Int) ∧ w7 = wi)
      case atStart => exact ⟨1, by omega, by omega, rfl, rfl⟩
      case round =>
        obtain ⟨k, hk, hk1, rfl, rfl⟩ := hrel
        by_cases hko : (k : Int) < op
        · by_cases ho5 : op ≤ 51
          · cases gk with
            | zero => exact absurd hk (by omega)
            | succ gj =>
              have hne := HT2.out k hk1 hko ho5
              have HNK : Hid (Calls Tryd.prog 9 #[.int .i64 (k : Int)] w7 fun e w' => e = .returned (.string ⟨(nmS (k : Int)).toArray⟩) ∧ w' = w7) := name_any (k : Int) _ (HN.out.under HB5.out)
              generalize (⟨(nmS (k : Int)).toArray⟩ : ByteArray) = s3 at *
              go_wp2_with fail
              refine HNK.out.mono ?_
              rintro e w8 ⟨rfl, rfl⟩
              go_wp2_with fail
              refine (HNM.out _ HB5.out).mono ?_
              rintro e w9 ⟨rfl, rfl⟩
              go_wp2_with fail
              go_roundg gj
              case measure => omega
              case rel => exact ⟨k + 1, by omega, by omega, by go_num, rfl⟩
          · go_wp2_with fail
            go_roundg g
            case measure => omega
            case rel => exact ⟨op + 1, HK.out, by omega, rfl, HB5.out⟩
        · go_wp2_with fail
          go_roundg g
          case measure => omega
          case rel => exact ⟨op + 1, HK.out, by omega, rfl, HB5.out⟩
end Go.Proofs.YtbekdcalhkgdjaaDoor
