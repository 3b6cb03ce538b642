/-
  math/bits.Len32: how many bits a number of 32 bits has, as the library's own count says.
-/
import Derived.Test.YtnfnnngdbeplaaaDoorProg
import Derived.WalkKit
import Derived.Lib.BitFns
namespace Go.Proofs.YtnfnnngdbeplaaaDoor
open Go.RowKit

theorem tab_at (i : Nat) (h : i < Lib.len8tab.size) : ((Lib.len8tab[i].toNat : Nat) : Int) = (Lib.bitLen i : Int) ∧ Lib.bitLen i ≤ 8 := by
  have hs := h
  rw [Lib.len8tab_size] at hs
  have e := Lib.len8_eq ⟨i, hs⟩
  have l := Lib.bitLen_le8 ⟨i, hs⟩
  refine ⟨?_, l⟩
  rw [← e]
  simp [Lib.len8, h]

theorem w64 {n : Int} (h0 : -9223372036854775808 ≤ n) (h1 : n ≤ 9223372036854775807) : wrap64 n = n := by
  unfold wrap64; omega

theorem tab_sum (c : Nat) (x : Nat) (i : Int) (hc : c ≤ 24) (h : i.toNat < Lib.len8tab.size) (e : Lib.bitLen x = c + Lib.bitLen i.toNat) : wrap64 (c + wrap64 ((Lib.len8tab[i.toNat].toNat : Nat) : Int)) = (Lib.bitLen x : Int) := by
  obtain ⟨h1, h2⟩ := tab_at i.toNat h
  rw [h1, w64 (n := (Lib.bitLen i.toNat : Int)) (by omega) (by omega), w64 (by omega) (by omega), e]
  omega

theorem no_way {i : Int} {p : Prop} (h0 : 0 ≤ i) (h1 : i ≤ 255) (h : ¬ (0 ≤ i ∧ i < (Lib.len8tab.size : Int))) : p := by
  rw [Lib.len8tab_size] at h
  exact absurd (⟨h0, by omega⟩ : 0 ≤ i ∧ i < ((256 : Nat) : Int)) h

set_option maxHeartbeats 4000000 in
set_option maxRecDepth 100000 in
theorem len32_any (x : Int) (w : World) (h0 : 0 ≤ x) (h1 : x ≤ 4294967295) :
    Calls Tryd.prog 104 #[.int .u32 x] w fun e w' => e = .returned (.int .i64 (Lib.bitLen x.toNat)) ∧ w' = w := by
  go_enter Tryd.func104, Tryd.ntmps104
  go_wp2
  · have a1 : 65536 ≤ x := by assumption
    have a2 : 256 ≤ x / 65536 := by assumption
    have a3 : 0 ≤ x / 65536 / 256 ∧ x / 65536 / 256 < (Lib.len8tab.size : Int) := by assumption
    go_ret
    refine ⟨congrArg Ending.returned (congrArg (Value.int IntKind.i64) (tab_sum 24 x.toNat (x / 65536 / 256) (by omega) (by omega) ?_)), rfl⟩
    rw [Lib.bitLen_shift24 x.toNat (by omega) (by omega), show (x / 65536 / 256).toNat = x.toNat / 16777216 by omega]
  · have a1 : 65536 ≤ x := by assumption
    have a3 : ¬ (0 ≤ x / 65536 / 256 ∧ x / 65536 / 256 < (Lib.len8tab.size : Int)) := by assumption
    exact no_way (by omega) (by omega) a3
  · have a1 : 65536 ≤ x := by assumption
    have a2 : x / 65536 < 256 := by assumption
    have a3 : 0 ≤ x / 65536 ∧ x / 65536 < (Lib.len8tab.size : Int) := by assumption
    go_ret
    refine ⟨congrArg Ending.returned (congrArg (Value.int IntKind.i64) (tab_sum 16 x.toNat (x / 65536) (by omega) (by omega) ?_)), rfl⟩
    rw [Lib.bitLen_shift16 x.toNat (by omega) (by omega), show (x / 65536).toNat = x.toNat / 65536 by omega]
  · have a2 : x / 65536 < 256 := by assumption
    have a3 : ¬ (0 ≤ x / 65536 ∧ x / 65536 < (Lib.len8tab.size : Int)) := by assumption
    exact no_way (by omega) (by omega) a3
  · have a1 : x < 65536 := by assumption
    have a2 : 256 ≤ x := by assumption
    have a3 : 0 ≤ x / 256 ∧ x / 256 < (Lib.len8tab.size : Int) := by assumption
    go_ret
    refine ⟨congrArg Ending.returned (congrArg (Value.int IntKind.i64) (tab_sum 8 x.toNat (x / 256) (by omega) (by omega) ?_)), rfl⟩
    rw [Lib.bitLen_shift8 x.toNat (by omega) (by omega), show (x / 256).toNat = x.toNat / 256 by omega]
  · have a1 : x < 65536 := by assumption
    have a3 : ¬ (0 ≤ x / 256 ∧ x / 256 < (Lib.len8tab.size : Int)) := by assumption
    exact no_way (by omega) (by omega) a3
  · have a1 : x < 256 := by assumption
    have a3 : x < (Lib.len8tab.size : Int) := by assumption
    go_ret
    refine ⟨congrArg Ending.returned (congrArg (Value.int IntKind.i64) ?_), rfl⟩
    have e := tab_sum 0 x.toNat x (by omega) (by omega) (by omega)
    rw [← e]
    congr 1
    show _ = (0 : Int) + _
    omega
  all_goals
    have a1 : x < 256 := by assumption
    have a3 : ¬ x < (Lib.len8tab.size : Int) := by assumption
    exact no_way h0 (by omega) (fun h => a3 h.2)
end Go.Proofs.YtnfnnngdbeplaaaDoor
