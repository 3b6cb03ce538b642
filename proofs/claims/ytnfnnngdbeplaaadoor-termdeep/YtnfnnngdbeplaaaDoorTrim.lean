/-
  limb.trim: the list's own memory without the 0s at its top: for every slice of uint32, nothing is written.
-/
import Derived.Test.YtnfnnngdbeplaaaDoorBase
namespace Go.Proofs.YtnfnnngdbeplaaaDoor
open Go.RowKit

def TrimPost (w : World) (v : Value) (zs : List Int) (e : Ending) (w' : World) : Prop :=
  w = w' ∧ ∃ v' n, e = .returned v' ∧ n ≤ zs.length ∧ Sl w v' (zs.take n) ∧ Nm (zs.take n) ∧ V (zs.take n) = V zs ∧
    (n = 0 → v' = .slice none 0 0) ∧ (v'.ownBlock = none ∨ (v'.ownBlock = v.ownBlock ∧ 0 < zs.length)) ∧ (∀ k, v'.ownBlock = some k → k < w.heap.size)

set_option maxHeartbeats 400000 in
theorem trim_any (v : Value) (zs : List Int) (w : World) (h : Sl w v zs) :
    Calls Tryd.prog 84 #[v] w fun e w' => TrimPost w v zs e w' := by
  obtain ⟨hok, a, n, cap, rfl, hl, hc, hm, hn, hp⟩ := h
  go_enter Tryd.func84, Tryd.ntmps84
  go_wp2
  go_loop [3] (fun i => ∃ k : Nat, k ≤ n ∧ i = .int .i64 k ∧ ∀ j, k ≤ j → j < n → zs.getD j 0 = 0) (fun i => (intOf i).toNat)
  case atStart => exact ⟨n, Nat.le_refl _, rfl, fun j h1 h2 => by omega⟩
  case round =>
    obtain ⟨k, hk, rfl, hz⟩ := hrel
    cases k with
    | zero =>
      go_wp2
      go_ret
      exact ⟨rfl, _, 0, rfl, by omega, by simpa using Sl.nil w, by simpa using Nm_nil, V_trim zs 0 (by omega) (fun i _ h2 => hz i (by omega) (by omega)), fun _ => rfl, .inl rfl, fun k hk => by simp [Value.ownBlock] at hk⟩
    | succ m =>
      obtain ⟨b, off, rfl, hb, hcell⟩ := hp (by omega)
      have hcm := hcell m (by omega)
      go_wp2
      · have h0 : (zs[m]?.getD 0 == 0) = true := by assumption
        go_round
        case rel =>
          refine ⟨m, by omega, by go_num, fun j h1 h2 => ?_⟩
          by_cases e : j = m
          · subst e; simpa using h0
          · exact hz j (by omega) h2
        case measure => simp [intOf]
      · have h0 : (zs[m]?.getD 0 == 0) = false := by assumption
        go_ret
        refine ⟨rfl, _, m + 1, rfl, by omega, ?_, ?_, V_trim zs (m + 1) (by omega) (fun i h1 h2 => hz i (by omega) (by omega)), fun h => by omega, .inr ⟨rfl, by omega⟩, fun k hk => by simp [Value.ownBlock] at hk; omega⟩
        · refine ⟨hok.take _, _, m + 1, cap, rfl, by simp; omega, by omega, hm, fun e => (by cases e), fun _ => ⟨b, off, rfl, hb, fun i hi => ?_⟩⟩
          rw [hcell i (by omega)]
          simp [List.getD, hi]
        · refine Nm_take zs (m + 1) (by omega) (fun _ => ?_)
          simpa using h0
end Go.Proofs.YtnfnnngdbeplaaaDoor
