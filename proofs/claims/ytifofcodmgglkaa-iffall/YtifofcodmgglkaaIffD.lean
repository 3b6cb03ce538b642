/-
  iff: fileSize, Find.
-/
import Derived.Test.YtifofcodmgglkaaIffC
namespace Go.Proofs.Ytifofcodmgglkaa
open Go.RowKit Go.Maps
set_option linter.unusedVariables false
set_option linter.unusedSimpArgs false

theorem siz_step {l : List Ck} {k : Nat} (hk : k < l.length) : sizS (l.drop k) = ckL l[k] + sizS (l.drop (k + 1)) := by
  rw [List.drop_eq_getElem_cons hk]
  rfl

def SizPost (w : World) (l : List Ck) (e : Ending) (w' : World) : Prop :=
  ∃ r : Int, e = .returned (.int .i64 r) ∧ (12 + sizS l ≤ 65536 → r = ((12 + sizS l : Nat) : Int)) ∧ (65536 < 12 + sizS l → 65536 < r ∧ r ≤ 9223372036854775807) ∧ Below w.heap.size w w'

set_option maxHeartbeats 2000000 in
theorem fileSize_any (v : Value) (l : List Ck) (w : World) (h : Ch w v l) : Calls Try.prog 24 #[v] w fun e w' => SizPost w l e w' := by
  obtain ⟨a, cap, rfl, hc, hm, hn⟩ := h.shape
  obtain ⟨z, hz⟩ : ∃ z, 12 + sizS l = z := ⟨_, rfl⟩
  have HZ : Hid (12 + sizS l = z) := hz
  unfold SizPost
  rw [hz]; clear hz
  go_enter Try.func24, Try.ntmps24
  go_wp2_with fail
  go_loopg [3, 8] l.length (fun gk s3 s8 wr => ∃ (k n : Nat), k + gk = l.length ∧ s3 = .int .i64 (n : Int) ∧ n ≤ 200000 ∧ s8 = .int .i64 (k : Int) ∧ Hid (Below w.heap.size w wr) ∧ Hid (n + sizS (l.drop k) = z))
  case atStart => exact ⟨0, 12, by omega, rfl, by omega, rfl, Below.refl _ _, HZ⟩
  case round =>
    obtain ⟨k, n, hk, rfl, hnn, rfl, HB, HD⟩ := hrel
    clear HZ
    cases gk with
    | zero =>
      obtain rfl : k = l.length := by omega
      have HE : Hid (n = z) := by unfold Hid; have := HD.out; rw [List.drop_length] at this; exact this
      clear HD
      go_wp2_with fail
      go_ret
      exact ⟨(n : Int), rfl, fun _ => by rw [HE.out], fun hz => ⟨by have := HE.out; omega, by omega⟩, HB.out⟩
    | succ g =>
      have hkl : k < l.length := by omega
      obtain ⟨b, off, rfl, hlt, hc1, hc2, hs1, hs2⟩ := (h.under HB.out).at k hkl
      have hst := siz_step hkl
      obtain ⟨c, hcd⟩ : ∃ c, c = l[k] := ⟨_, rfl⟩
      rw [← hcd] at hc1 hc2 hs1 hs2 hst
      clear hcd
      have hki : (k : Int) < (l.length : Int) := by omega
      have HB1 : Hid (Below w.heap.size w (wr.alloc (.cells #[.string c.1, .string c.2] 39))) := HB.out.alloc HB.out.size _
      have hL : ckL c = 8 + c.2.size + mis c.2.size := rfl
      have hmi := mis_lt c.2.size
      have HD2 : Hid (n + ckL c + sizS (l.drop (k + 1)) = z) := by unfold Hid; have := HD.out; omega
      clear HB HD hst
      by_cases t1 : (65536 : Int) < (n : Int)
      · have HE : Hid (65536 < z) := by unfold Hid; have := HD2.out; omega
        clear HD2 hL
        go_wp2_with fail
        go_ret
        exact ⟨65537, rfl, fun hz => absurd hz (by have := HE.out; omega), fun _ => ⟨by omega, by omega⟩, HB1.out⟩
      · by_cases t2 : (65536 : Int) < (c.2.size : Int)
        · have HE : Hid (65536 < z) := by unfold Hid; have := HD2.out; omega
          clear HD2 hL
          go_wp2_with fail
          go_ret
          exact ⟨65537, rfl, fun hz => absurd hz (by have := HE.out; omega), fun _ => ⟨by omega, by omega⟩, HB1.out⟩
        · have HL : Hid _ := hL
          clear hL
          obtain ⟨q, hq⟩ : ∃ q, q = mis c.2.size := ⟨_, rfl⟩
          rw [← hq] at hmi
          have HQ : Hid (q = mis c.2.size) := hq
          have hmc : ∀ W : World, Calls Try.prog 26 #[.int .i64 (c.2.size : Int)] W fun e w' => e = .returned (.int .i64 (q : Int)) ∧ w' = W := fun W => by rw [hq]; exact missing_any _ W (by omega)
          clear hq
          go_wp2_with fail
          go_quiet ((go_at_call 26; exact Calls.quiet_of_same (hmc _)))
          go_wp2_with fail
          go_roundg g
          case measure => omega
          case rel => exact ⟨k + 1, n + ckL c, by omega, congrArg (Value.int .i64) (by have := HL.out; have := HQ.out; omega), by have := HL.out; have := HQ.out; omega, by go_num, below_drewN HB1.out _, HD2⟩
end Go.Proofs.Ytifofcodmgglkaa
