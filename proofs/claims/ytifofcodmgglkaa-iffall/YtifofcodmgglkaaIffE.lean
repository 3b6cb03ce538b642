/-
  iff: Find.
-/
import Derived.Test.YtifofcodmgglkaaIffD
import Derived.Lib.Strings
namespace Go.Proofs.Ytifofcodmgglkaa
open Go.RowKit Go.Maps
set_option linter.unusedVariables false
set_option linter.unusedSimpArgs false

theorem fin_step {l : List Ck} {s : ByteArray} {k : Nat} (hk : k < l.length) : finS (l.drop k) s = if l[k].1.data.toList = s.data.toList then (l[k].2, true) else finS (l.drop (k + 1)) s := by
  rw [List.drop_eq_getElem_cons hk]
  rfl
theorem tl_eq (s : ByteArray) : s.toList = s.data.toList := Lib.toList_data s

set_option maxHeartbeats 2000000 in
theorem find_any (v : Value) (l : List Ck) (s : ByteArray) (w : World) (h : Ch w v l) : Calls Try.prog 15 #[v, .string s] w fun e w' => e = .returned (.tuple #[.string (finS l s).1, .bool (finS l s).2]) ∧ Below w.heap.size w w' := by
  obtain ⟨a, cap, rfl, hc, hm, hn⟩ := h.shape
  obtain ⟨z, hz⟩ : ∃ z, finS l s = z := ⟨_, rfl⟩
  have HZ : Hid (finS l s = z) := hz
  rw [hz]; clear hz
  go_enter Try.func15, Try.ntmps15
  go_wp2_with fail
  go_loopg [10] l.length (fun gk s10 wr => ∃ k : Nat, k + gk = l.length ∧ s10 = .int .i64 (k : Int) ∧ Hid (Below w.heap.size w wr) ∧ Hid (finS (l.drop k) s = z))
  case atStart => exact ⟨0, by omega, rfl, Below.refl _ _, HZ⟩
  case round =>
    obtain ⟨k, hk, rfl, HB, HD⟩ := hrel
    clear HZ
    cases gk with
    | zero =>
      obtain rfl : k = l.length := by omega
      have HE : Hid ((⟨#[]⟩, false) = z) := by unfold Hid; have := HD.out; rw [List.drop_length] at this; exact this
      clear HD
      go_wp2_with fail
      go_ret2
      have e := HE.out
      subst e
      exact ⟨rfl, HB.out⟩
    | succ g =>
      have hkl : k < l.length := by omega
      obtain ⟨b, off, rfl, hlt, hc1, hc2, hs1, hs2⟩ := (h.under HB.out).at k hkl
      have hst := fin_step (s := s) hkl
      rw [HD.out] at hst
      obtain ⟨c, hcd⟩ : ∃ c, c = l[k] := ⟨_, rfl⟩
      rw [← hcd] at hc1 hc2 hs1 hs2 hst
      clear hcd HD
      have hki : (k : Int) < (l.length : Int) := by omega
      have HB1 : Hid (Below w.heap.size w (wr.alloc (.cells #[.string c.1, .string c.2] 39))) := HB.out.alloc HB.out.size _
      clear HB
      by_cases e : c.1.data.toList = s.data.toList
      · rw [if_pos e] at hst
        have HE : Hid (z = (c.2, true)) := hst
        have hb : (c.1.toList == s.toList) = true := by rw [tl_eq, tl_eq, e]; simp
        clear e hst
        go_wp2_with fail
        go_ret2
        have e := HE.out
        subst e
        exact ⟨rfl, HB1.out⟩
      · rw [if_neg e] at hst
        have HE : Hid (finS (l.drop (k + 1)) s = z) := hst.symm
        have hb : (c.1.toList == s.toList) = false := by rw [tl_eq, tl_eq]; simpa using e
        clear e hst
        go_wp2_with fail
        go_roundg g
        case measure => omega
        case rel => exact ⟨k + 1, by omega, by go_num, HB1, HE⟩
end Go.Proofs.Ytifofcodmgglkaa
