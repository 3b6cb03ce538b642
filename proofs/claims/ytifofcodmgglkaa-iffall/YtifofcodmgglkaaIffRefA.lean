/-
  relictref05: number, name, Find.
-/
import Derived.Test.YtifofcodmgglkaaIffL
namespace Go.Proofs.Ytifofcodmgglkaa
open Go.RowKit Go.Maps
set_option linter.unusedVariables false
set_option linter.unusedSimpArgs false

set_option maxHeartbeats 1000000 in
theorem rnumber_any (v : Value) (l : List UInt8) (w : World) (h : By w v l) (h4 : 4 ≤ l.length) : Calls Try.prog 21 #[v] w fun e w' => e = .returned (.int .i64 (cntL l : Int)) ∧ Below w.heap.size w w' := by
  obtain ⟨a, cap, rfl, hc, hm, hn⟩ := h.shape
  obtain ⟨b, off, rfl, hlt, hcell⟩ := h.at 0 (by omega)
  have c0 := hcell 0 (by omega)
  have c1 := hcell 1 (by omega)
  have c2 := hcell 2 (by omega)
  have c3 := hcell 3 (by omega)
  rw [Nat.add_zero] at c0
  clear hcell
  have b0 := ubd l 0
  have b1 := ubd l 1
  have b2 := ubd l 2
  have b3 := ubd l 3
  have hC : ((cntL l : Int) = ((l.getD 0 0).toNat : Int) * 16777216 + ((l.getD 1 0).toNat : Int) * 65536 + ((l.getD 2 0).toNat : Int) * 256 + ((l.getD 3 0).toNat : Int)) := by
    unfold cntL
    omega
  generalize ((l.getD 0 0).toNat : Int) = x0 at *
  generalize ((l.getD 1 0).toNat : Int) = x1 at *
  generalize ((l.getD 2 0).toNat : Int) = x2 at *
  generalize ((l.getD 3 0).toNat : Int) = x3 at *
  have HC : Hid _ := hC
  clear hC
  have h4i : (4 : Int) ≤ (l.length : Int) := by omega
  have h40 : (0 : Int) < (l.length : Int) := by omega
  have h41 : (1 : Int) < (l.length : Int) := by omega
  have h42 : (2 : Int) < (l.length : Int) := by omega
  have h43 : (3 : Int) < (l.length : Int) := by omega
  clear h
  go_enter Try.func21, Try.ntmps21
  go_wp2_with fail
  go_quiet (fail)
  go_wp2_with fail
  go_ret
  exact ⟨ret_int HC.out.symm, below_drewN (Below.refl _ _) _⟩

set_option maxHeartbeats 1000000 in
theorem rname_any (s : ByteArray) (w : World) (hs : (s.size : Int) ≤ 140737488355328) : Calls Try.prog 27 #[.string s] w fun e w' => e = .returned (.bool (okN s.data.toList)) ∧ w' = w := by
  obtain ⟨z, hz⟩ : ∃ z, okN s.data.toList = z := ⟨_, rfl⟩
  have hsz : s.data.toList.length = s.size := by simp
  have HZ : Hid ((decide (s.size = 4) && s.data.toList.all okc) = z) := by
    unfold Hid
    rw [← hz]; unfold okN; rw [hsz]
  rw [hz]; clear hz
  go_enter Try.func27, Try.ntmps27
  go_wp2_with fail
  go_loopg [3] s.size (fun gk s3 wr => ∃ k : Nat, k + gk = s.size ∧ s3 = .int .i64 (k : Int) ∧ wr = w ∧ Hid ((decide (s.size = 4) && (s.data.toList.drop k).all okc) = z))
  case atStart => exact ⟨0, by omega, rfl, rfl, HZ⟩
  case round =>
    obtain ⟨k, hk, rfl, rfl, HD⟩ := hrel
    clear HZ
    cases gk with
    | zero =>
      obtain rfl : k = s.size := by omega
      have HE : Hid (decide (s.size = 4) = z) := by
        unfold Hid
        have := HD.out
        rw [List.drop_eq_nil_of_le (by omega)] at this
        simpa using this
      clear HD
      go_wp2_with fail
      go_ret
      refine ⟨ret_bool ?_, rfl⟩
      rw [← HE.out, Bool.eq_iff_iff]
      simp
      omega
    | succ g =>
      have hkl : (k : Int) < (s.size : Int) := by omega
      have hks : k < s.size := by omega
      have hcons : s.data.toList.drop k = s[k] :: s.data.toList.drop (k + 1) := List.drop_eq_getElem_cons (by omega)
      have hb := s[k].toNat_lt
      by_cases e : okc s[k] = true
      · have HE : Hid ((decide (s.size = 4) && (s.data.toList.drop (k + 1)).all okc) = z) := by
          unfold Hid
          have := HD.out
          rw [hcons, List.all_cons, e, Bool.true_and] at this
          exact this
        have e1 := (okc_iff _).1 e
        clear HD hcons e
        have e2 : ¬ ((s[k].toNat : Int) < 32) := by omega
        have e3 : ¬ ((126 : Int) < (s[k].toNat : Int)) := by omega
        go_wp2_with fail
        go_roundg g
        case measure => omega
        case rel => exact ⟨k + 1, by omega, by go_num, rfl, HE⟩
      · have HE : Hid (false = z) := by
          unfold Hid
          have := HD.out
          have e' : okc s[k] = false := by simpa using e
          rw [hcons, List.all_cons, e', Bool.false_and, Bool.and_false] at this
          exact this
        have e1 : ¬ ((32 : Int) ≤ (s[k].toNat : Int) ∧ (s[k].toNat : Int) ≤ 126) := fun h => e ((okc_iff _).2 h)
        clear HD hcons e
        by_cases e2 : (s[k].toNat : Int) < 32
        · clear e1
          go_wp2_with fail
          go_ret
          exact ⟨ret_bool HE.out, rfl⟩
        · have e3 : (126 : Int) < (s[k].toNat : Int) := by omega
          clear e1
          go_wp2_with fail
          go_ret
          exact ⟨ret_bool HE.out, rfl⟩

set_option maxHeartbeats 2000000 in
theorem rfind_any (v : Value) (l : List Ck) (s : ByteArray) (w : World) (h : Ch w v l) : Calls Try.prog 16 #[v, .string s] w fun e w' => e = .returned (.tuple #[.string (finS l s).1, .bool (finS l s).2]) ∧ w' = w := by
  obtain ⟨a, cap, rfl, hc, hm, hn⟩ := h.shape
  obtain ⟨z, hz⟩ : ∃ z, finS l s = z := ⟨_, rfl⟩
  have HZ : Hid (finS l s = z) := hz
  rw [hz]; clear hz
  go_enter Try.func16, Try.ntmps16
  go_wp2_with fail
  go_loopg [6] l.length (fun gk s6 wr => ∃ k : Nat, k + gk = l.length ∧ s6 = .int .i64 (k : Int) ∧ wr = w ∧ Hid (finS (l.drop k) s = z))
  case atStart => exact ⟨0, by omega, rfl, rfl, HZ⟩
  case round =>
    obtain ⟨k, hk, rfl, rfl, HD⟩ := hrel
    clear HZ
    cases gk with
    | zero =>
      obtain rfl : k = l.length := by omega
      have HE : Hid ((⟨#[]⟩, false) = z) := by unfold Hid; have := HD.out; rw [List.drop_length] at this; exact this
      clear HD
      go_wp2_with fail
      go_ret2
      have e := HE.out
      subst e
      exact ⟨rfl, rfl⟩
    | succ g =>
      have hkl : k < l.length := by omega
      obtain ⟨b, off, rfl, hlt, hc1, hc2, hs1, hs2⟩ := h.at k hkl
      have hst := fin_step (s := s) hkl
      rw [HD.out] at hst
      obtain ⟨c, hcd⟩ : ∃ c, c = l[k] := ⟨_, rfl⟩
      rw [← hcd] at hc1 hc2 hs1 hs2 hst
      clear hcd HD
      have hki : (k : Int) < (l.length : Int) := by omega
      by_cases e : c.1.data.toList = s.data.toList
      · rw [if_pos e] at hst
        have HE : Hid (z = (c.2, true)) := hst
        have hb : (c.1.toList == s.toList) = true := by rw [tl_eq, tl_eq, e]; simp
        clear e hst
        go_wp2_with fail
        go_ret2
        have e := HE.out
        subst e
        exact ⟨rfl, rfl⟩
      · rw [if_neg e] at hst
        have HE : Hid (finS (l.drop (k + 1)) s = z) := hst.symm
        have hb : (c.1.toList == s.toList) = false := by rw [tl_eq, tl_eq]; simpa using e
        clear e hst
        go_wp2_with fail
        go_roundg g
        case measure => omega
        case rel => exact ⟨k + 1, by omega, by go_num, rfl, HE⟩

theorem fin_has : ∀ (l : List Ck) (s : ByteArray), (finS l s).2 = hasN l s
  | [], _ => rfl
  | c :: r, s => by
    unfold finS hasN
    by_cases e : c.1.data.toList = s.data.toList
    · rw [if_pos e, List.any_cons, show (c.1.data.toList == s.data.toList) = true from beq_iff_eq.2 e]; rfl
    · rw [if_neg e, fin_has r s]
      unfold hasN
      rw [List.any_cons, show (c.1.data.toList == s.data.toList) = false from beq_eq_false_iff_ne.2 e, Bool.false_or]

def FourPost (w : World) (n : Nat) (e : Ending) (w' : World) : Prop := ∃ v, e = .returned v ∧ OB w' w.heap.size v (four n) ∧ w.grownBy w' none ∧ v = .slice (some ⟨w.heap.size, 0, none⟩) 4 4
set_option maxHeartbeats 1000000 in
theorem rfour_any (n : Nat) (w : World) (hn : (n : Int) ≤ 4294967295) : Calls Try.prog 28 #[.int .i64 (n : Int)] w fun e w' => FourPost w n e w' := by
  have HV : Hid _ := four_vals n hn
  go_enter Try.func28, Try.ntmps28
  go_wp2_with fail
  go_ret
  refine ⟨_, rfl, ⟨by simp [bv_len], .inr ⟨w.heap.size, 4, _, rfl, Nat.le_refl _, heap_alloc_new w _, by simp [four_len], by decide, rfl, ?_⟩⟩, World.grownBy_alloc w _ none, rfl⟩
  rw [HV.out]
  rfl
end Go.Proofs.Ytifofcodmgglkaa
