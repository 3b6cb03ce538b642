/-
  iff: missing, count, allZero, isName, putCount, add.
-/
import Derived.Test.YtifofcodmgglkaaIffBase
namespace Go.Proofs.Ytifofcodmgglkaa
open Go.RowKit Go.Maps
set_option linter.unusedVariables false
set_option linter.unusedSimpArgs false

theorem ret_bool {a b : Bool} (h : a = b) : Ending.returned (.bool a) = .returned (.bool b) := by rw [h]
theorem ret_int {k : IntKind} {a b : Int} (h : a = b) : Ending.returned (.int k a) = .returned (.int k b) := by rw [h]
theorem mis_int (n : Nat) : (4 - (n : Int) % 4) % 4 = (mis n : Int) := by unfold mis; omega

set_option maxHeartbeats 1000000 in
theorem missing_any (n : Nat) (w : World) (h : (n : Int) ≤ 9223372036854775800) : Calls Try.prog 26 #[.int .i64 (n : Int)] w fun e w' => e = .returned (.int .i64 (mis n : Int)) ∧ w' = w := by
  have HM : Hid _ := mis_int n
  go_enter Try.func26, Try.ntmps26
  go_wp2_with fail
  go_ret
  exact ⟨congrArg Ending.returned (congrArg (Value.int IntKind.i64) (by have := HM.out; omega)), rfl⟩

set_option maxHeartbeats 1000000 in
theorem allZero_any (v : Value) (l : List UInt8) (w : World) (h : By w v l) : Calls Try.prog 33 #[v] w fun e w' => e = .returned (.bool (zerL l)) ∧ w' = w := by
  obtain ⟨a, cap, rfl, hc, hm, hn⟩ := h.shape
  obtain ⟨z, hz⟩ : ∃ z, zerL l = z := ⟨_, rfl⟩
  have HZ : Hid (zerL l = z) := hz
  rw [hz]; clear hz
  go_enter Try.func33, Try.ntmps33
  go_wp2_with fail
  go_loopg [7] l.length (fun gk s7 wr => ∃ k : Nat, k + gk = l.length ∧ s7 = .int .i64 (k : Int) ∧ wr = w ∧ Hid (zerL (l.drop k) = z))
  case atStart => exact ⟨0, by omega, rfl, rfl, HZ⟩
  case round =>
    obtain ⟨k, hk, rfl, rfl, HD⟩ := hrel
    clear HZ
    cases gk with
    | zero =>
      obtain rfl : k = l.length := by omega
      have HE : Hid (true = z) := by unfold Hid; have := HD.out; simpa [zerL] using this
      clear HD
      go_wp2_with fail
      go_ret
      exact ⟨ret_bool HE.out, rfl⟩
    | succ g =>
      obtain ⟨b, off, rfl, hlt, hcell⟩ := h.at k (by omega)
      have hc1 := hcell k (by omega)
      clear hcell
      have hkl : (k : Int) < (l.length : Int) := by omega
      obtain ⟨x, hx⟩ : ∃ x : Int, x = ((l.getD k 0).toNat : Int) := ⟨_, rfl⟩
      rw [← hx] at hc1
      have hcons : l.drop k = l[k] :: l.drop (k + 1) := List.drop_eq_getElem_cons (by omega)
      have hxk : x = (l[k].toNat : Int) := by rw [hx]; simp [List.getD, show k < l.length by omega]
      by_cases e : x = 0
      · have HE : Hid (zerL (l.drop (k + 1)) = z) := by
          unfold Hid
          have := HD.out
          rw [hcons] at this
          simp only [zerL, List.all_cons] at this
          rw [show decide (l[k].toNat = 0) = true by simp; omega] at this
          simpa [zerL] using this
        clear HD hcons hxk hx
        subst e
        go_wp2_with fail
        go_roundg g
        case measure => omega
        case rel => exact ⟨k + 1, by omega, by go_num, rfl, HE⟩
      · have HE : Hid (false = z) := by
          unfold Hid
          have := HD.out
          rw [hcons] at this
          simp only [zerL, List.all_cons] at this
          rw [show decide (l[k].toNat = 0) = false by simp; omega] at this
          simpa [zerL] using this
        clear HD hcons hxk hx
        go_wp2_with fail
        go_ret
        exact ⟨ret_bool HE.out, rfl⟩

theorem okc_iff (c : UInt8) : okc c = true ↔ (32 : Int) ≤ (c.toNat : Int) ∧ (c.toNat : Int) ≤ 126 := by
  unfold okc
  simp only [Bool.and_eq_true, decide_eq_true_eq]
  omega

set_option maxHeartbeats 1000000 in
theorem isName_any (s : ByteArray) (w : World) (hs : (s.size : Int) ≤ 140737488355328) : Calls Try.prog 32 #[.string s] w fun e w' => e = .returned (.bool (okN s.data.toList)) ∧ w' = w := by
  obtain ⟨z, hz⟩ : ∃ z, okN s.data.toList = z := ⟨_, rfl⟩
  have hsz : s.data.toList.length = s.size := by simp
  by_cases h4 : s.size = 4
  · have HZ : Hid (s.data.toList.all okc = z) := by
      show s.data.toList.all okc = z
      rw [← hz]; unfold okN; rw [hsz, decide_eq_true h4, Bool.true_and]
    rw [hz]; clear hz hs
    have h4i : (s.size : Int) = 4 := by omega
    go_enter Try.func32, Try.ntmps32
    go_wp2_with fail
    go_loopg [9] 4 (fun gk s9 wr => ∃ k : Nat, k + gk = 4 ∧ s9 = .int .i64 (k : Int) ∧ wr = w ∧ Hid ((s.data.toList.drop k).all okc = z))
    case atStart => exact ⟨0, by omega, rfl, rfl, HZ⟩
    case round =>
      obtain ⟨k, hk, rfl, rfl, HD⟩ := hrel
      clear HZ
      cases gk with
      | zero =>
        obtain rfl : k = 4 := by omega
        have HE : Hid (true = z) := by unfold Hid; have := HD.out; rw [List.drop_eq_nil_of_le (by omega)] at this; simpa using this
        clear HD
        go_wp2_with fail
        go_ret
        exact ⟨ret_bool HE.out, rfl⟩
      | succ g =>
        have hkl : (k : Int) < (s.size : Int) := by omega
        have hks : k < s.size := by omega
        have hcons : s.data.toList.drop k = s[k] :: s.data.toList.drop (k + 1) := List.drop_eq_getElem_cons (by omega)
        have hb := s[k].toNat_lt
        by_cases e : okc s[k] = true
        · have HE : Hid ((s.data.toList.drop (k + 1)).all okc = z) := by
            unfold Hid
            have := HD.out
            rw [hcons, List.all_cons, e] at this
            simpa using this
          have e1 := (okc_iff _).1 e
          clear HD hcons e
          have e2 : ¬ ((s[k].toNat : Int) < 32) := by omega
          have e3 : ¬ ((126 : Int) < (s[k].toNat : Int)) := by omega
          go_wp2_with fail
          go_roundg g
          case measure => omega
          case rel => exact ⟨k + 1, by omega, by go_num, rfl, HE⟩
        · have HE : Hid (false = z) := by
            unfold Hid
            have := HD.out
            have e' : okc s[k] = false := by simpa using e
            rw [hcons, List.all_cons, e'] at this
            simpa using this
          have e1 : ¬ ((32 : Int) ≤ (s[k].toNat : Int) ∧ (s[k].toNat : Int) ≤ 126) := fun h => e ((okc_iff _).2 h)
          clear HD hcons e
          by_cases e2 : (s[k].toNat : Int) < 32
          · clear e1
            go_wp2_with fail
            go_ret
            exact ⟨ret_bool HE.out, rfl⟩
          · have e3 : (126 : Int) < (s[k].toNat : Int) := by omega
            clear e1
            go_wp2_with fail
            go_ret
            exact ⟨ret_bool HE.out, rfl⟩
  · have HZ : Hid (false = z) := by
      show false = z
      rw [← hz]; unfold okN; rw [hsz, decide_eq_false h4]; rfl
    have h4i : ¬ (s.size : Int) = 4 := by omega
    rw [hz]; clear hz hs
    go_enter Try.func32, Try.ntmps32
    go_wp2_with fail
    go_ret
    exact ⟨ret_bool HZ.out, rfl⟩

theorem ubd (l : List UInt8) (i : Nat) : 0 ≤ ((l.getD i 0).toNat : Int) ∧ ((l.getD i 0).toNat : Int) ≤ 255 := by
  have := (l.getD i 0).toNat_lt
  omega

theorem i64_or_nat (a b : Nat) (ha : a < 4611686018427387904) (hb : b < 4611686018427387904) : bits .or .i64 (a : Int) (b : Int) = ((a ||| b : Nat) : Int) := by
  have hx : a ||| b < 2 ^ 62 := Nat.or_lt_two_pow (by omega) (by omega)
  show IntKind.i64.wrap ((BitVec.ofInt 64 (a : Int) ||| BitVec.ofInt 64 (b : Int)).toNat : Int) = _
  rw [BitVec.toNat_or, ofInt_u64 a (by omega), ofInt_u64 b (by omega), IntKind.wrap_i64]
  omega
theorem or_join (i : Nat) (x y : Int) (hx0 : 0 ≤ x) (hx1 : x < 4611686018427387904) (hx : x % ((2 ^ i : Nat) : Int) = 0) (hy0 : 0 ≤ y) (hy1 : y < 4611686018427387904) (hy : y < ((2 ^ i : Nat) : Int)) : bits .or .i64 x y = x + y := by
  obtain ⟨X, rfl⟩ := Int.eq_ofNat_of_zero_le hx0
  obtain ⟨Y, rfl⟩ := Int.eq_ofNat_of_zero_le hy0
  rw [i64_or_nat _ _ (by omega) (by omega), nat_join i X Y (by exact_mod_cast hx) (by exact_mod_cast hy)]
  simp

set_option maxHeartbeats 1000000 in
/-- Four bytes as a number. -/
theorem count_any (v : Value) (l : List UInt8) (w : World) (h : By w v l) (h4 : 4 ≤ l.length) : Calls Try.prog 29 #[v] w fun e w' => e = .returned (.int .i64 (cntL l : Int)) ∧ Below w.heap.size w w' := by
  obtain ⟨a, cap, rfl, hc, hm, hn⟩ := h.shape
  obtain ⟨b, off, rfl, hlt, hcell⟩ := h.at 0 (by omega)
  have c0 := hcell 0 (by omega)
  have c1 := hcell 1 (by omega)
  have c2 := hcell 2 (by omega)
  have c3 := hcell 3 (by omega)
  rw [Nat.add_zero] at c0
  clear hcell
  have b0 := ubd l 0
  have b1 := ubd l 1
  have b2 := ubd l 2
  have b3 := ubd l 3
  have hC : ((cntL l : Int) = ((l.getD 0 0).toNat : Int) * 16777216 + ((l.getD 1 0).toNat : Int) * 65536 + ((l.getD 2 0).toNat : Int) * 256 + ((l.getD 3 0).toNat : Int)) := by
    unfold cntL
    omega
  generalize ((l.getD 0 0).toNat : Int) = x0 at *
  generalize ((l.getD 1 0).toNat : Int) = x1 at *
  generalize ((l.getD 2 0).toNat : Int) = x2 at *
  generalize ((l.getD 3 0).toNat : Int) = x3 at *
  obtain ⟨y1, hy1⟩ : ∃ y, y = x0 * 16777216 + x1 * 65536 := ⟨_, rfl⟩
  obtain ⟨y2, hy2⟩ : ∃ y, y = y1 + x2 * 256 := ⟨_, rfl⟩
  obtain ⟨y3, hy3⟩ : ∃ y, y = y2 + x3 := ⟨_, rfl⟩
  have o1 : bits BinOp.or IntKind.i64 (x0 * 16777216) (x1 * 65536) = y1 := by rw [hy1]; exact or_join 24 _ _ (by omega) (by omega) (by omega) (by omega) (by omega) (by omega)
  have o2 : bits BinOp.or IntKind.i64 y1 (x2 * 256) = y2 := by rw [hy2]; exact or_join 16 _ _ (by omega) (by omega) (by omega) (by omega) (by omega) (by omega)
  have o3 : bits BinOp.or IntKind.i64 y2 x3 = y3 := by rw [hy3]; exact or_join 8 _ _ (by omega) (by omega) (by omega) (by omega) (by omega) (by omega)
  have HC : Hid (y3 = (cntL l : Int)) := by unfold Hid; omega
  clear hC hy1 hy2 hy3
  have h4i : (4 : Int) ≤ (l.length : Int) := by omega
  have h40 : (0 : Int) < (l.length : Int) := by omega
  have h41 : (1 : Int) < (l.length : Int) := by omega
  have h42 : (2 : Int) < (l.length : Int) := by omega
  have h43 : (3 : Int) < (l.length : Int) := by omega
  clear h
  go_enter Try.func29, Try.ntmps29
  go_wp2_with fail
  go_quiet (fail)
  go_wp2_with fail
  go_ret
  exact ⟨ret_int HC.out, below_drewN (Below.refl _ _) _⟩
end Go.Proofs.Ytifofcodmgglkaa
