/-
  relictref06.number.
-/
import Derived.Test.YtgjjeghnfhjnnaaDoorCgChk
namespace Go.Proofs.YtgjjeghnfhjnnaaDoor
open Go.RowKit
set_option linter.unusedVariables false
set_option linter.unusedSimpArgs false

theorem OB.lit (w : World) (l : List UInt8) (cs : Array Value) (h : cs = (bv l).toArray) (hl : l.length ≤ 1000000) : OB (w.alloc (.cells cs 5)) w.heap.size (.slice (some ⟨w.heap.size, 0, none⟩) l.length l.length) l := by
  subst h
  refine ⟨by simp [bv_len], .inr ⟨w.heap.size, l.length, _, rfl, Nat.le_refl _, heap_alloc_new w _, Nat.le_refl _, by unfold maxLen; omega, by simp [bv_len], ?_⟩⟩
  simp [bv_len]
  exact List.take_of_length_le (by rw [bv_len]; exact Nat.le_refl _)
def RnRow (w : World) (X : List UInt8) (v : Value) (wr : World) : Prop := OB wr w.heap.size v X ∧ Below w.heap.size w wr
theorem rn_start (w : World) (z : Int) (h0 : 0 ≤ z) (h1 : z < 256) (x : Int) (s : Nat) : RnRow w ([ub8 z] ++ dnB s x 0) (.slice (some ⟨w.heap.size, 0, none⟩) 1 1) (w.alloc (.cells #[.int .u8 z] 5)) := by
  have e : ([ub8 z] ++ dnB s x 0 : List UInt8) = [ub8 z] := by simp [dnB]
  rw [e]
  exact ⟨OB.lit w [ub8 z] _ (by simp [bv, u8i, Int.emod_eq_of_lt h0 h1]) (by simp), (Below.refl _ _).alloc (Nat.le_refl _) _⟩
/-- Bytes in new memory. -/
def RnPost (w : World) (L : List UInt8) (e : Ending) (w' : World) : Prop := ∃ v, e = .returned v ∧ OB w' w.heap.size v L ∧ Below w.heap.size w w'

set_option maxRecDepth 100000 in
set_option maxHeartbeats 4000000 in
theorem rnumber_any (w : World) (t x : Int) (hp : okP t x) : Calls Tryd.prog 55 #[.int .i64 t, .int .i64 x] w fun e w' => RnPost w (numB t x) e w' := by
  have h5 := okP_five hp
  obtain ⟨h50, h55⟩ := h5
  have hn0 : -576460752303423488 ≤ x ∧ x ≤ 576460752303423487 := by rcases hp with h | h <;> omega
  obtain ⟨hn0, hn1⟩ := hn0
  have HP : Hid (okP t x) := hp
  have HB : Hid (∀ o, Below w.heap.size w (w.alloc o)) := fun o => (Below.refl _ _).alloc (Nat.le_refl _) o
  by_cases c1 : 0 ≤ x ∧ x < 16
  · have HN : Hid (numB t x = [ub8 (x * 16 + t)]) := by unfold Hid numB; rw [if_pos c1]
    rw [HN.out]
    obtain ⟨c1, c2⟩ := c1
    obtain ⟨z, hz⟩ : ∃ z, 16 * x + t = z := ⟨_, rfl⟩
    have HZ : Hid (x * 16 + t = z) := by unfold Hid; omega
    rw [HZ.out]
    have hz0 : 0 ≤ z := by omega
    have hz1 : z < 256 := by omega
    have HO : Hid (OB (w.alloc (.cells #[.int .u8 z] 5)) w.heap.size (.slice (some ⟨w.heap.size, 0, none⟩) 1 1) [ub8 z]) := OB.lit w [ub8 z] _ (by simp [bv, u8i, Int.emod_eq_of_lt hz0 hz1]) (by simp)
    clear HP hp
    go_enter Tryd.func55, Tryd.ntmps55
    go_wp2_with fail
    go_ret
    exact ⟨_, rfl, HO.out, HB.out _⟩
  by_cases c2 : t ≠ 1 ∧ x < 2048
  · have HN : Hid (numB t x = [ub8 (x / 256 * 32 + 8 + t), ub8 x]) := by unfold Hid numB; rw [if_neg c1, if_pos c2]
    rw [HN.out]
    obtain ⟨c2, c3⟩ := c2
    have hx1 : 0 ≤ x ∧ ¬ x < 16 := by rcases HP.out with h | h <;> omega
    obtain ⟨hx1, hx2⟩ := hx1
    obtain ⟨z, hz⟩ : ∃ z, x / 256 * 32 + 8 + t = z := ⟨_, rfl⟩
    rw [hz]
    have hz0 : 0 ≤ z := by omega
    have hz1 : z < 256 := by omega
    have HO : Hid (OB (w.alloc (.cells #[.int .u8 z, .int .u8 (x % 256)] 5)) w.heap.size (.slice (some ⟨w.heap.size, 0, none⟩) 2 2) [ub8 z, ub8 x]) := OB.lit w [ub8 z, ub8 x] _ (by simp [bv, u8i, Int.emod_eq_of_lt hz0 hz1]) (by simp)
    clear HP hp c1
    go_enter Tryd.func55, Tryd.ntmps55
    go_wp2_with fail
    go_ret
    exact ⟨_, rfl, HO.out, HB.out _⟩
  obtain ⟨S, hS⟩ : ∃ S, S = szN t x := ⟨_, rfl⟩
  obtain ⟨L, hL⟩ : ∃ L, L = numB t x := ⟨_, rfl⟩
  have HLB : Hid (L = ub8 (((S : Int) - 2) * 32 + 24 + t) :: dnB S x S) := by unfold Hid; rw [hL]; unfold numB; rw [if_neg c1, if_neg c2, hS]
  rw [← hL]
  have hS2 := sz_ge t x
  have h4 := @sz_four t x HP.out
  rw [← hS] at hS2 h4
  have HRM : Hid (roomB t x S = true) := by unfold Hid; rw [hS]; exact sz_room HP.out
  have HL : Hid (∀ s : Nat, 2 ≤ s → s < S → roomB t x s = false) := fun s h1 h2 => sz_least s h1 (by omega)
  have hcc : (x < 0 ∧ t = 1) ∨ (0 ≤ x ∧ ¬ x < 16 ∧ t = 1) ∨ (0 ≤ x ∧ ¬ x < 16 ∧ ¬ x < 2048 ∧ ¬ t = 1) := by rcases HP.out with h | h <;> omega
  clear hL hS c1 c2 HP hp
  rcases hcc with ⟨ca, rfl⟩ | ⟨ca, cb, rfl⟩ | ⟨ca, cb, cc, hne⟩
  · clear h4
    go_enter Tryd.func55, Tryd.ntmps55
    go_wp2_with fail
    go_loopg [5] (S - 2) (fun gk s5 wr => ∃ s : Nat, s + gk = S ∧ 2 ≤ s ∧ s5 = .int .i64 (s : Int) ∧ w = wr)
    case atStart => exact ⟨2, by omega, by omega, rfl, rfl⟩
    case round =>
      obtain ⟨s, hs, hs2, rfl, rfl⟩ := hrel
      cases gk with
      | succ g =>
        have hno := HL.out s hs2 (by omega)
        have hs7 : s = 2 ∨ s = 3 ∨ s = 4 ∨ s = 5 ∨ s = 6 ∨ s = 7 := by omega
        rw [room_i] at hno
        simp only [Bool.or_eq_false_iff, beq_eq_false_iff_ne] at hno
        have hab : x < -2 ^ (s * 8 - 1) ∨ (¬ x < -2 ^ (s * 8 - 1) ∧ 2 ^ (s * 8 - 1) ≤ x) := by
          rcases hs7 with rfl | rfl | rfl | rfl | rfl | rfl <;> simp only [Nat.reduceMul, Nat.reduceSub, Int.reducePow] at hno ⊢ <;> omega
        clear hno
        rcases hs7 with rfl | rfl | rfl | rfl | rfl | rfl
        all_goals
          simp only [Nat.reduceMul, Nat.reduceSub, Int.reducePow] at hab
          rcases hab with hab | ⟨hab, hab2⟩
        all_goals
          go_wp2_with fail
          go_roundg g
          case measure => omega
          case rel => exact ⟨S - g, by omega, by omega, congrArg (Value.int .i64) (by omega), rfl⟩
      | zero =>
        obtain rfl : s = S := by omega
        have hyes := HRM.out
        have hs7 : s = 2 ∨ s = 3 ∨ s = 4 ∨ s = 5 ∨ s = 6 ∨ s = 7 ∨ s = 8 := by omega
        rw [room_i] at hyes
        simp only [Bool.or_eq_true, beq_iff_eq] at hyes
        have hab : ¬ x < -2 ^ (s * 8 - 1) ∧ ¬ 2 ^ (s * 8 - 1) ≤ x := by
          rcases hs7 with rfl | rfl | rfl | rfl | rfl | rfl | rfl <;> simp only [Nat.reduceMul, Nat.reduceSub, Int.reducePow] at hyes ⊢ <;> omega
        clear hyes HL HRM
        rcases hs7 with rfl | rfl | rfl | rfl | rfl | rfl | rfl
        · simp only [Nat.reduceMul, Nat.reduceSub, Int.reducePow] at hab
          obtain ⟨z, hz⟩ : ∃ z : Int, z = 24 + 1 := ⟨_, rfl⟩
          have hzw : (32 : Int) * 0 + 24 + 1 = z := by omega
          have hz0 : 0 ≤ z := by omega
          have hz256 : z < 256 := by omega
          have HNB : Hid (L = ub8 z :: dnB 2 x 2) := by unfold Hid; rw [HLB.out, hz]; rfl
          have hzv : z = 25 := by omega
          clear HLB hz hzw
          subst hzv
          go_wp2_with fail
          have R2 : Hid (RnRow w ([ub8 25] ++ dnB 2 x 0) (.slice (some ⟨w.heap.size, 0, none⟩) 1 1) (w.alloc (.cells #[.int .u8 25] 5))) := rn_start w 25 hz0 hz256 x 2
          have HD : Hid (ub8 25 :: dnB 2 x 2 = [ub8 25] ++ dnB 2 x 2) := rfl
          go_loopg [6, 7] 2 (fun gk s6 s7 wr => ∃ k : Nat, k + gk = 2 ∧ s7 = .int .i64 (2 - 1 - (k : Int)) ∧ Hid (RnRow w ([ub8 25] ++ dnB 2 x k) s6 wr))
          case atStart => exact ⟨0, by omega, rfl, R2⟩
          case round =>
            clear R2
            obtain ⟨k, hk, rfl, hrow⟩ := hrel
            obtain ⟨ro, rb⟩ := hrow.out
            cases gk with
            | zero =>
              obtain rfl : k = 2 := by omega
              go_wp2_with fail
              go_ret
              exact ⟨_, rfl, by rw [HNB.out]; simpa using ro, rb⟩
            | succ g =>
              obtain ⟨j, hj⟩ : ∃ j : Nat, j = 2 - 1 - k := ⟨_, rfl⟩
              have hji : (2 : Int) - 1 - (k : Int) = (j : Int) := by omega
              rw [hji]
              have hj7 : j ≤ 7 := by omega
              have HJ : Hid (dnB 2 x (k + 1) = dnB 2 x k ++ [ub8 (x / 2 ^ (8 * j))]) := by unfold Hid; rw [dnB_succ, hj, Nat.mul_comm 8]
              have HJ2 : Hid ((2 : Int) - 1 - ((k + 1 : Nat) : Int) = (j : Int) - 1) := by unfold Hid; omega
              clear hj hji
              have HNW : Hid (∀ j' u, (bv [ub8 (x / 2 ^ (8 * j))])[j']? = some u → (wr.alloc (.cells #[.int .u8 (x / 2 ^ (8 * j) % 256)] 5)).cell? ((⟨wr.heap.size, 0, none⟩ : Addr).add j') = some u) := byte_new wr _ _ (u8i _)
              have HRB : Hid (RB (wr.alloc (.cells #[.int .u8 (x / 2 ^ (8 * j) % 256)] 5)) w.heap.size u6 ([ub8 25] ++ dnB 2 x k)) := .inl (ro.under ((Below.refl _ _).alloc (Nat.le_refl _) _))
              have HSA : Hid (w.heap.size ≤ (wr.alloc (.cells #[.int .u8 (x / 2 ^ (8 * j) % 256)] 5)).heap.size) := by unfold Hid; have := rb.size; simp; omega
              have HLK : Hid (([ub8 25] ++ dnB 2 x k).length ≤ 1000000000) := by unfold Hid; rw [List.length_append, dnB_len]; simp; omega
              clear hrow ro
              go_wp2_with (first
                | (at_builtin; refine wpList_append_rb rfl _ _ rfl w.heap.size _ ([ub8 25] ++ dnB 2 x k) rfl HRB.out HLK.out HSA.out ⟨wr.heap.size, 0, none⟩ 1 1 [ub8 (x / 2 ^ (8 * j))] rfl (by omega) (by omega) rfl HNW.out ?_; intro v3 w3 o3 g3 k3)
                | fail)
              go_roundg g
              case measure => omega
              case rel => exact ⟨k + 1, by omega, by rw [HJ2.out], by unfold Hid; exact ⟨by rw [HJ.out, ← List.append_assoc]; exact o3, g3 _ _ (by simp; have := rb.size; omega) (Nat.le_refl _) (rb.alloc rb.size _)⟩⟩
        · simp only [Nat.reduceMul, Nat.reduceSub, Int.reducePow] at hab
          obtain ⟨z, hz⟩ : ∃ z : Int, z = 56 + 1 := ⟨_, rfl⟩
          have hzw : (32 : Int) * 1 + 24 + 1 = z := by omega
          have hz0 : 0 ≤ z := by omega
          have hz256 : z < 256 := by omega
          have HNB : Hid (L = ub8 z :: dnB 3 x 3) := by unfold Hid; rw [HLB.out, hz]; rfl
          have hzv : z = 57 := by omega
          clear HLB hz hzw
          subst hzv
          go_wp2_with fail
          have R2 : Hid (RnRow w ([ub8 57] ++ dnB 3 x 0) (.slice (some ⟨w.heap.size, 0, none⟩) 1 1) (w.alloc (.cells #[.int .u8 57] 5))) := rn_start w 57 hz0 hz256 x 3
          have HD : Hid (ub8 57 :: dnB 3 x 3 = [ub8 57] ++ dnB 3 x 3) := rfl
          go_loopg [6, 7] 3 (fun gk s6 s7 wr => ∃ k : Nat, k + gk = 3 ∧ s7 = .int .i64 (3 - 1 - (k : Int)) ∧ Hid (RnRow w ([ub8 57] ++ dnB 3 x k) s6 wr))
          case atStart => exact ⟨0, by omega, rfl, R2⟩
          case round =>
            clear R2
            obtain ⟨k, hk, rfl, hrow⟩ := hrel
            obtain ⟨ro, rb⟩ := hrow.out
            cases gk with
            | zero =>
              obtain rfl : k = 3 := by omega
              go_wp2_with fail
              go_ret
              exact ⟨_, rfl, by rw [HNB.out]; simpa using ro, rb⟩
            | succ g =>
              obtain ⟨j, hj⟩ : ∃ j : Nat, j = 3 - 1 - k := ⟨_, rfl⟩
              have hji : (3 : Int) - 1 - (k : Int) = (j : Int) := by omega
              rw [hji]
              have hj7 : j ≤ 7 := by omega
              have HJ : Hid (dnB 3 x (k + 1) = dnB 3 x k ++ [ub8 (x / 2 ^ (8 * j))]) := by unfold Hid; rw [dnB_succ, hj, Nat.mul_comm 8]
              have HJ2 : Hid ((3 : Int) - 1 - ((k + 1 : Nat) : Int) = (j : Int) - 1) := by unfold Hid; omega
              clear hj hji
              have HNW : Hid (∀ j' u, (bv [ub8 (x / 2 ^ (8 * j))])[j']? = some u → (wr.alloc (.cells #[.int .u8 (x / 2 ^ (8 * j) % 256)] 5)).cell? ((⟨wr.heap.size, 0, none⟩ : Addr).add j') = some u) := byte_new wr _ _ (u8i _)
              have HRB : Hid (RB (wr.alloc (.cells #[.int .u8 (x / 2 ^ (8 * j) % 256)] 5)) w.heap.size u6 ([ub8 57] ++ dnB 3 x k)) := .inl (ro.under ((Below.refl _ _).alloc (Nat.le_refl _) _))
              have HSA : Hid (w.heap.size ≤ (wr.alloc (.cells #[.int .u8 (x / 2 ^ (8 * j) % 256)] 5)).heap.size) := by unfold Hid; have := rb.size; simp; omega
              have HLK : Hid (([ub8 57] ++ dnB 3 x k).length ≤ 1000000000) := by unfold Hid; rw [List.length_append, dnB_len]; simp; omega
              clear hrow ro
              go_wp2_with (first
                | (at_builtin; refine wpList_append_rb rfl _ _ rfl w.heap.size _ ([ub8 57] ++ dnB 3 x k) rfl HRB.out HLK.out HSA.out ⟨wr.heap.size, 0, none⟩ 1 1 [ub8 (x / 2 ^ (8 * j))] rfl (by omega) (by omega) rfl HNW.out ?_; intro v3 w3 o3 g3 k3)
                | fail)
              go_roundg g
              case measure => omega
              case rel => exact ⟨k + 1, by omega, by rw [HJ2.out], by unfold Hid; exact ⟨by rw [HJ.out, ← List.append_assoc]; exact o3, g3 _ _ (by simp; have := rb.size; omega) (Nat.le_refl _) (rb.alloc rb.size _)⟩⟩
        · simp only [Nat.reduceMul, Nat.reduceSub, Int.reducePow] at hab
          obtain ⟨z, hz⟩ : ∃ z : Int, z = 88 + 1 := ⟨_, rfl⟩
          have hzw : (32 : Int) * 2 + 24 + 1 = z := by omega
          have hz0 : 0 ≤ z := by omega
          have hz256 : z < 256 := by omega
          have HNB : Hid (L = ub8 z :: dnB 4 x 4) := by unfold Hid; rw [HLB.out, hz]; rfl
          have hzv : z = 89 := by omega
          clear HLB hz hzw
          subst hzv
          go_wp2_with fail
          have R2 : Hid (RnRow w ([ub8 89] ++ dnB 4 x 0) (.slice (some ⟨w.heap.size, 0, none⟩) 1 1) (w.alloc (.cells #[.int .u8 89] 5))) := rn_start w 89 hz0 hz256 x 4
          have HD : Hid (ub8 89 :: dnB 4 x 4 = [ub8 89] ++ dnB 4 x 4) := rfl
          go_loopg [6, 7] 4 (fun gk s6 s7 wr => ∃ k : Nat, k + gk = 4 ∧ s7 = .int .i64 (4 - 1 - (k : Int)) ∧ Hid (RnRow w ([ub8 89] ++ dnB 4 x k) s6 wr))
          case atStart => exact ⟨0, by omega, rfl, R2⟩
          case round =>
            clear R2
            obtain ⟨k, hk, rfl, hrow⟩ := hrel
            obtain ⟨ro, rb⟩ := hrow.out
            cases gk with
            | zero =>
              obtain rfl : k = 4 := by omega
              go_wp2_with fail
              go_ret
              exact ⟨_, rfl, by rw [HNB.out]; simpa using ro, rb⟩
            | succ g =>
              obtain ⟨j, hj⟩ : ∃ j : Nat, j = 4 - 1 - k := ⟨_, rfl⟩
              have hji : (4 : Int) - 1 - (k : Int) = (j : Int) := by omega
              rw [hji]
              have hj7 : j ≤ 7 := by omega
              have HJ : Hid (dnB 4 x (k + 1) = dnB 4 x k ++ [ub8 (x / 2 ^ (8 * j))]) := by unfold Hid; rw [dnB_succ, hj, Nat.mul_comm 8]
              have HJ2 : Hid ((4 : Int) - 1 - ((k + 1 : Nat) : Int) = (j : Int) - 1) := by unfold Hid; omega
              clear hj hji
              have HNW : Hid (∀ j' u, (bv [ub8 (x / 2 ^ (8 * j))])[j']? = some u → (wr.alloc (.cells #[.int .u8 (x / 2 ^ (8 * j) % 256)] 5)).cell? ((⟨wr.heap.size, 0, none⟩ : Addr).add j') = some u) := byte_new wr _ _ (u8i _)
              have HRB : Hid (RB (wr.alloc (.cells #[.int .u8 (x / 2 ^ (8 * j) % 256)] 5)) w.heap.size u6 ([ub8 89] ++ dnB 4 x k)) := .inl (ro.under ((Below.refl _ _).alloc (Nat.le_refl _) _))
              have HSA : Hid (w.heap.size ≤ (wr.alloc (.cells #[.int .u8 (x / 2 ^ (8 * j) % 256)] 5)).heap.size) := by unfold Hid; have := rb.size; simp; omega
              have HLK : Hid (([ub8 89] ++ dnB 4 x k).length ≤ 1000000000) := by unfold Hid; rw [List.length_append, dnB_len]; simp; omega
              clear hrow ro
              go_wp2_with (first
                | (at_builtin; refine wpList_append_rb rfl _ _ rfl w.heap.size _ ([ub8 89] ++ dnB 4 x k) rfl HRB.out HLK.out HSA.out ⟨wr.heap.size, 0, none⟩ 1 1 [ub8 (x / 2 ^ (8 * j))] rfl (by omega) (by omega) rfl HNW.out ?_; intro v3 w3 o3 g3 k3)
                | fail)
              go_roundg g
              case measure => omega
              case rel => exact ⟨k + 1, by omega, by rw [HJ2.out], by unfold Hid; exact ⟨by rw [HJ.out, ← List.append_assoc]; exact o3, g3 _ _ (by simp; have := rb.size; omega) (Nat.le_refl _) (rb.alloc rb.size _)⟩⟩
        · simp only [Nat.reduceMul, Nat.reduceSub, Int.reducePow] at hab
          obtain ⟨z, hz⟩ : ∃ z : Int, z = 120 + 1 := ⟨_, rfl⟩
          have hzw : (32 : Int) * 3 + 24 + 1 = z := by omega
          have hz0 : 0 ≤ z := by omega
          have hz256 : z < 256 := by omega
          have HNB : Hid (L = ub8 z :: dnB 5 x 5) := by unfold Hid; rw [HLB.out, hz]; rfl
          have hzv : z = 121 := by omega
          clear HLB hz hzw
          subst hzv
          go_wp2_with fail
          have R2 : Hid (RnRow w ([ub8 121] ++ dnB 5 x 0) (.slice (some ⟨w.heap.size, 0, none⟩) 1 1) (w.alloc (.cells #[.int .u8 121] 5))) := rn_start w 121 hz0 hz256 x 5
          have HD : Hid (ub8 121 :: dnB 5 x 5 = [ub8 121] ++ dnB 5 x 5) := rfl
          go_loopg [6, 7] 5 (fun gk s6 s7 wr => ∃ k : Nat, k + gk = 5 ∧ s7 = .int .i64 (5 - 1 - (k : Int)) ∧ Hid (RnRow w ([ub8 121] ++ dnB 5 x k) s6 wr))
          case atStart => exact ⟨0, by omega, rfl, R2⟩
          case round =>
            clear R2
            obtain ⟨k, hk, rfl, hrow⟩ := hrel
            obtain ⟨ro, rb⟩ := hrow.out
            cases gk with
            | zero =>
              obtain rfl : k = 5 := by omega
              go_wp2_with fail
              go_ret
              exact ⟨_, rfl, by rw [HNB.out]; simpa using ro, rb⟩
            | succ g =>
              obtain ⟨j, hj⟩ : ∃ j : Nat, j = 5 - 1 - k := ⟨_, rfl⟩
              have hji : (5 : Int) - 1 - (k : Int) = (j : Int) := by omega
              rw [hji]
              have hj7 : j ≤ 7 := by omega
              have HJ : Hid (dnB 5 x (k + 1) = dnB 5 x k ++ [ub8 (x / 2 ^ (8 * j))]) := by unfold Hid; rw [dnB_succ, hj, Nat.mul_comm 8]
              have HJ2 : Hid ((5 : Int) - 1 - ((k + 1 : Nat) : Int) = (j : Int) - 1) := by unfold Hid; omega
              clear hj hji
              have HNW : Hid (∀ j' u, (bv [ub8 (x / 2 ^ (8 * j))])[j']? = some u → (wr.alloc (.cells #[.int .u8 (x / 2 ^ (8 * j) % 256)] 5)).cell? ((⟨wr.heap.size, 0, none⟩ : Addr).add j') = some u) := byte_new wr _ _ (u8i _)
              have HRB : Hid (RB (wr.alloc (.cells #[.int .u8 (x / 2 ^ (8 * j) % 256)] 5)) w.heap.size u6 ([ub8 121] ++ dnB 5 x k)) := .inl (ro.under ((Below.refl _ _).alloc (Nat.le_refl _) _))
              have HSA : Hid (w.heap.size ≤ (wr.alloc (.cells #[.int .u8 (x / 2 ^ (8 * j) % 256)] 5)).heap.size) := by unfold Hid; have := rb.size; simp; omega
              have HLK : Hid (([ub8 121] ++ dnB 5 x k).length ≤ 1000000000) := by unfold Hid; rw [List.length_append, dnB_len]; simp; omega
              clear hrow ro
              go_wp2_with (first
                | (at_builtin; refine wpList_append_rb rfl _ _ rfl w.heap.size _ ([ub8 121] ++ dnB 5 x k) rfl HRB.out HLK.out HSA.out ⟨wr.heap.size, 0, none⟩ 1 1 [ub8 (x / 2 ^ (8 * j))] rfl (by omega) (by omega) rfl HNW.out ?_; intro v3 w3 o3 g3 k3)
                | fail)
              go_roundg g
              case measure => omega
              case rel => exact ⟨k + 1, by omega, by rw [HJ2.out], by unfold Hid; exact ⟨by rw [HJ.out, ← List.append_assoc]; exact o3, g3 _ _ (by simp; have := rb.size; omega) (Nat.le_refl _) (rb.alloc rb.size _)⟩⟩
        · simp only [Nat.reduceMul, Nat.reduceSub, Int.reducePow] at hab
          obtain ⟨z, hz⟩ : ∃ z : Int, z = 152 + 1 := ⟨_, rfl⟩
          have hzw : (32 : Int) * 4 + 24 + 1 = z := by omega
          have hz0 : 0 ≤ z := by omega
          have hz256 : z < 256 := by omega
          have HNB : Hid (L = ub8 z :: dnB 6 x 6) := by unfold Hid; rw [HLB.out, hz]; rfl
          have hzv : z = 153 := by omega
          clear HLB hz hzw
          subst hzv
          go_wp2_with fail
          have R2 : Hid (RnRow w ([ub8 153] ++ dnB 6 x 0) (.slice (some ⟨w.heap.size, 0, none⟩) 1 1) (w.alloc (.cells #[.int .u8 153] 5))) := rn_start w 153 hz0 hz256 x 6
          have HD : Hid (ub8 153 :: dnB 6 x 6 = [ub8 153] ++ dnB 6 x 6) := rfl
          go_loopg [6, 7] 6 (fun gk s6 s7 wr => ∃ k : Nat, k + gk = 6 ∧ s7 = .int .i64 (6 - 1 - (k : Int)) ∧ Hid (RnRow w ([ub8 153] ++ dnB 6 x k) s6 wr))
          case atStart => exact ⟨0, by omega, rfl, R2⟩
          case round =>
            clear R2
            obtain ⟨k, hk, rfl, hrow⟩ := hrel
            obtain ⟨ro, rb⟩ := hrow.out
            cases gk with
            | zero =>
              obtain rfl : k = 6 := by omega
              go_wp2_with fail
              go_ret
              exact ⟨_, rfl, by rw [HNB.out]; simpa using ro, rb⟩
            | succ g =>
              obtain ⟨j, hj⟩ : ∃ j : Nat, j = 6 - 1 - k := ⟨_, rfl⟩
              have hji : (6 : Int) - 1 - (k : Int) = (j : Int) := by omega
              rw [hji]
              have hj7 : j ≤ 7 := by omega
              have HJ : Hid (dnB 6 x (k + 1) = dnB 6 x k ++ [ub8 (x / 2 ^ (8 * j))]) := by unfold Hid; rw [dnB_succ, hj, Nat.mul_comm 8]
              have HJ2 : Hid ((6 : Int) - 1 - ((k + 1 : Nat) : Int) = (j : Int) - 1) := by unfold Hid; omega
              clear hj hji
              have HNW : Hid (∀ j' u, (bv [ub8 (x / 2 ^ (8 * j))])[j']? = some u → (wr.alloc (.cells #[.int .u8 (x / 2 ^ (8 * j) % 256)] 5)).cell? ((⟨wr.heap.size, 0, none⟩ : Addr).add j') = some u) := byte_new wr _ _ (u8i _)
              have HRB : Hid (RB (wr.alloc (.cells #[.int .u8 (x / 2 ^ (8 * j) % 256)] 5)) w.heap.size u6 ([ub8 153] ++ dnB 6 x k)) := .inl (ro.under ((Below.refl _ _).alloc (Nat.le_refl _) _))
              have HSA : Hid (w.heap.size ≤ (wr.alloc (.cells #[.int .u8 (x / 2 ^ (8 * j) % 256)] 5)).heap.size) := by unfold Hid; have := rb.size; simp; omega
              have HLK : Hid (([ub8 153] ++ dnB 6 x k).length ≤ 1000000000) := by unfold Hid; rw [List.length_append, dnB_len]; simp; omega
              clear hrow ro
              go_wp2_with (first
                | (at_builtin; refine wpList_append_rb rfl _ _ rfl w.heap.size _ ([ub8 153] ++ dnB 6 x k) rfl HRB.out HLK.out HSA.out ⟨wr.heap.size, 0, none⟩ 1 1 [ub8 (x / 2 ^ (8 * j))] rfl (by omega) (by omega) rfl HNW.out ?_; intro v3 w3 o3 g3 k3)
                | fail)
              go_roundg g
              case measure => omega
              case rel => exact ⟨k + 1, by omega, by rw [HJ2.out], by unfold Hid; exact ⟨by rw [HJ.out, ← List.append_assoc]; exact o3, g3 _ _ (by simp; have := rb.size; omega) (Nat.le_refl _) (rb.alloc rb.size _)⟩⟩
        · simp only [Nat.reduceMul, Nat.reduceSub, Int.reducePow] at hab
          obtain ⟨z, hz⟩ : ∃ z : Int, z = 184 + 1 := ⟨_, rfl⟩
          have hzw : (32 : Int) * 5 + 24 + 1 = z := by omega
          have hz0 : 0 ≤ z := by omega
          have hz256 : z < 256 := by omega
          have HNB : Hid (L = ub8 z :: dnB 7 x 7) := by unfold Hid; rw [HLB.out, hz]; rfl
          have hzv : z = 185 := by omega
          clear HLB hz hzw
          subst hzv
          go_wp2_with fail
          have R2 : Hid (RnRow w ([ub8 185] ++ dnB 7 x 0) (.slice (some ⟨w.heap.size, 0, none⟩) 1 1) (w.alloc (.cells #[.int .u8 185] 5))) := rn_start w 185 hz0 hz256 x 7
          have HD : Hid (ub8 185 :: dnB 7 x 7 = [ub8 185] ++ dnB 7 x 7) := rfl
          go_loopg [6, 7] 7 (fun gk s6 s7 wr => ∃ k : Nat, k + gk = 7 ∧ s7 = .int .i64 (7 - 1 - (k : Int)) ∧ Hid (RnRow w ([ub8 185] ++ dnB 7 x k) s6 wr))
          case atStart => exact ⟨0, by omega, rfl, R2⟩
          case round =>
            clear R2
            obtain ⟨k, hk, rfl, hrow⟩ := hrel
            obtain ⟨ro, rb⟩ := hrow.out
            cases gk with
            | zero =>
              obtain rfl : k = 7 := by omega
              go_wp2_with fail
              go_ret
              exact ⟨_, rfl, by rw [HNB.out]; simpa using ro, rb⟩
            | succ g =>
              obtain ⟨j, hj⟩ : ∃ j : Nat, j = 7 - 1 - k := ⟨_, rfl⟩
              have hji : (7 : Int) - 1 - (k : Int) = (j : Int) := by omega
              rw [hji]
              have hj7 : j ≤ 7 := by omega
              have HJ : Hid (dnB 7 x (k + 1) = dnB 7 x k ++ [ub8 (x / 2 ^ (8 * j))]) := by unfold Hid; rw [dnB_succ, hj, Nat.mul_comm 8]
              have HJ2 : Hid ((7 : Int) - 1 - ((k + 1 : Nat) : Int) = (j : Int) - 1) := by unfold Hid; omega
              clear hj hji
              have HNW : Hid (∀ j' u, (bv [ub8 (x / 2 ^ (8 * j))])[j']? = some u → (wr.alloc (.cells #[.int .u8 (x / 2 ^ (8 * j) % 256)] 5)).cell? ((⟨wr.heap.size, 0, none⟩ : Addr).add j') = some u) := byte_new wr _ _ (u8i _)
              have HRB : Hid (RB (wr.alloc (.cells #[.int .u8 (x / 2 ^ (8 * j) % 256)] 5)) w.heap.size u6 ([ub8 185] ++ dnB 7 x k)) := .inl (ro.under ((Below.refl _ _).alloc (Nat.le_refl _) _))
              have HSA : Hid (w.heap.size ≤ (wr.alloc (.cells #[.int .u8 (x / 2 ^ (8 * j) % 256)] 5)).heap.size) := by unfold Hid; have := rb.size; simp; omega
              have HLK : Hid (([ub8 185] ++ dnB 7 x k).length ≤ 1000000000) := by unfold Hid; rw [List.length_append, dnB_len]; simp; omega
              clear hrow ro
              go_wp2_with (first
                | (at_builtin; refine wpList_append_rb rfl _ _ rfl w.heap.size _ ([ub8 185] ++ dnB 7 x k) rfl HRB.out HLK.out HSA.out ⟨wr.heap.size, 0, none⟩ 1 1 [ub8 (x / 2 ^ (8 * j))] rfl (by omega) (by omega) rfl HNW.out ?_; intro v3 w3 o3 g3 k3)
                | fail)
              go_roundg g
              case measure => omega
              case rel => exact ⟨k + 1, by omega, by rw [HJ2.out], by unfold Hid; exact ⟨by rw [HJ.out, ← List.append_assoc]; exact o3, g3 _ _ (by simp; have := rb.size; omega) (Nat.le_refl _) (rb.alloc rb.size _)⟩⟩
        · simp only [Nat.reduceMul, Nat.reduceSub, Int.reducePow] at hab
          obtain ⟨z, hz⟩ : ∃ z : Int, z = 216 + 1 := ⟨_, rfl⟩
          have hzw : (32 : Int) * 6 + 24 + 1 = z := by omega
          have hz0 : 0 ≤ z := by omega
          have hz256 : z < 256 := by omega
          have HNB : Hid (L = ub8 z :: dnB 8 x 8) := by unfold Hid; rw [HLB.out, hz]; rfl
          have hzv : z = 217 := by omega
          clear HLB hz hzw
          subst hzv
          go_wp2_with fail
          have R2 : Hid (RnRow w ([ub8 217] ++ dnB 8 x 0) (.slice (some ⟨w.heap.size, 0, none⟩) 1 1) (w.alloc (.cells #[.int .u8 217] 5))) := rn_start w 217 hz0 hz256 x 8
          have HD : Hid (ub8 217 :: dnB 8 x 8 = [ub8 217] ++ dnB 8 x 8) := rfl
          go_loopg [6, 7] 8 (fun gk s6 s7 wr => ∃ k : Nat, k + gk = 8 ∧ s7 = .int .i64 (8 - 1 - (k : Int)) ∧ Hid (RnRow w ([ub8 217] ++ dnB 8 x k) s6 wr))
          case atStart => exact ⟨0, by omega, rfl, R2⟩
          case round =>
            clear R2
            obtain ⟨k, hk, rfl, hrow⟩ := hrel
            obtain ⟨ro, rb⟩ := hrow.out
            cases gk with
            | zero =>
              obtain rfl : k = 8 := by omega
              go_wp2_with fail
              go_ret
              exact ⟨_, rfl, by rw [HNB.out]; simpa using ro, rb⟩
            | succ g =>
              obtain ⟨j, hj⟩ : ∃ j : Nat, j = 8 - 1 - k := ⟨_, rfl⟩
              have hji : (8 : Int) - 1 - (k : Int) = (j : Int) := by omega
              rw [hji]
              have hj7 : j ≤ 7 := by omega
              have HJ : Hid (dnB 8 x (k + 1) = dnB 8 x k ++ [ub8 (x / 2 ^ (8 * j))]) := by unfold Hid; rw [dnB_succ, hj, Nat.mul_comm 8]
              have HJ2 : Hid ((8 : Int) - 1 - ((k + 1 : Nat) : Int) = (j : Int) - 1) := by unfold Hid; omega
              clear hj hji
              have HNW : Hid (∀ j' u, (bv [ub8 (x / 2 ^ (8 * j))])[j']? = some u → (wr.alloc (.cells #[.int .u8 (x / 2 ^ (8 * j) % 256)] 5)).cell? ((⟨wr.heap.size, 0, none⟩ : Addr).add j') = some u) := byte_new wr _ _ (u8i _)
              have HRB : Hid (RB (wr.alloc (.cells #[.int .u8 (x / 2 ^ (8 * j) % 256)] 5)) w.heap.size u6 ([ub8 217] ++ dnB 8 x k)) := .inl (ro.under ((Below.refl _ _).alloc (Nat.le_refl _) _))
              have HSA : Hid (w.heap.size ≤ (wr.alloc (.cells #[.int .u8 (x / 2 ^ (8 * j) % 256)] 5)).heap.size) := by unfold Hid; have := rb.size; simp; omega
              have HLK : Hid (([ub8 217] ++ dnB 8 x k).length ≤ 1000000000) := by unfold Hid; rw [List.length_append, dnB_len]; simp; omega
              clear hrow ro
              go_wp2_with (first
                | (at_builtin; refine wpList_append_rb rfl _ _ rfl w.heap.size _ ([ub8 217] ++ dnB 8 x k) rfl HRB.out HLK.out HSA.out ⟨wr.heap.size, 0, none⟩ 1 1 [ub8 (x / 2 ^ (8 * j))] rfl (by omega) (by omega) rfl HNW.out ?_; intro v3 w3 o3 g3 k3)
                | fail)
              go_roundg g
              case measure => omega
              case rel => exact ⟨k + 1, by omega, by rw [HJ2.out], by unfold Hid; exact ⟨by rw [HJ.out, ← List.append_assoc]; exact o3, g3 _ _ (by simp; have := rb.size; omega) (Nat.le_refl _) (rb.alloc rb.size _)⟩⟩
  · clear h4
    go_enter Tryd.func55, Tryd.ntmps55
    go_wp2_with fail
    go_loopg [5] (S - 2) (fun gk s5 wr => ∃ s : Nat, s + gk = S ∧ 2 ≤ s ∧ s5 = .int .i64 (s : Int) ∧ w = wr)
    case atStart => exact ⟨2, by omega, by omega, rfl, rfl⟩
    case round =>
      obtain ⟨s, hs, hs2, rfl, rfl⟩ := hrel
      cases gk with
      | succ g =>
        have hno := HL.out s hs2 (by omega)
        have hs7 : s = 2 ∨ s = 3 ∨ s = 4 ∨ s = 5 ∨ s = 6 ∨ s = 7 := by omega
        rw [room_i] at hno
        simp only [Bool.or_eq_false_iff, beq_eq_false_iff_ne] at hno
        have hab : x < -2 ^ (s * 8 - 1) ∨ (¬ x < -2 ^ (s * 8 - 1) ∧ 2 ^ (s * 8 - 1) ≤ x) := by
          rcases hs7 with rfl | rfl | rfl | rfl | rfl | rfl <;> simp only [Nat.reduceMul, Nat.reduceSub, Int.reducePow] at hno ⊢ <;> omega
        clear hno
        rcases hs7 with rfl | rfl | rfl | rfl | rfl | rfl
        all_goals
          simp only [Nat.reduceMul, Nat.reduceSub, Int.reducePow] at hab
          rcases hab with hab | ⟨hab, hab2⟩
        all_goals
          go_wp2_with fail
          go_roundg g
          case measure => omega
          case rel => exact ⟨S - g, by omega, by omega, congrArg (Value.int .i64) (by omega), rfl⟩
      | zero =>
        obtain rfl : s = S := by omega
        have hyes := HRM.out
        have hs7 : s = 2 ∨ s = 3 ∨ s = 4 ∨ s = 5 ∨ s = 6 ∨ s = 7 ∨ s = 8 := by omega
        rw [room_i] at hyes
        simp only [Bool.or_eq_true, beq_iff_eq] at hyes
        have hab : ¬ x < -2 ^ (s * 8 - 1) ∧ ¬ 2 ^ (s * 8 - 1) ≤ x := by
          rcases hs7 with rfl | rfl | rfl | rfl | rfl | rfl | rfl <;> simp only [Nat.reduceMul, Nat.reduceSub, Int.reducePow] at hyes ⊢ <;> omega
        clear hyes HL HRM
        rcases hs7 with rfl | rfl | rfl | rfl | rfl | rfl | rfl
        · simp only [Nat.reduceMul, Nat.reduceSub, Int.reducePow] at hab
          obtain ⟨z, hz⟩ : ∃ z : Int, z = 24 + 1 := ⟨_, rfl⟩
          have hzw : (32 : Int) * 0 + 24 + 1 = z := by omega
          have hz0 : 0 ≤ z := by omega
          have hz256 : z < 256 := by omega
          have HNB : Hid (L = ub8 z :: dnB 2 x 2) := by unfold Hid; rw [HLB.out, hz]; rfl
          have hzv : z = 25 := by omega
          clear HLB hz hzw
          subst hzv
          go_wp2_with fail
          have R2 : Hid (RnRow w ([ub8 25] ++ dnB 2 x 0) (.slice (some ⟨w.heap.size, 0, none⟩) 1 1) (w.alloc (.cells #[.int .u8 25] 5))) := rn_start w 25 hz0 hz256 x 2
          have HD : Hid (ub8 25 :: dnB 2 x 2 = [ub8 25] ++ dnB 2 x 2) := rfl
          go_loopg [6, 7] 2 (fun gk s6 s7 wr => ∃ k : Nat, k + gk = 2 ∧ s7 = .int .i64 (2 - 1 - (k : Int)) ∧ Hid (RnRow w ([ub8 25] ++ dnB 2 x k) s6 wr))
          case atStart => exact ⟨0, by omega, rfl, R2⟩
          case round =>
            clear R2
            obtain ⟨k, hk, rfl, hrow⟩ := hrel
            obtain ⟨ro, rb⟩ := hrow.out
            cases gk with
            | zero =>
              obtain rfl : k = 2 := by omega
              go_wp2_with fail
              go_ret
              exact ⟨_, rfl, by rw [HNB.out]; simpa using ro, rb⟩
            | succ g =>
              obtain ⟨j, hj⟩ : ∃ j : Nat, j = 2 - 1 - k := ⟨_, rfl⟩
              have hji : (2 : Int) - 1 - (k : Int) = (j : Int) := by omega
              rw [hji]
              have hj7 : j ≤ 7 := by omega
              have HJ : Hid (dnB 2 x (k + 1) = dnB 2 x k ++ [ub8 (x / 2 ^ (8 * j))]) := by unfold Hid; rw [dnB_succ, hj, Nat.mul_comm 8]
              have HJ2 : Hid ((2 : Int) - 1 - ((k + 1 : Nat) : Int) = (j : Int) - 1) := by unfold Hid; omega
              clear hj hji
              have HNW : Hid (∀ j' u, (bv [ub8 (x / 2 ^ (8 * j))])[j']? = some u → (wr.alloc (.cells #[.int .u8 (x / 2 ^ (8 * j) % 256)] 5)).cell? ((⟨wr.heap.size, 0, none⟩ : Addr).add j') = some u) := byte_new wr _ _ (u8i _)
              have HRB : Hid (RB (wr.alloc (.cells #[.int .u8 (x / 2 ^ (8 * j) % 256)] 5)) w.heap.size u6 ([ub8 25] ++ dnB 2 x k)) := .inl (ro.under ((Below.refl _ _).alloc (Nat.le_refl _) _))
              have HSA : Hid (w.heap.size ≤ (wr.alloc (.cells #[.int .u8 (x / 2 ^ (8 * j) % 256)] 5)).heap.size) := by unfold Hid; have := rb.size; simp; omega
              have HLK : Hid (([ub8 25] ++ dnB 2 x k).length ≤ 1000000000) := by unfold Hid; rw [List.length_append, dnB_len]; simp; omega
              clear hrow ro
              go_wp2_with (first
                | (at_builtin; refine wpList_append_rb rfl _ _ rfl w.heap.size _ ([ub8 25] ++ dnB 2 x k) rfl HRB.out HLK.out HSA.out ⟨wr.heap.size, 0, none⟩ 1 1 [ub8 (x / 2 ^ (8 * j))] rfl (by omega) (by omega) rfl HNW.out ?_; intro v3 w3 o3 g3 k3)
                | fail)
              go_roundg g
              case measure => omega
              case rel => exact ⟨k + 1, by omega, by rw [HJ2.out], by unfold Hid; exact ⟨by rw [HJ.out, ← List.append_assoc]; exact o3, g3 _ _ (by simp; have := rb.size; omega) (Nat.le_refl _) (rb.alloc rb.size _)⟩⟩
        · simp only [Nat.reduceMul, Nat.reduceSub, Int.reducePow] at hab
          obtain ⟨z, hz⟩ : ∃ z : Int, z = 56 + 1 := ⟨_, rfl⟩
          have hzw : (32 : Int) * 1 + 24 + 1 = z := by omega
          have hz0 : 0 ≤ z := by omega
          have hz256 : z < 256 := by omega
          have HNB : Hid (L = ub8 z :: dnB 3 x 3) := by unfold Hid; rw [HLB.out, hz]; rfl
          have hzv : z = 57 := by omega
          clear HLB hz hzw
          subst hzv
          go_wp2_with fail
          have R2 : Hid (RnRow w ([ub8 57] ++ dnB 3 x 0) (.slice (some ⟨w.heap.size, 0, none⟩) 1 1) (w.alloc (.cells #[.int .u8 57] 5))) := rn_start w 57 hz0 hz256 x 3
          have HD : Hid (ub8 57 :: dnB 3 x 3 = [ub8 57] ++ dnB 3 x 3) := rfl
          go_loopg [6, 7] 3 (fun gk s6 s7 wr => ∃ k : Nat, k + gk = 3 ∧ s7 = .int .i64 (3 - 1 - (k : Int)) ∧ Hid (RnRow w ([ub8 57] ++ dnB 3 x k) s6 wr))
          case atStart => exact ⟨0, by omega, rfl, R2⟩
          case round =>
            clear R2
            obtain ⟨k, hk, rfl, hrow⟩ := hrel
            obtain ⟨ro, rb⟩ := hrow.out
            cases gk with
            | zero =>
              obtain rfl : k = 3 := by omega
              go_wp2_with fail
              go_ret
              exact ⟨_, rfl, by rw [HNB.out]; simpa using ro, rb⟩
            | succ g =>
              obtain ⟨j, hj⟩ : ∃ j : Nat, j = 3 - 1 - k := ⟨_, rfl⟩
              have hji : (3 : Int) - 1 - (k : Int) = (j : Int) := by omega
              rw [hji]
              have hj7 : j ≤ 7 := by omega
              have HJ : Hid (dnB 3 x (k + 1) = dnB 3 x k ++ [ub8 (x / 2 ^ (8 * j))]) := by unfold Hid; rw [dnB_succ, hj, Nat.mul_comm 8]
              have HJ2 : Hid ((3 : Int) - 1 - ((k + 1 : Nat) : Int) = (j : Int) - 1) := by unfold Hid; omega
              clear hj hji
              have HNW : Hid (∀ j' u, (bv [ub8 (x / 2 ^ (8 * j))])[j']? = some u → (wr.alloc (.cells #[.int .u8 (x / 2 ^ (8 * j) % 256)] 5)).cell? ((⟨wr.heap.size, 0, none⟩ : Addr).add j') = some u) := byte_new wr _ _ (u8i _)
              have HRB : Hid (RB (wr.alloc (.cells #[.int .u8 (x / 2 ^ (8 * j) % 256)] 5)) w.heap.size u6 ([ub8 57] ++ dnB 3 x k)) := .inl (ro.under ((Below.refl _ _).alloc (Nat.le_refl _) _))
              have HSA : Hid (w.heap.size ≤ (wr.alloc (.cells #[.int .u8 (x / 2 ^ (8 * j) % 256)] 5)).heap.size) := by unfold Hid; have := rb.size; simp; omega
              have HLK : Hid (([ub8 57] ++ dnB 3 x k).length ≤ 1000000000) := by unfold Hid; rw [List.length_append, dnB_len]; simp; omega
              clear hrow ro
              go_wp2_with (first
                | (at_builtin; refine wpList_append_rb rfl _ _ rfl w.heap.size _ ([ub8 57] ++ dnB 3 x k) rfl HRB.out HLK.out HSA.out ⟨wr.heap.size, 0, none⟩ 1 1 [ub8 (x / 2 ^ (8 * j))] rfl (by omega) (by omega) rfl HNW.out ?_; intro v3 w3 o3 g3 k3)
                | fail)
              go_roundg g
              case measure => omega
              case rel => exact ⟨k + 1, by omega, by rw [HJ2.out], by unfold Hid; exact ⟨by rw [HJ.out, ← List.append_assoc]; exact o3, g3 _ _ (by simp; have := rb.size; omega) (Nat.le_refl _) (rb.alloc rb.size _)⟩⟩
        · simp only [Nat.reduceMul, Nat.reduceSub, Int.reducePow] at hab
          obtain ⟨z, hz⟩ : ∃ z : Int, z = 88 + 1 := ⟨_, rfl⟩
          have hzw : (32 : Int) * 2 + 24 + 1 = z := by omega
          have hz0 : 0 ≤ z := by omega
          have hz256 : z < 256 := by omega
          have HNB : Hid (L = ub8 z :: dnB 4 x 4) := by unfold Hid; rw [HLB.out, hz]; rfl
          have hzv : z = 89 := by omega
          clear HLB hz hzw
          subst hzv
          go_wp2_with fail
          have R2 : Hid (RnRow w ([ub8 89] ++ dnB 4 x 0) (.slice (some ⟨w.heap.size, 0, none⟩) 1 1) (w.alloc (.cells #[.int .u8 89] 5))) := rn_start w 89 hz0 hz256 x 4
          have HD : Hid (ub8 89 :: dnB 4 x 4 = [ub8 89] ++ dnB 4 x 4) := rfl
          go_loopg [6, 7] 4 (fun gk s6 s7 wr => ∃ k : Nat, k + gk = 4 ∧ s7 = .int .i64 (4 - 1 - (k : Int)) ∧ Hid (RnRow w ([ub8 89] ++ dnB 4 x k) s6 wr))
          case atStart => exact ⟨0, by omega, rfl, R2⟩
          case round =>
            clear R2
            obtain ⟨k, hk, rfl, hrow⟩ := hrel
            obtain ⟨ro, rb⟩ := hrow.out
            cases gk with
            | zero =>
              obtain rfl : k = 4 := by omega
              go_wp2_with fail
              go_ret
              exact ⟨_, rfl, by rw [HNB.out]; simpa using ro, rb⟩
            | succ g =>
              obtain ⟨j, hj⟩ : ∃ j : Nat, j = 4 - 1 - k := ⟨_, rfl⟩
              have hji : (4 : Int) - 1 - (k : Int) = (j : Int) := by omega
              rw [hji]
              have hj7 : j ≤ 7 := by omega
              have HJ : Hid (dnB 4 x (k + 1) = dnB 4 x k ++ [ub8 (x / 2 ^ (8 * j))]) := by unfold Hid; rw [dnB_succ, hj, Nat.mul_comm 8]
              have HJ2 : Hid ((4 : Int) - 1 - ((k + 1 : Nat) : Int) = (j : Int) - 1) := by unfold Hid; omega
              clear hj hji
              have HNW : Hid (∀ j' u, (bv [ub8 (x / 2 ^ (8 * j))])[j']? = some u → (wr.alloc (.cells #[.int .u8 (x / 2 ^ (8 * j) % 256)] 5)).cell? ((⟨wr.heap.size, 0, none⟩ : Addr).add j') = some u) := byte_new wr _ _ (u8i _)
              have HRB : Hid (RB (wr.alloc (.cells #[.int .u8 (x / 2 ^ (8 * j) % 256)] 5)) w.heap.size u6 ([ub8 89] ++ dnB 4 x k)) := .inl (ro.under ((Below.refl _ _).alloc (Nat.le_refl _) _))
              have HSA : Hid (w.heap.size ≤ (wr.alloc (.cells #[.int .u8 (x / 2 ^ (8 * j) % 256)] 5)).heap.size) := by unfold Hid; have := rb.size; simp; omega
              have HLK : Hid (([ub8 89] ++ dnB 4 x k).length ≤ 1000000000) := by unfold Hid; rw [List.length_append, dnB_len]; simp; omega
              clear hrow ro
              go_wp2_with (first
                | (at_builtin; refine wpList_append_rb rfl _ _ rfl w.heap.size _ ([ub8 89] ++ dnB 4 x k) rfl HRB.out HLK.out HSA.out ⟨wr.heap.size, 0, none⟩ 1 1 [ub8 (x / 2 ^ (8 * j))] rfl (by omega) (by omega) rfl HNW.out ?_; intro v3 w3 o3 g3 k3)
                | fail)
              go_roundg g
              case measure => omega
              case rel => exact ⟨k + 1, by omega, by rw [HJ2.out], by unfold Hid; exact ⟨by rw [HJ.out, ← List.append_assoc]; exact o3, g3 _ _ (by simp; have := rb.size; omega) (Nat.le_refl _) (rb.alloc rb.size _)⟩⟩
        · simp only [Nat.reduceMul, Nat.reduceSub, Int.reducePow] at hab
          obtain ⟨z, hz⟩ : ∃ z : Int, z = 120 + 1 := ⟨_, rfl⟩
          have hzw : (32 : Int) * 3 + 24 + 1 = z := by omega
          have hz0 : 0 ≤ z := by omega
          have hz256 : z < 256 := by omega
          have HNB : Hid (L = ub8 z :: dnB 5 x 5) := by unfold Hid; rw [HLB.out, hz]; rfl
          have hzv : z = 121 := by omega
          clear HLB hz hzw
          subst hzv
          go_wp2_with fail
          have R2 : Hid (RnRow w ([ub8 121] ++ dnB 5 x 0) (.slice (some ⟨w.heap.size, 0, none⟩) 1 1) (w.alloc (.cells #[.int .u8 121] 5))) := rn_start w 121 hz0 hz256 x 5
          have HD : Hid (ub8 121 :: dnB 5 x 5 = [ub8 121] ++ dnB 5 x 5) := rfl
          go_loopg [6, 7] 5 (fun gk s6 s7 wr => ∃ k : Nat, k + gk = 5 ∧ s7 = .int .i64 (5 - 1 - (k : Int)) ∧ Hid (RnRow w ([ub8 121] ++ dnB 5 x k) s6 wr))
          case atStart => exact ⟨0, by omega, rfl, R2⟩
          case round =>
            clear R2
            obtain ⟨k, hk, rfl, hrow⟩ := hrel
            obtain ⟨ro, rb⟩ := hrow.out
            cases gk with
            | zero =>
              obtain rfl : k = 5 := by omega
              go_wp2_with fail
              go_ret
              exact ⟨_, rfl, by rw [HNB.out]; simpa using ro, rb⟩
            | succ g =>
              obtain ⟨j, hj⟩ : ∃ j : Nat, j = 5 - 1 - k := ⟨_, rfl⟩
              have hji : (5 : Int) - 1 - (k : Int) = (j : Int) := by omega
              rw [hji]
              have hj7 : j ≤ 7 := by omega
              have HJ : Hid (dnB 5 x (k + 1) = dnB 5 x k ++ [ub8 (x / 2 ^ (8 * j))]) := by unfold Hid; rw [dnB_succ, hj, Nat.mul_comm 8]
              have HJ2 : Hid ((5 : Int) - 1 - ((k + 1 : Nat) : Int) = (j : Int) - 1) := by unfold Hid; omega
              clear hj hji
              have HNW : Hid (∀ j' u, (bv [ub8 (x / 2 ^ (8 * j))])[j']? = some u → (wr.alloc (.cells #[.int .u8 (x / 2 ^ (8 * j) % 256)] 5)).cell? ((⟨wr.heap.size, 0, none⟩ : Addr).add j') = some u) := byte_new wr _ _ (u8i _)
              have HRB : Hid (RB (wr.alloc (.cells #[.int .u8 (x / 2 ^ (8 * j) % 256)] 5)) w.heap.size u6 ([ub8 121] ++ dnB 5 x k)) := .inl (ro.under ((Below.refl _ _).alloc (Nat.le_refl _) _))
              have HSA : Hid (w.heap.size ≤ (wr.alloc (.cells #[.int .u8 (x / 2 ^ (8 * j) % 256)] 5)).heap.size) := by unfold Hid; have := rb.size; simp; omega
              have HLK : Hid (([ub8 121] ++ dnB 5 x k).length ≤ 1000000000) := by unfold Hid; rw [List.length_append, dnB_len]; simp; omega
              clear hrow ro
              go_wp2_with (first
                | (at_builtin; refine wpList_append_rb rfl _ _ rfl w.heap.size _ ([ub8 121] ++ dnB 5 x k) rfl HRB.out HLK.out HSA.out ⟨wr.heap.size, 0, none⟩ 1 1 [ub8 (x / 2 ^ (8 * j))] rfl (by omega) (by omega) rfl HNW.out ?_; intro v3 w3 o3 g3 k3)
                | fail)
              go_roundg g
              case measure => omega
              case rel => exact ⟨k + 1, by omega, by rw [HJ2.out], by unfold Hid; exact ⟨by rw [HJ.out, ← List.append_assoc]; exact o3, g3 _ _ (by simp; have := rb.size; omega) (Nat.le_refl _) (rb.alloc rb.size _)⟩⟩
        · simp only [Nat.reduceMul, Nat.reduceSub, Int.reducePow] at hab
          obtain ⟨z, hz⟩ : ∃ z : Int, z = 152 + 1 := ⟨_, rfl⟩
          have hzw : (32 : Int) * 4 + 24 + 1 = z := by omega
          have hz0 : 0 ≤ z := by omega
          have hz256 : z < 256 := by omega
          have HNB : Hid (L = ub8 z :: dnB 6 x 6) := by unfold Hid; rw [HLB.out, hz]; rfl
          have hzv : z = 153 := by omega
          clear HLB hz hzw
          subst hzv
          go_wp2_with fail
          have R2 : Hid (RnRow w ([ub8 153] ++ dnB 6 x 0) (.slice (some ⟨w.heap.size, 0, none⟩) 1 1) (w.alloc (.cells #[.int .u8 153] 5))) := rn_start w 153 hz0 hz256 x 6
          have HD : Hid (ub8 153 :: dnB 6 x 6 = [ub8 153] ++ dnB 6 x 6) := rfl
          go_loopg [6, 7] 6 (fun gk s6 s7 wr => ∃ k : Nat, k + gk = 6 ∧ s7 = .int .i64 (6 - 1 - (k : Int)) ∧ Hid (RnRow w ([ub8 153] ++ dnB 6 x k) s6 wr))
          case atStart => exact ⟨0, by omega, rfl, R2⟩
          case round =>
            clear R2
            obtain ⟨k, hk, rfl, hrow⟩ := hrel
            obtain ⟨ro, rb⟩ := hrow.out
            cases gk with
            | zero =>
              obtain rfl : k = 6 := by omega
              go_wp2_with fail
              go_ret
              exact ⟨_, rfl, by rw [HNB.out]; simpa using ro, rb⟩
            | succ g =>
              obtain ⟨j, hj⟩ : ∃ j : Nat, j = 6 - 1 - k := ⟨_, rfl⟩
              have hji : (6 : Int) - 1 - (k : Int) = (j : Int) := by omega
              rw [hji]
              have hj7 : j ≤ 7 := by omega
              have HJ : Hid (dnB 6 x (k + 1) = dnB 6 x k ++ [ub8 (x / 2 ^ (8 * j))]) := by unfold Hid; rw [dnB_succ, hj, Nat.mul_comm 8]
              have HJ2 : Hid ((6 : Int) - 1 - ((k + 1 : Nat) : Int) = (j : Int) - 1) := by unfold Hid; omega
              clear hj hji
              have HNW : Hid (∀ j' u, (bv [ub8 (x / 2 ^ (8 * j))])[j']? = some u → (wr.alloc (.cells #[.int .u8 (x / 2 ^ (8 * j) % 256)] 5)).cell? ((⟨wr.heap.size, 0, none⟩ : Addr).add j') = some u) := byte_new wr _ _ (u8i _)
              have HRB : Hid (RB (wr.alloc (.cells #[.int .u8 (x / 2 ^ (8 * j) % 256)] 5)) w.heap.size u6 ([ub8 153] ++ dnB 6 x k)) := .inl (ro.under ((Below.refl _ _).alloc (Nat.le_refl _) _))
              have HSA : Hid (w.heap.size ≤ (wr.alloc (.cells #[.int .u8 (x / 2 ^ (8 * j) % 256)] 5)).heap.size) := by unfold Hid; have := rb.size; simp; omega
              have HLK : Hid (([ub8 153] ++ dnB 6 x k).length ≤ 1000000000) := by unfold Hid; rw [List.length_append, dnB_len]; simp; omega
              clear hrow ro
              go_wp2_with (first
                | (at_builtin; refine wpList_append_rb rfl _ _ rfl w.heap.size _ ([ub8 153] ++ dnB 6 x k) rfl HRB.out HLK.out HSA.out ⟨wr.heap.size, 0, none⟩ 1 1 [ub8 (x / 2 ^ (8 * j))] rfl (by omega) (by omega) rfl HNW.out ?_; intro v3 w3 o3 g3 k3)
                | fail)
              go_roundg g
              case measure => omega
              case rel => exact ⟨k + 1, by omega, by rw [HJ2.out], by unfold Hid; exact ⟨by rw [HJ.out, ← List.append_assoc]; exact o3, g3 _ _ (by simp; have := rb.size; omega) (Nat.le_refl _) (rb.alloc rb.size _)⟩⟩
        · simp only [Nat.reduceMul, Nat.reduceSub, Int.reducePow] at hab
          obtain ⟨z, hz⟩ : ∃ z : Int, z = 184 + 1 := ⟨_, rfl⟩
          have hzw : (32 : Int) * 5 + 24 + 1 = z := by omega
          have hz0 : 0 ≤ z := by omega
          have hz256 : z < 256 := by omega
          have HNB : Hid (L = ub8 z :: dnB 7 x 7) := by unfold Hid; rw [HLB.out, hz]; rfl
          have hzv : z = 185 := by omega
          clear HLB hz hzw
          subst hzv
          go_wp2_with fail
          have R2 : Hid (RnRow w ([ub8 185] ++ dnB 7 x 0) (.slice (some ⟨w.heap.size, 0, none⟩) 1 1) (w.alloc (.cells #[.int .u8 185] 5))) := rn_start w 185 hz0 hz256 x 7
          have HD : Hid (ub8 185 :: dnB 7 x 7 = [ub8 185] ++ dnB 7 x 7) := rfl
          go_loopg [6, 7] 7 (fun gk s6 s7 wr => ∃ k : Nat, k + gk = 7 ∧ s7 = .int .i64 (7 - 1 - (k : Int)) ∧ Hid (RnRow w ([ub8 185] ++ dnB 7 x k) s6 wr))
          case atStart => exact ⟨0, by omega, rfl, R2⟩
          case round =>
            clear R2
            obtain ⟨k, hk, rfl, hrow⟩ := hrel
            obtain ⟨ro, rb⟩ := hrow.out
            cases gk with
            | zero =>
              obtain rfl : k = 7 := by omega
              go_wp2_with fail
              go_ret
              exact ⟨_, rfl, by rw [HNB.out]; simpa using ro, rb⟩
            | succ g =>
              obtain ⟨j, hj⟩ : ∃ j : Nat, j = 7 - 1 - k := ⟨_, rfl⟩
              have hji : (7 : Int) - 1 - (k : Int) = (j : Int) := by omega
              rw [hji]
              have hj7 : j ≤ 7 := by omega
              have HJ : Hid (dnB 7 x (k + 1) = dnB 7 x k ++ [ub8 (x / 2 ^ (8 * j))]) := by unfold Hid; rw [dnB_succ, hj, Nat.mul_comm 8]
              have HJ2 : Hid ((7 : Int) - 1 - ((k + 1 : Nat) : Int) = (j : Int) - 1) := by unfold Hid; omega
              clear hj hji
              have HNW : Hid (∀ j' u, (bv [ub8 (x / 2 ^ (8 * j))])[j']? = some u → (wr.alloc (.cells #[.int .u8 (x / 2 ^ (8 * j) % 256)] 5)).cell? ((⟨wr.heap.size, 0, none⟩ : Addr).add j') = some u) := byte_new wr _ _ (u8i _)
              have HRB : Hid (RB (wr.alloc (.cells #[.int .u8 (x / 2 ^ (8 * j) % 256)] 5)) w.heap.size u6 ([ub8 185] ++ dnB 7 x k)) := .inl (ro.under ((Below.refl _ _).alloc (Nat.le_refl _) _))
              have HSA : Hid (w.heap.size ≤ (wr.alloc (.cells #[.int .u8 (x / 2 ^ (8 * j) % 256)] 5)).heap.size) := by unfold Hid; have := rb.size; simp; omega
              have HLK : Hid (([ub8 185] ++ dnB 7 x k).length ≤ 1000000000) := by unfold Hid; rw [List.length_append, dnB_len]; simp; omega
              clear hrow ro
              go_wp2_with (first
                | (at_builtin; refine wpList_append_rb rfl _ _ rfl w.heap.size _ ([ub8 185] ++ dnB 7 x k) rfl HRB.out HLK.out HSA.out ⟨wr.heap.size, 0, none⟩ 1 1 [ub8 (x / 2 ^ (8 * j))] rfl (by omega) (by omega) rfl HNW.out ?_; intro v3 w3 o3 g3 k3)
                | fail)
              go_roundg g
              case measure => omega
              case rel => exact ⟨k + 1, by omega, by rw [HJ2.out], by unfold Hid; exact ⟨by rw [HJ.out, ← List.append_assoc]; exact o3, g3 _ _ (by simp; have := rb.size; omega) (Nat.le_refl _) (rb.alloc rb.size _)⟩⟩
        · simp only [Nat.reduceMul, Nat.reduceSub, Int.reducePow] at hab
          obtain ⟨z, hz⟩ : ∃ z : Int, z = 216 + 1 := ⟨_, rfl⟩
          have hzw : (32 : Int) * 6 + 24 + 1 = z := by omega
          have hz0 : 0 ≤ z := by omega
          have hz256 : z < 256 := by omega
          have HNB : Hid (L = ub8 z :: dnB 8 x 8) := by unfold Hid; rw [HLB.out, hz]; rfl
          have hzv : z = 217 := by omega
          clear HLB hz hzw
          subst hzv
          go_wp2_with fail
          have R2 : Hid (RnRow w ([ub8 217] ++ dnB 8 x 0) (.slice (some ⟨w.heap.size, 0, none⟩) 1 1) (w.alloc (.cells #[.int .u8 217] 5))) := rn_start w 217 hz0 hz256 x 8
          have HD : Hid (ub8 217 :: dnB 8 x 8 = [ub8 217] ++ dnB 8 x 8) := rfl
          go_loopg [6, 7] 8 (fun gk s6 s7 wr => ∃ k : Nat, k + gk = 8 ∧ s7 = .int .i64 (8 - 1 - (k : Int)) ∧ Hid (RnRow w ([ub8 217] ++ dnB 8 x k) s6 wr))
          case atStart => exact ⟨0, by omega, rfl, R2⟩
          case round =>
            clear R2
            obtain ⟨k, hk, rfl, hrow⟩ := hrel
            obtain ⟨ro, rb⟩ := hrow.out
            cases gk with
            | zero =>
              obtain rfl : k = 8 := by omega
              go_wp2_with fail
              go_ret
              exact ⟨_, rfl, by rw [HNB.out]; simpa using ro, rb⟩
            | succ g =>
              obtain ⟨j, hj⟩ : ∃ j : Nat, j = 8 - 1 - k := ⟨_, rfl⟩
              have hji : (8 : Int) - 1 - (k : Int) = (j : Int) := by omega
              rw [hji]
              have hj7 : j ≤ 7 := by omega
              have HJ : Hid (dnB 8 x (k + 1) = dnB 8 x k ++ [ub8 (x / 2 ^ (8 * j))]) := by unfold Hid; rw [dnB_succ, hj, Nat.mul_comm 8]
              have HJ2 : Hid ((8 : Int) - 1 - ((k + 1 : Nat) : Int) = (j : Int) - 1) := by unfold Hid; omega
              clear hj hji
              have HNW : Hid (∀ j' u, (bv [ub8 (x / 2 ^ (8 * j))])[j']? = some u → (wr.alloc (.cells #[.int .u8 (x / 2 ^ (8 * j) % 256)] 5)).cell? ((⟨wr.heap.size, 0, none⟩ : Addr).add j') = some u) := byte_new wr _ _ (u8i _)
              have HRB : Hid (RB (wr.alloc (.cells #[.int .u8 (x / 2 ^ (8 * j) % 256)] 5)) w.heap.size u6 ([ub8 217] ++ dnB 8 x k)) := .inl (ro.under ((Below.refl _ _).alloc (Nat.le_refl _) _))
              have HSA : Hid (w.heap.size ≤ (wr.alloc (.cells #[.int .u8 (x / 2 ^ (8 * j) % 256)] 5)).heap.size) := by unfold Hid; have := rb.size; simp; omega
              have HLK : Hid (([ub8 217] ++ dnB 8 x k).length ≤ 1000000000) := by unfold Hid; rw [List.length_append, dnB_len]; simp; omega
              clear hrow ro
              go_wp2_with (first
                | (at_builtin; refine wpList_append_rb rfl _ _ rfl w.heap.size _ ([ub8 217] ++ dnB 8 x k) rfl HRB.out HLK.out HSA.out ⟨wr.heap.size, 0, none⟩ 1 1 [ub8 (x / 2 ^ (8 * j))] rfl (by omega) (by omega) rfl HNW.out ?_; intro v3 w3 o3 g3 k3)
                | fail)
              go_roundg g
              case measure => omega
              case rel => exact ⟨k + 1, by omega, by rw [HJ2.out], by unfold Hid; exact ⟨by rw [HJ.out, ← List.append_assoc]; exact o3, g3 _ _ (by simp; have := rb.size; omega) (Nat.le_refl _) (rb.alloc rb.size _)⟩⟩
  · have hS4 := h4 hne
    clear h4
    go_enter Tryd.func55, Tryd.ntmps55
    go_wp2_with fail
    go_loopg [5] (S - 2) (fun gk s5 wr => ∃ s : Nat, s + gk = S ∧ 2 ≤ s ∧ s5 = .int .i64 (s : Int) ∧ w = wr)
    case atStart => exact ⟨2, by omega, by omega, rfl, rfl⟩
    case round =>
      obtain ⟨s, hs, hs2, rfl, rfl⟩ := hrel
      cases gk with
      | succ g =>
        have hno := HL.out s hs2 (by omega)
        have hs7 : s = 2 ∨ s = 3 := by omega
        rw [room_u _ _ _ hne] at hno
        simp only [beq_eq_false_iff_ne] at hno
        have hab : 2 ^ (s * 8) ≤ x := by
          rcases hs7 with rfl | rfl <;> simp only [Nat.reduceMul, Int.reducePow] at hno ⊢ <;> omega
        clear hno
        rcases hs7 with rfl | rfl
        all_goals
          simp only [Nat.reduceMul, Int.reducePow] at hab
          go_wp2_with fail
          go_roundg g
          case measure => omega
          case rel => exact ⟨S - g, by omega, by omega, congrArg (Value.int .i64) (by omega), rfl⟩
      | zero =>
        obtain rfl : s = S := by omega
        have hyes := HRM.out
        have hs7 : s = 2 ∨ s = 3 ∨ s = 4 := by omega
        rw [room_u _ _ _ hne] at hyes
        simp only [beq_iff_eq] at hyes
        have hab : ¬ 2 ^ (s * 8) ≤ x := by
          rcases hs7 with rfl | rfl | rfl <;> simp only [Nat.reduceMul, Int.reducePow] at hyes ⊢ <;> omega
        clear hyes HL HRM
        rcases hs7 with rfl | rfl | rfl
        · simp only [Nat.reduceMul, Nat.reduceSub, Int.reducePow] at hab
          obtain ⟨z, hz⟩ : ∃ z : Int, z = 24 + t := ⟨_, rfl⟩
          have hzw : (32 : Int) * 0 + 24 + t = z := by omega
          have hz0 : 0 ≤ z := by omega
          have hz256 : z < 256 := by omega
          have HNB : Hid (L = ub8 z :: dnB 2 x 2) := by unfold Hid; rw [HLB.out, hz]; rfl
          have hzw2 : 24 + t = z := by omega
          clear HLB hz
          go_wp2_with fail
          have R2 : Hid (RnRow w ([ub8 z] ++ dnB 2 x 0) (.slice (some ⟨w.heap.size, 0, none⟩) 1 1) (w.alloc (.cells #[.int .u8 z] 5))) := rn_start w z hz0 hz256 x 2
          have HD : Hid (ub8 z :: dnB 2 x 2 = [ub8 z] ++ dnB 2 x 2) := rfl
          go_loopg [6, 7] 2 (fun gk s6 s7 wr => ∃ k : Nat, k + gk = 2 ∧ s7 = .int .i64 (2 - 1 - (k : Int)) ∧ Hid (RnRow w ([ub8 z] ++ dnB 2 x k) s6 wr))
          case atStart => exact ⟨0, by omega, rfl, R2⟩
          case round =>
            clear R2
            obtain ⟨k, hk, rfl, hrow⟩ := hrel
            obtain ⟨ro, rb⟩ := hrow.out
            cases gk with
            | zero =>
              obtain rfl : k = 2 := by omega
              go_wp2_with fail
              go_ret
              exact ⟨_, rfl, by rw [HNB.out]; simpa using ro, rb⟩
            | succ g =>
              obtain ⟨j, hj⟩ : ∃ j : Nat, j = 2 - 1 - k := ⟨_, rfl⟩
              have hji : (2 : Int) - 1 - (k : Int) = (j : Int) := by omega
              rw [hji]
              have hj7 : j ≤ 7 := by omega
              have HJ : Hid (dnB 2 x (k + 1) = dnB 2 x k ++ [ub8 (x / 2 ^ (8 * j))]) := by unfold Hid; rw [dnB_succ, hj, Nat.mul_comm 8]
              have HJ2 : Hid ((2 : Int) - 1 - ((k + 1 : Nat) : Int) = (j : Int) - 1) := by unfold Hid; omega
              clear hj hji
              have HNW : Hid (∀ j' u, (bv [ub8 (x / 2 ^ (8 * j))])[j']? = some u → (wr.alloc (.cells #[.int .u8 (x / 2 ^ (8 * j) % 256)] 5)).cell? ((⟨wr.heap.size, 0, none⟩ : Addr).add j') = some u) := byte_new wr _ _ (u8i _)
              have HRB : Hid (RB (wr.alloc (.cells #[.int .u8 (x / 2 ^ (8 * j) % 256)] 5)) w.heap.size u6 ([ub8 z] ++ dnB 2 x k)) := .inl (ro.under ((Below.refl _ _).alloc (Nat.le_refl _) _))
              have HSA : Hid (w.heap.size ≤ (wr.alloc (.cells #[.int .u8 (x / 2 ^ (8 * j) % 256)] 5)).heap.size) := by unfold Hid; have := rb.size; simp; omega
              have HLK : Hid (([ub8 z] ++ dnB 2 x k).length ≤ 1000000000) := by unfold Hid; rw [List.length_append, dnB_len]; simp; omega
              clear hrow ro
              go_wp2_with (first
                | (at_builtin; refine wpList_append_rb rfl _ _ rfl w.heap.size _ ([ub8 z] ++ dnB 2 x k) rfl HRB.out HLK.out HSA.out ⟨wr.heap.size, 0, none⟩ 1 1 [ub8 (x / 2 ^ (8 * j))] rfl (by omega) (by omega) rfl HNW.out ?_; intro v3 w3 o3 g3 k3)
                | fail)
              go_roundg g
              case measure => omega
              case rel => exact ⟨k + 1, by omega, by rw [HJ2.out], by unfold Hid; exact ⟨by rw [HJ.out, ← List.append_assoc]; exact o3, g3 _ _ (by simp; have := rb.size; omega) (Nat.le_refl _) (rb.alloc rb.size _)⟩⟩
        · simp only [Nat.reduceMul, Nat.reduceSub, Int.reducePow] at hab
          obtain ⟨z, hz⟩ : ∃ z : Int, z = 56 + t := ⟨_, rfl⟩
          have hzw : (32 : Int) * 1 + 24 + t = z := by omega
          have hz0 : 0 ≤ z := by omega
          have hz256 : z < 256 := by omega
          have HNB : Hid (L = ub8 z :: dnB 3 x 3) := by unfold Hid; rw [HLB.out, hz]; rfl
          have hzw2 : 56 + t = z := by omega
          clear HLB hz
          go_wp2_with fail
          have R2 : Hid (RnRow w ([ub8 z] ++ dnB 3 x 0) (.slice (some ⟨w.heap.size, 0, none⟩) 1 1) (w.alloc (.cells #[.int .u8 z] 5))) := rn_start w z hz0 hz256 x 3
          have HD : Hid (ub8 z :: dnB 3 x 3 = [ub8 z] ++ dnB 3 x 3) := rfl
          go_loopg [6, 7] 3 (fun gk s6 s7 wr => ∃ k : Nat, k + gk = 3 ∧ s7 = .int .i64 (3 - 1 - (k : Int)) ∧ Hid (RnRow w ([ub8 z] ++ dnB 3 x k) s6 wr))
          case atStart => exact ⟨0, by omega, rfl, R2⟩
          case round =>
            clear R2
            obtain ⟨k, hk, rfl, hrow⟩ := hrel
            obtain ⟨ro, rb⟩ := hrow.out
            cases gk with
            | zero =>
              obtain rfl : k = 3 := by omega
              go_wp2_with fail
              go_ret
              exact ⟨_, rfl, by rw [HNB.out]; simpa using ro, rb⟩
            | succ g =>
              obtain ⟨j, hj⟩ : ∃ j : Nat, j = 3 - 1 - k := ⟨_, rfl⟩
              have hji : (3 : Int) - 1 - (k : Int) = (j : Int) := by omega
              rw [hji]
              have hj7 : j ≤ 7 := by omega
              have HJ : Hid (dnB 3 x (k + 1) = dnB 3 x k ++ [ub8 (x / 2 ^ (8 * j))]) := by unfold Hid; rw [dnB_succ, hj, Nat.mul_comm 8]
              have HJ2 : Hid ((3 : Int) - 1 - ((k + 1 : Nat) : Int) = (j : Int) - 1) := by unfold Hid; omega
              clear hj hji
              have HNW : Hid (∀ j' u, (bv [ub8 (x / 2 ^ (8 * j))])[j']? = some u → (wr.alloc (.cells #[.int .u8 (x / 2 ^ (8 * j) % 256)] 5)).cell? ((⟨wr.heap.size, 0, none⟩ : Addr).add j') = some u) := byte_new wr _ _ (u8i _)
              have HRB : Hid (RB (wr.alloc (.cells #[.int .u8 (x / 2 ^ (8 * j) % 256)] 5)) w.heap.size u6 ([ub8 z] ++ dnB 3 x k)) := .inl (ro.under ((Below.refl _ _).alloc (Nat.le_refl _) _))
              have HSA : Hid (w.heap.size ≤ (wr.alloc (.cells #[.int .u8 (x / 2 ^ (8 * j) % 256)] 5)).heap.size) := by unfold Hid; have := rb.size; simp; omega
              have HLK : Hid (([ub8 z] ++ dnB 3 x k).length ≤ 1000000000) := by unfold Hid; rw [List.length_append, dnB_len]; simp; omega
              clear hrow ro
              go_wp2_with (first
                | (at_builtin; refine wpList_append_rb rfl _ _ rfl w.heap.size _ ([ub8 z] ++ dnB 3 x k) rfl HRB.out HLK.out HSA.out ⟨wr.heap.size, 0, none⟩ 1 1 [ub8 (x / 2 ^ (8 * j))] rfl (by omega) (by omega) rfl HNW.out ?_; intro v3 w3 o3 g3 k3)
                | fail)
              go_roundg g
              case measure => omega
              case rel => exact ⟨k + 1, by omega, by rw [HJ2.out], by unfold Hid; exact ⟨by rw [HJ.out, ← List.append_assoc]; exact o3, g3 _ _ (by simp; have := rb.size; omega) (Nat.le_refl _) (rb.alloc rb.size _)⟩⟩
        · simp only [Nat.reduceMul, Nat.reduceSub, Int.reducePow] at hab
          obtain ⟨z, hz⟩ : ∃ z : Int, z = 88 + t := ⟨_, rfl⟩
          have hzw : (32 : Int) * 2 + 24 + t = z := by omega
          have hz0 : 0 ≤ z := by omega
          have hz256 : z < 256 := by omega
          have HNB : Hid (L = ub8 z :: dnB 4 x 4) := by unfold Hid; rw [HLB.out, hz]; rfl
          have hzw2 : 88 + t = z := by omega
          clear HLB hz
          go_wp2_with fail
          have R2 : Hid (RnRow w ([ub8 z] ++ dnB 4 x 0) (.slice (some ⟨w.heap.size, 0, none⟩) 1 1) (w.alloc (.cells #[.int .u8 z] 5))) := rn_start w z hz0 hz256 x 4
          have HD : Hid (ub8 z :: dnB 4 x 4 = [ub8 z] ++ dnB 4 x 4) := rfl
          go_loopg [6, 7] 4 (fun gk s6 s7 wr => ∃ k : Nat, k + gk = 4 ∧ s7 = .int .i64 (4 - 1 - (k : Int)) ∧ Hid (RnRow w ([ub8 z] ++ dnB 4 x k) s6 wr))
          case atStart => exact ⟨0, by omega, rfl, R2⟩
          case round =>
            clear R2
            obtain ⟨k, hk, rfl, hrow⟩ := hrel
            obtain ⟨ro, rb⟩ := hrow.out
            cases gk with
            | zero =>
              obtain rfl : k = 4 := by omega
              go_wp2_with fail
              go_ret
              exact ⟨_, rfl, by rw [HNB.out]; simpa using ro, rb⟩
            | succ g =>
              obtain ⟨j, hj⟩ : ∃ j : Nat, j = 4 - 1 - k := ⟨_, rfl⟩
              have hji : (4 : Int) - 1 - (k : Int) = (j : Int) := by omega
              rw [hji]
              have hj7 : j ≤ 7 := by omega
              have HJ : Hid (dnB 4 x (k + 1) = dnB 4 x k ++ [ub8 (x / 2 ^ (8 * j))]) := by unfold Hid; rw [dnB_succ, hj, Nat.mul_comm 8]
              have HJ2 : Hid ((4 : Int) - 1 - ((k + 1 : Nat) : Int) = (j : Int) - 1) := by unfold Hid; omega
              clear hj hji
              have HNW : Hid (∀ j' u, (bv [ub8 (x / 2 ^ (8 * j))])[j']? = some u → (wr.alloc (.cells #[.int .u8 (x / 2 ^ (8 * j) % 256)] 5)).cell? ((⟨wr.heap.size, 0, none⟩ : Addr).add j') = some u) := byte_new wr _ _ (u8i _)
              have HRB : Hid (RB (wr.alloc (.cells #[.int .u8 (x / 2 ^ (8 * j) % 256)] 5)) w.heap.size u6 ([ub8 z] ++ dnB 4 x k)) := .inl (ro.under ((Below.refl _ _).alloc (Nat.le_refl _) _))
              have HSA : Hid (w.heap.size ≤ (wr.alloc (.cells #[.int .u8 (x / 2 ^ (8 * j) % 256)] 5)).heap.size) := by unfold Hid; have := rb.size; simp; omega
              have HLK : Hid (([ub8 z] ++ dnB 4 x k).length ≤ 1000000000) := by unfold Hid; rw [List.length_append, dnB_len]; simp; omega
              clear hrow ro
              go_wp2_with (first
                | (at_builtin; refine wpList_append_rb rfl _ _ rfl w.heap.size _ ([ub8 z] ++ dnB 4 x k) rfl HRB.out HLK.out HSA.out ⟨wr.heap.size, 0, none⟩ 1 1 [ub8 (x / 2 ^ (8 * j))] rfl (by omega) (by omega) rfl HNW.out ?_; intro v3 w3 o3 g3 k3)
                | fail)
              go_roundg g
              case measure => omega
              case rel => exact ⟨k + 1, by omega, by rw [HJ2.out], by unfold Hid; exact ⟨by rw [HJ.out, ← List.append_assoc]; exact o3, g3 _ _ (by simp; have := rb.size; omega) (Nat.le_refl _) (rb.alloc rb.size _)⟩⟩
end Go.Proofs.YtgjjeghnfhjnnaaDoor
