/-
  compact: putNumber.
-/
import Derived.Test.YtfjibcldghnjcaaDoorCpA
namespace Go.Proofs.YtfjibcldghnjcaaDoor
open Go.RowKit
set_option linter.unusedVariables false
set_option linter.unusedSimpArgs false

/-- What a call that puts answers: a row of bytes of the call's own; what lay ahead of W0, and all that is no row of bytes, stands. -/
def PutS (W0 w : World) (l L : List UInt8) (e : Ending) (w' : World) : Prop :=
  ∃ v', e = .returned v' ∧ OB w' W0.heap.size v' (l ++ L) ∧ Below W0.heap.size W0 w' ∧ Keep w w'
/-- A number that may stand behind a tag. -/
def okP (t n : Int) : Prop := (t = 1 ∧ -576460752303423488 ≤ n ∧ n ≤ 576460752303423487) ∨ (t ≠ 1 ∧ 0 ≤ t ∧ t ≤ 5 ∧ 0 ≤ n ∧ n ≤ 268435455)

theorem sz_ge (t n : Int) : 2 ≤ szN t n ∧ szN t n ≤ 8 := by
  unfold szN
  repeat' split
  all_goals omega
theorem sz_room {t n : Int} (h : okP t n) : roomB t n (szN t n) = true := by
  have h8 : roomB t n 8 = true := by
    rcases h with ⟨rfl, h1, h2⟩ | ⟨h0, _, _, h1, h2⟩
    · rw [room_i]
      simp only [Nat.reduceMul, Nat.reduceSub, Int.reducePow, Bool.or_eq_true, beq_iff_eq]
      omega
    · rw [room_u _ _ _ h0]
      simp only [Nat.reduceMul, Nat.reduceSub, Int.reducePow, Bool.or_eq_true, beq_iff_eq]
      omega
  unfold szN
  repeat' split
  all_goals first | assumption | exact h8
theorem sz_least {t n : Int} (s : Nat) (h2 : 2 ≤ s) (h : s < szN t n) : roomB t n s = false := by
  have h8 := (sz_ge t n).2
  have : s = 2 ∨ s = 3 ∨ s = 4 ∨ s = 5 ∨ s = 6 ∨ s = 7 := by omega
  unfold szN at h
  cases hr : roomB t n s
  · rfl
  · rcases this with rfl | rfl | rfl | rfl | rfl | rfl
    all_goals
      rw [hr] at h
      repeat' split at h
      all_goals first | omega | simp_all
theorem sz_four {t n : Int} (h : okP t n) (h1 : t ≠ 1) : szN t n ≤ 4 := by
  have h4 : roomB t n 4 = true := by
    rcases h with ⟨rfl, _⟩ | ⟨h0, _, _, h1, h2⟩
    · exact absurd rfl h1
    · rw [room_u _ _ _ h0]
      simp only [Nat.reduceMul, Nat.reduceSub, Int.reducePow, Bool.or_eq_true, beq_iff_eq]
      omega
  unfold szN
  rw [h4]
  repeat' split
  all_goals first | omega | simp_all

/-- The loop's state. -/
def CpRow (W0 w1 : World) (X : List UInt8) (v : Value) (wr : World) : Prop := OB wr W0.heap.size v X ∧ Below W0.heap.size W0 wr ∧ Keep w1 wr

set_option maxRecDepth 100000 in
set_option maxHeartbeats 4000000 in
theorem putNumber_any (W0 : World) (v : Value) (l : List UInt8) (t n : Int) (w : World) (hW : Below W0.heap.size W0 w) (h : RB w W0.heap.size v l) (hl : l.length ≤ 100000000) (hp : okP t n) :
    Calls Tryd.prog 32 #[v, .int .i64 t, .int .i64 n] w fun e w' => PutS W0 w l (numB t n) e w' := by
  have hsz := hW.size
  have ht0 : 0 ≤ t := by rcases hp with ⟨rfl, _⟩ | h; · decide
                         · exact h.2.1
  have ht5 : t ≤ 5 := by rcases hp with ⟨rfl, _⟩ | h; · decide
                         · exact h.2.2.1
  have hn0 : -576460752303423488 ≤ n ∧ n ≤ 576460752303423487 := by rcases hp with h | h <;> omega
  have HP : Hid (okP t n) := hp
  by_cases c1 : 0 ≤ n ∧ n < 16
  · obtain ⟨c1, c2⟩ := c1
    have HN : Hid (numB t n = [ub8 (n * 16 + t)]) := by unfold Hid numB; rw [if_pos ⟨c1, c2⟩]
    rw [HN.out]
    obtain ⟨z, hz⟩ : ∃ z, z = n * 16 + t := ⟨_, rfl⟩
    have ho : bits BinOp.or IntKind.i64 (n * 16) t = z := by rw [hz]; exact or_join 4 _ _ (by omega) (by omega) (by omega) (by omega) (by omega) (by omega)
    have hz0 : 0 ≤ z := by omega
    have hz1 : z < 256 := by omega
    rw [← hz]
    have hnw : ∀ j u, (bv [ub8 z])[j]? = some u → (w.alloc (.cells #[.int .u8 z] 5)).cell? ((⟨w.heap.size, 0, none⟩ : Addr).add j) = some u := by
      have e : bv [ub8 z] = [.int .u8 z] := by
        simp only [bv, List.map_cons, List.map_nil, u8i]
        rw [Int.emod_eq_of_lt hz0 hz1]
      rw [e]
      exact new_cells w _ _
    clear hz HP hp
    go_enter Tryd.func32, Tryd.ntmps32
    go_wp2_with (first
      | (at_builtin; refine wpList_append_rb rfl _ _ rfl W0.heap.size _ l rfl (h.under ((Below.refl _ _).alloc (Nat.le_refl _) _)) (by omega) (by simp; omega) ⟨w.heap.size, 0, none⟩ 1 1 [ub8 z] rfl (by omega) (by omega) rfl hnw ?_; intro v2 w2 o2 g2 k2)
      | fail)
    go_ret
    exact ⟨v2, rfl, o2, g2 _ _ (by simp; omega) (Nat.le_refl _) (hW.alloc hsz _), (Keep.alloc _ _).trans k2⟩
  by_cases c2 : t ≠ 1 ∧ n < 2048
  · have HN : Hid (numB t n = [ub8 (n / 256 * 32 + 8 + t), ub8 n]) := by unfold Hid numB; rw [if_neg c1, if_pos c2]
    rw [HN.out]
    obtain ⟨c2, c3⟩ := c2
    have hn1 : 0 ≤ n ∧ 16 ≤ n := by rcases HP.out with h | h <;> omega
    obtain ⟨hn1, hn2⟩ := hn1
    obtain ⟨z1, hz1⟩ : ∃ z, z = n / 256 * 32 + 8 := ⟨_, rfl⟩
    have ho1 : bits BinOp.or IntKind.i64 (n / 256 * 32) 8 = z1 := by rw [hz1]; exact or_join 5 _ _ (by omega) (by omega) (by omega) (by omega) (by omega) (by omega)
    obtain ⟨z, hz⟩ : ∃ z, z = z1 + t := ⟨_, rfl⟩
    have ho : bits BinOp.or IntKind.i64 z1 t = z := by rw [hz]; exact or_join 3 _ _ (by omega) (by omega) (by omega) (by omega) (by omega) (by omega)
    have hz0 : 0 ≤ z := by omega
    have hz256 : z < 256 := by omega
    rw [← hz1, ← hz]
    have hnw : ∀ j u, (bv [ub8 z, ub8 n])[j]? = some u → (w.alloc (.cells #[.int .u8 z, .int .u8 (n % 256)] 5)).cell? ((⟨w.heap.size, 0, none⟩ : Addr).add j) = some u := by
      have e : bv [ub8 z, ub8 n] = [.int .u8 z, .int .u8 (n % 256)] := by
        simp only [bv, List.map_cons, List.map_nil, u8i]
        rw [Int.emod_eq_of_lt hz0 hz256]
      rw [e]
      exact new_cells w _ _
    have hz10 : 0 ≤ z1 := by omega
    have hz11 : z1 < 256 := by omega
    clear hz hz1 HP hp c1
    go_enter Tryd.func32, Tryd.ntmps32
    go_wp2_with (first
      | (at_builtin; refine wpList_append_rb rfl _ _ rfl W0.heap.size _ l rfl (h.under ((Below.refl _ _).alloc (Nat.le_refl _) _)) (by omega) (by simp; omega) ⟨w.heap.size, 0, none⟩ 2 2 [ub8 z, ub8 n] rfl (by omega) (by omega) rfl hnw ?_; intro v2 w2 o2 g2 k2)
      | fail)
    go_ret
    exact ⟨v2, rfl, o2, g2 _ _ (by simp; omega) (Nat.le_refl _) (hW.alloc hsz _), (Keep.alloc _ _).trans k2⟩
  · obtain ⟨S, hS⟩ : ∃ S, S = szN t n := ⟨_, rfl⟩
    have HN : Hid (numB t n = ub8 (((S : Int) - 2) * 32 + 24 + t) :: dnB S n S) := by unfold Hid numB; rw [if_neg c1, if_neg c2, hS]
    rw [HN.out]
    have hS2 := sz_ge t n
    rw [← hS] at hS2
    have HR : Hid (roomB t n S = true) := by unfold Hid; rw [hS]; exact sz_room HP.out
    have HL : Hid (∀ s : Nat, 2 ≤ s → s < S → roomB t n s = false) := fun s h1 h2 => sz_least s h1 (by omega)
    have hcase : (n < 0 ∨ 16 ≤ n) ∧ (t = 1 ∨ 2048 ≤ n) := by omega
    clear c1 c2 hS HN HP
    obtain ⟨ca, cb⟩ := hcase
    obtain ⟨z1, hz1⟩ : ∃ z, z = ((S : Int) - 2) * 32 + 16 := ⟨_, rfl⟩
    have ho1 : bits BinOp.or IntKind.i64 (((S : Int) - 2) * 32) 16 = z1 := by rw [hz1]; exact or_join 5 _ _ (by omega) (by omega) (by omega) (by omega) (by omega) (by omega)
    obtain ⟨z2, hz2⟩ : ∃ z, z = z1 + 8 := ⟨_, rfl⟩
    have ho2 : bits BinOp.or IntKind.i64 z1 8 = z2 := by rw [hz2]; exact or_join 4 _ _ (by omega) (by omega) (by omega) (by omega) (by omega) (by omega)
    obtain ⟨z, hz⟩ : ∃ z, z = z2 + t := ⟨_, rfl⟩
    have ho : bits BinOp.or IntKind.i64 z2 t = z := by rw [hz]; exact or_join 3 _ _ (by omega) (by omega) (by omega) (by omega) (by omega) (by omega)
    have hz0 : 0 ≤ z := by omega
    have hz256 : z < 256 := by omega
    have hz10 : 0 ≤ z1 := by omega
    have hz11 : z1 < 256 := by omega
    have hz20 : 0 ≤ z2 := by omega
    have hz21 : z2 < 256 := by omega
    have hnw : ∀ j u, (bv [ub8 z])[j]? = some u → (w.alloc (.cells #[.int .u8 z] 5)).cell? ((⟨w.heap.size, 0, none⟩ : Addr).add j) = some u := by
      have e : bv [ub8 z] = [.int .u8 z] := by
        simp only [bv, List.map_cons, List.map_nil, u8i]
        rw [Int.emod_eq_of_lt hz0 hz256]
      rw [e]
      exact new_cells w _ _
    have HZ : Hid (((S : Int) - 2) * 32 + 24 + t = z) := by unfold Hid; omega
    rw [HZ.out]
    clear hz hz1 hz2 HZ hp
    have hcc : (n < 0 ∧ t = 1) ∨ (0 ≤ n ∧ 16 ≤ n ∧ t = 1) ∨ (0 ≤ n ∧ 16 ≤ n ∧ 2048 ≤ n ∧ ¬ t = 1) := by omega
    clear ca cb
    rcases hcc with ⟨ca, cb⟩ | ⟨ca, cc, cb⟩ | ⟨ca, cc, cb, cd⟩
    all_goals
      try subst cb
      go_enter Tryd.func32, Tryd.ntmps32
      go_wp2_with fail
      go_loopg [7] (S - 2) (fun gk s7 wr => ∃ s : Nat, s + gk = S ∧ 2 ≤ s ∧ s7 = .int .i64 (s : Int) ∧ wr = w)
      case atStart => exact ⟨2, by omega, by omega, rfl, rfl⟩
      case round =>
        obtain ⟨s, hs, hs2, rfl, rfl⟩ := hrel
        go_wp2_with fail
        refine (hasRoom_any _ n s _ hs2 (by omega) (by omega) (by omega)).mono ?_
        rintro e w1 ⟨rfl, rfl⟩
        cases gk with
        | succ g =>
          rw [HL.out s hs2 (by omega)]
          go_wp2_with fail
          go_roundg g
          case measure => omega
          case rel => exact ⟨s + 1, by omega, by omega, by go_num, rfl⟩
        | zero =>
          obtain rfl : s = S := by omega
          rw [HR.out]
          clear HR HL
          go_wp2_with (first
            | (at_builtin; refine wpList_append_rb rfl _ _ rfl W0.heap.size _ l rfl (h.under ((Below.refl _ _).alloc (Nat.le_refl _) _)) (by omega) (by simp; omega) ⟨w1.heap.size, 0, none⟩ 1 1 [ub8 z] rfl (by omega) (by omega) rfl hnw ?_; intro v2 w2 o2 g2 k2)
            | fail)
          have R2 : Hid (CpRow W0 w1 (l ++ [ub8 z] ++ dnB s n 0) v2 w2) := ⟨by simpa [dnB] using o2, g2 _ _ (by simp; omega) (Nat.le_refl _) (hW.alloc hsz _), (Keep.alloc _ _).trans k2⟩
          clear o2 g2 k2 hnw
          go_loopg [0, 8] s (fun gk s0 s8 wr => ∃ k : Nat, k + gk = s ∧ s8 = .int .i64 ((s : Int) - 1 - (k : Int)) ∧ Hid (CpRow W0 w1 (l ++ [ub8 z] ++ dnB s n k) s0 wr))
          case atStart => exact ⟨0, by omega, by go_num, R2⟩
          case round =>
            obtain ⟨k, hk, rfl, hrow⟩ := hrel
            cases gk with
            | zero =>
              obtain rfl : k = s := by omega
              go_wp2_with fail
              go_ret
              obtain ⟨ro, rw0, rk⟩ := hrow.out
              exact ⟨_, rfl, by simpa using ro, rw0, rk⟩
            | succ g =>
              obtain ⟨j, hj⟩ : ∃ j : Nat, j = s - 1 - k := ⟨_, rfl⟩
              have hji : (s : Int) - 1 - (k : Int) = (j : Int) := by omega
              rw [hji]
              have hj7 : j ≤ 7 := by omega
              have HJ : Hid (dnB s n (k + 1) = dnB s n k ++ [ub8 (n / 2 ^ (j * 8))]) := by unfold Hid; rw [dnB_succ, hj]
              have HJ2 : Hid ((s : Int) - 1 - ((k + 1 : Nat) : Int) = (j : Int) - 1) := by unfold Hid; omega
              clear hj hji
              have hnw : ∀ j' u, (bv [ub8 (n / 2 ^ (j * 8))])[j']? = some u → (wr.alloc (.cells #[.int .u8 (n / 2 ^ (j * 8) % 256)] 5)).cell? ((⟨wr.heap.size, 0, none⟩ : Addr).add j') = some u := by
                have e : bv [ub8 (n / 2 ^ (j * 8))] = [.int .u8 (n / 2 ^ (j * 8) % 256)] := by
                  simp only [bv, List.map_cons, List.map_nil, u8i]
                rw [e]
                exact new_cells wr _ _
              obtain ⟨ro, rw0, rk⟩ := hrow.out
              have hRB : RB (wr.alloc (.cells #[.int .u8 (n / 2 ^ (j * 8) % 256)] 5)) W0.heap.size u0 (l ++ [ub8 z] ++ dnB s n k) := .inl (ro.under ((Below.refl _ _).alloc (Nat.le_refl _) _))
              have hsA : W0.heap.size ≤ (wr.alloc (.cells #[.int .u8 (n / 2 ^ (j * 8) % 256)] 5)).heap.size := by
                have := rw0.size
                simp
                omega
              have hlk : (l ++ [ub8 z] ++ dnB s n k).length ≤ 1000000000 := by rw [List.length_append, List.length_append, dnB_len]; simp; omega
              have HNW : Hid _ := hnw
              have HRB : Hid (RB (wr.alloc (.cells #[.int .u8 (n / 2 ^ (j * 8) % 256)] 5)) W0.heap.size u0 (l ++ [ub8 z] ++ dnB s n k)) := hRB
              have HSA : Hid _ := hsA
              have HLK : Hid _ := hlk
              clear hnw hRB hsA hlk hrow ro
              go_wp2_with (first
                | (at_builtin; refine wpList_append_rb rfl _ _ rfl W0.heap.size _ (l ++ [ub8 z] ++ dnB s n k) rfl HRB.out HLK.out HSA.out ⟨wr.heap.size, 0, none⟩ 1 1 [ub8 (n / 2 ^ (j * 8))] rfl (by omega) (by omega) rfl HNW.out ?_; intro v3 w3 o3 g3 k3)
                | fail)
              go_roundg g
              case measure => omega
              case rel => exact ⟨k + 1, by omega, by rw [HJ2.out], by unfold Hid; exact ⟨by rw [HJ.out, ← List.append_assoc]; exact o3, g3 _ _ (by simp; have := rw0.size; omega) (Nat.le_refl _) (rw0.alloc rw0.size _), (rk.trans (Keep.alloc _ _)).trans k3⟩⟩
end Go.Proofs.YtfjibcldghnjcaaDoor
