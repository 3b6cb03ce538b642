/-
  num.read: the size of which these are the digits.
-/
import Derived.Test.YtmhcgdigccaogaaNumCut
import Derived.Deep.CutRange
namespace Go.Proofs.Ytmhcgdigccaogaa
open Go.RowKit
set_option linter.unusedVariables false

/-- A byte's digit, as the machine reckons it. -/
def dgt (b : UInt8) : Int := ((b.toNat : Int) - 48) % 256
/-- The number that read makes of bytes. -/
def rd (L : List UInt8) : Int := L.foldl (fun a b => a * 10 + dgt b) 0

theorem rd_snoc (L : List UInt8) (b : UInt8) : rd (L ++ [b]) = rd L * 10 + dgt b := by simp [rd]

theorem dgt_bd (b : UInt8) : 0 ≤ dgt b ∧ dgt b < 4294967296 := by unfold dgt; omega

/-- Slices written out in a region that draws: ten, and a digit, in either order. -/
theorem lit_A (w : World) : Sl (w.alloc (.cells #[.int .u32 10] 53)).drew (.slice (some ⟨w.heap.size, 0, none⟩) 1 1) [10] := (sl_lit w 10 (by decide) (by decide)).below ((Below.refl _ _).drew)
theorem lit_AD (w : World) (d : Int) (h0 : 0 ≤ d) (h1 : d < 4294967296) : Sl ((w.alloc (.cells #[.int .u32 10] 53)).alloc (.cells #[.int .u32 d] 53)).drew (.slice (some ⟨w.heap.size, 0, none⟩) 1 1) [10] ∧
    Sl ((w.alloc (.cells #[.int .u32 10] 53)).alloc (.cells #[.int .u32 d] 53)).drew (.slice (some ⟨w.heap.size + 1, 0, none⟩) 1 1) [d] := by
  refine ⟨(sl_lit w 10 (by decide) (by decide)).below (((Below.refl _ _).alloc (Nat.le_refl _) _).drew), ?_⟩
  have := (sl_lit (w.alloc (.cells #[.int .u32 10] 53)) d h0 h1).below ((Below.refl _ _).drew)
  rwa [World.size_alloc] at this
theorem lit_DA (w : World) (d : Int) (h0 : 0 ≤ d) (h1 : d < 4294967296) : Sl ((w.alloc (.cells #[.int .u32 d] 53)).alloc (.cells #[.int .u32 10] 53)).drew (.slice (some ⟨w.heap.size + 1, 0, none⟩) 1 1) [10] ∧
    Sl ((w.alloc (.cells #[.int .u32 d] 53)).alloc (.cells #[.int .u32 10] 53)).drew (.slice (some ⟨w.heap.size, 0, none⟩) 1 1) [d] := by
  refine ⟨?_, (sl_lit w d h0 h1).below (((Below.refl _ _).alloc (Nat.le_refl _) _).drew)⟩
  have := (sl_lit (w.alloc (.cells #[.int .u32 d] 53)) 10 (by decide) (by decide)).below ((Below.refl _ _).drew)
  rwa [World.size_alloc] at this
theorem bel_A (w : World) (o : Obj) : Below w.heap.size w (w.alloc o).drew := ((Below.refl _ _).alloc (Nat.le_refl _) o).drew
theorem bel_AD (w : World) (o o2 : Obj) : Below w.heap.size w ((w.alloc o).alloc o2).drew := (((Below.refl _ _).alloc (Nat.le_refl _) o).alloc (by simp) o2).drew

set_option maxHeartbeats 8000000 in
theorem read_any (s : ByteArray) (w : World) (hl : s.size ≤ 1000) : Calls Try.prog 51 #[.string s] w fun e w' => NumPost w (rd s.data.toList) (3 * s.size) e w' := by
  go_enter Try.func51, Try.ntmps51
  go_wp2_with fail
  go_loopg [3, 7] s.size (fun gk out i wr => ∃ k zs, k + gk = s.size ∧ i = .int .i64 (k : Int) ∧ Sl wr out zs ∧ Nm zs ∧ V zs = rd (s.data.toList.take k) ∧ zs.length ≤ 3 * k ∧ Below w.heap.size w wr ∧ ∀ b, out.ownBlock = some b → w.heap.size ≤ b)
  case atStart => exact ⟨0, [], by omega, rfl, Sl.nil _, Nm_nil, rfl, by simp, Below.refl _ _, fun b hb => by cases hb⟩
  case round =>
    obtain ⟨k, zs, hk, rfl, hs, hn, hv, hlz, hB, hnew⟩ := hrel
    cases gk with
    | zero =>
      obtain rfl : k = s.size := by omega
      have HV : Hid (V zs = rd s.data.toList) := by
        show V zs = _
        rw [hv, List.take_of_length_le (by rw [← Lib.size_eq]; exact Nat.le_refl _)]
      have hkk : ¬ ((s.size : Int) < (s.size : Int)) := by omega
      clear hv
      go_wp2_with fail
      go_ret
      exact ⟨_, zs, rfl, hs, hn, HV.out, hlz, hB, hnew⟩
    | succ q =>
      have hkl : (k : Int) < (s.size : Int) := by omega
      have hkl2 : k < s.size := by omega
      have hget : s.data.toList[k]? = some s[k] := Lib.data_getElem? s k hkl2
      have HT : Hid (rd (s.data.toList.take (k + 1)) = V zs * 10 + dgt s[k]) := by
        show _ = _
        rw [List.take_add_one, hget, hv]
        exact rd_snoc _ _
      obtain ⟨d, hd⟩ : ∃ d, d = dgt s[k] := ⟨_, rfl⟩
      have hdb := dgt_bd s[k]
      rw [← hd] at hdb HT
      have hidx : ∀ wx, (Instr.index 9 (.string s) (.int .i64 (k : Int))).run Try.prog wx = .ok (.int .u8 ((s[k].toNat : Nat) : Int)) wx := fun wx => by
        rw [run_index_string _ _ _ _ _ Try.underlying9]
        simp [hkl2]
      have hwd : IntKind.u8.wrap (((s[k].toNat : Nat) : Int) - 48) = d := by rw [hd, IntKind.wrap_u8]; rfl
      generalize ((s[k].toNat : Nat) : Int) = cb at hidx hwd
      have hd8 : d < 256 := by rw [hd]; unfold dgt; omega
      have hw32 : IntKind.u32.wrap d = d := by rw [IntKind.wrap_u32]; omega
      clear hv hget hd
      go_wp2_with fail
      obtain ⟨wA, hwA, sA, tA, bA⟩ : ∃ x, x = (wr.alloc (.cells #[.int .u32 10] 53)).drew ∧ Sl x _ [10] ∧ Sl x u3 zs ∧ Below wr.heap.size wr x := ⟨_, rfl, lit_A wr, hs.below (bel_A _ _), bel_A _ _⟩
      obtain ⟨wB, hwB, sB, eB, tB, bB⟩ : ∃ x, x = ((wr.alloc (.cells #[.int .u32 10] 53)).alloc (.cells #[.int .u32 d] 53)).drew ∧ Sl x _ [10] ∧ Sl x _ [d] ∧ Sl x u3 zs ∧ Below wr.heap.size wr x := ⟨_, rfl, (lit_AD wr d hdb.1 hdb.2).1, (lit_AD wr d hdb.1 hdb.2).2, hs.below (bel_AD _ _ _), bel_AD _ _ _⟩
      obtain ⟨wD, hwD, sD, eD, tD, bD⟩ : ∃ x, x = ((wr.alloc (.cells #[.int .u32 d] 53)).alloc (.cells #[.int .u32 10] 53)).drew ∧ Sl x _ [10] ∧ Sl x _ [d] ∧ Sl x u3 zs ∧ Below wr.heap.size wr x := ⟨_, rfl, (lit_DA wr d hdb.1 hdb.2).1, (lit_DA wr d hdb.1 hdb.2).2, hs.below (bel_AD _ _ _), bel_AD _ _ _⟩
      have HA : Hid (wA = (wr.alloc (.cells #[.int .u32 10] 53)).drew) := hwA
      have HBB : Hid (wB = ((wr.alloc (.cells #[.int .u32 10] 53)).alloc (.cells #[.int .u32 d] 53)).drew) := hwB
      have HD : Hid (wD = ((wr.alloc (.cells #[.int .u32 d] 53)).alloc (.cells #[.int .u32 10] 53)).drew) := hwD
      clear hwA hwB hwD
      go_region_with (first
          | (go_at_call 32; rw [← HD.out]; refine (mul_any _ _ zs [10] wD tD sD (by omega) (by simp)).mono ?_; rintro e wm ⟨vm, zm, rfl, sm, mm, xm, lm, bm, -⟩; have XM : Hid (V zm = V zs * V [10]) := xm; clear xm; have hm : Below wr.heap.size wr wm := bD.trans (bm.mono bD.size); have sd := eD.below bm)
          | (go_at_call 32; rw [← HBB.out]; refine (mul_any _ _ zs [10] wB tB sB (by omega) (by simp)).mono ?_; rintro e wm ⟨vm, zm, rfl, sm, mm, xm, lm, bm, -⟩; have XM : Hid (V zm = V zs * V [10]) := xm; clear xm; have hm : Below wr.heap.size wr wm := bB.trans (bm.mono bB.size); have sd := eB.below bm)
          | (go_at_call 32; rw [← HA.out]; refine (mul_any _ _ zs [10] wA tA sA (by omega) (by simp)).mono ?_; rintro e wm ⟨vm, zm, rfl, sm, mm, xm, lm, bm, -⟩; have XM : Hid (V zm = V zs * V [10]) := xm; clear xm; have hm : Below wr.heap.size wr wm := bA.trans (bm.mono bA.size))
          | (go_at_call 55; refine (add_any _ _ zm [d] _ sm sd (by simp at lm; omega) (by simp)).mono ?_; rintro e wa ⟨va, za, rfl, sa, ma, xa, la, ba, na⟩; have XA : Hid (V za = V zm + V [d]) := xa; clear xa; have hA : Below wr.heap.size wr wa := hm.trans (ba.mono hm.size))
          | (go_at_call 55; refine (add_any _ _ zm [d] _ (sm.below ((Below.refl _ _).alloc (Nat.le_refl _) _)) (sl_lit wm d hdb.1 hdb.2) (by simp at lm; omega) (by simp)).mono ?_; rintro e wa ⟨va, za, rfl, sa, ma, xa, la, ba, na⟩; have XA : Hid (V za = V zm + V [d]) := xa; clear xa; have hA : Below wr.heap.size wr wa := (hm.alloc hm.size _).trans (ba.mono (hm.alloc hm.size _).size)))
      all_goals
        have HF : Hid (V za = rd (s.data.toList.take (k + 1))) := by
          show V za = _
          rw [XA.out, XM.out, HT.out]; simp [V]
        have hlz2 : za.length ≤ 3 * (k + 1) := by simp at la lm; omega
        have hBF := hB.trans (hA.mono hB.size)
        have hnF : ∀ b, va.ownBlock = some b → w.heap.size ≤ b := fun b hb => by
          have h0 := na b hb
          have h1 := hB.size
          have h2 := hm.size
          first | omega | (simp at h0; omega)
        clear hB hs hnew la lm na
        go_wp2_with fail
        go_roundg q
        case measure => omega
        case rel => exact ⟨k + 1, za, by omega, by go_num, sa, ma, HF.out, hlz2, hBF, hnF⟩
end Go.Proofs.Ytmhcgdigccaogaa
