/-
  What the laws of layer 1 share: awake (the document's example), few; the numbers of known lists.
-/
import Derived.Test.YtedomcijnoekhaaTake
namespace Go.Proofs.Ytedomcijnoekhaa
open Go.RowKit
set_option linter.unusedVariables false

theorem few_yes (p q : Option Addr) (m n c d : Nat) (w : World) (h : m ≤ 30) (k : n ≤ 30) : Calls Try.prog 9 #[.slice p m c, .slice q n d] w fun e w' => e = .returned (.bool true) ∧ w = w' := by
  have h' : (m : Int) ≤ 30 := by omega
  have k' : (n : Int) ≤ 30 := by omega
  go_enter Try.func9, Try.ntmps9
  go_wp2
  go_ret
  exact ⟨rfl, rfl⟩

theorem few_no (p q : Option Addr) (m n c d : Nat) (w : World) (h : ¬ (m ≤ 30 ∧ n ≤ 30)) : Calls Try.prog 9 #[.slice p m c, .slice q n d] w fun e w' => e = .returned (.bool false) ∧ w = w' := by
  by_cases hm : m ≤ 30
  · have h' : (m : Int) ≤ 30 := by omega
    have k' : ¬ (n : Int) ≤ 30 := by omega
    go_enter Try.func9, Try.ntmps9
    go_wp2
    go_ret
    exact ⟨rfl, rfl⟩
  · have h' : ¬ (m : Int) ≤ 30 := by omega
    go_enter Try.func9, Try.ntmps9
    go_wp2
    go_ret
    exact ⟨rfl, rfl⟩

/-- A slice of uint32 that came in, as the row's step tells it, is a slice whose numbers are known. -/
theorem sl_of_row {w : World} {a : Option Addr} {len cap : Nat} {zs : List Int}
    (h : (a = none ∧ len = 0 ∧ cap = 0 ∧ zs = []) ∨
      ∃ x, a = some x ∧ len ≤ cap ∧ cap ≤ maxLen ∧ zs.length = cap ∧ (∀ i, i < zs.length → w.cell? (x.add i) = some (.int .u32 (zs.getD i 0))) ∧ ∀ n ∈ zs, (Lit.int .u32 n).wf = true) :
    Sl w (.slice a len cap) (zs.take len) := by
  rcases h with ⟨rfl, rfl, rfl, rfl⟩ | ⟨x, rfl, hl, hm, hz, hc, hw⟩
  · exact Sl.nil w
  · refine ⟨?_, _, len, cap, rfl, by simp; omega, hl, by simpa [maxLen] using hm, fun e => (by cases e), fun h0 => ?_⟩
    · intro z hz'
      have h1 := hw z (List.mem_of_mem_take hz')
      simp [Lit.wf, IntKind.min, IntKind.max, IntKind.signed, IntKind.bits] at h1
      omega
    · obtain ⟨b, off, spot⟩ := x
      have h1 := hc 0 (by omega)
      have hspot : spot = none := by simpa [Addr.add] using World.cell?_spot h1
      subst hspot
      have hlt : b < w.heap.size := by
        have := World.block_lt_of_cell? w _ h1
        simpa [Addr.add] using this
      refine ⟨b, off, rfl, hlt, fun i hi => ?_⟩
      have h2 := hc i (by omega)
      rw [show (⟨b, off, none⟩ : Addr).add i = ⟨b, off + i, none⟩ by unfold Addr.add; split <;> simp_all] at h2
      rw [h2]
      simp [List.getD, hi]

theorem bd64 {n : Int} (h : (Lit.int .i64 n).wf = true) : -9223372036854775808 ≤ n ∧ n ≤ 9223372036854775807 := by
  simp [Lit.wf, IntKind.min, IntKind.max, IntKind.signed, IntKind.bits] at h
  omega

theorem row_lit (w : World) (z : Int) : Row (w.alloc (.cells #[.int .u32 z] 33)) w.heap.size [z] := by
  unfold Row
  exact heap_alloc_new w _

theorem sl_lit (w : World) (z : Int) (h0 : 0 ≤ z) (h1 : z < 4294967296) : Sl (w.alloc (.cells #[.int .u32 z] 33)) (.slice (some ⟨w.heap.size, 0, none⟩) 1 1) [z] :=
  (row_lit w z).all (by intro y hy; simp at hy; omega) (by simp)

set_option maxHeartbeats 1000000 in
theorem awake_any (w : World) : Calls Try.prog 10 #[] w fun e w' => e = .returned (.bool true) ∧ Below w.heap.size w w' := by
  have sA := sl_lit w 4294967295 (by decide) (by decide)
  have sB0 := sl_lit (w.alloc (.cells #[.int .u32 4294967295] 33)) 4294967295 (by decide) (by decide)
  have sB : Sl ((w.alloc (.cells #[.int .u32 4294967295] 33)).alloc (.cells #[.int .u32 4294967295] 33)) (.slice (some ⟨w.heap.size + 1, 0, none⟩) 1 1) [4294967295] := by simpa using sB0
  have sA' := sA.below ((Below.refl _ _).alloc (Nat.le_refl _) (.cells #[.int .u32 4294967295] 33))
  have hbel := ((Below.refl w.heap.size w).alloc (Nat.le_refl _) (.cells #[.int .u32 4294967295] 33)).alloc (by simp) (.cells #[.int .u32 4294967295] 33)
  clear sB0 sA
  go_enter Try.func10, Try.ntmps10
  go_wp2_with fail
  refine (mul_any _ _ [4294967295] [4294967295] _ sA' sB (by simp) (by simp)).mono ?_
  rintro e w1 ⟨v, zs, rfl, hs, hnm, hv, hl, hb1, -⟩
  have hz : zs = [1, 4294967294] := by
    refine Nm_inj hs.ok ?_ hnm (fun _ => by decide) (hv.trans (by decide))
    intro z hz
    simp at hz
    omega
  subst hz
  have hbw := hbel.trans (hb1.mono (by simp; omega))
  obtain ⟨p, c, rfl⟩ := hs.shape
  obtain ⟨b, off, rfl, c0⟩ := hs.at 0 (by simp)
  obtain ⟨b', off', he, c1⟩ := hs.at 1 (by simp)
  simp at he
  obtain ⟨rfl, rfl⟩ := he
  simp at c0 c1
  clear hv hl hb1 hnm sA' sB hbel
  go_wp2_with fail
  refine (len_any _ [1, 4294967294] _ hs (by simp)).mono ?_
  rintro e w' ⟨n, rfl, rfl, hlen, hn⟩
  have h64 : IsLen (V [1, 4294967294]) 64 := .inr ⟨by decide, by decide +kernel, by decide +kernel⟩
  obtain rfl : n = 64 := hlen.one h64
  clear hlen hn h64
  go_wp2_with fail
  go_ret
  exact ⟨rfl, hbw⟩
end Go.Proofs.Ytedomcijnoekhaa
