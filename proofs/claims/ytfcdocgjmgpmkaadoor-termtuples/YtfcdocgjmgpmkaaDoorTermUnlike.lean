
/-
  term.unlike: 0, if two terms are the same as far as their own fields go, and have as many parts; else 1.
-/
import Derived.Test.YtfcdocgjmgpmkaaDoorTermAlike
namespace Go.Proofs.YtfcdocgjmgpmkaaDoor
open Go.RowKit
set_option linter.unusedVariables false
set_option linter.unusedSimpArgs false

set_option maxRecDepth 100000 in
set_option maxHeartbeats 8000000 in
theorem unlike_raw (k k2 : Int) (n1 n2 : Bool) (L1 L2 : List Int) (S1 S2 : ByteArray) (N1 N2 : Int) (c1 c2 : Nat) (pl1 pl2 pk1 pk2 : Option Addr) (cl1 cl2 ck1 ck2 : Nat) (w : World)
    (h1 : Sl w (.slice pl1 L1.length cl1) L1) (h2 : Sl w (.slice pl2 L2.length cl2) L2) :
    Calls Tryd.prog 25 #[.agg #[.int .i64 k, .bool n1, .slice pl1 L1.length cl1, .string S1, .int .i64 N1, .slice pk1 c1 ck1], .agg #[.int .i64 k2, .bool n2, .slice pl2 L2.length cl2, .string S2, .int .i64 N2, .slice pk2 c2 ck2]] w fun e w' => e = .returned (.int .i64 (if (decide (k = k2) && alikeR k n1 n2 L1 L2 S1 S2 N1 N2 c1 c2) = true then 0 else 1)) ∧ Below w.heap.size w w' := by
  obtain ⟨r, hr⟩ : ∃ r, alikeR k n1 n2 L1 L2 S1 S2 N1 N2 c1 c2 = r := ⟨_, rfl⟩
  have HR : Hid (alikeR k n1 n2 L1 L2 S1 S2 N1 N2 c1 c2 = r) := hr
  rw [hr]; clear hr
  obtain ⟨q, hq⟩ : ∃ q : Int, (if (decide (k = k2) && r) = true then 0 else 1) = q := ⟨_, rfl⟩
  have HQ : Hid ((if (decide (k = k2) && r) = true then 0 else 1) = q) := hq
  rw [hq]; clear hq
  by_cases e : k = k2
  · subst e
    have HB : Hid (Below w.heap.size w ((w.alloc (.cells #[.int .i64 k, .bool n1, .slice pl1 L1.length cl1, .string S1, .int .i64 N1, .slice pk1 c1 ck1] 27)).alloc (.cells #[.int .i64 k, .bool n2, .slice pl2 L2.length cl2, .string S2, .int .i64 N2, .slice pk2 c2 ck2] 27))) := ((Below.refl w.heap.size w).alloc (Nat.le_refl _) _).alloc (by simp) _
    have u1 : Hid (Sl ((w.alloc (.cells #[.int .i64 k, .bool n1, .slice pl1 L1.length cl1, .string S1, .int .i64 N1, .slice pk1 c1 ck1] 27)).alloc (.cells #[.int .i64 k, .bool n2, .slice pl2 L2.length cl2, .string S2, .int .i64 N2, .slice pk2 c2 ck2] 27)) (.slice pl1 L1.length cl1) L1) := h1.below HB.out
    have u2 : Hid (Sl ((w.alloc (.cells #[.int .i64 k, .bool n1, .slice pl1 L1.length cl1, .string S1, .int .i64 N1, .slice pk1 c1 ck1] 27)).alloc (.cells #[.int .i64 k, .bool n2, .slice pl2 L2.length cl2, .string S2, .int .i64 N2, .slice pk2 c2 ck2] 27)) (.slice pl2 L2.length cl2) L2) := h2.below HB.out
    have fk : (k == k) = true := by simp
    clear h1 h2
    go_enter Tryd.func25, Tryd.ntmps25
    go_wp2_with fail
    refine (alike_raw k k n1 n2 L1 L2 S1 S2 N1 N2 c1 c2 pl1 pl2 pk1 pk2 cl1 cl2 ck1 ck2 _ u1.out u2.out).mono ?_
    rw [HR.out]
    rintro e w1 ⟨rfl, b1⟩
    have hbb := HB.out.trans (b1.mono HB.out.size)
    clear HB u1 u2 HR b1
    cases r with
    | true =>
      have HZ : Hid (q = 0) := by show q = 0; rw [← HQ.out]; simp
      clear HQ
      go_wp2_with fail
      go_ret
      exact ⟨by rw [HZ.out]; rfl, hbb⟩
    | false =>
      have HZ : Hid (q = 1) := by show q = 1; rw [← HQ.out]; simp
      clear HQ
      go_wp2_with fail
      go_ret
      exact ⟨by rw [HZ.out]; rfl, hbb⟩
  · have fk : (k == k2) = false := by simp [e]
    have HB : Hid (Below w.heap.size w ((w.alloc (.cells #[.int .i64 k, .bool n1, .slice pl1 L1.length cl1, .string S1, .int .i64 N1, .slice pk1 c1 ck1] 27)).alloc (.cells #[.int .i64 k2, .bool n2, .slice pl2 L2.length cl2, .string S2, .int .i64 N2, .slice pk2 c2 ck2] 27))) := ((Below.refl w.heap.size w).alloc (Nat.le_refl _) _).alloc (by simp) _
    have HZ : Hid (q = 1) := by show q = 1; rw [← HQ.out]; simp [e]
    clear HQ HR h1 h2
    go_enter Tryd.func25, Tryd.ntmps25
    go_wp2_with fail
    go_ret
    exact ⟨by rw [HZ.out]; rfl, HB.out⟩

/-- The same as far as the own fields go, and as many parts. -/
def Tm.alike (a b : Tm) : Bool := decide (a.kind = b.kind) && alikeR a.kind a.neg b.neg a.limbs b.limbs a.str b.str a.num b.num a.kids.length b.kids.length

theorem unlike_any (a b : Tm) (va vb : Value) (w : World) (ha : IsT w a va) (hb : IsT w b vb) :
    Calls Tryd.prog 25 #[va, vb] w fun e w' => e = .returned (.int .i64 (if a.alike b = true then 0 else 1)) ∧ Below w.heap.size w w' := by
  obtain ⟨sl1, sk1, rfl, hl1, hk1, -⟩ := ha.open
  obtain ⟨sl2, sk2, rfl, hl2, hk2, -⟩ := hb.open
  obtain ⟨pl1, cl1, rfl⟩ := hl1.shape
  obtain ⟨pl2, cl2, rfl⟩ := hl2.shape
  obtain ⟨pk1, ck1, rfl, -⟩ := hk1.shape
  obtain ⟨pk2, ck2, rfl, -⟩ := hk2.shape
  exact unlike_raw _ _ _ _ _ _ _ _ _ _ _ _ _ _ _ _ _ _ _ _ w hl1 hl2
end Go.Proofs.YtfcdocgjmgpmkaaDoor
