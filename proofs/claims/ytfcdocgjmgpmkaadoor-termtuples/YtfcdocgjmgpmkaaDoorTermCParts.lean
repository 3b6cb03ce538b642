
/-
  term.comparedParts (a Cons of two parts or more), and term.compare of trees.
-/
import Derived.Test.YtfcdocgjmgpmkaaDoorZTermG
import Derived.Test.YtfcdocgjmgpmkaaDoorZTermC
import Derived.Test.YtfcdocgjmgpmkaaDoorTermCompare
namespace Go.Proofs.YtfcdocgjmgpmkaaDoor
open Go.RowKit
set_option linter.unusedVariables false
set_option linter.unusedSimpArgs false

/-- What is compared of a term's parts, where a Cons has two. -/
def Tm.cparts (t : Tm) : List Tm := if t.kind = 4 then t.kids.take 2 else t.parts

set_option maxRecDepth 100000 in
set_option maxHeartbeats 4000000 in
theorem cparts_any (t : Tm) (v : Value) (w : World) (h : IsT w t v) (h4 : t.kind = 4 → 2 ≤ t.kids.length) : Calls Tryd.prog 24 #[v] w fun e w' => TsPost w t.cparts e w' := by
  have h0 := h
  obtain ⟨sl, sk, rfl, hl, hk, -, -, -⟩ := h.open
  obtain ⟨pl, cl, rfl⟩ := hl.shape
  obtain ⟨pk, ck, rfl, -⟩ := hk.shape
  simp only [tmV] at *
  have HB1 : Hid (Below w.heap.size w (w.alloc (.cells #[.int .i64 t.kind, .bool t.neg, .slice pl t.limbs.length cl, .string t.str, .int .i64 t.num, .slice pk t.kids.length ck] 27))) := (Below.refl w.heap.size w).alloc (Nat.le_refl _) _
  have HI : Hid (IsT (w.alloc (.cells #[.int .i64 t.kind, .bool t.neg, .slice pl t.limbs.length cl, .string t.str, .int .i64 t.num, .slice pk t.kids.length ck] 27)) t (.agg #[.int .i64 t.kind, .bool t.neg, .slice pl t.limbs.length cl, .string t.str, .int .i64 t.num, .slice pk t.kids.length ck])) := h0.under HB1.out
  obtain ⟨q, hq⟩ : ∃ q, t.cparts = q := ⟨_, rfl⟩
  have HQ : Hid (t.cparts = q) := hq
  rw [hq]
  clear hq hk hl h h0
  by_cases k4 : t.kind = 4
  · have HZ : Hid (q = t.kids.take 2) := by show q = _; rw [← HQ.out, Tm.cparts, if_pos k4]
    have h2 := h4 k4
    have fk : (t.kind == 4) = true := by simp [k4]
    clear HQ k4 h4
    go_enter Tryd.func24, Tryd.ntmps24
    go_wp2_with fail
    refine (ends_two t _ _ HI.out h2).mono ?_
    rintro e w1 ⟨⟨s, rfl, hs⟩, b1⟩
    have HS : Hid (Ts w1 s (t.kids.take 2)) := hs.under b1
    have hbb := HB1.out.trans (b1.mono HB1.out.size)
    obtain ⟨pz, cz, es, -⟩ := hs.shape
    rw [show (t.kids.take 2).length = 2 by simp; omega] at es
    subst es
    clear HB1 HI hs b1
    go_wp2_with fail
    go_ret
    exact ⟨_, rfl, by rw [HZ.out]; exact HS.out, hbb⟩
  · have HZ : Hid (q = t.parts) := by show q = _; rw [← HQ.out, Tm.cparts, if_neg k4]
    have fk : (t.kind == 4) = false := by simp [k4]
    clear HQ k4 h4
    go_enter Tryd.func24, Tryd.ntmps24
    go_wp2_with fail
    refine (parts_any t _ _ HI.out).mono ?_
    rintro e w1 ⟨s, rfl, hs, b1⟩
    have HS : Hid (Ts w1 s t.parts) := hs
    have hbb := HB1.out.trans (b1.mono HB1.out.size)
    obtain ⟨pz, cz, rfl, -⟩ := hs.shape
    clear HB1 HI hs b1
    go_wp2_with fail
    go_ret
    exact ⟨_, rfl, by rw [HZ.out]; exact HS.out, hbb⟩

/-- The order of two terms as far as their own fields go. -/
def Tm.cmp1 (a b : Tm) : Int := compareR a.kind b.kind a.neg b.neg a.limbs b.limbs a.str b.str a.num b.num a.kids.length b.kids.length

theorem compare_any (a b : Tm) (va vb : Value) (w : World) (ho : Ord w) (ha : IsT w a va) (hb : IsT w b vb) :
    Calls Tryd.prog 23 #[va, vb] w fun e w' => e = .returned (.int .i64 (a.cmp1 b)) ∧ Below w.heap.size w w' := by
  obtain ⟨sl1, sk1, rfl, hl1, hk1, -⟩ := ha.open
  obtain ⟨sl2, sk2, rfl, hl2, hk2, -⟩ := hb.open
  obtain ⟨pl1, cl1, rfl⟩ := hl1.shape
  obtain ⟨pl2, cl2, rfl⟩ := hl2.shape
  obtain ⟨pk1, ck1, rfl, -⟩ := hk1.shape
  obtain ⟨pk2, ck2, rfl, -⟩ := hk2.shape
  exact compare_raw _ _ _ _ _ _ _ _ _ _ _ _ _ _ _ _ _ _ _ _ w ho hl1 hl2
end Go.Proofs.YtfcdocgjmgpmkaaDoor
