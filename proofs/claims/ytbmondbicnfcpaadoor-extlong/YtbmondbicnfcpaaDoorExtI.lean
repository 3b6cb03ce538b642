
/-
  ext: Put.
-/
import Derived.Test.YtbmondbicnfcpaaDoorExtH
namespace Go.Proofs.YtbmondbicnfcpaaDoor
open Go.RowKit
set_option linter.unusedVariables false
set_option linter.unusedSimpArgs false

set_option maxRecDepth 100000 in
theorem clipB_any (v : Value) (l : List UInt8) (w : World) (h : By w v l) : Calls Tryd.prog 42 #[v] w fun e w' => ∃ a, e = .returned (.slice a l.length l.length) ∧ By w (.slice a l.length l.length) l ∧ w' = w := by
  obtain ⟨a, cap, rfl, hc, hm, hn⟩ := h.shape
  have h2 := h.take l.length l.length (Nat.le_refl _) (Nat.le_refl _) hc
  rw [List.take_length] at h2
  have hi : (l.length : Int) ≤ (cap : Int) := by omega
  cases a with
  | none =>
    have hz := hn rfl
    subst hz
    obtain rfl : l = [] := List.eq_nil_of_length_eq_zero (by omega)
    go_enter Tryd.func42, Tryd.ntmps42
    go_wp2_with fail
    go_ret
    exact ⟨none, rfl, By.nil w, rfl⟩
  | some ad =>
    go_enter Tryd.func42, Tryd.ntmps42
    go_wp2_with fail
    go_ret
    exact ⟨some ad, by simp, h2, rfl⟩

theorem RdT.lit1 {W0 W : World} {g : Nat} {c0 c1 c2 c3 c4 c5 : Value} {t : Tm} (h : W.heap[g]? = some (.cells #[c0, c1, c2, c3, c4, c5] 29 (0, 0))) (ht : IsT W0 t (.agg #[c0, c1, c2, c3, c4, c5])) : RdT W0 W (.slice (some ⟨g, 0, none⟩) 1 1) [t] := by
  refine ⟨some ⟨g, 0, none⟩, 1, fun _ => .agg #[c0, c1, c2, c3, c4, c5], rfl, ⟨by simp, by decide, (fun e => by cases e)⟩, fun _ => ⟨g, 0, rfl, .inr ⟨_, h, fun cs e => by injection e with _ e2 _; exact absurd e2 (by decide)⟩, fun i hi => ?_⟩, fun i hi => ?_⟩
  · obtain rfl : i = 0 := by simp at hi; omega
    exact ⟨c0, c1, c2, c3, c4, c5, rfl, by simp [World.cell?, h], by simp [World.cell?, h], by simp [World.cell?, h], by simp [World.cell?, h], by simp [World.cell?, h], by simp [World.cell?, h]⟩
  · obtain rfl : i = 0 := by simp at hi; omega
    exact ht

set_option maxRecDepth 100000 in
set_option maxHeartbeats 4000000 in
theorem eput_any (v tv : Value) (l : List UInt8) (t : Tm) (w : World) (h : By w v l) (hl : l.length ≤ 80000000) (ht : IsT w t tv) :
    Calls Tryd.prog 16 #[v, tv] w fun e w' => PPost w l t e w' := by
  have h0 := ht
  obtain ⟨sl, sk, rfl, hls, hk, -⟩ := ht.open
  obtain ⟨pl, cl, rfl⟩ := hls.shape
  obtain ⟨pk, ck, rfl, -⟩ := hk.shape
  obtain ⟨ok, hok⟩ : ∃ ok, t.ok = ok := ⟨_, rfl⟩
  have HOK : Hid (t.ok = ok) := hok
  have HI : Hid (IsT w t (tmV t.kind t.neg (.slice pl t.limbs.length cl) t.str t.num (.slice pk t.kids.length ck))) := h0
  obtain ⟨wA, hwA⟩ : ∃ wA, w.alloc (.cells #[.int .i64 t.kind, .bool t.neg, .slice pl t.limbs.length cl, .string t.str, .int .i64 t.num, .slice pk t.kids.length ck] 29) = wA := ⟨_, rfl⟩
  have hBt : Bt wA w.heap.size t.kind t.neg (.slice pl t.limbs.length cl) t.str t.num (.slice pk t.kids.length ck) := by rw [← hwA]; exact Bt.new w _ _ _ _ _ _ ⟨_, _, _, rfl⟩ ⟨_, _, _, rfl⟩
  have hBA : Below w.heap.size w wA := by rw [← hwA]; exact (Below.refl _ _).alloc (Nat.le_refl _) _
  have hyA := h.under hBA
  have HBt : Hid (Bt wA w.heap.size t.kind t.neg (.slice pl t.limbs.length cl) t.str t.num (.slice pk t.kids.length ck)) := hBt
  have HBA : Hid (Below w.heap.size w wA) := hBA
  obtain ⟨a0, a1, a2, a3, a4, a5⟩ := hBt.cells
  clear ht h0 hls hk hok hBt hBA h
  simp only [tmV]
  go_enter Tryd.func16, Tryd.ntmps16
  go_wp2_with fail
  refine (clipB_any v l wA hyA).mono ?_
  rintro e w1 ⟨a, rfl, hy, rfl⟩
  have HRB : Hid (RB w1 w.heap.size (.slice a l.length l.length) l) := .inr ⟨hy, a, rfl⟩
  clear hy hyA
  go_wp2_with fail
  refine (tcheck_any t _ w1 (HI.out.under HBA.out)).mono ?_
  rintro e w2 ⟨rfl, b2⟩
  rw [HOK.out]
  obtain ⟨d0, d1, d2, d3, d4, d5⟩ := (HBt.out.under b2).cells
  have hR2 := HRB.out.under b2
  have HW2 : Hid (Below w.heap.size w w2) := HBA.out.trans (b2.mono HBA.out.size)
  have HR2 : Hid (RB w2 w.heap.size (.slice a l.length l.length) l) := hR2
  clear b2 hR2 hwA
  cases ok with
  | false =>
    go_wp2_with fail
    go_ret
    refine ⟨_, rfl, ?_, ?_, HW2.out⟩
    · rw [putO, if_neg (by rw [HOK.out]; decide), List.append_nil]; exact HR2.out
    · rw [putO, if_neg (by rw [HOK.out]; decide)]; simp
  | true =>
    have ho := (ok_iff t).1 HOK.out
    have HO1 : Hid (okD t 1) := ho.1
    have hn2 := ho.2
    have ba := (Below.refl w2.heap.size w2).alloc (Nat.le_refl _) (.cells #[.int .i64 t.kind, .bool t.neg, .slice pl t.limbs.length cl, .string t.str, .int .i64 t.num, .slice pk t.kids.length ck] 29)
    have HWa : Hid (Below w.heap.size w (w2.alloc (.cells #[.int .i64 t.kind, .bool t.neg, .slice pl t.limbs.length cl, .string t.str, .int .i64 t.num, .slice pk t.kids.length ck] 29))) := HW2.out.trans (ba.mono HW2.out.size)
    have HRa : Hid (RB (w2.alloc (.cells #[.int .i64 t.kind, .bool t.neg, .slice pl t.limbs.length cl, .string t.str, .int .i64 t.num, .slice pk t.kids.length ck] 29)) w.heap.size (.slice a l.length l.length) l) := HR2.out.under ba
    have HLit : Hid (RdT w (w2.alloc (.cells #[.int .i64 t.kind, .bool t.neg, .slice pl t.limbs.length cl, .string t.str, .int .i64 t.num, .slice pk t.kids.length ck] 29)) (.slice (some ⟨w2.heap.size, 0, none⟩) 1 1) [t]) := RdT.lit1 (heap_alloc_new w2 _) HI.out
    clear ba ho
    go_wp2_with fail
    refine (putAll_any [t] w _ _ _ l HWa.out HRa.out HLit.out (fun x hx => by simp only [List.mem_singleton] at hx; subst hx; exact ⟨_, HO1.out⟩) (by simp [nodesL]; omega)).mono ?_
    rintro e w3 ⟨v3, rfl, r3, -, -, l3, b3, k3⟩
    have HR3 : Hid (RB w3 w.heap.size v3 (l ++ putO t)) := by rw [putO, if_pos HOK.out, ← putK_one]; exact r3
    have HL3 : Hid ((putO t).length ≤ 820000) := by
      rw [putO, if_pos HOK.out, ← putK_one]
      show _ ≤ _
      have : nodesL [t] = t.nodes := by simp [nodesL]
      omega
    have HB3 : Hid (Below w.heap.size w w3) := b3
    clear r3 l3 b3 k3
    go_wp2_with fail
    go_ret
    exact ⟨v3, rfl, HR3.out, HL3.out, HB3.out⟩
end Go.Proofs.YtbmondbicnfcpaaDoor
