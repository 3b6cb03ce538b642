
/-
  relictref03.Same: a term is itself, as it lies twice.
-/
import Derived.Test.YtbmondbicnfcpaaDoorExtPg
import Derived.Test.YtbmondbicnfcpaaDoorTermRW2
import Derived.Deep.RegionLaw
namespace Go.Proofs.YtbmondbicnfcpaaDoor
open Go.RowKit
set_option linter.unusedVariables false
set_option linter.unusedSimpArgs false

set_option maxRecDepth 100000 in
set_option maxHeartbeats 4000000 in
theorem sameNumR_yes (neg : Bool) (va vb : Value) (a : List Int) (w : World) (ha : Sl w va a) (hb : Sl w vb a) :
    Calls Tryd.prog 39 #[.agg #[.bool neg, va], .agg #[.bool neg, vb]] w fun e w' => e = .returned (.bool true) ∧ Below w.heap.size w w' := by
  obtain ⟨pa, ca, rfl⟩ := ha.shape
  obtain ⟨pb, cb, rfl⟩ := hb.shape
  obtain ⟨hB, u1, u2⟩ := boxes2' w neg neg pa pb a.length ca a.length cb
  have hne : ((a.length : Int) != (a.length : Int)) = false := by simp
  have hnn : (neg != neg) = false := by simp
  have hlen := ha.len
  replace ha := ha.below hB
  replace hb := hb.below hB
  have HB : Hid (Below w.heap.size w ((w.alloc (.cells #[.bool neg, .slice pa a.length ca] 26)).alloc (.cells #[.bool neg, .slice pb a.length cb] 26))) := hB
  obtain ⟨w2, hw2⟩ : ∃ w2, (w.alloc (.cells #[.bool neg, .slice pa a.length ca] 26)).alloc (.cells #[.bool neg, .slice pb a.length cb] 26) = w2 := ⟨_, rfl⟩
  rw [hw2] at u1 u2 ha hb HB
  have HU1 : Hid (Bx w2 w.heap.size neg (.slice pa a.length ca)) := u1
  have HU2 : Hid (Bx w2 (w.heap.size + 1) neg (.slice pb a.length cb)) := u2
  have HA : Hid (Sl w2 (.slice pa a.length ca) a) := ha
  have HBB : Hid (Sl w2 (.slice pb a.length cb) a) := hb
  obtain ⟨q0, q1, -⟩ := u1.facts
  obtain ⟨r0, r1, -⟩ := u2.facts
  clear u1 u2 hB ha hb
  go_enter Tryd.func39, Tryd.ntmps39
  go_wp2_with fail
  go_loopg [5] a.length (fun gk si wr => ∃ k : Nat, k + gk = a.length ∧ si = .int .i64 (k : Int) ∧ Hid (Below w2.heap.size w2 wr))
  case atStart => exact ⟨0, by omega, rfl, Below.refl _ _⟩
  case round =>
    clear q0 q1 r0 r1
    obtain ⟨k, hk, rfl, HBR⟩ := hrel
    obtain ⟨q0, q1, -⟩ := (HU1.out.under HBR.out).facts
    obtain ⟨r0, r1, -⟩ := (HU2.out.under HBR.out).facts
    cases gk with
    | zero =>
      obtain rfl : k = a.length := by omega
      go_wp2_with fail
      go_ret
      exact ⟨rfl, HB.out.trans (HBR.out.mono HB.out.size)⟩
    | succ q =>
      have hkl : k < a.length := by omega
      obtain ⟨b1, off1, rfl, c1⟩ := (HA.out.below HBR.out).at k hkl
      obtain ⟨b2, off2, rfl, c2⟩ := (HBB.out.below HBR.out).at k hkl
      generalize a.getD k 0 = x at *
      have hx : (x != x) = false := by simp
      have hkl' : (k : Int) < (a.length : Int) := by omega
      go_wp2_with fail
      go_quiet (fail)
      go_wp2_with fail
      go_roundg q
      case measure => omega
      case rel => exact ⟨k + 1, by omega, by go_num, below_drewN HBR.out _⟩

set_option maxRecDepth 100000 in
set_option maxHeartbeats 8000000 in
theorem sameT_yes : ∀ (m : Nat) (t : Tm), t.nodes ≤ m → ∀ (d : Nat) (va vb : Value) (w : World), okD t d → IsT w t va → IsT w t vb →
    Calls Tryd.prog 12 #[va, vb] w fun e w' => e = .returned (.bool true) ∧ Below w.heap.size w w' := by
  intro m
  induction m with
  | zero => intro t hm; have := nodes_pos t; omega
  | succ m ih =>
    intro t hm d va vb w hok hI1 hI2
    have HOK : Hid (okD t d) := hok
    have hkd := alone_kind hok.alone
    obtain ⟨sl, sk, rfl, hl, hk, -⟩ := hI1.open
    obtain ⟨pl, cl, rfl⟩ := hl.shape
    obtain ⟨pk, ck, rfl, hkc, hkc2, -⟩ := hk.shape
    obtain ⟨sl2, sk2, rfl, hl2, hk2, -⟩ := hI2.open
    obtain ⟨pl2, cl2, rfl⟩ := hl2.shape
    obtain ⟨pk2, ck2, rfl, hkc3, hkc4, -⟩ := hk2.shape
    simp only [tmV] at *
    obtain ⟨w1, hw1⟩ : ∃ w1, w.alloc (.cells #[.int .i64 t.kind, .bool t.neg, .slice pl t.limbs.length cl, .string t.str, .int .i64 t.num, .slice pk t.kids.length ck] 29) = w1 := ⟨_, rfl⟩
    obtain ⟨w2, hw2⟩ : ∃ w2, w1.alloc (.cells #[.int .i64 t.kind, .bool t.neg, .slice pl2 t.limbs.length cl2, .string t.str, .int .i64 t.num, .slice pk2 t.kids.length ck2] 29) = w2 := ⟨_, rfl⟩
    have b1 : Below w.heap.size w w1 := by rw [← hw1]; exact (Below.refl _ _).alloc (Nat.le_refl _) _
    have b2 : Below w1.heap.size w1 w2 := by rw [← hw2]; exact (Below.refl _ _).alloc (Nat.le_refl _) _
    have hs1 : w1.heap.size = w.heap.size + 1 := by rw [← hw1]; simp
    have u1 : Bt w1 w.heap.size t.kind t.neg (.slice pl t.limbs.length cl) t.str t.num (.slice pk t.kids.length ck) := by rw [← hw1]; exact Bt.new w _ _ _ _ _ _ ⟨_, _, _, rfl⟩ ⟨_, _, _, rfl⟩
    have u2 : Bt w2 w1.heap.size t.kind t.neg (.slice pl2 t.limbs.length cl2) t.str t.num (.slice pk2 t.kids.length ck2) := by rw [← hw2]; exact Bt.new w1 _ _ _ _ _ _ ⟨_, _, _, rfl⟩ ⟨_, _, _, rfl⟩
    have b12 : Below w.heap.size w w2 := b1.trans (b2.mono b1.size)
    have HB : Hid (Below w.heap.size w w2) := b12
    have HL1 : Hid (Sl w2 (.slice pl t.limbs.length cl) t.limbs) := hl.below b12
    have HL2 : Hid (Sl w2 (.slice pl2 t.limbs.length cl2) t.limbs) := hl2.below b12
    have HK1 : Hid (Ts w2 (.slice pk t.kids.length ck) t.kids) := hk.under b12
    have HK2 : Hid (Ts w2 (.slice pk2 t.kids.length ck2) t.kids) := hk2.under b12
    rw [hs1] at u2
    obtain ⟨k, hkk⟩ : ∃ k, k = t.kind := ⟨_, rfl⟩
    rw [← hkk] at hkd hw1 hw2 u1 u2
    have hU1 := u1.under b2
    have HU1 : Hid (Bt w2 w.heap.size k t.neg (.slice pl t.limbs.length cl) t.str t.num (.slice pk t.kids.length ck)) := hU1
    have HU2 : Hid (Bt w2 (w.heap.size + 1) k t.neg (.slice pl2 t.limbs.length cl2) t.str t.num (.slice pk2 t.kids.length ck2)) := u2
    obtain ⟨a0, a1, a2, a3, a4, a5⟩ := hU1.cells
    obtain ⟨c0, c1, c2, c3, c4, c5⟩ := u2.cells
    have hkn : (k != k) = false := by simp
    have hcn : ((t.kids.length : Int) != (t.kids.length : Int)) = false := by simp
    have hss : (t.str.toList == t.str.toList) = true := by simp
    rw [← hkk]
    clear hI1 hI2 hl hk hl2 hk2 u1 u2 hU1 b1 b2 b12 hok hkk
    rcases hkd with hk | hk | hk | hk | hk | hk
    · have f1 : (k == 1) = true := by simp [hk]
      have f2 : (k == 2) = false := by simp [hk]
      have f4 : (k == 4) = false := by simp [hk]
      have f5 : (k == 5) = false := by simp [hk]
      have f6 : (k == 6) = false := by simp [hk]
      have f7 : (k == 7) = false := by simp [hk]
      have f8 : (k == 8) = false := by simp [hk]
      have f9 : (k == 9) = false := by simp [hk]
      clear hk
      go_enter Tryd.func12, Tryd.ntmps12
      go_wp2_with fail
      refine (sameNumR_yes t.neg _ _ t.limbs _ HL1.out HL2.out).mono ?_
      rintro e w3 ⟨rfl, b3⟩
      have HB3 : Hid (Below w.heap.size w w3) := HB.out.trans (b3.mono HB.out.size)
      clear b3
      go_wp2_with fail
      go_ret
      exact ⟨rfl, HB3.out⟩
    · have f1 : (k == 1) = false := by simp [hk]
      have f2 : (k == 2) = true := by simp [hk]
      have f4 : (k == 4) = false := by simp [hk]
      have f5 : (k == 5) = false := by simp [hk]
      have f6 : (k == 6) = false := by simp [hk]
      have f7 : (k == 7) = false := by simp [hk]
      have f8 : (k == 8) = false := by simp [hk]
      have f9 : (k == 9) = false := by simp [hk]
      clear hk
      go_enter Tryd.func12, Tryd.ntmps12
      go_wp2_with fail
      go_ret
      exact ⟨rfl, HB.out⟩
    · have f1 : (k == 1) = false := by simp [hk]
      have f2 : (k == 2) = false := by simp [hk]
      have f4 : (k == 4) = false := by simp [hk]
      have f5 : (k == 5) = false := by simp [hk]
      have f6 : (k == 6) = false := by simp [hk]
      have f7 : (k == 7) = false := by simp [hk]
      have f8 : (k == 8) = false := by simp [hk]
      have f9 : (k == 9) = false := by simp [hk]
      clear hk
      go_enter Tryd.func12, Tryd.ntmps12
      go_wp2_with fail
      go_ret
      exact ⟨rfl, HB.out⟩
    · have f1 : (k == 1) = false := by simp [hk]
      have f2 : (k == 2) = false := by simp [hk]
      have f4 : (k == 4) = true := by simp [hk]
      have f5 : (k == 5) = false := by simp [hk]
      have f6 : (k == 6) = false := by simp [hk]
      have f7 : (k == 7) = false := by simp [hk]
      have f8 : (k == 8) = false := by simp [hk]
      have f9 : (k == 9) = false := by simp [hk]
      clear hk
      go_enter Tryd.func12, Tryd.ntmps12
      go_wp2_with fail
      go_loopg [6] t.kids.length (fun q si wr => ∃ i : Nat, i + q = t.kids.length ∧ si = .int .i64 (i : Int) ∧ Hid (Below w2.heap.size w2 wr))
      case atStart => exact ⟨0, by omega, rfl, Below.refl _ _⟩
      case round =>
        clear a0 a1 a2 a3 a4 a5 c0 c1 c2 c3 c4 c5
        obtain ⟨i, hiq, rfl, HBR⟩ := hrel
        obtain ⟨a0, a1, a2, a3, a4, a5⟩ := (HU1.out.under HBR.out).cells
        obtain ⟨c0, c1, c2, c3, c4, c5⟩ := (HU2.out.under HBR.out).cells
        cases gk with
        | zero =>
          obtain rfl : i = t.kids.length := by omega
          go_wp2_with fail
          go_ret
          exact ⟨rfl, HB.out.trans (HBR.out.mono HB.out.size)⟩
        | succ q =>
          have hik : i < t.kids.length := by omega
          have hiki : (i : Int) < (t.kids.length : Int) := by omega
          obtain ⟨bb, off, vv, rfl, hlt, h6', hv⟩ := HK1.out.at i hik
          obtain ⟨bb2, off2, vv2, rfl, hlt2, h62, hv2⟩ := HK2.out.at i hik
          obtain ⟨d0, d1, d2, d3, d4, d5, rfl, x0, x1, x2, x3, x4, x5⟩ := h6'.below HBR.out hlt
          obtain ⟨e0, e1, e2, e3, e4, e5, rfl, y0, y1, y2, y3, y4, y5⟩ := h62.below HBR.out hlt2
          have HREC : Hid (∀ W, Below wr.heap.size wr W → Calls Tryd.prog 12 #[.agg #[d0, d1, d2, d3, d4, d5], .agg #[e0, e1, e2, e3, e4, e5]] W fun e w' => e = .returned (.bool true) ∧ Below W.heap.size W w') := fun W hW => ih t.kids[i] (by have := nodes_kid (List.getElem_mem hik); omega) (dpt t d i) _ _ W (okD_at HOK.out i hik) ((hv.under HBR.out).under hW) ((hv2.under HBR.out).under hW)
          clear hv hv2 h6' h62 hlt hlt2
          go_wp2_with fail
          go_region_law (first
            | (go_simp; go_at_call 12; refine (HREC.out _ (by first | exact below_drewN (Below.refl _ _) _ | exact (Below.refl _ _).drew | exact (Below.refl _ _).drew.drew | exact ((Below.refl _ _).drew.drew).drew | exact (((Below.refl _ _).drew.drew).drew).drew | exact ((((Below.refl _ _).drew.drew).drew).drew).drew | exact (((((Below.refl _ _).drew.drew).drew).drew).drew).drew | exact ((((((Below.refl _ _).drew.drew).drew).drew).drew).drew).drew)).mono ?_; rintro e x1 ⟨rfl, b1⟩))
          all_goals
            have hq1 : Below wr.heap.size wr x1 := ⟨b1.os, b1.tape, b1.output, b1.size, b1.block⟩
            go_wp2_with fail
            go_roundg q
            case measure => omega
            case rel => exact ⟨i + 1, by omega, by go_num, HBR.out.trans (hq1.mono HBR.out.size)⟩
    · have f1 : (k == 1) = false := by simp [hk]
      have f2 : (k == 2) = false := by simp [hk]
      have f4 : (k == 4) = false := by simp [hk]
      have f5 : (k == 5) = true := by simp [hk]
      have f6 : (k == 6) = false := by simp [hk]
      have f7 : (k == 7) = false := by simp [hk]
      have f8 : (k == 8) = false := by simp [hk]
      have f9 : (k == 9) = false := by simp [hk]
      clear hk
      go_enter Tryd.func12, Tryd.ntmps12
      go_wp2_with fail
      go_loopg [6] t.kids.length (fun q si wr => ∃ i : Nat, i + q = t.kids.length ∧ si = .int .i64 (i : Int) ∧ Hid (Below w2.heap.size w2 wr))
      case atStart => exact ⟨0, by omega, rfl, Below.refl _ _⟩
      case round =>
        clear a0 a1 a2 a3 a4 a5 c0 c1 c2 c3 c4 c5
        obtain ⟨i, hiq, rfl, HBR⟩ := hrel
        obtain ⟨a0, a1, a2, a3, a4, a5⟩ := (HU1.out.under HBR.out).cells
        obtain ⟨c0, c1, c2, c3, c4, c5⟩ := (HU2.out.under HBR.out).cells
        cases gk with
        | zero =>
          obtain rfl : i = t.kids.length := by omega
          go_wp2_with fail
          go_ret
          exact ⟨rfl, HB.out.trans (HBR.out.mono HB.out.size)⟩
        | succ q =>
          have hik : i < t.kids.length := by omega
          have hiki : (i : Int) < (t.kids.length : Int) := by omega
          obtain ⟨bb, off, vv, rfl, hlt, h6', hv⟩ := HK1.out.at i hik
          obtain ⟨bb2, off2, vv2, rfl, hlt2, h62, hv2⟩ := HK2.out.at i hik
          obtain ⟨d0, d1, d2, d3, d4, d5, rfl, x0, x1, x2, x3, x4, x5⟩ := h6'.below HBR.out hlt
          obtain ⟨e0, e1, e2, e3, e4, e5, rfl, y0, y1, y2, y3, y4, y5⟩ := h62.below HBR.out hlt2
          have HREC : Hid (∀ W, Below wr.heap.size wr W → Calls Tryd.prog 12 #[.agg #[d0, d1, d2, d3, d4, d5], .agg #[e0, e1, e2, e3, e4, e5]] W fun e w' => e = .returned (.bool true) ∧ Below W.heap.size W w') := fun W hW => ih t.kids[i] (by have := nodes_kid (List.getElem_mem hik); omega) (dpt t d i) _ _ W (okD_at HOK.out i hik) ((hv.under HBR.out).under hW) ((hv2.under HBR.out).under hW)
          clear hv hv2 h6' h62 hlt hlt2
          go_wp2_with fail
          go_region_law (first
            | (go_simp; go_at_call 12; refine (HREC.out _ (by first | exact below_drewN (Below.refl _ _) _ | exact (Below.refl _ _).drew | exact (Below.refl _ _).drew.drew | exact ((Below.refl _ _).drew.drew).drew | exact (((Below.refl _ _).drew.drew).drew).drew | exact ((((Below.refl _ _).drew.drew).drew).drew).drew | exact (((((Below.refl _ _).drew.drew).drew).drew).drew).drew | exact ((((((Below.refl _ _).drew.drew).drew).drew).drew).drew).drew)).mono ?_; rintro e x1 ⟨rfl, b1⟩))
          all_goals
            have hq1 : Below wr.heap.size wr x1 := ⟨b1.os, b1.tape, b1.output, b1.size, b1.block⟩
            go_wp2_with fail
            go_roundg q
            case measure => omega
            case rel => exact ⟨i + 1, by omega, by go_num, HBR.out.trans (hq1.mono HBR.out.size)⟩
    · have f1 : (k == 1) = false := by simp [hk]
      have f2 : (k == 2) = false := by simp [hk]
      have f4 : (k == 4) = false := by simp [hk]
      have f5 : (k == 5) = false := by simp [hk]
      have f6 : (k == 6) = true := by simp [hk]
      have f7 : (k == 7) = false := by simp [hk]
      have f8 : (k == 8) = false := by simp [hk]
      have f9 : (k == 9) = false := by simp [hk]
      clear hk
      go_enter Tryd.func12, Tryd.ntmps12
      go_wp2_with fail
      go_ret
      exact ⟨rfl, HB.out⟩
end Go.Proofs.YtbmondbicnfcpaaDoor
