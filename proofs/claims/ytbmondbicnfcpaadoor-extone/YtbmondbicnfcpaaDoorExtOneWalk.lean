
/-
  relictlaw04.ExtOne: the walk.
-/
import Derived.Test.YtbmondbicnfcpaaDoorExtGet
import Derived.Test.YtbmondbicnfcpaaDoorExtBk
import Derived.Test.YtbmondbicnfcpaaDoorZExtN
import Derived.Test.YtbmondbicnfcpaaDoorByBytes
import Derived.Test.YtbmondbicnfcpaaDoorTermRW2
import Derived.Deep.RegionHeld3
namespace Go.Proofs.YtbmondbicnfcpaaDoor
open Go.RowKit
set_option linter.unusedVariables false
set_option linter.unusedSimpArgs false

def Tok4 (n : Nat) : Prop := True
set_option maxRecDepth 100000 in
set_option maxHeartbeats 4000000 in
theorem extOne_walk (v : Value) (l : List UInt8) (w : World) (hS : Shp w) (hG : (0 : Nat) < w.heap.size) (hv : By w v l) :
    Calls Tryd.prog 6 #[v] w fun e w' => e = .returned (.bool true) ∧ Below w.heap.size w w' := by
  obtain ⟨av, cap, rfl, hc1, hc2, hc3⟩ := hv.shape
  have HV : Hid (By w (.slice av l.length cap) l) := hv
  clear hv
  by_cases hbig : (5000 : Int) < (l.length : Int)
  · go_enter Tryd.func6, Tryd.ntmps6
    go_wp2_with fail
    refine (awake4 _).mono ?_
    rintro e w4 ⟨rfl, b4⟩
    have HB4 : Hid (Below w.heap.size w w4) := b4
    clear b4
    go_wp2_with fail
    go_ret
    exact ⟨rfl, HB4.out⟩
  have HGET : Hid (∀ W v, Below w.heap.size w W → By W v l → Calls Tryd.prog 19 #[v, .int .i64 0] W fun e w' => GtP W (RT l 0 0 1) e w') := fun W v hW hy => eget_any W v l 0 (hS.under hW) hy (by omega) (by decide) (by decide) (by have := hW.size; omega)
  have her := RT_errs l 0 0 1
  have hrd := @RT_back l
  obtain ⟨O, hO⟩ : ∃ O, O = RT l 0 0 1 := ⟨_, rfl⟩
  rw [← hO] at her hrd HGET
  clear hO hS
  by_cases h0 : O.e = 0
  · obtain ⟨r1, r2, r3⟩ := hrd h0
    obtain ⟨t, ht⟩ : ∃ t, t = O.t := ⟨_, rfl⟩
    obtain ⟨k, hk⟩ : ∃ k, k = O.p := ⟨_, rfl⟩
    rw [← ht] at r1 r3
    rw [← hk] at r2 r3
    have HOK : Hid (t.ok = true) := r1
    have HPUT : Hid (putO t = l.take k) := by unfold Hid putO; rw [if_pos r1, r3]
    have HGP : Hid (∀ W v, Below w.heap.size w W → By W v l → Calls Tryd.prog 19 #[v, .int .i64 0] W fun e w' => ∃ v, e = .returned (.tuple #[v, .int .i64 (k : Int), .int .i64 0]) ∧ Below W.heap.size W w' ∧ IsT w' t v) := fun W v hW hy => (HGET.out W v hW hy).mono (fun e w' h => by
      obtain ⟨v, he, hb, hi⟩ := h
      rw [if_pos h0] at hi
      rw [if_pos h0, h0] at he
      exact ⟨v, by rw [he, hk]; rfl, hb, by rw [ht]; exact hi⟩)
    clear her hrd h0 ht hk r1 r3 HGET
    have hk2 : (k : Int) ≤ (l.length : Int) := by omega
    have hk3 : (k : Int) ≤ (cap : Int) := by omega
    have hk0 : (0 : Int) ≤ (k : Int) := by omega
    have HTX : Hid (∀ W, Below w.heap.size w W → (convert 35 9 (.slice av k cap)).run Tryd.prog W = .ok (.string ⟨(l.take k).toArray⟩) W) := fun W hW => by
      have h := ((HV.out.take k cap r2 (by omega) (Nat.le_refl _)).under hW).text
      exact h
    go_enter Tryd.func6, Tryd.ntmps6
    go_wp2_with fail
    refine (bytes_any _ l _ HV.out (by omega)).mono ?_
    rintro e w1 ⟨v1, rfl, o1, b1⟩
    have HY1 : Hid (By w1 v1 l) := o1.by
    have HB1 : Hid (Below w.heap.size w w1) := b1
    clear o1 b1
    go_wp2_with fail
    refine (HGP.out w1 v1 HB1.out HY1.out).mono ?_
    rintro e w2 ⟨tv, rfl, b2, hit⟩
    obtain ⟨sl, sk, rfl, hls, hks, -⟩ := hit.open
    obtain ⟨pl, cl, rfl⟩ := hls.shape
    obtain ⟨pk, ck, rfl, -⟩ := hks.shape
    have hit0 := hit
    simp only [tmV] at hit ⊢
    have bC := (Below.refl w2.heap.size w2).alloc (Nat.le_refl _) (.cells #[.int .i64 t.kind, .bool t.neg, .slice pl t.limbs.length cl, .string t.str, .int .i64 t.num, .slice pk t.kids.length ck] 29)
    have HB3 : Hid (Below w.heap.size w (w2.alloc (.cells #[.int .i64 t.kind, .bool t.neg, .slice pl t.limbs.length cl, .string t.str, .int .i64 t.num, .slice pk t.kids.length ck] 29))) := (HB1.out.trans (b2.mono HB1.out.size)).trans (bC.mono (by have := HB1.out.size; have := b2.size; omega))
    have HX3 : Hid (Bt (w2.alloc (.cells #[.int .i64 t.kind, .bool t.neg, .slice pl t.limbs.length cl, .string t.str, .int .i64 t.num, .slice pk t.kids.length ck] 29)) w2.heap.size t.kind t.neg (.slice pl t.limbs.length cl) t.str t.num (.slice pk t.kids.length ck)) := Bt.new _ _ _ _ _ _ _ ⟨_, _, _, rfl⟩ ⟨_, _, _, rfl⟩
    have HIT : Hid (IsT (w2.alloc (.cells #[.int .i64 t.kind, .bool t.neg, .slice pl t.limbs.length cl, .string t.str, .int .i64 t.num, .slice pk t.kids.length ck] 29)) t (.agg #[.int .i64 t.kind, .bool t.neg, .slice pl t.limbs.length cl, .string t.str, .int .i64 t.num, .slice pk t.kids.length ck])) := hit.under bC
    clear hit hit0 b2 bC HY1 HB1 HGP hls hks
    go_wp2_with fail
    generalize w2.alloc (.cells #[.int .i64 t.kind, .bool t.neg, .slice pl t.limbs.length cl, .string t.str, .int .i64 t.num, .slice pk t.kids.length ck] 29) = w3 at *
    generalize w2.heap.size = gx at *
    have HCK : Hid (∀ W, Below w3.heap.size w3 W → Calls Tryd.prog 22 #[.agg #[.int .i64 t.kind, .bool t.neg, .slice pl t.limbs.length cl, .string t.str, .int .i64 t.num, .slice pk t.kids.length ck]] W fun e w' => e = .returned (.bool true) ∧ Below W.heap.size W w') := by
      intro W hW
      have := rcheckX_any t _ W (HIT.out.under hW)
      unfold RcX at this
      rw [HOK.out] at this
      exact this
    have HTK : Hid ((l.take k).length = k) := by unfold Hid; simp; omega
    have HPT : Hid (∀ W, Below w3.heap.size w3 W → Calls Tryd.prog 16 #[.slice none 0 0, .agg #[.int .i64 t.kind, .bool t.neg, .slice pl t.limbs.length cl, .string t.str, .int .i64 t.num, .slice pk t.kids.length ck]] W fun e w' => ∃ p2 c2, e = .returned (.slice p2 k c2) ∧ (convert 35 9 (.slice p2 k c2)).run Tryd.prog w' = .ok (.string ⟨(l.take k).toArray⟩) w' ∧ Below W.heap.size W w') := by
      intro W hW
      refine (eput_any _ _ [] t W (By.nil W) (by decide) (HIT.out.under hW)).mono ?_
      rintro e w' ⟨v2, rfl, y2, -, b2⟩
      rw [HPUT.out, List.nil_append] at y2
      have y2 := y2.by
      obtain ⟨p2, c2, rfl, -⟩ := y2.shape
      have t2 := y2.text
      rw [HTK.out] at t2 ⊢
      exact ⟨p2, c2, rfl, t2, b2⟩
    have HAW : Hid (∀ W, Below w3.heap.size w3 W → Calls Tryd.prog 15 #[] W fun e w' => e = .returned (.bool true) ∧ Below W.heap.size W w') := fun W hW => awake4 W
    have HTW : Hid (∀ W, Below w3.heap.size w3 W → (convert 35 9 (.slice av k cap)).run Tryd.prog W = .ok (.string ⟨(l.take k).toArray⟩) W) := fun W hW => HTX.out W (HB3.out.trans (hW.mono HB3.out.size))
    have HKP : Hid (∀ W, Below w3.heap.size w3 W → Bt W gx t.kind t.neg (.slice pl t.limbs.length cl) t.str t.num (.slice pk t.kids.length ck)) := fun W hW => HX3.out.under hW
    obtain ⟨z0, z1, z2, z3, z4, z5⟩ := HX3.out.cells
    clear hc3 hbig HV HTX
    have tb0 := HTW.out _ ((Below.refl w3.heap.size w3).drew)
    have notok : Tok4 0 := trivial
    go_region_law (first
      | (go_simp; have := notok; go_at_call 22; refine (HCK.out _ ((Below.refl _ _).drew)).mono ?_; rintro e x1 ⟨rfl, b1⟩; have hq1 : Below w3.heap.size w3 x1 := ((Below.refl _ _).drew).trans (b1.mono (Nat.le_refl _)); clear notok; have tb1 := HTW.out _ hq1; obtain ⟨y0, y1, y2, y3, y4, y5⟩ := (HKP.out _ hq1).cells)
      | (go_simp; go_at_call 16; refine (HPT.out _ hq1).mono ?_; rintro e x2 ⟨p2, c2, rfl, tp2, b2⟩; have hq2 : Below w3.heap.size w3 x2 := hq1.trans (b2.mono hq1.size); have tb2 := HTW.out _ hq2; obtain ⟨u0, u1, u2, u3, u4, u5⟩ := (HKP.out _ hq2).cells)
      | (go_simp; go_at_call 15; refine (HAW.out _ hq2).mono ?_; rintro e x3 ⟨rfl, b3⟩; have hq3 : Below w3.heap.size w3 x3 := hq2.trans (b3.mono hq2.size)))
    all_goals
      have HBF : Hid (Below w.heap.size w x3) := HB3.out.trans (hq3.mono HB3.out.size)
      go_wp2_with fail
      go_ret
      exact ⟨rfl, HBF.out⟩
  · have HGP : Hid (∀ W v, Below w.heap.size w W → By W v l → Calls Tryd.prog 19 #[v, .int .i64 0] W fun e w' => ∃ v, e = .returned (.tuple #[v, .int .i64 0, .int .i64 (O.e : Int)]) ∧ Below W.heap.size W w' ∧ IsT w' tmZ v) := fun W v hW hy => (HGET.out W v hW hy).mono (fun e w' h => by
      obtain ⟨v, he, hb, hi⟩ := h
      rw [if_neg h0] at hi
      rw [if_neg h0] at he
      exact ⟨v, he, hb, hi⟩)
    obtain ⟨oe, hoe⟩ : ∃ oe, oe = O.e := ⟨_, rfl⟩
    rw [← hoe] at her h0 HGP
    unfold E34 at her
    have hcs : oe = 3 ∨ oe = 4 := by omega
    clear her hrd hoe h0 HGET
    rcases hcs with rfl | rfl
    all_goals
      go_enter Tryd.func6, Tryd.ntmps6
      go_wp2_with fail
      refine (bytes_any _ l _ HV.out (by omega)).mono ?_
      rintro e w1 ⟨v1, rfl, o1, b1⟩
      have HY1 : Hid (By w1 v1 l) := o1.by
      have HB1 : Hid (Below w.heap.size w w1) := b1
      clear o1 b1
      go_wp2_with fail
      refine (HGP.out w1 v1 HB1.out HY1.out).mono ?_
      rintro e w2 ⟨tv, rfl, b2, hit⟩
      obtain ⟨sl, sk, rfl, hls, hks, -⟩ := hit.open
      obtain ⟨pl, cl, rfl⟩ := hls.shape
      obtain ⟨pk, ck, rfl, -⟩ := hks.shape
      simp only [tmV, tmZ, Tm.kind, Tm.neg, Tm.limbs, Tm.str, Tm.num, Tm.kids, List.length_nil]
      have bC := (Below.refl w2.heap.size w2).alloc (Nat.le_refl _) (.cells #[.int .i64 0, .bool false, .slice pl 0 cl, .string ⟨#[]⟩, .int .i64 0, .slice pk 0 ck] 29)
      have HB3 : Hid (Below w.heap.size w (w2.alloc (.cells #[.int .i64 0, .bool false, .slice pl 0 cl, .string ⟨#[]⟩, .int .i64 0, .slice pk 0 ck] 29))) := (HB1.out.trans (b2.mono HB1.out.size)).trans (bC.mono (by have := HB1.out.size; have := b2.size; omega))
      clear hit b2 bC HY1 hls hks
      go_wp2_with fail
      refine (awake4 _).mono ?_
      rintro e w4 ⟨rfl, b4⟩
      have HB4 : Hid (Below w.heap.size w w4) := HB3.out.trans (b4.mono HB3.out.size)
      clear b4
      go_wp2_with fail
      go_ret
      exact ⟨rfl, HB4.out⟩
end Go.Proofs.YtbmondbicnfcpaaDoor
