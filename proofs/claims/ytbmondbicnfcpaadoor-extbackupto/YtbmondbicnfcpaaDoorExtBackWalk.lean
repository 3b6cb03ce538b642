
/-
  relictlaw04.ExtBack: the walk.
-/
import Derived.Test.YtbmondbicnfcpaaDoorExtGet
import Derived.Test.YtbmondbicnfcpaaDoorExtSm
import Derived.Test.YtbmondbicnfcpaaDoorZExtN
import Derived.Test.YtbmondbicnfcpaaDoorByBytes
import Derived.Test.YtbmondbicnfcpaaDoorByAppend
import Derived.Test.YtbmondbicnfcpaaDoorTermLight
namespace Go.Proofs.YtbmondbicnfcpaaDoor
open Go.RowKit
set_option linter.unusedVariables false
set_option linter.unusedSimpArgs false

theorem putT_pos {t : Tm} {d : Nat} (h : okD t d) (hL : okLm t) : 0 < (putT t).length := by
  obtain ⟨H, tl, rfl, h4, hH⟩ := okD_split t.nodes t d (Nat.le_refl _) h
  by_cases hH0 : H = []
  · subst hH0
    have e0 : listT [] tl = tl := rfl
    rw [e0] at h hL ⊢
    by_cases h5 : tl.kind = 5
    · rw [putT_5 h5]; simp
    · obtain ⟨s, b, W, D, c, q1, q2, q3, q4, -⟩ := leaf_shape h ((okLm_eq tl).1 hL).1 h4 h5
      rw [q4]; simp
  · rw [putT_list tl h4 H (List.length_pos_iff.2 hH0)]; simp

set_option maxRecDepth 100000 in
set_option maxHeartbeats 16000000 in
theorem extBack_walk (t : Tm) (va vm : Value) (more : List UInt8) (at' : Int) (w : World) (hS : Shp w) (hG : (0 : Nat) < w.heap.size) (hv : IsT w t va) (hm : By w vm more) (hml : more.length ≤ 2000000) (ha1 : -9223372036854775808 ≤ at') (ha2 : at' ≤ 9223372036854775807) :
    Calls Tryd.prog 5 #[va, vm, .int .i64 at'] w fun e w' => e = .returned (.bool true) ∧ Below w.heap.size w w' := by
  have hv0 := hv
  obtain ⟨sl, sk, rfl, hls, hks, -⟩ := hv.open
  obtain ⟨pl, cl, rfl⟩ := hls.shape
  obtain ⟨pk, ck, rfl, -⟩ := hks.shape
  simp only [tmV] at hv0 ⊢
  obtain ⟨w1, hw1⟩ : ∃ w1, w.alloc (.cells #[.int .i64 t.kind, .bool t.neg, .slice pl t.limbs.length cl, .string t.str, .int .i64 t.num, .slice pk t.kids.length ck] 29) = w1 := ⟨_, rfl⟩
  have b1 : Below w.heap.size w w1 := by rw [← hw1]; exact (Below.refl _ _).alloc (Nat.le_refl _) _
  have u1 : Bt w1 w.heap.size t.kind t.neg (.slice pl t.limbs.length cl) t.str t.num (.slice pk t.kids.length ck) := by rw [← hw1]; exact Bt.new w _ _ _ _ _ _ ⟨_, _, _, rfl⟩ ⟨_, _, _, rfl⟩
  have HU : Hid (Bt w1 w.heap.size t.kind t.neg (.slice pl t.limbs.length cl) t.str t.num (.slice pk t.kids.length ck)) := u1
  have HI : Hid (IsT w1 t (.agg #[.int .i64 t.kind, .bool t.neg, .slice pl t.limbs.length cl, .string t.str, .int .i64 t.num, .slice pk t.kids.length ck])) := hv0.under b1
  have HM : Hid (By w1 vm more) := hm.under b1
  have HB1 : Hid (Below w.heap.size w w1) := b1
  have hLm : okLm t := isT_okLm t.nodes t _ (Nat.le_refl _) hv0
  have HSH : Hid (Shp w1) := hS.under b1
  have hs1 := b1.size
  obtain ⟨okb, hok⟩ : ∃ okb, t.ok = okb := ⟨_, rfl⟩
  have HOK : Hid (t.ok = okb) := hok
  have HLM : Hid (okLm t) := hLm
  obtain ⟨a0, a1, a2, a3, a4, a5⟩ := u1.cells
  obtain ⟨pm, cm, rfl, -⟩ := hm.shape
  clear hv hv0 hls hks hm hS hok hLm u1 b1
  go_enter Tryd.func5, Tryd.ntmps5
  go_wp2_with fail
  refine (rcheckX_any t _ w1 HI.out).mono ?_
  rintro e w2 ⟨rfl, b2⟩
  rw [HOK.out]
  have HU2 : Hid (Bt w2 w.heap.size t.kind t.neg (.slice pl t.limbs.length cl) t.str t.num (.slice pk t.kids.length ck)) := HU.out.under b2
  have HI2 : Hid (IsT w2 t (.agg #[.int .i64 t.kind, .bool t.neg, .slice pl t.limbs.length cl, .string t.str, .int .i64 t.num, .slice pk t.kids.length ck])) := HI.out.under b2
  have HM2 : Hid (By w2 (.slice pm more.length cm) more) := HM.out.under b2
  have HB2 : Hid (Below w.heap.size w w2) := HB1.out.trans (b2.mono hs1)
  have HSH2 : Hid (Shp w2) := HSH.out.under b2
  clear b2 a0 a1 a2 a3 a4 a5 HU HI HM HSH HB1 hw1 hs1
  obtain ⟨a0, a1, a2, a3, a4, a5⟩ := HU2.out.cells
  cases okb with
  | false =>
    go_wp2_with fail
    refine (awake4 _).mono ?_
    rintro e w4 ⟨rfl, b4⟩
    have HB4 : Hid (Below w.heap.size w w4) := HB2.out.trans (b4.mono HB2.out.size)
    clear b4
    go_wp2_with fail
    go_ret
    exact ⟨rfl, HB4.out⟩
  | true =>
    go_wp2_with fail
    refine (lightB_any t _ w2 200 HI2.out (by decide) (by decide)).mono ?_
    rintro e w3 ⟨lb, rfl, b3, hlb⟩
    have HU3 : Hid (Bt w3 w.heap.size t.kind t.neg (.slice pl t.limbs.length cl) t.str t.num (.slice pk t.kids.length ck)) := HU2.out.under b3
    have HI3 : Hid (IsT w3 t (.agg #[.int .i64 t.kind, .bool t.neg, .slice pl t.limbs.length cl, .string t.str, .int .i64 t.num, .slice pk t.kids.length ck])) := HI2.out.under b3
    have HM3 : Hid (By w3 (.slice pm more.length cm) more) := HM2.out.under b3
    have HB3 : Hid (Below w.heap.size w w3) := HB2.out.trans (b3.mono HB2.out.size)
    have HSH3 : Hid (Shp w3) := HSH2.out.under b3
    clear b3 a0 a1 a2 a3 a4 a5 HU2 HI2 HM2 HSH2 HB2
    obtain ⟨a0, a1, a2, a3, a4, a5⟩ := HU3.out.cells
    cases lb with
    | false =>
      clear hlb
      go_wp2_with fail
      refine (awake4 _).mono ?_
      rintro e w4 ⟨rfl, b4⟩
      have HB4 : Hid (Below w.heap.size w w4) := HB3.out.trans (b4.mono HB3.out.size)
      clear b4
      go_wp2_with fail
      go_ret
      exact ⟨rfl, HB4.out⟩
    | true =>
      have hn200 : t.nodes ≤ 200 := by have := (hlb rfl).2; omega
      obtain ⟨P, hP⟩ : ∃ P, P = putT t := ⟨_, rfl⟩
      have hokD : okD t 1 := ((ok_iff t).1 HOK.out).1
      have hPpos : 0 < P.length := by rw [hP]; exact putT_pos hokD HLM.out
      have HPO : Hid (putO t = P) := by unfold Hid putO; rw [if_pos HOK.out, hP]
      have HGOT : Hid (∀ (l rest : List UInt8), l.drop 1 = P ++ rest → RT l 1 0 1 = ⟨0, t, 1 + P.length, t.nodes⟩) := fun l rest hl => by
        have h := RT_put l t.nodes t (Nat.le_refl _) 1 rest 1 0 hokD HLM.out (by rw [hl, hP]) (by omega)
        rw [h, hP, Nat.zero_add]
      have HCUT : Hid (∀ (k : Nat), 1 ≤ k → k ≤ P.length → (RT ((7 :: P).take k) 1 0 1).e = 3) := fun k h1 h2 => by
        refine RT_cut _ t.nodes t (Nat.le_refl _) 1 (P.drop (k - 1)) 1 0 hokD HLM.out ?_ (by simp; omega) ?_ (by omega)
        · intro e
          have := congrArg List.length e
          simp at this
          omega
        · obtain ⟨j, rfl⟩ : ∃ j, k = j + 1 := ⟨k - 1, by omega⟩
          rw [List.take_succ_cons]
          show P.take j ++ P.drop j = _
          rw [List.take_append_drop, hP]
      clear hlb hokD hP
      have HB7 : Hid (By (w3.alloc (.cells #[.int .u8 7] 5)) (.slice (some ⟨w3.heap.size, 0, none⟩) 1 1) [7]) := By.lits w3 [7] (by decide)
      have ba := bx_below w3 #[.int .u8 7] 5
      have HU4 : Hid (Bt (w3.alloc (.cells #[.int .u8 7] 5)) w.heap.size t.kind t.neg (.slice pl t.limbs.length cl) t.str t.num (.slice pk t.kids.length ck)) := HU3.out.under ba
      have HI4 : Hid (IsT (w3.alloc (.cells #[.int .u8 7] 5)) t (.agg #[.int .i64 t.kind, .bool t.neg, .slice pl t.limbs.length cl, .string t.str, .int .i64 t.num, .slice pk t.kids.length ck])) := HI3.out.under ba
      have HM4 : Hid (By (w3.alloc (.cells #[.int .u8 7] 5)) (.slice pm more.length cm) more) := HM3.out.under ba
      have HB4 : Hid (Below w.heap.size w (w3.alloc (.cells #[.int .u8 7] 5))) := HB3.out.trans (ba.mono HB3.out.size)
      have HSH4 : Hid (Shp (w3.alloc (.cells #[.int .u8 7] 5))) := HSH3.out.under ba
      clear ba a0 a1 a2 a3 a4 a5 HU3 HI3 HM3 HSH3 HB3
      obtain ⟨a0, a1, a2, a3, a4, a5⟩ := HU4.out.cells
      go_wp2_with fail
      generalize w3.alloc (.cells #[.int .u8 7] 5) = w4 at *
      refine (eput_any _ _ [7] t w4 HB7.out (by decide) HI4.out).mono ?_
      rintro e w5 ⟨v5, rfl, hr5, hp5, b5⟩
      rw [HPO.out] at hr5 hp5
      have hy5 := hr5.by
      have e7 : [7] ++ P = 7 :: P := rfl
      rw [e7] at hy5
      obtain ⟨a5', c5, rfl, hlc5, hcm5, -⟩ := hy5.shape
      obtain ⟨m, hmP⟩ : ∃ m, m = P.length := ⟨_, rfl⟩
      have hlm : (7 :: P).length = m + 1 := by rw [hmP]; rfl
      rw [hlm] at hlc5 hy5 ⊢
      have HY5 : Hid (By w5 (.slice a5' (m + 1) c5) (7 :: P)) := hy5
      have HU5 : Hid (Bt w5 w.heap.size t.kind t.neg (.slice pl t.limbs.length cl) t.str t.num (.slice pk t.kids.length ck)) := HU4.out.under b5
      have HI5 : Hid (IsT w5 t (.agg #[.int .i64 t.kind, .bool t.neg, .slice pl t.limbs.length cl, .string t.str, .int .i64 t.num, .slice pk t.kids.length ck])) := HI4.out.under b5
      have HM5 : Hid (By w5 (.slice pm more.length cm) more) := HM4.out.under b5
      have HB5 : Hid (Below w.heap.size w w5) := HB4.out.trans (b5.mono HB4.out.size)
      have HSH5 : Hid (Shp w5) := HSH4.out.under b5
      have HMP : Hid (m = P.length) := hmP
      have hm1 : 1 ≤ m := by omega
      have hm8 : m ≤ 820000 := by omega
      have hm1i : (1 : Int) ≤ (m : Int) := by omega
      have hm8i : (m : Int) ≤ 820000 := by omega
      have hlci : (m : Int) + 1 ≤ (c5 : Int) := by omega
      have hlt2 : ¬ ((m : Int) + 1 < 2) := by omega
      clear b5 a0 a1 a2 a3 a4 a5 HU4 HI4 HM4 HSH4 HB4 hr5 hy5 HB7 hmP hp5 hPpos hlm
      go_wp2_with fail
      refine (bytes_any _ (7 :: P) _ HY5.out (by have := HMP.out; simp; omega)).mono ?_
      rintro e w6 ⟨v6, rfl, ho6, b6⟩
      have HO6 : Hid (OB w6 w5.heap.size v6 (7 :: P)) := ho6
      have HY6 : Hid (By w6 (.slice a5' (m + 1) c5) (7 :: P)) := HY5.out.under b6
      have HU6 : Hid (Bt w6 w.heap.size t.kind t.neg (.slice pl t.limbs.length cl) t.str t.num (.slice pk t.kids.length ck)) := HU5.out.under b6
      have HI6 : Hid (IsT w6 t (.agg #[.int .i64 t.kind, .bool t.neg, .slice pl t.limbs.length cl, .string t.str, .int .i64 t.num, .slice pk t.kids.length ck])) := HI5.out.under b6
      have HM6 : Hid (By w6 (.slice pm more.length cm) more) := HM5.out.under b6
      have HB56 : Hid (Below w5.heap.size w5 w6) := b6
      clear b6 ho6
      go_wp2_with (first | (at_builtin; refine wpList_append_by rfl _ _ rfl w5.heap.size v6 (7 :: P) rfl HO6.out (by have := HMP.out; simp; omega) HB56.out.size _ more rfl HM6.out (by omega) ?_; intro v7 w7 hO7 hBB hKK; have HO7 : Hid (OB w7 w5.heap.size v7 (7 :: P ++ more)) := hO7; have HB57 : Hid (Below w5.heap.size w5 w7) := hBB _ _ HB56.out.size (Nat.le_refl _) HB56.out; clear hO7 hBB hKK) | fail)
      have hg7 := eget_any w7 v7 (7 :: P ++ more) 1 (HSH5.out.under HB57.out) HO7.out.by (by have := HMP.out; simp; omega) (by decide) (by decide) (by have := HB5.out.size; have := HB57.out.size; omega)
      have hgr : getR (7 :: P ++ more) 1 = ⟨0, t, 1 + P.length, t.nodes⟩ := by
        unfold getR
        rw [if_neg (by simp; omega)]
        exact HGOT.out _ more rfl
      rw [hgr] at hg7
      refine hg7.mono ?_
      rintro e w8 ⟨tv8, he8, b8, hit8⟩
      dsimp only at he8 hit8
      rw [if_pos rfl] at he8 hit8
      rw [← HMP.out] at he8
      subst he8
      have HB58 : Hid (Below w5.heap.size w5 w8) := HB57.out.trans (b8.mono HB57.out.size)
      obtain ⟨sl8, sk8, rfl, hl8, hk8, -⟩ := hit8.open
      obtain ⟨pl8, cl8, rfl⟩ := hl8.shape
      obtain ⟨pk8, ck8, rfl, -⟩ := hk8.shape
      simp only [tmV] at hit8 ⊢
      obtain ⟨w9, hw9⟩ : ∃ w9, w8.alloc (.cells #[.int .i64 t.kind, .bool t.neg, .slice pl8 t.limbs.length cl8, .string t.str, .int .i64 t.num, .slice pk8 t.kids.length ck8] 29) = w9 := ⟨_, rfl⟩
      have b89 : Below w8.heap.size w8 w9 := by rw [← hw9]; exact (Below.refl _ _).alloc (Nat.le_refl _) _
      have u9 : Bt w9 w8.heap.size t.kind t.neg (.slice pl8 t.limbs.length cl8) t.str t.num (.slice pk8 t.kids.length ck8) := by rw [← hw9]; exact Bt.new w8 _ _ _ _ _ _ ⟨_, _, _, rfl⟩ ⟨_, _, _, rfl⟩
      have b59 : Below w5.heap.size w5 w9 := HB58.out.trans (b89.mono HB58.out.size)
      have HB59 : Hid (Below w5.heap.size w5 w9) := b59
      have HT9 : Hid (Bt w9 w8.heap.size t.kind t.neg (.slice pl8 t.limbs.length cl8) t.str t.num (.slice pk8 t.kids.length ck8)) := u9
      have HI9 : Hid (IsT w9 t (.agg #[.int .i64 t.kind, .bool t.neg, .slice pl8 t.limbs.length cl8, .string t.str, .int .i64 t.num, .slice pk8 t.kids.length ck8])) := hit8.under b89
      have hq0 := Int.emod_nonneg at' (show ((m : Nat) : Int) ≠ 0 by omega)
      have hq1 := Int.emod_lt_of_pos at' (show (0 : Int) < ((m : Nat) : Int) by omega)
      have HPL : Hid (∀ W, Calls Tryd.prog 24 #[.int .i64 at', .int .i64 (m : Int)] W fun e w' => e = .returned (.int .i64 (at' % (m : Int))) ∧ W = w') := fun W => place_any at' (m : Int) W (by omega) (by omega) ha1 ha2
      obtain ⟨k, hk⟩ : ∃ k : Nat, at' % (m : Int) = (k : Int) := ⟨(at' % (m : Int)).toNat, by omega⟩
      rw [hk] at HPL hq1
      have hm11 : (m : Int) + 1 - 1 = (m : Int) := by omega
      have hkm : k < m := by omega
      have hk1 : (1 : Int) + (k : Int) = ((k + 1 : Nat) : Int) := by omega
      have hkc : ((k + 1 : Nat) : Int) ≤ (c5 : Int) := by omega
      have hk0 : (0 : Int) ≤ ((k + 1 : Nat) : Int) := by omega
      clear hg7 hgr hit8 hl8 hk8 b8 b89 u9 b59 hq0 hk HO7 HB57 HO6 HM6 HU6 HI6 HY6 HB56
      go_wp2_with fail
      refine (HPL.out _).mono ?_
      rintro e wq ⟨rfl, rfl⟩
      have hyk := (HY5.out.take (k + 1) c5 (by rw [show (7 :: P).length = m + 1 by rw [HMP.out]; rfl]; omega) (by omega) (Nat.le_refl _)).under HB59.out
      have HYK : Hid (By w9 (.slice a5' (k + 1) c5) ((7 :: P).take (k + 1))) := hyk
      have hlk : ((7 :: P).take (k + 1)).length = k + 1 := by rw [List.length_take, show (7 :: P).length = m + 1 by rw [HMP.out]; rfl]; omega
      have hgk := eget_any w9 (.slice a5' (k + 1) c5) ((7 :: P).take (k + 1)) 1 (HSH5.out.under HB59.out) HYK.out (by rw [hlk]; omega) (by decide) (by decide) (by have := HB5.out.size; have := HB59.out.size; omega)
      have hge : (getR ((7 :: P).take (k + 1)) 1).e = 3 := by
        unfold getR
        rw [if_neg (by rw [hlk]; omega)]
        exact HCUT.out (k + 1) (by omega) (by have := HMP.out; omega)
      have HGK : Hid (Calls Tryd.prog 19 #[.slice a5' (k + 1) c5, .int .i64 1] w9 fun e w' => ∃ v, e = .returned (.tuple #[v, .int .i64 0, .int .i64 3]) ∧ Below w9.heap.size w9 w' ∧ IsT w' tmZ v) := hgk.mono (fun e w' h => by
        obtain ⟨v, he, hb, hi⟩ := h
        rw [hge, if_neg (show ¬ (3 : Nat) = 0 by decide)] at he
        rw [hge, if_neg (show ¬ (3 : Nat) = 0 by decide)] at hi
        exact ⟨v, he, hb, hi⟩)
      clear hyk hgk hge hlk HPL HCUT HGOT HYK HY5
      go_wp2_with fail
      refine HGK.out.mono ?_
      rintro e w10 ⟨tvz, rfl, b10, hitz⟩
      obtain ⟨slz, skz, rfl, hlz, hkz, -⟩ := hitz.open
      obtain ⟨plz, clz, rfl⟩ := hlz.shape
      obtain ⟨pkz, ckz, rfl, -⟩ := hkz.shape
      simp only [tmV, tmZ, Tm.kind, Tm.neg, Tm.limbs, Tm.str, Tm.num, Tm.kids, List.length_nil]
      obtain ⟨w11, hw11⟩ : ∃ w11, w10.alloc (.cells #[.int .i64 0, .bool false, .slice plz 0 clz, .string ⟨#[]⟩, .int .i64 0, .slice pkz 0 ckz] 29) = w11 := ⟨_, rfl⟩
      have b1011 : Below w10.heap.size w10 w11 := by rw [← hw11]; exact (Below.refl _ _).alloc (Nat.le_refl _) _
      have b911 : Below w9.heap.size w9 w11 := b10.trans (b1011.mono b10.size)
      have uz : Bt w11 w10.heap.size 0 false (.slice plz 0 clz) ⟨#[]⟩ 0 (.slice pkz 0 ckz) := by rw [← hw11]; exact Bt.new w10 _ _ _ _ _ _ ⟨_, _, _, rfl⟩ ⟨_, _, _, rfl⟩
      have HUZ : Hid (Bt w11 w10.heap.size 0 false (.slice plz 0 clz) ⟨#[]⟩ 0 (.slice pkz 0 ckz)) := uz
      have h511 : Below w5.heap.size w5 w11 := HB59.out.trans (b911.mono HB59.out.size)
      have HB11 : Hid (Below w.heap.size w w11) := HB5.out.trans (h511.mono HB5.out.size)
      have HIA : Hid (IsT w11 t (.agg #[.int .i64 t.kind, .bool t.neg, .slice pl8 t.limbs.length cl8, .string t.str, .int .i64 t.num, .slice pk8 t.kids.length ck8])) := HI9.out.under b911
      have HIB : Hid (IsT w11 t (.agg #[.int .i64 t.kind, .bool t.neg, .slice pl t.limbs.length cl, .string t.str, .int .i64 t.num, .slice pk t.kids.length ck])) := HI5.out.under h511
      obtain ⟨y0, y1, y2, y3, y4, y5⟩ := (HT9.out.under b911).cells
      obtain ⟨x0, x1, x2, x3, x4, x5⟩ := (HU5.out.under h511).cells
      have hmm : ((m : Int) + 1 == (m : Int) + 1) = true := by simp
      have hm1e : (((1 + m : Nat) : Int)) = (m : Int) + 1 := by omega
      clear hitz hlz hkz b10 b1011 b911 h511 uz HGK HT9 HU5 HI9 HI5 HM5 HSH5 HB5 HB59 HB58
      go_wp2_with fail
      refine (sameT_yes t.nodes t (Nat.le_refl _) 1 _ _ _ ((ok_iff t).1 HOK.out).1 HIA.out HIB.out).mono ?_
      rintro e w12 ⟨rfl, b12⟩
      have HB12 : Hid (Below w.heap.size w w12) := HB11.out.trans (b12.mono HB11.out.size)
      obtain ⟨z0, -⟩ := (HUZ.out.under b12).cells
      clear b12 x0 x1 x2 x3 x4 x5 y0 y1 y2 y3 y4 y5
      go_wp2_with fail
      refine (awake4 _).mono ?_
      rintro e w13 ⟨rfl, b13⟩
      have HB13 : Hid (Below w.heap.size w w13) := HB12.out.trans (b13.mono HB12.out.size)
      clear b13
      go_wp2_with fail
      go_ret
      exact ⟨rfl, HB13.out⟩
end Go.Proofs.YtbmondbicnfcpaaDoor
