/-
  The law NumOrders: for every two numbers it returns true.
-/
import Derived.Test.YtnfkaddjikimdabNumSame
namespace Go.Proofs.Ytnfkaddjikimdab
open Go.RowKit
set_option linter.unusedVariables false

theorem small_in {n : Bool} {zs : List Int} (hok : Ok zs) {k : Nat} (hl : zs.length ≤ k) : -(B k) < Z n (V zs) ∧ Z n (V zs) < B k := by
  have h1 := V_lt hok
  have h2 := B_mono hl
  have h3 := V_nonneg hok
  have h4 := B_pos k
  cases n <;> simp [Z] <;> omega

theorem orders_math {x y : Int} (h1 : -(B 8) < x ∧ x < B 8) (h2 : -(B 8) < y ∧ y < B 8) : opS 2 x y = some (x - y) := by
  have hb := B_mono (show 9 ≤ 12 by omega)
  have he : B 9 = 4294967296 * B 8 := rfl
  have hp := B_pos 8
  rw [opS_2]
  unfold fitS
  rw [if_pos (by omega)]

theorem sg_sub (x y : Int) : sg (x - y) 0 = sg x y := by
  rcases Int.lt_trichotomy x y with h | h | h
  · rw [sg_lt h, sg_lt (by omega)]
  · rw [h, sg_self, Int.sub_self, sg_self]
  · rw [sg_gt h, sg_gt (by omega)]

set_option maxHeartbeats 32000000 in
theorem numOrders_walk (na nb : Bool) (sa sb : Value) (za zb : List Int) (w : World) (hsa : Sl w sa za) (hsb : Sl w sb zb) :
    Calls Try.prog 3 #[.agg #[.bool na, sa], .agg #[.bool nb, sb]] w fun e w' => e = .returned (.bool true) ∧ Below w.heap.size w w' := by
  obtain ⟨pa, ca, rfl⟩ := hsa.shape
  obtain ⟨pb, cb, rfl⟩ := hsb.shape
  obtain ⟨hB, ua, ub⟩ := boxes2' w na nb pa pb za.length ca zb.length cb
  have ta := hsa.below hB
  have tb := hsb.below hB
  clear hsa hsb
  obtain ⟨fa, ha, -⟩ := ua.facts
  obtain ⟨fb, hb, -⟩ := ub.facts
  by_cases hga : Good na za
  · by_cases hgb : Good nb zb
    · by_cases hla : 8 < za.length
      · have hla' : (8 : Int) < (za.length : Int) := by omega
        go_enter Try.func3, Try.ntmps3
        go_wp2_with fail
        refine (rcheck_yes na _ za _ ta hga).mono ?_
        rintro e w1 ⟨rfl, b1⟩
        replace ua := ua.under b1
        replace ub := ub.under b1
        replace ta := ta.below b1
        replace tb := tb.below b1
        replace hB := hB.trans (b1.mono hB.size)
        clear fa ha fb hb b1
        obtain ⟨fa, ha, -⟩ := ua.facts
        obtain ⟨fb, hb, -⟩ := ub.facts
        go_wp2_with fail
        refine (rcheck_yes nb _ zb _ tb hgb).mono ?_
        rintro e w2 ⟨rfl, b2⟩
        replace ua := ua.under b2
        replace ub := ub.under b2
        replace ta := ta.below b2
        replace tb := tb.below b2
        replace hB := hB.trans (b2.mono hB.size)
        clear fa ha fb hb b2
        obtain ⟨fa, ha, -⟩ := ua.facts
        obtain ⟨fb, hb, -⟩ := ub.facts
        go_wp2_with fail
        refine (awake_any _).mono ?_
        rintro e wz ⟨rfl, bz⟩
        replace hB := hB.trans (bz.mono hB.size)
        clear fa ha fb hb ua ub ta tb bz
        go_wp2_with fail
        go_ret
        exact ⟨rfl, hB⟩
      · have hla' : ¬ ((8 : Int) < (za.length : Int)) := by omega
        by_cases hlb : 8 < zb.length
        · have hlb' : (8 : Int) < (zb.length : Int) := by omega
          go_enter Try.func3, Try.ntmps3
          go_wp2_with fail
          refine (rcheck_yes na _ za _ ta hga).mono ?_
          rintro e w1 ⟨rfl, b1⟩
          replace ua := ua.under b1
          replace ub := ub.under b1
          replace ta := ta.below b1
          replace tb := tb.below b1
          replace hB := hB.trans (b1.mono hB.size)
          clear fa ha fb hb b1
          obtain ⟨fa, ha, -⟩ := ua.facts
          obtain ⟨fb, hb, -⟩ := ub.facts
          go_wp2_with fail
          refine (rcheck_yes nb _ zb _ tb hgb).mono ?_
          rintro e w2 ⟨rfl, b2⟩
          replace ua := ua.under b2
          replace ub := ub.under b2
          replace ta := ta.below b2
          replace tb := tb.below b2
          replace hB := hB.trans (b2.mono hB.size)
          clear fa ha fb hb b2
          obtain ⟨fa, ha, -⟩ := ua.facts
          obtain ⟨fb, hb, -⟩ := ub.facts
          go_wp2_with fail
          refine (awake_any _).mono ?_
          rintro e wz ⟨rfl, bz⟩
          replace hB := hB.trans (bz.mono hB.size)
          clear fa ha fb hb ua ub ta tb bz
          go_wp2_with fail
          go_ret
          exact ⟨rfl, hB⟩
        · have hlb' : ¬ ((8 : Int) < (zb.length : Int)) := by omega
          go_enter Try.func3, Try.ntmps3
          go_wp2_with fail
          refine (rcheck_yes na _ za _ ta hga).mono ?_
          rintro e w1 ⟨rfl, b1⟩
          replace ua := ua.under b1
          replace ub := ub.under b1
          replace ta := ta.below b1
          replace tb := tb.below b1
          replace hB := hB.trans (b1.mono hB.size)
          clear fa ha fb hb b1
          obtain ⟨fa, ha, -⟩ := ua.facts
          obtain ⟨fb, hb, -⟩ := ub.facts
          go_wp2_with fail
          refine (rcheck_yes nb _ zb _ tb hgb).mono ?_
          rintro e w2 ⟨rfl, b2⟩
          replace ua := ua.under b2
          replace ub := ub.under b2
          replace ta := ta.below b2
          replace tb := tb.below b2
          replace hB := hB.trans (b2.mono hB.size)
          clear fa ha fb hb b2
          obtain ⟨fa, ha, -⟩ := ua.facts
          obtain ⟨fb, hb, -⟩ := ub.facts
          go_wp2_with fail
          obtain ⟨x, hx⟩ : ∃ x, x = Z na (V za) := ⟨_, rfl⟩
          obtain ⟨y, hy⟩ : ∃ y, y = Z nb (V zb) := ⟨_, rfl⟩
          have hs1 := small_in (n := na) ta.ok (show za.length ≤ 8 by omega)
          have hs2 := small_in (n := nb) tb.ok (show zb.length ≤ 8 by omega)
          rw [← hx] at hs1
          rw [← hy] at hs2
          have HM : Hid (opS 2 x y = some (x - y)) := orders_math hs1 hs2
          have ia : IsN w2 (.agg #[.bool na, .slice pa za.length ca]) x := ⟨na, za, ⟨_, rfl, ta⟩, hga, hx.symm⟩
          have ib : IsN w2 (.agg #[.bool nb, .slice pb zb.length cb]) y := ⟨nb, zb, ⟨_, rfl, tb⟩, hgb, hy.symm⟩
          have hsg := Z_pos hga ta.ok
          rw [← hx] at hsg
          obtain ⟨s, hs⟩ : ∃ s, s = sg x y := ⟨_, rfl⟩
          obtain ⟨r, hr⟩ : ∃ r, r = sg x 0 := ⟨_, rfl⟩
          have hsb := sg_bd x y
          rw [← hs] at hsb
          have hw : IntKind.i64.wrap (-s) = -s := by rw [IntKind.wrap_i64]; omega
          have hrn : decide (r < 0) = na := by
            rw [hr]
            cases na
            · have := hsg.2 rfl
              rcases Int.lt_trichotomy x 0 with h | h | h
              · omega
              · rw [h]; rfl
              · rw [sg_gt h]; rfl
            · rw [sg_lt (hsg.1 rfl)]; rfl
          have H1 : Hid (sg x y = s) := hs.symm
          have H2 : Hid (sg y x = -s) := by show sg y x = -s; rw [hs]; exact sg_swap x y
          have H3 : Hid (sg (-x) (-y) = -s) := by show sg (-x) (-y) = -s; rw [sg_neg, hs]; exact sg_swap x y
          have H4 : Hid (sg x 0 = r) := hr.symm
          have H5 : Hid (sg (x - y) 0 = s) := by show sg (x - y) 0 = s; rw [sg_sub, hs]
          have H6 : Hid (- -x = x) := Int.neg_neg x
          clear hx hy hs1 hs2 hs hr hga hgb ta tb hsg
          refine (op_any 2 _ _ x y _ ia.nx ib.nx).mono ?_
          rw [HM.out]
          rintro e w3 ⟨v3, rfl, i3, b3⟩
          obtain ⟨nd, pd, zd, cd, rfl, td, gd, xd⟩ := i3.open
          have ud0 := Bx.new w3 nd pd zd.length cd
          have bd := (Below.refl w3.heap.size w3).alloc (Nat.le_refl _) (.cells #[.bool nd, .slice pd zd.length cd] 24)
          have id : IsN (w3.alloc (.cells #[.bool nd, .slice pd zd.length cd] 24)) (.agg #[.bool nd, .slice pd zd.length cd]) (x - y) := i3.below bd
          have b33 := b3.trans (bd.mono b3.size)
          replace ua := ua.under b33
          replace ub := ub.under b33
          replace ia := ia.below b33
          replace ib := ib.below b33
          replace hB := hB.trans (b33.mono hB.size)
          clear fa ha fb hb td gd xd bd b33 b3 i3
          go_wp2_with fail
          generalize w3.alloc (.cells #[.bool nd, .slice pd zd.length cd] 24) = w4 at *
          generalize w3.heap.size = gd at *
          go_region_held3 (fun w' => (w'.cell? ⟨gd, 0, none⟩ = some (.bool nd) ∧ w'.cell? ⟨gd, 1, none⟩ = some (.slice pd zd.length cd)))
            (first | exact ud0.held ((Below.refl _ _).drew) | exact ud0.held (by assumption))
            (first
              | ((have := tok1; go_at_call 8; refine (ncmp_any _ _ (x - y) 0 _ (id.below hk1).nx io.nx).mono ?_; rintro e x2 ⟨rfl, b2⟩; rw [H5.out]; have hk2 : Below w4.heap.size w4 x2 := hk1.trans (b2.mono hk1.size); clear b2; have tok2 : Tok 2 := trivial))
              | ((go_at_call 9; refine (of_any 0 _ (by decide) (by decide)).mono ?_; rintro e x1 ⟨vo, rfl, jo, b1⟩; have io : IsN x1 vo (0) := jo; clear jo; have hk1 : Below w4.heap.size w4 x1 := (Below.refl _ _).drew.trans b1; clear b1; have tok1 : Tok 1 := trivial)))
          replace ua := ua.under hk2
          replace ub := ub.under hk2
          replace ia := ia.below hk2
          replace ib := ib.below hk2
          replace hB := hB.trans (hk2.mono hB.size)
          clear hk1 hk2 tok1 tok2 io id ud0
          go_wp2_with fail
          try simp only [List.append_eq, List.cons_append, List.nil_append]
          generalize x2 = WW at *
          go_region_held3 (fun w' => (w'.cell? ⟨w.heap.size, 0, none⟩ = some (.bool na) ∧ w'.cell? ⟨w.heap.size, 1, none⟩ = some (.slice pa za.length ca)) ∧ (w'.cell? ⟨w.heap.size + 1, 0, none⟩ = some (.bool nb) ∧ w'.cell? ⟨w.heap.size + 1, 1, none⟩ = some (.slice pb zb.length cb)))
            (first | exact ⟨ua.held ((Below.refl _ _).drew), ub.held ((Below.refl _ _).drew)⟩ | exact ⟨ua.held (by assumption), ub.held (by assumption)⟩)
            (first
              | ((have := tok10; go_at_call 6; refine (awake_any _).mono ?_; rintro e x11 ⟨rfl, b11⟩; have hk11 : Below WW.heap.size WW x11 := hk10.trans (b11.mono hk10.size); clear b11; have tok11 : Tok 11 := trivial))
              | ((have := tok9; go_at_call 8; refine (ncmp_any _ _ x 0 _ (ia.below hk9).nx io2.nx).mono ?_; rintro e x10 ⟨rfl, b10⟩; rw [H4.out]; have hk10 : Below WW.heap.size WW x10 := hk9.trans (b10.mono hk9.size); clear b10; have tok10 : Tok 10 := trivial))
              | ((have := tok8; go_at_call 9; refine (of_any 0 _ (by decide) (by decide)).mono ?_; rintro e x9 ⟨vo2, rfl, jo2, b9⟩; have io2 : IsN x9 vo2 (0) := jo2; clear jo2; have hk9 : Below WW.heap.size WW x9 := hk8.trans (b9.mono hk8.size); clear b9; have tok9 : Tok 9 := trivial))
              | ((have := tok7; go_at_call 11; refine (same_num _ _ x _ ip3 (ia.below hk7)).mono ?_; rintro e x8 ⟨rfl, b8⟩; have hk8 : Below WW.heap.size WW x8 := hk7.trans (b8.mono hk7.size); clear b8; have tok8 : Tok 8 := trivial))
              | ((have := tok6; go_at_call 10; refine (neg_any _ (-x) _ ip2.nx).mono ?_; rw [H6.out]; rintro e x7 ⟨vp3, rfl, jp3, b7⟩; have ip3 : IsN x7 vp3 (x) := jp3; clear jp3; have hk7 : Below WW.heap.size WW x7 := hk6.trans (b7.mono hk6.size); clear b7; have tok7 : Tok 7 := trivial))
              | ((have := tok5; go_at_call 10; refine (neg_any _ x _ (ia.below hk5).nx).mono ?_; rintro e x6 ⟨vp2, rfl, jp2, b6⟩; have ip2 : IsN x6 vp2 (-x) := jp2; clear jp2; have hk6 : Below WW.heap.size WW x6 := hk5.trans (b6.mono hk5.size); clear b6; have tok6 : Tok 6 := trivial))
              | ((have := tok4; go_at_call 8; refine (ncmp_any _ _ (-x) (-y) _ ipq.nx iq.nx).mono ?_; rintro e x5 ⟨rfl, b5⟩; rw [H3.out]; have hk5 : Below WW.heap.size WW x5 := hk4.trans (b5.mono hk4.size); clear b5; have tok5 : Tok 5 := trivial))
              | ((have := tok3; go_at_call 10; refine (neg_any _ y _ (ib.below hk3).nx).mono ?_; rintro e x4 ⟨vq, rfl, jq, b4⟩; have iq : IsN x4 vq (-y) := jq; clear jq; have hk4 : Below WW.heap.size WW x4 := hk3.trans (b4.mono hk3.size); have ipq := ip.below b4; clear b4; have tok4 : Tok 4 := trivial))
              | ((have := tok2; go_at_call 10; refine (neg_any _ x _ (ia.below hk2).nx).mono ?_; rintro e x3 ⟨vp, rfl, jp, b3⟩; have ip : IsN x3 vp (-x) := jp; clear jp; have hk3 : Below WW.heap.size WW x3 := hk2.trans (b3.mono hk2.size); clear b3; have tok3 : Tok 3 := trivial))
              | ((have := tok1; go_at_call 8; refine (ncmp_any _ _ y x _ (ib.below hk1).nx (ia.below hk1).nx).mono ?_; rintro e x2 ⟨rfl, b2⟩; rw [H2.out]; have hk2 : Below WW.heap.size WW x2 := hk1.trans (b2.mono hk1.size); clear b2; have tok2 : Tok 2 := trivial))
              | ((go_at_call 8; refine (ncmp_any _ _ x y _ (ia.below ((Below.refl _ _).drew)).nx (ib.below ((Below.refl _ _).drew)).nx).mono ?_; rintro e x1 ⟨rfl, b1⟩; rw [H1.out]; have hk1 : Below WW.heap.size WW x1 := (Below.refl _ _).drew.trans b1; clear b1; have tok1 : Tok 1 := trivial)))
          go_wp2_with fail
          go_ret
          exact ⟨rfl, hB.trans (hk11.mono hB.size)⟩
    · go_enter Try.func3, Try.ntmps3
      go_wp2_with fail
      refine (rcheck_yes na _ za _ ta hga).mono ?_
      rintro e w1 ⟨rfl, b1⟩
      replace ua := ua.under b1
      replace ub := ub.under b1
      replace ta := ta.below b1
      replace tb := tb.below b1
      replace hB := hB.trans (b1.mono hB.size)
      clear fa ha fb hb b1
      obtain ⟨fa, ha, -⟩ := ua.facts
      obtain ⟨fb, hb, -⟩ := ub.facts
      go_wp2_with fail
      refine (rcheck_no nb _ zb _ tb hgb).mono ?_
      rintro e w2 ⟨rfl, b2⟩
      replace ua := ua.under b2
      replace ub := ub.under b2
      replace ta := ta.below b2
      replace tb := tb.below b2
      replace hB := hB.trans (b2.mono hB.size)
      clear fa ha fb hb b2
      obtain ⟨fa, ha, -⟩ := ua.facts
      obtain ⟨fb, hb, -⟩ := ub.facts
      go_wp2_with fail
      refine (awake_any _).mono ?_
      rintro e wz ⟨rfl, bz⟩
      replace hB := hB.trans (bz.mono hB.size)
      clear fa ha fb hb ua ub ta tb bz
      go_wp2_with fail
      go_ret
      exact ⟨rfl, hB⟩
  · go_enter Try.func3, Try.ntmps3
    go_wp2_with fail
    refine (rcheck_no na _ za _ ta hga).mono ?_
    rintro e w1 ⟨rfl, b1⟩
    replace ua := ua.under b1
    replace ub := ub.under b1
    replace ta := ta.below b1
    replace tb := tb.below b1
    replace hB := hB.trans (b1.mono hB.size)
    clear fa ha fb hb b1
    obtain ⟨fa, ha, -⟩ := ua.facts
    obtain ⟨fb, hb, -⟩ := ub.facts
    go_wp2_with fail
    refine (awake_any _).mono ?_
    rintro e wz ⟨rfl, bz⟩
    replace hB := hB.trans (bz.mono hB.size)
    clear fa ha fb hb ua ub ta tb bz
    go_wp2_with fail
    go_ret
    exact ⟨rfl, hB⟩
end Go.Proofs.Ytnfkaddjikimdab
