/-
  The law NumAll: for every op, every two numbers and every int it returns true.
-/
import Derived.Test.YtmhcgdigccaogaaNumAllA
namespace Go.Proofs.Ytmhcgdigccaogaa
open Go.RowKit
set_option linter.unusedVariables false
attribute [local go_sem ↓] Go.wp_at_zero Go.wp_at_succ

set_option maxRecDepth 100000 in
set_option maxHeartbeats 32000000 in
theorem numAll_walk (op : Int) (na nb : Bool) (sa sb : Value) (za zb : List Int) (v : Int) (w : World) (hsa : Sl w sa za) (hsb : Sl w sb zb) (hv0 : -9223372036854775808 ≤ v) (hv1 : v ≤ 9223372036854775807) :
    Calls Try.prog 3 #[.int .i64 op, .agg #[.bool na, sa], .agg #[.bool nb, sb], .int .i64 v] w fun e w' => e = .returned (.bool true) ∧ Below w.heap.size w w' := by
  obtain ⟨pa, ca, rfl⟩ := hsa.shape
  obtain ⟨pb, cb, rfl⟩ := hsb.shape
  obtain ⟨hB, ua, ub⟩ := boxes2' w na nb pa pb za.length ca zb.length cb
  have ta := hsa.below hB
  have tb := hsb.below hB
  clear hsa hsb
  obtain ⟨b, hb⟩ : ∃ b, (decide (za.length ≤ 30) && decide (zb.length ≤ 30)) = b := ⟨_, rfl⟩
  have HB : Hid _ := hb
  clear hb
  go_enter Try.func3, Try.ntmps3
  go_wp2_with fail
  refine (few_any na nb b _ _ za zb _ ta tb HB.out).mono ?_
  rintro e w1 ⟨rfl, b1⟩
  replace ua := ua.under b1
  replace ub := ub.under b1
  replace ta := ta.below b1
  replace tb := tb.below b1
  replace hB := bcall hB b1
  clear b1
  obtain ⟨fa, ha, -⟩ := ua.facts
  obtain ⟨fb, hb, -⟩ := ub.facts
  cases b
  · clear HB
    go_wp2_with fail
    refine (awake_any _).mono ?_
    rintro e wz ⟨rfl, bz⟩
    replace hB := bcall hB bz
    clear fa ha fb hb ua ub ta tb bz
    go_wp2_with fail
    go_ret
    exact ⟨rfl, hB⟩
  · have hl := HB.out
    simp only [Bool.and_eq_true, decide_eq_true_eq] at hl
    obtain ⟨hla, hlb⟩ := hl
    clear HB
    go_wp2_with fail
    generalize hw0 : w1 = w0 at *
    clear hw0
    have xa := ua
    have xb := ub
    have notok : Tok 0 := trivial
    go_cut [9, 10] from 28 (fun s q wc => RPair w0 na za nb zb s q wc)
    case first =>
      go_region_held3 (fun w' => (w'.cell? ⟨w.heap.size, 0, none⟩ = some (.bool na) ∧ w'.cell? ⟨w.heap.size, 1, none⟩ = some (.slice pa za.length ca)) ∧ (w'.cell? ⟨w.heap.size + 1, 0, none⟩ = some (.bool nb) ∧ w'.cell? ⟨w.heap.size + 1, 1, none⟩ = some (.slice pb zb.length cb)))
        ((refine two_held xa xb ?_; (repeat (first | exact hk2 | exact hk1 | exact (Below.refl _ _).drew | exact Below.refl _ _ | refine Below.drew ?_ | refine balloc ?_ _ | refine bset ?_ (by omega) _ _)); done))
        (first
          | ((have := notok; go_at_call 7; refine (copy_any na _ za _ (ta.below (by first | exact (Below.refl _ _).drew | exact (balloc (Below.refl _ _) _).drew | exact (balloc (balloc (Below.refl _ _) _) _).drew)) (by omega)).mono ?_; rintro e x1 ⟨v1, rfl, i1, b1⟩; clear notok; have tok1 : Tok 1 := trivial; have hk1 : Below w0.heap.size w0 x1 := (by first | exact bcall (Below.refl _ _).drew b1 | exact bcall (balloc (Below.refl _ _) _).drew b1 | exact bcall (balloc (balloc (Below.refl _ _) _) _).drew b1); have s1 := hk1.size; (first | (have y1a : Bx x1 w0.heap.size false (.slice none 0 0) := (bxdrew (bxalloc (Bx.new w0 false none 0 0) (.cells #[.bool false, .slice none 0 0] 24))).under b1; have z1a : Bx x1 (w0.heap.size + 1) false (.slice none 0 0) := (bxdrew (Bx.new' (w := w0.alloc (.cells #[.bool false, .slice none 0 0] 24)) (by simp))).under b1; obtain ⟨y1a0, y1a1, y1a2, y1a3, y1a4⟩ := y1a.facts; obtain ⟨z1a0, z1a1, z1a2, z1a3, z1a4⟩ := z1a.facts) | (have y1a : Bx x1 w0.heap.size false (.slice none 0 0) := (bxdrew (Bx.new w0 false none 0 0)).under b1; obtain ⟨y1a0, y1a1, y1a2, y1a3, y1a4⟩ := y1a.facts) | skip); clear b1))
          | ((have := tok1; go_at_call 7; refine (copy_any nb _ zb _ (tb.below (by first | exact hk1 | exact balloc hk1 _ | exact balloc (balloc hk1 _) _)) (by omega)).mono ?_; rintro e x2 ⟨v2, rfl, i2, b2⟩; clear tok1; have hk12 : Below x1.heap.size x1 x2 := (by first | exact bcall (Below.refl _ _) b2 | exact bcall (balloc (Below.refl _ _) _) b2 | exact bcall (balloc (balloc (Below.refl _ _) _) _) b2); have hk2 : Below w0.heap.size w0 x2 := bcall hk1 hk12; have s2 := hk12.size; replace i1 := i1.below hk12; obtain ⟨_, rfl, t1⟩ := i1; obtain ⟨p1, q1, rfl⟩ := t1.shape; obtain ⟨_, rfl, t2⟩ := i2; obtain ⟨p2, q2, rfl⟩ := t2.shape; (try (have y2a := y1a.under hk12; obtain ⟨y2a0, y2a1, y2a2, y2a3, y2a4⟩ := y2a.facts)); (try (have z2a := z1a.under hk12; obtain ⟨z2a0, z2a1, z2a2, z2a3, z2a4⟩ := z2a.facts)); (first | (have y2b : Bx x2 x1.heap.size false (.slice none 0 0) := (bxalloc (Bx.new x1 false none 0 0) (.cells #[.bool false, .slice none 0 0] 24)).under b2; have z2b : Bx x2 (x1.heap.size + 1) false (.slice none 0 0) := (Bx.new' (w := x1.alloc (.cells #[.bool false, .slice none 0 0] 24)) (by simp)).under b2; obtain ⟨y2b0, y2b1, y2b2, y2b3, y2b4⟩ := y2b.facts; obtain ⟨z2b0, z2b1, z2b2, z2b3, z2b4⟩ := z2b.facts) | (have y2b : Bx x2 x1.heap.size false (.slice none 0 0) := (Bx.new x1 false none 0 0).under b2; obtain ⟨y2b0, y2b1, y2b2, y2b3, y2b4⟩ := y2b.facts) | skip); clear b2)))
      all_goals
        go_wp2_with fail
        go_meet
        case rel => first
          | (with_reducible refine rpair1 hk2 t1 t2)
          | (with_reducible refine rpair2 hk2 t1 t2)
          | ((with_reducible refine rpair3 hk2 ?_ ?_ t1 t2) <;> first | assumption | omega)
          | ((with_reducible refine rpair4 hk2 ?_ ?_ t1 t2) <;> first | assumption | omega)
          | ((with_reducible refine rpair5 hk2 ?_ ?_ ?_ ?_ ?_ t1 t2) <;> first | assumption | omega)
    case rest =>
      obtain ⟨⟨gx, px, cx, rfl, ux, tx⟩, ⟨gy, py, cy, rfl, uy, ty⟩, hC⟩ := hcut
      replace ua := ua.under hC
      replace ub := ub.under hC
      replace ta := ta.below hC
      replace tb := tb.below hC
      replace hB := bcall hB hC
      clear hC xa xb fa ha fb hb
      obtain ⟨x, hx⟩ : ∃ x, val na za = x := ⟨_, rfl⟩
      obtain ⟨y, hy⟩ : ∃ y, val nb zb = y := ⟨_, rfl⟩
      have qx : Nx wc (.agg #[.bool na, .slice px za.length cx]) x := ⟨na, za, ⟨_, rfl, tx⟩, hx⟩
      have qy : Nx wc (.agg #[.bool nb, .slice py zb.length cy]) y := ⟨nb, zb, ⟨_, rfl, ty⟩, hy⟩
      have qa : Nx wc (.agg #[.bool na, .slice pa za.length ca]) x := ⟨na, za, ⟨_, rfl, ta⟩, hx⟩
      have qb : Nx wc (.agg #[.bool nb, .slice pb zb.length cb]) y := ⟨nb, zb, ⟨_, rfl, tb⟩, hy⟩
      obtain ⟨r, hr⟩ : ∃ r, opS op x y = r := ⟨_, rfl⟩
      have HR : Hid (opS op x y = r) := hr
      obtain ⟨t, ht⟩ : ∃ t, intS x = t := ⟨_, rfl⟩
      have HT : Hid (intS x = t) := ht
      obtain ⟨gd, hgd⟩ : ∃ g : Bool, g = true ↔ Good na za := ⟨@decide _ (goodDec na za), by simp⟩
      have HG : Hid (gd = true ↔ Good na za) := hgd
      obtain ⟨sc, hsc⟩ : ∃ s, sg x y = s := ⟨_, rfl⟩
      have HS : Hid (sg x y = sc) := hsc
      clear hx hy hr ht hgd hsc
      obtain ⟨f1, h1, -⟩ := ux.facts
      obtain ⟨f2, h2, -⟩ := uy.facts
      go_wp2_with fail
      refine (op_any op _ _ x y _ qx qy).mono ?_
      rw [HR.out]
      rintro e w3 ⟨v3, rfl, i3, b3⟩
      obtain ⟨nn, pn, zn, cn, rfl, tn, gn, xn⟩ := i3.open
      have bd := (Below.refl w3.heap.size w3).alloc (Nat.le_refl _) (.cells #[.bool nn, .slice pn zn.length cn] 24)
      have un := Bx.new w3 nn pn zn.length cn
      have iN := i3.below bd
      have b33 := bcall b3 bd
      replace ua := ua.under b33
      replace ub := ub.under b33
      replace ux := ux.under b33
      replace uy := uy.under b33
      replace ta := ta.below b33
      replace tx := tx.below b33
      replace qx := qx.below b33
      replace qy := qy.below b33
      replace qa := qa.below b33
      replace qb := qb.below b33
      replace hB := bcall hB b33
      clear b3 bd b33 i3 tn gn xn f1 h1 f2 h2 ty tb
      obtain ⟨fa, ha, -⟩ := ua.facts
      obtain ⟨fb, hb, -⟩ := ub.facts
      go_wp2_with fail
      generalize w3.alloc (.cells #[.bool nn, .slice pn zn.length cn] 24) = w4 at *
      generalize w3.heap.size = gn at *
      refine (rop_any op _ _ x y _ qa qb).mono ?_
      rw [HR.out]
      rintro e w5 ⟨v5, rfl, i5, b5⟩
      obtain ⟨nm, pm, zm, cm, rfl, tm, gm, xm⟩ := i5.open
      have bd := (Below.refl w5.heap.size w5).alloc (Nat.le_refl _) (.cells #[.bool nm, .slice pm zm.length cm] 24)
      have um := Bx.new w5 nm pm zm.length cm
      have iM := i5.below bd
      have b55 := bcall b5 bd
      replace iN := iN.below b55
      replace un := un.under b55
      replace ua := ua.under b55
      replace ub := ub.under b55
      replace ux := ux.under b55
      replace uy := uy.under b55
      replace ta := ta.below b55
      replace tx := tx.below b55
      replace qx := qx.below b55
      replace qy := qy.below b55
      replace qa := qa.below b55
      replace qb := qb.below b55
      replace hB := bcall hB b55
      clear b5 bd b55 i5 tm gm xm fa ha fb hb
      obtain ⟨f1, h1, -⟩ := ux.facts
      go_wp2_with fail
      generalize w5.alloc (.cells #[.bool nm, .slice pm zm.length cm] 24) = w6 at *
      generalize w5.heap.size = gm at *
      refine (int_any _ x _ qx).mono ?_
      rw [HT.out]
      rintro e w7 ⟨rfl, b7⟩
      replace iN := iN.below b7
      replace iM := iM.below b7
      replace un := un.under b7
      replace um := um.under b7
      replace ua := ua.under b7
      replace ub := ub.under b7
      replace ux := ux.under b7
      replace uy := uy.under b7
      replace ta := ta.below b7
      replace tx := tx.below b7
      replace qx := qx.below b7
      replace qy := qy.below b7
      replace qa := qa.below b7
      replace qb := qb.below b7
      replace hB := bcall hB b7
      clear f1 h1 b7
      obtain ⟨fa, ha, -⟩ := ua.facts
      go_wp2_with fail
      refine (rint_any _ x _ qa).mono ?_
      rw [HT.out]
      rintro e w8 ⟨rfl, b8⟩
      replace iN := iN.below b8
      replace iM := iM.below b8
      replace un := un.under b8
      replace um := um.under b8
      replace ua := ua.under b8
      replace ub := ub.under b8
      replace ux := ux.under b8
      replace uy := uy.under b8
      replace ta := ta.below b8
      replace tx := tx.below b8
      replace qx := qx.below b8
      replace qy := qy.below b8
      replace qa := qa.below b8
      replace qb := qb.below b8
      replace hB := bcall hB b8
      clear fa ha b8
      generalize t.getD 0 = ti at *
      generalize t.isSome = ts at *
      generalize hro : r.isSome = ro at *
      clear hro
      go_wp2_with fail
      try simp only [List.append_eq, List.cons_append, List.nil_append]
      generalize hWW : w8 = WW at *
      clear hWW
      go_region_held3 (fun w' => (w'.cell? ⟨w.heap.size, 0, none⟩ = some (.bool na) ∧ w'.cell? ⟨w.heap.size, 1, none⟩ = some (.slice pa za.length ca)) ∧ (w'.cell? ⟨w.heap.size + 1, 0, none⟩ = some (.bool nb) ∧ w'.cell? ⟨w.heap.size + 1, 1, none⟩ = some (.slice pb zb.length cb)) ∧ (w'.cell? ⟨gx, 0, none⟩ = some (.bool na) ∧ w'.cell? ⟨gx, 1, none⟩ = some (.slice px za.length cx)) ∧ (w'.cell? ⟨gy, 0, none⟩ = some (.bool nb) ∧ w'.cell? ⟨gy, 1, none⟩ = some (.slice py zb.length cy)) ∧ (w'.cell? ⟨gn, 0, none⟩ = some (.bool nn) ∧ w'.cell? ⟨gn, 1, none⟩ = some (.slice pn zn.length cn)) ∧ (w'.cell? ⟨gm, 0, none⟩ = some (.bool nm) ∧ w'.cell? ⟨gm, 1, none⟩ = some (.slice pm zm.length cm)))
        (first | exact ⟨ua.held ((Below.refl _ _).drew), ub.held ((Below.refl _ _).drew), ux.held ((Below.refl _ _).drew), uy.held ((Below.refl _ _).drew), un.held ((Below.refl _ _).drew), um.held ((Below.refl _ _).drew)⟩ | exact ⟨ua.held (by assumption), ub.held (by assumption), ux.held (by assumption), uy.held (by assumption), un.held (by assumption), um.held (by assumption)⟩)
        (first
          | ((have := tok14; go_at_call 6; refine (awake_any _).mono ?_; rintro e x15 ⟨rfl, b15⟩; have hk15 : Below WW.heap.size WW x15 := hk14.trans (b15.mono hk14.size); clear b15; have tok15 : Tok 15 := trivial))
          | ((have := tok13; go_at_call 12; refine (same_raw na _ _ za _ (tx.below hk13) (ta.below hk13)).mono ?_; rintro e x14 ⟨rfl, b14⟩; have hk14 : Below WW.heap.size WW x14 := hk13.trans (b14.mono hk13.size); clear b14; have tok14 : Tok 14 := trivial))
          | ((have := tok12; go_at_call 22; refine (rbits_is _ x B _ (qa.below hk12) lB).mono ?_; rintro e x13 ⟨rfl, b13⟩; have hk13 : Below WW.heap.size WW x13 := hk12.trans (b13.mono hk12.size); clear b13; have tok13 : Tok 13 := trivial))
          | ((have := tok11; go_at_call 21; refine (bits_any _ x _ (qx.below hk11)).mono ?_; rintro e x12 ⟨B, rfl, lB, mB, b12⟩; have hk12 : Below WW.heap.size WW x12 := hk11.trans (b12.mono hk11.size); clear b12; have tok12 : Tok 12 := trivial))
          | ((have := tok10; go_at_call 12; refine (same_num _ _ (-x) _ ip1 ip2).mono ?_; rintro e x11 ⟨rfl, b11⟩; have hk11 : Below WW.heap.size WW x11 := hk10.trans (b11.mono hk10.size); clear b11; have tok11 : Tok 11 := trivial))
          | ((have := tok9; go_at_call 20; refine (rneg_any _ x _ (qa.below hk9)).mono ?_; rintro e x10 ⟨vp2, rfl, jp2, b10⟩; have ip2 : IsN x10 vp2 (-x) := jp2; clear jp2; have hk10 : Below WW.heap.size WW x10 := hk9.trans (b10.mono hk9.size); have ip1 := ip1.below b10; clear b10; have tok10 : Tok 10 := trivial))
          | ((have := tok8; go_at_call 19; refine (neg_any _ x _ (qx.below hk8)).mono ?_; rintro e x9 ⟨vp1, rfl, jp1, b9⟩; have ip1 : IsN x9 vp1 (-x) := jp1; clear jp1; have hk9 : Below WW.heap.size WW x9 := hk8.trans (b9.mono hk8.size); clear b9; have tok9 : Tok 9 := trivial))
          | ((have := tok7; go_at_call 12; refine (same_num _ _ v _ io1 io2).mono ?_; rintro e x8 ⟨rfl, b8⟩; have hk8 : Below WW.heap.size WW x8 := hk7.trans (b8.mono hk7.size); clear b8; have tok8 : Tok 8 := trivial))
          | ((have := tok6; go_at_call 18; refine (rof_any v _ hv0 hv1).mono ?_; rintro e x7 ⟨vo2, rfl, jo2, b7⟩; have io2 : IsN x7 vo2 (v) := jo2; clear jo2; have hk7 : Below WW.heap.size WW x7 := hk6.trans (b7.mono hk6.size); have io1 := io1.below b7; clear b7; have tok7 : Tok 7 := trivial))
          | ((have := tok5; go_at_call 17; refine (of_any v _ hv0 hv1).mono ?_; rintro e x6 ⟨vo1, rfl, jo1, b6⟩; have io1 : IsN x6 vo1 (v) := jo1; clear jo1; have hk6 : Below WW.heap.size WW x6 := hk5.trans (b6.mono hk5.size); clear b6; have tok6 : Tok 6 := trivial))
          | ((have := tok4; go_at_call 16; refine (rncmp_any _ _ x y _ (qa.below hk4) (qb.below hk4)).mono ?_; rintro e x5 ⟨rfl, b5⟩; rw [HS.out]; have hk5 : Below WW.heap.size WW x5 := hk4.trans (b5.mono hk4.size); clear b5; have tok5 : Tok 5 := trivial))
          | ((have := tok3; go_at_call 15; refine (ncmp_any _ _ x y _ (qx.below hk3) (qy.below hk3)).mono ?_; rintro e x4 ⟨rfl, b4⟩; rw [HS.out]; have hk4 : Below WW.heap.size WW x4 := hk3.trans (b4.mono hk3.size); clear b4; have tok4 : Tok 4 := trivial))
          | ((have := tok2; go_at_call 14; refine (rcheck_is gd na _ za _ (ta.below hk2) HG.out).mono ?_; rintro e x3 ⟨rfl, b3⟩; have hk3 : Below WW.heap.size WW x3 := hk2.trans (b3.mono hk2.size); clear b3; have tok3 : Tok 3 := trivial))
          | ((have := tok1; go_at_call 13; refine (check_is gd na _ za _ (tx.below hk1) HG.out).mono ?_; rintro e x2 ⟨rfl, b2⟩; have hk2 : Below WW.heap.size WW x2 := hk1.trans (b2.mono hk1.size); clear b2; have tok2 : Tok 2 := trivial))
          | ((go_at_call 12; refine (same_num _ _ (r.getD 0) _ (iN.below ((Below.refl _ _).drew)) (iM.below ((Below.refl _ _).drew))).mono ?_; rintro e x1 ⟨rfl, b1⟩; have hk1 : Below WW.heap.size WW x1 := (Below.refl _ _).drew.trans b1; clear b1; have tok1 : Tok 1 := trivial)))
      go_wp2_with fail
      go_ret
      exact ⟨rfl, hB.trans (hk15.mono hB.size)⟩
end Go.Proofs.Ytmhcgdigccaogaa
