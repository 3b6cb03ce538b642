/-
  num.Op: two numbers put together.
-/
import Derived.Test.YtmhcgdigccaogaaNumShift
namespace Go.Proofs.Ytmhcgdigccaogaa
open Go.RowKit
set_option linter.unusedVariables false
attribute [local go_sem ↓] Go.wp_at_zero Go.wp_at_succ

/-- What Op answers: the number, if it has room, and there is one. -/
def opS (op x y : Int) : Option Int :=
  if op = 1 then fitS (x + y) else if op = 2 then fitS (x - y) else if op = 3 then fitS (x * y) else if op = 4 ∨ op = 5 then divS op x y
  else if op = 6 ∨ op = 7 ∨ op = 8 then fitS (bitS op x y) else if op = 9 then fitS (shS x y) else if op = 10 then fitS (shS x (-y)) else none

theorem opS_1 (x y : Int) : opS 1 x y = fitS (x + y) := by simp [opS]
theorem opS_2 (x y : Int) : opS 2 x y = fitS (x - y) := by simp [opS]
theorem opS_3 (x y : Int) : opS 3 x y = fitS (x * y) := by simp [opS]
theorem opS_4 (x y : Int) : opS 4 x y = divS 4 x y := by simp [opS]
theorem opS_5 (x y : Int) : opS 5 x y = divS 5 x y := by simp [opS]
theorem opS_6 (x y : Int) : opS 6 x y = fitS (bitS 6 x y) := by simp [opS]
theorem opS_7 (x y : Int) : opS 7 x y = fitS (bitS 7 x y) := by simp [opS]
theorem opS_8 (x y : Int) : opS 8 x y = fitS (bitS 8 x y) := by simp [opS]
theorem opS_9 (x y : Int) : opS 9 x y = fitS (shS x y) := by simp [opS]
theorem opS_10 (x y : Int) : opS 10 x y = fitS (shS x (-y)) := by simp [opS]

/-- Behind the beginning: two boxes hold numbers that may be, the third is the result's. -/
def Three (w : World) (g : Nat) (x y : Int) (wc : World) : Prop := Two w g x y wc ∧ Bx wc (g + 1 + 1) false (.slice none 0 0)

set_option maxHeartbeats 8000000 in
theorem op_any (op : Int) (va vb : Value) (x y : Int) (w : World) (ha : Nx w va x) (hb : Nx w vb y) : Calls Try.prog 8 #[.int .i64 op, va, vb] w fun e w' => OpPost w (opS op x y) e w' := by
  obtain ⟨rr, hrr⟩ : ∃ rr, rr = opS op x y := ⟨_, rfl⟩
  rw [← hrr]
  have HRR : Hid (rr = opS op x y) := hrr
  clear hrr
  have ha0 := ha
  have hb0 := hb
  obtain ⟨na, za, ⟨sa, rfl, hsa⟩, -⟩ := ha
  obtain ⟨nb, zb, ⟨sb, rfl, hsb⟩, -⟩ := hb
  obtain ⟨pa, ca, rfl⟩ := hsa.shape
  obtain ⟨pb, cb, rfl⟩ := hsb.shape
  obtain ⟨hB0, xa, xb, xr⟩ := boxes2 w na nb pa pb za.length ca zb.length cb
  clear hsa hsb
  go_enter Try.func8, Try.ntmps8
  go_wp2_with fail
  replace ha0 := ha0.below hB0
  replace hb0 := hb0.below hB0
  generalize hw0 : ((w.alloc (.cells #[.bool na, .slice pa za.length ca] 24)).alloc (.cells #[.bool nb, .slice pb zb.length cb] 24)).alloc (.cells #[.bool false, .slice none 0 0] 24) = w0 at *
  clear hw0
  obtain ⟨i0, i1, -⟩ := xa.facts
  obtain ⟨j0, j1, -⟩ := xb.facts
  go_cut [] from 8 (fun wc => Three w w.heap.size x y wc)
  case first =>
    go_region_with (first
      | (go_at_call_of 28 (Value.slice pa za.length ca); refine (taken_any _ x _ ?_).mono ?_; exact ha0.below ((Below.refl _ _).drew); rintro e w1 ⟨v1, rfl, ⟨n1, z1, ⟨s1, rfl, t1⟩, hg1, hx1⟩, hb1⟩; have hB1 : Below w0.heap.size w0 w1 := (Below.refl _ _).drew.trans hb1; obtain ⟨c10, c11, f10, f11, l1⟩ := (xb.under hB1).facts)
      | (go_at_call_of 28 (Value.slice pb zb.length cb); refine (taken_any _ y _ ?_).mono ?_; exact hb0.below hB1; rintro e w2 ⟨v2, rfl, ⟨n2, z2, ⟨s2, rfl, t2⟩, hg2, hx2⟩, hb2⟩; have hB2 : Below w0.heap.size w0 w2 := hB1.trans (hb2.mono hB1.size); obtain ⟨p1, c1, rfl⟩ := t1.shape; obtain ⟨p2, c2, rfl⟩ := t2.shape; obtain ⟨d20, d21, g20, g21, l2⟩ := (xa.under hB2).facts; obtain ⟨c20, c21, f20, f21, l3⟩ := (xb.under hB2).facts))
    all_goals
      go_wp2_with fail
      go_meet
      case rel => exact ⟨Two.mk (xa.under hB2) (xb.under hB2) (t1.below hb2) t2 hg1 hg2 hx1 hx2 (hB0.trans (hB2.mono hB0.size)) (Nat.le_refl _), ((xr.under hB2).other (setBx_but _ _ _ _) (by omega)).other (setBx_but _ _ _ _) (by omega)⟩
  case rest =>
    obtain ⟨⟨n1, p1, c1, z1, n2, p2, c2, z2, u1, u2, t1, t2, hg1, hg2, hx, hy, hB⟩, u3⟩ := hcut
    clear ha0 hb0 xa xb xr hB0 i0 i1 j0 j1
    have iA : IsN wc (.agg #[.bool n1, .slice p1 z1.length c1]) x := ⟨n1, z1, ⟨_, rfl, t1⟩, hg1, hx⟩
    have iB : IsN wc (.agg #[.bool n2, .slice p2 z2.length c2]) y := ⟨n2, z2, ⟨_, rfl, t2⟩, hg2, hy⟩
    obtain ⟨i0, i1, ia, ib, ic⟩ := u1.facts
    obtain ⟨j0, j1, ja, jb, jc⟩ := u2.facts
    obtain ⟨k0, k1, ka, kb, kc⟩ := u3.facts
    by_cases h1 : op = 1
    · as_aux_lemma =>
        subst h1
        have HO : Hid (rr = fitS (x + y)) := HRR.out.trans (opS_1 x y)
        go_wp2_with fail
        refine (sum_any _ _ x y _ iA iB).mono ?_
        rintro e w1 ⟨ng, zg, s1, rfl, tg, mg, hz, b1⟩
        obtain ⟨pg, cg, rfl⟩ := tg.shape
        go_wp2_with fail
        refine (fit_signed ng _ zg _ tg mg).mono ?_
        rw [hz]
        rintro e w9 ⟨v9, rfl, i9, b9⟩
        obtain ⟨n9, p9, z9, c9, rfl, t9, hg9, hx9⟩ := i9.open
        have b99 := b1.trans (b9.mono b1.size)
        have u9 := u3.under b99
        have hB9 := hB.trans (b99.mono hB.size)
        have HG : Hid (Good n9 z9) := hg9
        rw [← HO.out] at hx9
        rw [← HO.out]
        have HX : Hid (Z n9 (V z9) = rr.getD 0) := hx9
        clear hg9 hx9 i9
        obtain ⟨m0, m1, ma, mb, mc⟩ := u9.facts
        go_wp2_with fail
        refine bodyPost_ret (results_box2 rfl _ _ (w.heap.size + 1 + 1) _ _ rfl u9.set) rfl ?_
        exact ⟨_, rfl, ⟨n9, z9, ⟨_, rfl, t9.box u9 (setBx_but _ _ _ _)⟩, HG.out, HX.out⟩, hB9.trans ((setBx_but _ _ _ _).below (by omega))⟩
    by_cases h2 : op = 2
    · as_aux_lemma =>
        subst h2
        have HO : Hid (rr = fitS (x + -y)) := HRR.out.trans (by rw [opS_2, Int.sub_eq_add_neg])
        go_wp2_with fail
        refine (neg_any _ y _ iB.nx).mono ?_
        rintro e w5 ⟨v5, rfl, i5, b5⟩
        obtain ⟨n5, p5, z5, c5, rfl, t5, hg5, hx5⟩ := i5.open
        have q1 := u1.under b5
        have q2 := u2.under b5
        have q3 := u3.under b5
        have iA5 := iA.below b5
        have hB5 := hB.trans (b5.mono hB.size)
        have HG5 : Hid (Good n5 z5) := hg5
        have HX5 : Hid (Z n5 (V z5) = -y) := hx5
        clear u1 u2 u3 iA iB hB b5 i0 i1 ia ib ic j0 j1 ja jb jc k0 k1 ka kb kc t1 t2 hg1 hg2 hx hy i5 hg5 hx5
        obtain ⟨i0, i1, ia, ib, ic⟩ := q1.facts
        obtain ⟨j0, j1, ja, jb, jc⟩ := q2.facts
        go_wp2_with fail
        simp only [setBx_eq]
        have hbut := setBx_but w5 (w.heap.size + 1) n5 (.slice p5 z5.length c5)
        have u1 := q1.other hbut (by omega)
        have u2 := q2.set (neg' := n5) (p := p5) (n := z5.length) (c := c5)
        have u3 := q3.other hbut (by omega)
        have iA := iA5.box q2 hbut
        have iB : IsN (setBx w5 (w.heap.size + 1) n5 (.slice p5 z5.length c5)) (.agg #[.bool n5, .slice p5 z5.length c5]) (-y) := ⟨n5, z5, ⟨_, rfl, t5.box q2 hbut⟩, HG5.out, HX5.out⟩
        have hB := hB5.trans (hbut.below (show w.heap.size ≤ w.heap.size + 1 by omega))
        clear q1 q2 q3 iA5 hB5 hbut HG5 HX5 t5 i0 i1 ia ib ic j0 j1 ja jb jc
        generalize setBx w5 (w.heap.size + 1) n5 (.slice p5 z5.length c5) = wd at *
        obtain ⟨i0, i1, ia, ib, ic⟩ := u1.facts
        obtain ⟨j0, j1, ja, jb, jc⟩ := u2.facts
        obtain ⟨k0, k1, ka, kb, kc⟩ := u3.facts
        go_wp2_with fail
        refine (sum_any _ _ x (-y) _ iA iB).mono ?_
        rintro e w1 ⟨ng, zg, s1, rfl, tg, mg, hz, b1⟩
        obtain ⟨pg, cg, rfl⟩ := tg.shape
        go_wp2_with fail
        refine (fit_signed ng _ zg _ tg mg).mono ?_
        rw [hz]
        rintro e w9 ⟨v9, rfl, i9, b9⟩
        obtain ⟨n9, p9, z9, c9, rfl, t9, hg9, hx9⟩ := i9.open
        have b99 := b1.trans (b9.mono b1.size)
        have u9 := u3.under b99
        have hB9 := hB.trans (b99.mono hB.size)
        have HG : Hid (Good n9 z9) := hg9
        rw [← HO.out] at hx9
        rw [← HO.out]
        have HX : Hid (Z n9 (V z9) = rr.getD 0) := hx9
        clear hg9 hx9 i9
        obtain ⟨m0, m1, ma, mb, mc⟩ := u9.facts
        go_wp2_with fail
        refine bodyPost_ret (results_box2 rfl _ _ (w.heap.size + 1 + 1) _ _ rfl u9.set) rfl ?_
        exact ⟨_, rfl, ⟨n9, z9, ⟨_, rfl, t9.box u9 (setBx_but _ _ _ _)⟩, HG.out, HX.out⟩, hB9.trans ((setBx_but _ _ _ _).below (by omega))⟩
    by_cases h3 : op = 3
    · as_aux_lemma =>
        subst h3
        have HO : Hid (rr = fitS (x * y)) := HRR.out.trans (opS_3 x y)
        have l1 : z1.length ≤ 12 := hg1.1
        have l2 : z2.length ≤ 12 := hg2.1
        have HX1 : Hid (Z n1 (V z1) = x) := hx
        have HY1 : Hid (Z n2 (V z2) = y) := hy
        clear hx hy hg1 hg2 iA iB
        go_wp2_with fail
        go_region_held3 (fun w' => (w'.cell? ⟨w.heap.size, 0, none⟩ = some (.bool n1) ∧ w'.cell? ⟨w.heap.size, 1, none⟩ = some (.slice p1 z1.length c1)) ∧ w'.cell? ⟨w.heap.size + 1, 0, none⟩ = some (.bool n2) ∧ w'.cell? ⟨w.heap.size + 1, 1, none⟩ = some (.slice p2 z2.length c2))
          (first | exact ⟨u1.held ((Below.refl _ _).drew), u2.held ((Below.refl _ _).drew)⟩ | exact ⟨u1.held hk5, u2.held hk5⟩ | exact ⟨u1.held hk4, u2.held hk4⟩ | exact ⟨u1.held hk3, u2.held hk3⟩ | exact ⟨u1.held3 hk5 (by omega), u2.held3 hk5 (by omega)⟩)
          (first
            | (go_at_call 32; refine (mul_any _ _ z1 z2 _ ?_ ?_ ?_ ?_).mono ?_; exact t1.below ((Below.refl _ _).drew); exact t2.below ((Below.refl _ _).drew); omega; omega; rintro e w3 ⟨v3, z3, rfl, s3, m3, x3, l3, b3, -⟩; have X3 : Hid (V z3 = V z1 * V z2) := x3; clear x3; have hk3 : Below wc.heap.size wc w3 := (Below.refl _ _).drew.trans b3)
            | (go_at_call 31; refine (signed_any _ _ z3 _ ?_).mono ?_; exact s3; rintro e w4 ⟨s4, rfl, t4, b4⟩; have hk4 : Below wc.heap.size wc w4 := hk3.trans (b4.mono hk3.size); obtain ⟨p4, c4, rfl⟩ := t4.shape)
            | (go_at_call 29; refine (fit_signed (n1 != n2) _ z3 _ ?_ ?_).mono ?_; exact t4; exact m3; rintro e w5 ⟨v5, rfl, i5, b5⟩; have hk5 : Below wc.heap.size wc w5 := hk4.trans (b5.mono hk4.size); obtain ⟨n9, p9, z9, c9, rfl, t9, hg9, hx9⟩ := i5.open; obtain ⟨m0, m1, ma, mb, mc⟩ := (u3.under hk5).facts))
        have e : fitS (Z (n1 != n2) (V z3)) = fitS (x * y) := by
          rw [X3.out, ← HX1.out, ← HY1.out]
          cases n1 <;> cases n2 <;> simp [Z, Int.neg_mul, Int.mul_neg]
        rw [e, ← HO.out] at hx9
        rw [e, ← HO.out]
        have hB9 := hB.trans (hk5.mono hB.size)
        have u9 := u3.under hk5
        go_wp2_with fail
        refine bodyPost_ret (results_box2 rfl _ _ (w.heap.size + 1 + 1) _ _ rfl u9.set) rfl ?_
        exact ⟨_, rfl, ⟨n9, z9, ⟨_, rfl, t9.box u9 (setBx_but _ _ _ _)⟩, hg9, hx9⟩, hB9.trans ((setBx_but _ _ _ _).below (by omega))⟩
    by_cases h4 : op = 4
    · as_aux_lemma =>
        subst h4
        have HO : Hid (rr = divS 4 x y) := HRR.out.trans (opS_4 x y)
        go_wp2_with fail
        refine (ndivide_any 4 _ _ x y _ iA iB).mono ?_
        rintro e w9 ⟨v9, rfl, i9, b9⟩
        obtain ⟨n9, p9, z9, c9, rfl, t9, hg9, hx9⟩ := i9.open
        have b99 := b9
        have u9 := u3.under b99
        have hB9 := hB.trans (b99.mono hB.size)
        have HG : Hid (Good n9 z9) := hg9
        rw [← HO.out] at hx9
        rw [← HO.out]
        have HX : Hid (Z n9 (V z9) = rr.getD 0) := hx9
        clear hg9 hx9 i9
        obtain ⟨m0, m1, ma, mb, mc⟩ := u9.facts
        go_wp2_with fail
        refine bodyPost_ret (results_box2 rfl _ _ (w.heap.size + 1 + 1) _ _ rfl u9.set) rfl ?_
        exact ⟨_, rfl, ⟨n9, z9, ⟨_, rfl, t9.box u9 (setBx_but _ _ _ _)⟩, HG.out, HX.out⟩, hB9.trans ((setBx_but _ _ _ _).below (by omega))⟩
    by_cases h5 : op = 5
    · as_aux_lemma =>
        subst h5
        have HO : Hid (rr = divS 5 x y) := HRR.out.trans (opS_5 x y)
        go_wp2_with fail
        refine (ndivide_any 5 _ _ x y _ iA iB).mono ?_
        rintro e w9 ⟨v9, rfl, i9, b9⟩
        obtain ⟨n9, p9, z9, c9, rfl, t9, hg9, hx9⟩ := i9.open
        have b99 := b9
        have u9 := u3.under b99
        have hB9 := hB.trans (b99.mono hB.size)
        have HG : Hid (Good n9 z9) := hg9
        rw [← HO.out] at hx9
        rw [← HO.out]
        have HX : Hid (Z n9 (V z9) = rr.getD 0) := hx9
        clear hg9 hx9 i9
        obtain ⟨m0, m1, ma, mb, mc⟩ := u9.facts
        go_wp2_with fail
        refine bodyPost_ret (results_box2 rfl _ _ (w.heap.size + 1 + 1) _ _ rfl u9.set) rfl ?_
        exact ⟨_, rfl, ⟨n9, z9, ⟨_, rfl, t9.box u9 (setBx_but _ _ _ _)⟩, HG.out, HX.out⟩, hB9.trans ((setBx_but _ _ _ _).below (by omega))⟩
    by_cases h6 : op = 6
    · as_aux_lemma =>
        subst h6
        have HO : Hid (rr = fitS (bitS 6 x y)) := HRR.out.trans (opS_6 x y)
        go_wp2_with fail
        refine (bitwise_any 6 _ _ x y _ iA iB).mono ?_
        rintro e w1 ⟨ng, zg, s1, rfl, tg, mg, hz, b1⟩
        obtain ⟨pg, cg, rfl⟩ := tg.shape
        go_wp2_with fail
        refine (fit_signed ng _ zg _ tg mg).mono ?_
        rw [hz]
        rintro e w9 ⟨v9, rfl, i9, b9⟩
        obtain ⟨n9, p9, z9, c9, rfl, t9, hg9, hx9⟩ := i9.open
        have b99 := b1.trans (b9.mono b1.size)
        have u9 := u3.under b99
        have hB9 := hB.trans (b99.mono hB.size)
        have HG : Hid (Good n9 z9) := hg9
        rw [← HO.out] at hx9
        rw [← HO.out]
        have HX : Hid (Z n9 (V z9) = rr.getD 0) := hx9
        clear hg9 hx9 i9
        obtain ⟨m0, m1, ma, mb, mc⟩ := u9.facts
        go_wp2_with fail
        refine bodyPost_ret (results_box2 rfl _ _ (w.heap.size + 1 + 1) _ _ rfl u9.set) rfl ?_
        exact ⟨_, rfl, ⟨n9, z9, ⟨_, rfl, t9.box u9 (setBx_but _ _ _ _)⟩, HG.out, HX.out⟩, hB9.trans ((setBx_but _ _ _ _).below (by omega))⟩
    by_cases h7 : op = 7
    · as_aux_lemma =>
        subst h7
        have HO : Hid (rr = fitS (bitS 7 x y)) := HRR.out.trans (opS_7 x y)
        go_wp2_with fail
        refine (bitwise_any 7 _ _ x y _ iA iB).mono ?_
        rintro e w1 ⟨ng, zg, s1, rfl, tg, mg, hz, b1⟩
        obtain ⟨pg, cg, rfl⟩ := tg.shape
        go_wp2_with fail
        refine (fit_signed ng _ zg _ tg mg).mono ?_
        rw [hz]
        rintro e w9 ⟨v9, rfl, i9, b9⟩
        obtain ⟨n9, p9, z9, c9, rfl, t9, hg9, hx9⟩ := i9.open
        have b99 := b1.trans (b9.mono b1.size)
        have u9 := u3.under b99
        have hB9 := hB.trans (b99.mono hB.size)
        have HG : Hid (Good n9 z9) := hg9
        rw [← HO.out] at hx9
        rw [← HO.out]
        have HX : Hid (Z n9 (V z9) = rr.getD 0) := hx9
        clear hg9 hx9 i9
        obtain ⟨m0, m1, ma, mb, mc⟩ := u9.facts
        go_wp2_with fail
        refine bodyPost_ret (results_box2 rfl _ _ (w.heap.size + 1 + 1) _ _ rfl u9.set) rfl ?_
        exact ⟨_, rfl, ⟨n9, z9, ⟨_, rfl, t9.box u9 (setBx_but _ _ _ _)⟩, HG.out, HX.out⟩, hB9.trans ((setBx_but _ _ _ _).below (by omega))⟩
    by_cases h8 : op = 8
    · as_aux_lemma =>
        subst h8
        have HO : Hid (rr = fitS (bitS 8 x y)) := HRR.out.trans (opS_8 x y)
        go_wp2_with fail
        refine (bitwise_any 8 _ _ x y _ iA iB).mono ?_
        rintro e w1 ⟨ng, zg, s1, rfl, tg, mg, hz, b1⟩
        obtain ⟨pg, cg, rfl⟩ := tg.shape
        go_wp2_with fail
        refine (fit_signed ng _ zg _ tg mg).mono ?_
        rw [hz]
        rintro e w9 ⟨v9, rfl, i9, b9⟩
        obtain ⟨n9, p9, z9, c9, rfl, t9, hg9, hx9⟩ := i9.open
        have b99 := b1.trans (b9.mono b1.size)
        have u9 := u3.under b99
        have hB9 := hB.trans (b99.mono hB.size)
        have HG : Hid (Good n9 z9) := hg9
        rw [← HO.out] at hx9
        rw [← HO.out]
        have HX : Hid (Z n9 (V z9) = rr.getD 0) := hx9
        clear hg9 hx9 i9
        obtain ⟨m0, m1, ma, mb, mc⟩ := u9.facts
        go_wp2_with fail
        refine bodyPost_ret (results_box2 rfl _ _ (w.heap.size + 1 + 1) _ _ rfl u9.set) rfl ?_
        exact ⟨_, rfl, ⟨n9, z9, ⟨_, rfl, t9.box u9 (setBx_but _ _ _ _)⟩, HG.out, HX.out⟩, hB9.trans ((setBx_but _ _ _ _).below (by omega))⟩
    by_cases h9 : op = 9
    · as_aux_lemma =>
        subst h9
        have HO : Hid (rr = fitS (shS x y)) := HRR.out.trans (opS_9 x y)
        go_wp2_with fail
        refine (shift_any _ _ x y _ iA iB).mono ?_
        rintro e w1 ⟨ng, zg, s1, rfl, tg, mg, hz, b1⟩
        obtain ⟨pg, cg, rfl⟩ := tg.shape
        go_wp2_with fail
        refine (fit_signed ng _ zg _ tg mg).mono ?_
        rw [hz]
        rintro e w9 ⟨v9, rfl, i9, b9⟩
        obtain ⟨n9, p9, z9, c9, rfl, t9, hg9, hx9⟩ := i9.open
        have b99 := b1.trans (b9.mono b1.size)
        have u9 := u3.under b99
        have hB9 := hB.trans (b99.mono hB.size)
        have HG : Hid (Good n9 z9) := hg9
        rw [← HO.out] at hx9
        rw [← HO.out]
        have HX : Hid (Z n9 (V z9) = rr.getD 0) := hx9
        clear hg9 hx9 i9
        obtain ⟨m0, m1, ma, mb, mc⟩ := u9.facts
        go_wp2_with fail
        refine bodyPost_ret (results_box2 rfl _ _ (w.heap.size + 1 + 1) _ _ rfl u9.set) rfl ?_
        exact ⟨_, rfl, ⟨n9, z9, ⟨_, rfl, t9.box u9 (setBx_but _ _ _ _)⟩, HG.out, HX.out⟩, hB9.trans ((setBx_but _ _ _ _).below (by omega))⟩
    by_cases h10 : op = 10
    · as_aux_lemma =>
        subst h10
        have HO : Hid (rr = fitS (shS x (-y))) := HRR.out.trans (opS_10 x y)
        go_wp2_with fail
        refine (neg_any _ y _ iB.nx).mono ?_
        rintro e w5 ⟨v5, rfl, i5, b5⟩
        obtain ⟨n5, p5, z5, c5, rfl, t5, hg5, hx5⟩ := i5.open
        have q1 := u1.under b5
        have q2 := u2.under b5
        have q3 := u3.under b5
        have iA5 := iA.below b5
        have hB5 := hB.trans (b5.mono hB.size)
        have HG5 : Hid (Good n5 z5) := hg5
        have HX5 : Hid (Z n5 (V z5) = -y) := hx5
        clear u1 u2 u3 iA iB hB b5 i0 i1 ia ib ic j0 j1 ja jb jc k0 k1 ka kb kc t1 t2 hg1 hg2 hx hy i5 hg5 hx5
        obtain ⟨i0, i1, ia, ib, ic⟩ := q1.facts
        obtain ⟨j0, j1, ja, jb, jc⟩ := q2.facts
        go_wp2_with fail
        simp only [setBx_eq]
        have hbut := setBx_but w5 (w.heap.size + 1) n5 (.slice p5 z5.length c5)
        have u1 := q1.other hbut (by omega)
        have u2 := q2.set (neg' := n5) (p := p5) (n := z5.length) (c := c5)
        have u3 := q3.other hbut (by omega)
        have iA := iA5.box q2 hbut
        have iB : IsN (setBx w5 (w.heap.size + 1) n5 (.slice p5 z5.length c5)) (.agg #[.bool n5, .slice p5 z5.length c5]) (-y) := ⟨n5, z5, ⟨_, rfl, t5.box q2 hbut⟩, HG5.out, HX5.out⟩
        have hB := hB5.trans (hbut.below (show w.heap.size ≤ w.heap.size + 1 by omega))
        clear q1 q2 q3 iA5 hB5 hbut HG5 HX5 t5 i0 i1 ia ib ic j0 j1 ja jb jc
        generalize setBx w5 (w.heap.size + 1) n5 (.slice p5 z5.length c5) = wd at *
        obtain ⟨i0, i1, ia, ib, ic⟩ := u1.facts
        obtain ⟨j0, j1, ja, jb, jc⟩ := u2.facts
        obtain ⟨k0, k1, ka, kb, kc⟩ := u3.facts
        go_wp2_with fail
        refine (shift_any _ _ x (-y) _ iA iB).mono ?_
        rintro e w1 ⟨ng, zg, s1, rfl, tg, mg, hz, b1⟩
        obtain ⟨pg, cg, rfl⟩ := tg.shape
        go_wp2_with fail
        refine (fit_signed ng _ zg _ tg mg).mono ?_
        rw [hz]
        rintro e w9 ⟨v9, rfl, i9, b9⟩
        obtain ⟨n9, p9, z9, c9, rfl, t9, hg9, hx9⟩ := i9.open
        have b99 := b1.trans (b9.mono b1.size)
        have u9 := u3.under b99
        have hB9 := hB.trans (b99.mono hB.size)
        have HG : Hid (Good n9 z9) := hg9
        rw [← HO.out] at hx9
        rw [← HO.out]
        have HX : Hid (Z n9 (V z9) = rr.getD 0) := hx9
        clear hg9 hx9 i9
        obtain ⟨m0, m1, ma, mb, mc⟩ := u9.facts
        go_wp2_with fail
        refine bodyPost_ret (results_box2 rfl _ _ (w.heap.size + 1 + 1) _ _ rfl u9.set) rfl ?_
        exact ⟨_, rfl, ⟨n9, z9, ⟨_, rfl, t9.box u9 (setBx_but _ _ _ _)⟩, HG.out, HX.out⟩, hB9.trans ((setBx_but _ _ _ _).below (by omega))⟩
    have h1' : (op == 1) = false := beq_eq_false_iff_ne.2 h1
    have h2' : (op == 2) = false := beq_eq_false_iff_ne.2 h2
    have h3' : (op == 3) = false := beq_eq_false_iff_ne.2 h3
    have h4' : (op == 4) = false := beq_eq_false_iff_ne.2 h4
    have h5' : (op == 5) = false := beq_eq_false_iff_ne.2 h5
    have h6' : (op == 6) = false := beq_eq_false_iff_ne.2 h6
    have h7' : (op == 7) = false := beq_eq_false_iff_ne.2 h7
    have h8' : (op == 8) = false := beq_eq_false_iff_ne.2 h8
    have h9' : (op == 9) = false := beq_eq_false_iff_ne.2 h9
    have h10' : (op == 10) = false := beq_eq_false_iff_ne.2 h10
    have HO : Hid (rr = none) := by
      show rr = none
      rw [HRR.out]
      simp [opS, h1, h2, h3, h4, h5, h6, h7, h8, h9, h10]
    clear h1 h2 h3 h4 h5 h6 h7 h8 h9 h10
    go_wp2_with fail
    refine bodyPost_ret (results_box2 rfl _ _ (w.heap.size + 1 + 1) _ _ rfl u3.set) rfl ?_
    rw [HO.out]
    exact ⟨_, rfl, IsN.zero _, hB.trans ((setBx_but wc (w.heap.size + 1 + 1) false _).below (by omega))⟩
end Go.Proofs.Ytmhcgdigccaogaa
