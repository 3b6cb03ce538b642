/-
  The document's own answers of layer 2 (relictref02): Op.
-/
import Derived.Test.YtmhcgdigccaogaaNumRZ
namespace Go.Proofs.Ytmhcgdigccaogaa
open Go.RowKit
set_option linter.unusedVariables false
attribute [local go_sem ↓] Go.wp_at_zero Go.wp_at_succ

theorem fit_none {x : Int} {n : Nat} (hx : x ≠ 0) (hn : 384 ≤ n) : fitS (x * T n) = none := by
  have h1 := T_mono hn
  rw [T384] at h1
  have h2 := B_pos 12
  unfold fitS
  rw [if_neg]
  rcases Int.lt_trichotomy x 0 with h | h | h
  · have h3 := Int.mul_le_mul (show 1 ≤ -x by omega) h1 (Int.le_of_lt h2) (by omega)
    rw [Int.neg_mul] at h3
    omega
  · exact absurd h hx
  · have h3 := Int.mul_le_mul (show 1 ≤ x by omega) h1 (Int.le_of_lt h2) (by omega)
    omega
theorem up_eq (x y : Int) (hy : 0 ≤ y) : fitS (x * T (farV y).toNat) = fitS (shS x y) := by
  unfold shS
  rw [if_pos hy]
  by_cases hx : x = 0
  · subst hx; simp
  · by_cases h : y ≤ 4096
    · have e1 : farV y = y := by unfold farV; rw [if_neg (by omega), if_neg (by omega)]
      have e2 : upN (farS y) = y.toNat := by unfold upN farS; omega
      rw [e1, e2]
    · rw [fit_none hx (by unfold farV; split <;> (try split) <;> omega), fit_none hx (by unfold upN farS; omega)]
theorem down_eq (x y : Int) (hy : y ≤ 0) : fitS (x / T (min (-(farV y)).toNat 10000)) = fitS (shS x y) := by
  unfold shS
  by_cases h0 : 0 ≤ y
  · have e : y = 0 := by omega
    subst e
    rw [if_pos (by omega)]
    have e1 : min (-(farV 0)).toNat 10000 = 0 := by decide
    have e2 : upN (farS 0) = 0 := by decide
    rw [e1, e2]; simp [T]
  · rw [if_neg h0]
    congr 2
    have : min (-(farV y)).toNat 10000 = downN (farS y) := by
      unfold downN farS farV
      split <;> (try split) <;> omega
    rw [this]
theorem farV_neg (y : Int) : farV (-y) = -(farV y) := by
  unfold farV; split <;> split <;> (try split) <;> (try split) <;> omega
theorem farV_bd (y : Int) : -10001 ≤ farV y ∧ farV y ≤ 10001 ∧ (0 ≤ y → 0 ≤ farV y) ∧ (y < 0 → farV y < 0) := by
  unfold farV; split <;> (try split) <;> omega

/-- Two variables, in new memory. -/
def Pair2 (w : World) (x y : Int) (s q : Value) (wc : World) : Prop := Pair w x y s q wc ∧ ∃ g h, s = .pointer (some ⟨g, 0, none⟩) ∧ q = .pointer (some ⟨h, 0, none⟩) ∧ w.heap.size ≤ g ∧ w.heap.size ≤ h

set_option maxRecDepth 100000 in
set_option maxHeartbeats 8000000 in
theorem rop_any (op : Int) (va vb : Value) (x y : Int) (w : World) (ha : Nx w va x) (hb : Nx w vb y) : Calls Try.prog 9 #[.int .i64 op, va, vb] w fun e w' => OpPost w (opS op x y) e w' := by
  obtain ⟨rr, hrr⟩ : ∃ rr, rr = opS op x y := ⟨_, rfl⟩
  rw [← hrr]
  have HRR : Hid (rr = opS op x y) := hrr
  clear hrr
  have ha0 := ha
  have hb0 := hb
  obtain ⟨na, za, ⟨sa, rfl, hsa⟩, -⟩ := ha
  obtain ⟨nb, zb, ⟨sb, rfl, hsb⟩, -⟩ := hb
  obtain ⟨pa, ca, rfl⟩ := hsa.shape
  obtain ⟨pb, cb, rfl⟩ := hsb.shape
  obtain ⟨hB0, xa, xb, xr⟩ := boxes2 w na nb pa pb za.length ca zb.length cb
  clear hsa hsb
  go_enter Try.func9, Try.ntmps9
  go_wp2_with fail
  replace ha0 := ha0.below hB0
  replace hb0 := hb0.below hB0
  generalize hw0 : ((w.alloc (.cells #[.bool na, .slice pa za.length ca] 24)).alloc (.cells #[.bool nb, .slice pb zb.length cb] 24)).alloc (.cells #[.bool false, .slice none 0 0] 24) = w0 at *
  clear hw0
  have notok : Tok 0 := trivial
  go_cut [8, 9] from 17 (fun s q wc => Pair2 w0 x y s q wc)
  case first =>
    go_region_held3 (fun w' => (w'.cell? ⟨w.heap.size, 0, none⟩ = some (.bool na) ∧ w'.cell? ⟨w.heap.size, 1, none⟩ = some (.slice pa za.length ca)) ∧ (w'.cell? ⟨w.heap.size + 1, 0, none⟩ = some (.bool nb) ∧ w'.cell? ⟨w.heap.size + 1, 1, none⟩ = some (.slice pb zb.length cb)))
      ((refine two_held xa xb ?_; (repeat (first | exact hk2 | exact hk1 | exact (Below.refl _ _).drew | exact Below.refl _ _ | refine Below.drew ?_ | refine balloc ?_ _ | refine bset ?_ (by omega) _ _)); done))
      (first
        | ((have := notok; go_at_call 36; refine (ris_any _ x _ (ha0.below (by first | exact (Below.refl _ _).drew | exact (balloc (Below.refl _ _) _).drew | exact (balloc (balloc (Below.refl _ _) _) _).drew))).mono ?_; rintro e x1 ⟨v1, rfl, i1, b1⟩; clear notok; have tok1 : Tok 1 := trivial; have hk1 : Below w0.heap.size w0 x1 := (by first | exact bcall (Below.refl _ _).drew b1 | exact bcall (balloc (Below.refl _ _) _).drew b1 | exact bcall (balloc (balloc (Below.refl _ _) _) _).drew b1); have s1 := hk1.size; (first | (have y1a : Bx x1 w0.heap.size false (.slice none 0 0) := (bxdrew (bxalloc (Bx.new w0 false none 0 0) (.cells #[.bool false, .slice none 0 0] 24))).under b1; have z1a : Bx x1 (w0.heap.size + 1) false (.slice none 0 0) := (bxdrew (Bx.new' (w := w0.alloc (.cells #[.bool false, .slice none 0 0] 24)) (by simp))).under b1; obtain ⟨y1a0, y1a1, y1a2, y1a3, y1a4⟩ := y1a.facts; obtain ⟨z1a0, z1a1, z1a2, z1a3, z1a4⟩ := z1a.facts) | (have y1a : Bx x1 w0.heap.size false (.slice none 0 0) := (bxdrew (Bx.new w0 false none 0 0)).under b1; obtain ⟨y1a0, y1a1, y1a2, y1a3, y1a4⟩ := y1a.facts) | skip); clear b1))
        | ((have := tok1; go_at_call 36; refine (ris_any _ y _ (hb0.below (by first | exact hk1 | exact balloc hk1 _ | exact balloc (balloc hk1 _) _))).mono ?_; rintro e x2 ⟨v2, rfl, i2, b2⟩; clear tok1; have hk12 : Below x1.heap.size x1 x2 := (by first | exact bcall (Below.refl _ _) b2 | exact bcall (balloc (Below.refl _ _) _) b2 | exact bcall (balloc (balloc (Below.refl _ _) _) _) b2); have hk2 : Below w0.heap.size w0 x2 := bcall hk1 hk12; have s2 := hk12.size; replace i1 := i1.below hk12; obtain ⟨n1, p1, z1, q1, rfl, t1, g1, e1⟩ := i1.open; obtain ⟨n2, p2, z2, q2, rfl, t2, g2, e2⟩ := i2.open; (try (have y2a := y1a.under hk12; obtain ⟨y2a0, y2a1, y2a2, y2a3, y2a4⟩ := y2a.facts)); (try (have z2a := z1a.under hk12; obtain ⟨z2a0, z2a1, z2a2, z2a3, z2a4⟩ := z2a.facts)); (first | (have y2b : Bx x2 x1.heap.size false (.slice none 0 0) := (bxalloc (Bx.new x1 false none 0 0) (.cells #[.bool false, .slice none 0 0] 24)).under b2; have z2b : Bx x2 (x1.heap.size + 1) false (.slice none 0 0) := (Bx.new' (w := x1.alloc (.cells #[.bool false, .slice none 0 0] 24)) (by simp)).under b2; obtain ⟨y2b0, y2b1, y2b2, y2b3, y2b4⟩ := y2b.facts; obtain ⟨z2b0, z2b1, z2b2, z2b3, z2b4⟩ := z2b.facts) | (have y2b : Bx x2 x1.heap.size false (.slice none 0 0) := (Bx.new x1 false none 0 0).under b2; obtain ⟨y2b0, y2b1, y2b2, y2b3, y2b4⟩ := y2b.facts) | skip); clear b2 i1 i2)))
    all_goals
      go_wp2_with fail
      go_meet
      case rel =>
       refine ⟨?_, _, _, rfl, rfl, by omega, by omega⟩
       first
        | (with_reducible refine pair1 hk2 t1 g1 e1 t2 g2 e2)
        | (with_reducible refine pair2 hk2 t1 g1 e1 t2 g2 e2)
        | ((with_reducible refine pair3 hk2 ?_ ?_ t1 g1 e1 t2 g2 e2) <;> first | assumption | omega)
        | ((with_reducible refine pair4 hk2 ?_ ?_ t1 g1 e1 t2 g2 e2) <;> first | assumption | omega)
        | ((with_reducible refine pair5 hk2 ?_ ?_ ?_ ?_ ?_ t1 g1 e1 t2 g2 e2) <;> first | assumption | omega)
  case rest =>
    obtain ⟨⟨⟨gp, n1, p1, z1, c1, rfl, u1, t1, hg1, hx⟩, ⟨gq, n2, p2, z2, c2, rfl, u2, t2, hg2, hy⟩, hB⟩, gp', gq', hgp, hgq, hlp, hlq⟩ := hcut
    simp only [Value.pointer.injEq, Option.some.injEq, Addr.mk.injEq, and_true] at hgp hgq
    subst hgp
    subst hgq
    have hR := xr.lt
    have u3 := xr.under hB
    replace hB := hB0.trans (hB.mono hB0.size)
    clear ha0 hb0 xa xb xr hB0
    have iA : IsN wc (.agg #[.bool n1, .slice p1 z1.length c1]) x := ⟨n1, z1, ⟨_, rfl, t1⟩, hg1, hx⟩
    have iB : IsN wc (.agg #[.bool n2, .slice p2 z2.length c2]) y := ⟨n2, z2, ⟨_, rfl, t2⟩, hg2, hy⟩
    obtain ⟨i0, i1, ia, ib, ic⟩ := u1.facts
    obtain ⟨j0, j1, ja, jb, jc⟩ := u2.facts
    obtain ⟨k0, k1, ka, kb, kc⟩ := u3.facts
    by_cases h1 : op = 1
    · as_aux_lemma =>
        subst h1
        have HO : Hid (rr = fitS (x + y)) := HRR.out.trans (opS_1 x y)
        go_wp2_with fail
        refine (radd2_any _ _ x y _ iA iB).mono ?_
        rintro e w9 ⟨v9, rfl, i9, b9⟩
        obtain ⟨n9, p9, z9, c9, rfl, t9, hg9, hx9⟩ := i9.open
        have u9 := u3.under b9
        have hB9 := bcall hB b9
        obtain ⟨m0, m1, ma, mb, mc⟩ := u9.facts
        go_wp2_with fail
        refine bodyPost_ret (results_box2 rfl _ _ (w.heap.size + 1 + 1) _ _ rfl u9.set) rfl ?_
        exact op_fin hB9 u9 (by omega) t9 hg9 hx9 HO.out.symm
    by_cases h2 : op = 2
    · as_aux_lemma =>
        subst h2
        have HO : Hid (rr = fitS (x + -y)) := HRR.out.trans (by rw [opS_2, Int.sub_eq_add_neg])
        clear hx hy hg1 hg2
        go_wp2_with fail
        go_region_held3 (fun w' => (w'.cell? ⟨gp, 0, none⟩ = some (.bool n1) ∧ w'.cell? ⟨gp, 1, none⟩ = some (.slice p1 z1.length c1)) ∧ (w'.cell? ⟨gq, 0, none⟩ = some (.bool n2) ∧ w'.cell? ⟨gq, 1, none⟩ = some (.slice p2 z2.length c2)))
          (first | exact two_held u1 u2 ((Below.refl _ _).drew) | exact two_held u1 u2 hk9 | exact two_held u1 u2 hk5 | exact ⟨u1.held3 hk9 (by omega), u2.held3 hk9 (by omega)⟩)
          (first
            | (go_at_call 20; refine (rneg_any _ y _ (iB.below ((Below.refl _ _).drew)).nx).mono ?_; rintro e w5 ⟨v5, rfl, i5, b5⟩; have hk5 : Below wc.heap.size wc w5 := bcall ((Below.refl _ _).drew) b5)
            | (go_at_call 37; refine (radd2_any _ _ x (-y) _ (iA.below hk5) i5).mono ?_; rintro e w9 ⟨v9, rfl, i9, b9⟩; have hk9 : Below wc.heap.size wc w9 := bcall hk5 b9; obtain ⟨n9, p9, z9, c9, rfl, t9, hg9, hx9⟩ := i9.open; obtain ⟨y0, y1, y2, y3, y4⟩ := (u3.under hk9).facts))
        have u9 := u3.under hk9
        have hB9 := hB.trans (hk9.mono hB.size)
        obtain ⟨m0, m1, ma, mb, mc⟩ := u9.facts
        go_wp2_with fail
        refine bodyPost_ret (results_box2 rfl _ _ (w.heap.size + 1 + 1) _ _ rfl u9.set) rfl ?_
        exact op_fin hB9 u9 (by omega) t9 hg9 hx9 HO.out.symm
    by_cases h3 : op = 3
    · as_aux_lemma =>
        subst h3
        have HO : Hid (rr = fitS (x * y)) := HRR.out.trans (opS_3 x y)
        have l1 : z1.length ≤ 12 := hg1.1
        have l2 : z2.length ≤ 12 := hg2.1
        have HX1 : Hid (Z n1 (V z1) = x) := hx
        have HY1 : Hid (Z n2 (V z2) = y) := hy
        clear hx hy hg1 hg2 iA iB
        go_wp2_with fail
        go_region_held3 (fun w' => (w'.cell? ⟨gp, 0, none⟩ = some (.bool n1) ∧ w'.cell? ⟨gp, 1, none⟩ = some (.slice p1 z1.length c1)) ∧ (w'.cell? ⟨gq, 0, none⟩ = some (.bool n2) ∧ w'.cell? ⟨gq, 1, none⟩ = some (.slice p2 z2.length c2)))
          (first | exact two_held u1 u2 ((Below.refl _ _).drew) | exact two_held u1 u2 hk9 | exact two_held u1 u2 hk3 | exact ⟨u1.held3 hk9 (by omega), u2.held3 hk9 (by omega)⟩)
          (first
            | (go_at_call 39; refine (rmul_any _ _ z1 z2 _ ?_ ?_ ?_ ?_).mono ?_; exact t1.below ((Below.refl _ _).drew); exact t2.below ((Below.refl _ _).drew); omega; omega; rintro e w3 ⟨v3, z3, rfl, s3, m3, x3, l3, b3, -⟩; have X3 : Hid (V z3 = V z1 * V z2) := x3; clear x3; have hk3 : Below wc.heap.size wc w3 := (Below.refl _ _).drew.trans b3)
            | (go_at_call 38; refine (made_any _ _ z3 _ ?_ ?_).mono ?_; exact s3; omega; rintro e w9 ⟨v9, rfl, i9, b9⟩; have hk9 : Below wc.heap.size wc w9 := bcall hk3 b9; obtain ⟨n9, p9, z9, c9, rfl, t9, hg9, hx9⟩ := i9.open; obtain ⟨y0, y1, y2, y3, y4⟩ := (u3.under hk9).facts))
        have e : fitS (Z (!(n1 == n2)) (V z3)) = fitS (x * y) := by
          rw [X3.out, ← HX1.out, ← HY1.out]
          cases n1 <;> cases n2 <;> simp [Z, Int.neg_mul, Int.mul_neg]
        rw [e] at hx9
        rw [e]
        have u9 := u3.under hk9
        have hB9 := hB.trans (hk9.mono hB.size)
        obtain ⟨m0, m1, ma, mb, mc⟩ := u9.facts
        go_wp2_with fail
        refine bodyPost_ret (results_box2 rfl _ _ (w.heap.size + 1 + 1) _ _ rfl u9.set) rfl ?_
        exact op_fin hB9 u9 (by omega) t9 hg9 hx9 HO.out.symm
    by_cases h4 : op = 4
    · as_aux_lemma =>
        subst h4
        have HO : Hid (rr = divS 4 x y) := HRR.out.trans (opS_4 x y)
        have l1 : z1.length ≤ 12 := hg1.1
        have l2 : z2.length ≤ 12 := hg2.1
        by_cases h0 : z2.length = 0
        · have hb0 : ((z2.length : Int) == 0) = true := beq_iff_eq.2 (by omega)
          have HD : Hid (rr = none) := by
            show rr = none
            have e : y = 0 := by rw [← hy, List.eq_nil_of_length_eq_zero h0]; cases n2 <;> rfl
            rw [HO.out, e]; rfl
          clear h0 hx hy hg1 hg2 iA iB
          go_wp2_with fail
          refine bodyPost_ret (results_box2 rfl _ _ (w.heap.size + 1 + 1) _ _ rfl u3.set) rfl ?_
          rw [HD.out]
          exact ⟨_, rfl, IsN.zero _, hB.trans ((setBx_but wc (w.heap.size + 1 + 1) false _).below (by omega))⟩
        · have hb0 : ((z2.length : Int) == 0) = false := beq_eq_false_iff_ne.2 (by omega)
          have hp : 0 < V z2 := by
            have h1 : V z2 ≠ 0 := fun h => h0 (by rw [len_zero t2.ok hg2.2.1 h]; rfl)
            have h2 := V_nonneg t2.ok
            omega
          have HP : Hid (0 < V z2) := hp
          have HX1 : Hid (Z n1 (V z1) = x) := hx
          have HY1 : Hid (Z n2 (V z2) = y) := hy
          have HB1 : Hid (V z1 < B 12) := (room_len t1.ok hg1.2.1).1 l1
          have HB2 : Hid (V z2 < B 12) := (room_len t2.ok hg2.2.1).1 l2
          clear h0 hx hy hg1 hg2 iA iB hp
          go_wp2_with fail
          refine (rdiv_any _ _ z1 z2 _ t1 t2 (by omega) (by omega)).mono ?_
          rintro e w1 ⟨q3, r3, zq, zr, rfl, sq, sr, mq, mr, lq, lr, b1, -, e1⟩
          have o1 := V_nonneg t1.ok
          have hp := HP.out
          have oq := V_nonneg sq.ok
          have or := V_nonneg sr.ok
          obtain ⟨v1, v2⟩ := e1 (by omega)
          have HF : Hid (fitS (Z (n1 != n2) (V zq)) = divS 4 x y) := by
            have b1 := HB1.out
            have b2 := HB2.out
            have bq := quo_le hp oq or v1
            show fitS (Z (n1 != n2) (V zq)) = divS 4 x y
            rw [← HX1.out, ← HY1.out, divS_quo (by decide) o1 hp or v1 v2, fitS_Z _ sq.ok, if_pos (by omega)]
          have u4 := u3.under b1
          have y1 := u1.under b1
          have y2 := u2.under b1
          have hB4 := bcall hB b1
          obtain ⟨pq, cq, rfl⟩ := sq.shape
          obtain ⟨pr, cr, rfl⟩ := sr.shape
          have kq : zq.length ≤ 1000000 := by omega
          have kr : zr.length ≤ 1000000 := by omega
          clear v1 v2 hp oq or o1 e1 HP HX1 HY1 HB1 HB2 b1 t1 t2 u1 u2 u3 i0 i1 ia ib ic j0 j1 ja jb jc k0 k1 ka kb kc lq lr hB
          obtain ⟨i0, i1, -⟩ := y1.facts
          obtain ⟨j0, j1, -⟩ := y2.facts
          go_wp2_with fail
          refine (made_any (n1 != n2) _ zq _ sq kq).mono ?_
          rw [HF.out]
          rintro e w9 ⟨v9, rfl, i9, b9⟩
          obtain ⟨n9, p9, z9, c9, rfl, t9, hg9, hx9⟩ := i9.open
          have u9 := u4.under b9
          have hB9 := bcall hB4 b9
          obtain ⟨m0, m1, ma, mb, mc⟩ := u9.facts
          go_wp2_with fail
          refine bodyPost_ret (results_box2 rfl _ _ (w.heap.size + 1 + 1) _ _ rfl u9.set) rfl ?_
          exact op_fin hB9 u9 (by omega) t9 hg9 hx9 HO.out.symm
    by_cases h5 : op = 5
    · as_aux_lemma =>
        subst h5
        have HO : Hid (rr = divS 5 x y) := HRR.out.trans (opS_5 x y)
        have l1 : z1.length ≤ 12 := hg1.1
        have l2 : z2.length ≤ 12 := hg2.1
        by_cases h0 : z2.length = 0
        · have hb0 : ((z2.length : Int) == 0) = true := beq_iff_eq.2 (by omega)
          have HD : Hid (rr = none) := by
            show rr = none
            have e : y = 0 := by rw [← hy, List.eq_nil_of_length_eq_zero h0]; cases n2 <;> rfl
            rw [HO.out, e]; rfl
          clear h0 hx hy hg1 hg2 iA iB
          go_wp2_with fail
          refine bodyPost_ret (results_box2 rfl _ _ (w.heap.size + 1 + 1) _ _ rfl u3.set) rfl ?_
          rw [HD.out]
          exact ⟨_, rfl, IsN.zero _, hB.trans ((setBx_but wc (w.heap.size + 1 + 1) false _).below (by omega))⟩
        · have hb0 : ((z2.length : Int) == 0) = false := beq_eq_false_iff_ne.2 (by omega)
          have hp : 0 < V z2 := by
            have h1 : V z2 ≠ 0 := fun h => h0 (by rw [len_zero t2.ok hg2.2.1 h]; rfl)
            have h2 := V_nonneg t2.ok
            omega
          have HP : Hid (0 < V z2) := hp
          have HX1 : Hid (Z n1 (V z1) = x) := hx
          have HY1 : Hid (Z n2 (V z2) = y) := hy
          have HB1 : Hid (V z1 < B 12) := (room_len t1.ok hg1.2.1).1 l1
          have HB2 : Hid (V z2 < B 12) := (room_len t2.ok hg2.2.1).1 l2
          clear h0 hx hy hg1 hg2 iA iB hp
          go_wp2_with fail
          refine (rdiv_any _ _ z1 z2 _ t1 t2 (by omega) (by omega)).mono ?_
          rintro e w1 ⟨q3, r3, zq, zr, rfl, sq, sr, mq, mr, lq, lr, b1, -, e1⟩
          have o1 := V_nonneg t1.ok
          have hp := HP.out
          have oq := V_nonneg sq.ok
          have or := V_nonneg sr.ok
          obtain ⟨v1, v2⟩ := e1 (by omega)
          have HF : Hid (fitS (Z n1 (V zr)) = divS 5 x y) := by
            have b1 := HB1.out
            have b2 := HB2.out
            have bq := quo_le hp oq or v1
            show fitS (Z n1 (V zr)) = divS 5 x y
            rw [← HX1.out, ← HY1.out, divS_rem o1 hp or v1 v2, fitS_Z _ sr.ok, if_pos (by omega)]
          have u4 := u3.under b1
          have y1 := u1.under b1
          have y2 := u2.under b1
          have hB4 := bcall hB b1
          obtain ⟨pq, cq, rfl⟩ := sq.shape
          obtain ⟨pr, cr, rfl⟩ := sr.shape
          have kq : zq.length ≤ 1000000 := by omega
          have kr : zr.length ≤ 1000000 := by omega
          clear v1 v2 hp oq or o1 e1 HP HX1 HY1 HB1 HB2 b1 t1 t2 u1 u2 u3 i0 i1 ia ib ic j0 j1 ja jb jc k0 k1 ka kb kc lq lr hB
          obtain ⟨i0, i1, -⟩ := y1.facts
          obtain ⟨j0, j1, -⟩ := y2.facts
          go_wp2_with fail
          refine (made_any n1 _ zr _ sr kr).mono ?_
          rw [HF.out]
          rintro e w9 ⟨v9, rfl, i9, b9⟩
          obtain ⟨n9, p9, z9, c9, rfl, t9, hg9, hx9⟩ := i9.open
          have u9 := u4.under b9
          have hB9 := bcall hB4 b9
          obtain ⟨m0, m1, ma, mb, mc⟩ := u9.facts
          go_wp2_with fail
          refine bodyPost_ret (results_box2 rfl _ _ (w.heap.size + 1 + 1) _ _ rfl u9.set) rfl ?_
          exact op_fin hB9 u9 (by omega) t9 hg9 hx9 HO.out.symm
    by_cases h6 : op = 6
    · as_aux_lemma =>
        subst h6
        have HO : Hid (rr = fitS (bitS 6 x y)) := HRR.out.trans (opS_6 x y)
        go_wp2_with fail
        refine (rbitw_any 6 _ _ x y _ iA iB).mono ?_
        rintro e w9 ⟨v9, rfl, i9, b9⟩
        obtain ⟨n9, p9, z9, c9, rfl, t9, hg9, hx9⟩ := i9.open
        have u9 := u3.under b9
        have hB9 := bcall hB b9
        obtain ⟨m0, m1, ma, mb, mc⟩ := u9.facts
        go_wp2_with fail
        refine bodyPost_ret (results_box2 rfl _ _ (w.heap.size + 1 + 1) _ _ rfl u9.set) rfl ?_
        exact op_fin hB9 u9 (by omega) t9 hg9 hx9 HO.out.symm
    by_cases h7 : op = 7
    · as_aux_lemma =>
        subst h7
        have HO : Hid (rr = fitS (bitS 7 x y)) := HRR.out.trans (opS_7 x y)
        go_wp2_with fail
        refine (rbitw_any 7 _ _ x y _ iA iB).mono ?_
        rintro e w9 ⟨v9, rfl, i9, b9⟩
        obtain ⟨n9, p9, z9, c9, rfl, t9, hg9, hx9⟩ := i9.open
        have u9 := u3.under b9
        have hB9 := bcall hB b9
        obtain ⟨m0, m1, ma, mb, mc⟩ := u9.facts
        go_wp2_with fail
        refine bodyPost_ret (results_box2 rfl _ _ (w.heap.size + 1 + 1) _ _ rfl u9.set) rfl ?_
        exact op_fin hB9 u9 (by omega) t9 hg9 hx9 HO.out.symm
    by_cases h8 : op = 8
    · as_aux_lemma =>
        subst h8
        have HO : Hid (rr = fitS (bitS 8 x y)) := HRR.out.trans (opS_8 x y)
        go_wp2_with fail
        refine (rbitw_any 8 _ _ x y _ iA iB).mono ?_
        rintro e w9 ⟨v9, rfl, i9, b9⟩
        obtain ⟨n9, p9, z9, c9, rfl, t9, hg9, hx9⟩ := i9.open
        have u9 := u3.under b9
        have hB9 := bcall hB b9
        obtain ⟨m0, m1, ma, mb, mc⟩ := u9.facts
        go_wp2_with fail
        refine bodyPost_ret (results_box2 rfl _ _ (w.heap.size + 1 + 1) _ _ rfl u9.set) rfl ?_
        exact op_fin hB9 u9 (by omega) t9 hg9 hx9 HO.out.symm
    by_cases h9 : op = 9
    · as_aux_lemma =>
        subst h9
        have HO : Hid (rr = fitS (shS x y)) := HRR.out.trans (opS_9 x y)
        clear hx hy hg1 hg2
        go_wp2_with fail
        refine (far_any _ y _ iB).mono ?_
        rintro e w1 ⟨rfl, b1⟩
        have u4 := u3.under b1
        have y1 := u1.under b1
        have hB4 := bcall hB b1
        have iA4 := iA.below b1
        have fb := farV_bd y
        obtain ⟨F, hF⟩ : ∃ F, F = farV y := ⟨_, rfl⟩
        rw [← hF] at fb ⊢
        clear b1 u1 u2 u3 t1 t2 i0 i1 ia ib ic j0 j1 ja jb jc k0 k1 ka kb kc hB iA iB
        obtain ⟨i0, i1, -⟩ := y1.facts
        by_cases hy0 : y < 0
        · obtain ⟨n, hn⟩ : ∃ n : Nat, F = -(n : Int) := ⟨F.natAbs, by omega⟩
          have hn2 : n ≤ 10001 := by omega
          have hF0 : F < 0 := by omega
          have HFV : Hid (farV y = -(n : Int)) := hF.symm.trans hn
          have HF : Hid (fitS (x / T (min n 10000)) = fitS (shS x y)) := by show fitS (x / T (min n 10000)) = _; rw [← down_eq x y (by omega)]; congr 2; congr 1; congr 1; have := HFV.out; omega
          clear fb hF
          subst hn
          go_wp2_with fail
          refine (rshift_down _ x n _ _ (by omega) hn2 iA4).mono ?_
          rw [HF.out]
          rintro e w9 ⟨v9, rfl, i9, b9⟩
          obtain ⟨n9, p9, z9, c9, rfl, t9, hg9, hx9⟩ := i9.open
          have u9 := u4.under b9
          have hB9 := bcall hB4 b9
          obtain ⟨m0, m1, ma, mb, mc⟩ := u9.facts
          go_wp2_with fail
          refine bodyPost_ret (results_box2 rfl _ _ (w.heap.size + 1 + 1) _ _ rfl u9.set) rfl ?_
          exact op_fin hB9 u9 (by omega) t9 hg9 hx9 HO.out.symm
        · obtain ⟨n, hn⟩ : ∃ n : Nat, F = (n : Int) := ⟨F.natAbs, by omega⟩
          have hn2 : n ≤ 10001 := by omega
          have hF0 : ¬ (F < 0) := by omega
          have HFV : Hid (farV y = (n : Int)) := hF.symm.trans hn
          have HF : Hid (fitS (x * T n) = fitS (shS x y)) := by show fitS (x * T n) = _; rw [← up_eq x y (by omega)]; congr 2; congr 1; have := HFV.out; omega
          clear fb hF
          subst hn
          go_wp2_with fail
          refine (rshift_up _ x n _ _ (by omega) hn2 iA4).mono ?_
          rw [HF.out]
          rintro e w9 ⟨v9, rfl, i9, b9⟩
          obtain ⟨n9, p9, z9, c9, rfl, t9, hg9, hx9⟩ := i9.open
          have u9 := u4.under b9
          have hB9 := bcall hB4 b9
          obtain ⟨m0, m1, ma, mb, mc⟩ := u9.facts
          go_wp2_with fail
          refine bodyPost_ret (results_box2 rfl _ _ (w.heap.size + 1 + 1) _ _ rfl u9.set) rfl ?_
          exact op_fin hB9 u9 (by omega) t9 hg9 hx9 HO.out.symm
    by_cases h10 : op = 10
    · as_aux_lemma =>
        subst h10
        have HO : Hid (rr = fitS (shS x (-y))) := HRR.out.trans (opS_10 x y)
        clear hx hy hg1 hg2
        go_wp2_with fail
        refine (far_any _ y _ iB).mono ?_
        rintro e w1 ⟨rfl, b1⟩
        have u4 := u3.under b1
        have y1 := u1.under b1
        have hB4 := bcall hB b1
        have iA4 := iA.below b1
        have fb := farV_bd y
        obtain ⟨F, hF⟩ : ∃ F, F = farV y := ⟨_, rfl⟩
        rw [← hF] at fb ⊢
        clear b1 u1 u2 u3 t1 t2 i0 i1 ia ib ic j0 j1 ja jb jc k0 k1 ka kb kc hB iA iB
        obtain ⟨i0, i1, -⟩ := y1.facts
        by_cases hy0 : y < 0
        · obtain ⟨n, hn⟩ : ∃ n : Nat, F = -(n : Int) := ⟨F.natAbs, by omega⟩
          have hn2 : n ≤ 10001 := by omega
          have hF0 : F < 0 := by omega
          have HFV : Hid (farV y = -(n : Int)) := hF.symm.trans hn
          have HF : Hid (fitS (x * T n) = fitS (shS x (-y))) := by show fitS (x * T n) = _; rw [← up_eq x (-y) (by omega)]; congr 2; congr 1; have := HFV.out; rw [farV_neg]; omega
          clear fb hF
          subst hn
          go_wp2_with fail
          refine (rshift_up _ x n _ _ (by omega) hn2 iA4).mono ?_
          rw [HF.out]
          rintro e w9 ⟨v9, rfl, i9, b9⟩
          obtain ⟨n9, p9, z9, c9, rfl, t9, hg9, hx9⟩ := i9.open
          have u9 := u4.under b9
          have hB9 := bcall hB4 b9
          obtain ⟨m0, m1, ma, mb, mc⟩ := u9.facts
          go_wp2_with fail
          refine bodyPost_ret (results_box2 rfl _ _ (w.heap.size + 1 + 1) _ _ rfl u9.set) rfl ?_
          exact op_fin hB9 u9 (by omega) t9 hg9 hx9 HO.out.symm
        · obtain ⟨n, hn⟩ : ∃ n : Nat, F = (n : Int) := ⟨F.natAbs, by omega⟩
          have hn2 : n ≤ 10001 := by omega
          have hF0 : ¬ (F < 0) := by omega
          have HFV : Hid (farV y = (n : Int)) := hF.symm.trans hn
          have HF : Hid (fitS (x / T (min n 10000)) = fitS (shS x (-y))) := by show fitS (x / T (min n 10000)) = _; rw [← down_eq x (-y) (by omega)]; congr 2; congr 1; congr 1; have := HFV.out; rw [farV_neg]; omega
          clear fb hF
          subst hn
          go_wp2_with fail
          refine (rshift_down _ x n _ _ (by omega) hn2 iA4).mono ?_
          rw [HF.out]
          rintro e w9 ⟨v9, rfl, i9, b9⟩
          obtain ⟨n9, p9, z9, c9, rfl, t9, hg9, hx9⟩ := i9.open
          have u9 := u4.under b9
          have hB9 := bcall hB4 b9
          obtain ⟨m0, m1, ma, mb, mc⟩ := u9.facts
          go_wp2_with fail
          refine bodyPost_ret (results_box2 rfl _ _ (w.heap.size + 1 + 1) _ _ rfl u9.set) rfl ?_
          exact op_fin hB9 u9 (by omega) t9 hg9 hx9 HO.out.symm
    have h1' : (op == 1) = false := beq_eq_false_iff_ne.2 h1
    have h2' : (op == 2) = false := beq_eq_false_iff_ne.2 h2
    have h3' : (op == 3) = false := beq_eq_false_iff_ne.2 h3
    have h4' : (op == 4) = false := beq_eq_false_iff_ne.2 h4
    have h5' : (op == 5) = false := beq_eq_false_iff_ne.2 h5
    have h6' : (op == 6) = false := beq_eq_false_iff_ne.2 h6
    have h7' : (op == 7) = false := beq_eq_false_iff_ne.2 h7
    have h8' : (op == 8) = false := beq_eq_false_iff_ne.2 h8
    have h9' : (op == 9) = false := beq_eq_false_iff_ne.2 h9
    have h10' : (op == 10) = false := beq_eq_false_iff_ne.2 h10
    have HO : Hid (rr = none) := by
      show rr = none
      rw [HRR.out]
      simp [opS, h1, h2, h3, h4, h5, h6, h7, h8, h9, h10]
    clear h1 h2 h3 h4 h5 h6 h7 h8 h9 h10
    go_wp2_with fail
    refine bodyPost_ret (results_box2 rfl _ _ (w.heap.size + 1 + 1) _ _ rfl u3.set) rfl ?_
    rw [HO.out]
    exact ⟨_, rfl, IsN.zero _, hB.trans ((setBx_but wc (w.heap.size + 1 + 1) false _).below (by omega))⟩
end Go.Proofs.Ytmhcgdigccaogaa
