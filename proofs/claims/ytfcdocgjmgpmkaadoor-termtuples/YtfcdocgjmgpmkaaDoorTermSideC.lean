
/-
  term.sideBySide with term.compare and term.comparedParts.
-/
import Derived.Test.YtfcdocgjmgpmkaaDoorTermSide
namespace Go.Proofs.YtfcdocgjmgpmkaaDoor
open Go.RowKit
set_option linter.unusedVariables false
set_option linter.unusedSimpArgs false
attribute [local go_sem ↓] Go.wp_at_zero Go.wp_at_succ

set_option maxRecDepth 100000 in
set_option maxHeartbeats 4000000 in
theorem sideC_any (P : World → Prop) (hP : Hid (∀ w w', P w → Below w.heap.size w w' → P w')) (G : Tm → Prop) (jd : Tm → Tm → Int) (pt : Tm → List Tm) 
    (hj : Hid (JdOk P G jd 23)) (hq : Hid (PtOk G pt 24)) (hpt : Hid (∀ t, nodesL (pt t) < t.nodes)) (hG : Hid (∀ t, G t → ∀ k ∈ pt t, G k)) (hlen : Hid (∀ a b, G a → G b → jd a b = 0 → (pt a).length = (pt b).length))
    (a b : Tm) (va vb : Value) (w : World) (hPw : Hid (P w)) (ga : Hid (G a)) (gb : Hid (G b)) (ha : IsT w a va) (hb : IsT w b vb) (n : Nat) (hn : a.nodes ≤ n) (hn1 : n ≤ 1000000) :
    Calls Tryd.prog 22 #[va, vb, .func (.func 23) #[] #[], .func (.func 24) #[] #[]] w fun e w' => e = .returned (.int .i64 (sbF jd pt n [a] [b])) ∧ Below w.heap.size w w' := by
  have ha0 := ha
  have hb0 := hb
  obtain ⟨sl1, sk1, rfl, hl1, hk1, -, -, -⟩ := ha.open
  obtain ⟨sl2, sk2, rfl, hl2, hk2, -, -, -⟩ := hb.open
  obtain ⟨pl1, cl1, rfl⟩ := hl1.shape
  obtain ⟨pk1, ck1, rfl, -⟩ := hk1.shape
  obtain ⟨pl2, cl2, rfl⟩ := hl2.shape
  obtain ⟨pk2, ck2, rfl, -⟩ := hk2.shape
  have HST : Hid _ := side_start w G jd pt a b pl1 pk1 pl2 pk2 cl1 ck1 cl2 ck2 n ga.out gb.out ha0 hb0 hn hn1
  have HB0 : Hid _ := side1_below w (tC a pl1 cl1 pk1 ck1) (tC b pl2 cl2 pk2 ck2)
  have HP1 : Hid (P (side1 w (tC a pl1 cl1 pk1 ck1) (tC b pl2 cl2 pk2 ck2))) := hP.out _ _ hPw.out HB0.out
  clear hl1 hk1 hl2 hk2 ha hb ha0 hb0 hn hn1
  obtain ⟨R, hR⟩ : ∃ R, sbF jd pt n [a] [b] = R := ⟨_, rfl⟩
  rw [hR] at HST ⊢
  clear hR
  simp only [tmV] at *
  go_enter Tryd.func22, Tryd.ntmps22
  go_wp2_with fail
  have hst := HST.out
  go_loopg [9] n (fun gk sr wr => SbOut (side1 w (tC a pl1 cl1 pk1 ck1) (tC b pl2 cl2 pk2 ck2)) G jd pt R gk sr wr)
  case atStart => exact hst
  case round =>
    clear hst HST
    obtain ⟨w1, hw1⟩ : ∃ w1, side1 w (tC a pl1 cl1 pk1 ck1) (tC b pl2 cl2 pk2 ck2) = w1 := ⟨_, rfl⟩
    have HW1 : Hid (side1 w (tC a pl1 cl1 pk1 ck1) (tC b pl2 cl2 pk2 ck2) = w1) := hw1
    rw [hw1] at hrel HB0 HP1
    obtain ⟨ps, hW, hT, hrem, hgk, hsum, hB⟩ := hrel
    rcases snoc_or ps with rfl | ⟨qs, p, rfl⟩
    · obtain ⟨pa, cap, rfl, hcap⟩ := hW.none
      have HR0 : Hid (R = 0) := by show R = 0; rw [← hsum]; exact sbF_nil _ _ _ _
      clear hsum hw1 hW hT
      go_wp2_with fail
      go_ret
      exact ⟨by rw [HR0.out]; rfl, HB0.out.trans (hB.mono HB0.out.size)⟩
    · have HTq : Hid (∀ p ∈ qs, PrOk w1 G p) := fun p h => hT p (by simp [h])
      have hp := hT p (by simp)
      have hql := stA_len qs HTq.out
      rw [stA_snoc, stB_snoc] at hsum
      rw [stA_snoc, nodesL_app] at hrem
      obtain ⟨⟨va, vb⟩, KA, KB⟩ := p
      obtain ⟨h1, h2, h3, h4, h5, h6⟩ := hp
      simp only at h1 h2 h3 h4 h5 h6 hsum hrem
      rcases KA with _ | ⟨x, xs⟩
      · simp at h4
      rcases KB with _ | ⟨y, ys⟩
      · simp at h3
      rw [List.map_append, List.map_singleton] at hW
      obtain ⟨g, cap, rfl, hg1, hg2, hcap1, hcap2, hc1, hc2, hW'⟩ := hW.top
      simp only at hc1 hc2
      rw [List.length_map] at hc1 hc2 hcap1 hW' ⊢
      clear hW hT h4
      obtain ⟨pa, ca, rfl, hca1, hca2, hca3⟩ := h1.shape
      obtain ⟨pb, cb, rfl, hcb1, hcb2, hcb3⟩ := h2.shape
      obtain ⟨ba, oa, vx, rfl, hba, xa, ix⟩ := h1.at 0 (by simp)
      obtain ⟨bb, ob, vy, rfl, hbb, xb, iy⟩ := h2.at 0 (by simp)
      simp only [List.getElem_cons_zero, Nat.zero_mul, Nat.add_zero] at xa xb ix iy
      obtain ⟨G1, hG1⟩ : ∃ G1, gk = G1 := ⟨_, rfl⟩
      have hqi : (qs.length : Int) ≤ 1000000 := by omega
      have HSUM : Hid (sbF jd pt gk (x :: xs ++ stA qs) (y :: ys ++ stB qs) = R) := hsum
      have HT1 : Hid (Ts w1 (.slice (some ⟨ba, oa, none⟩) (x :: xs).length ca) (x :: xs)) := h1
      have HT2 : Hid (Ts w1 (.slice (some ⟨bb, ob, none⟩) (y :: ys).length cb) (y :: ys)) := h2
      have HG5 : Hid (∀ t ∈ x :: xs, G t) := h5
      have HG6 : Hid (∀ t ∈ y :: ys, G t) := h6
      have HL3 : Hid ((x :: xs).length = (y :: ys).length) := h3
      clear hsum h1 h2 h5 h6 h3
      go_upto_region 5 with fail
      have hBn := (Below.refl wr.heap.size wr).alloc (Nat.le_refl _) (.cells #[.slice (some ⟨ba, oa, none⟩) (xs.length + 1) ca, .slice (some ⟨bb, ob, none⟩) (ys.length + 1) cb] 69)
      have un : Bp (wr.alloc (.cells #[.slice (some ⟨ba, oa, none⟩) (xs.length + 1) ca, .slice (some ⟨bb, ob, none⟩) (ys.length + 1) cb] 69)) wr.heap.size (.slice (some ⟨ba, oa, none⟩) (xs.length + 1) ca) (.slice (some ⟨bb, ob, none⟩) (ys.length + 1) cb) := heap_alloc_new _ _
      obtain ⟨wn, hwn⟩ : ∃ wn, wr.alloc (.cells #[.slice (some ⟨ba, oa, none⟩) (xs.length + 1) ca, .slice (some ⟨bb, ob, none⟩) (ys.length + 1) cb] 69) = wn := ⟨_, rfl⟩
      rw [hwn] at hBn un ⊢
      clear hwn hw1 hc1 hc2
      replace hW' := hW'.below hBn
      have hsz0 := hB.size
      replace hB := hB.trans (hBn.mono hB.size)
      have hnlt := un.lt
      obtain ⟨gn, hgn⟩ : ∃ gn, wr.heap.size = gn := ⟨_, rfl⟩
      have hgw : w1.heap.size ≤ gn := by rw [← hgn]; exact hsz0
      rw [hgn] at un hnlt ⊢
      have hgg : some gn ≠ some g := fun e => by injection e with e; omega
      clear hBn hgn hsz0
      have hbaw : ba < wn.heap.size := Nat.lt_of_lt_of_le hba hB.size
      have hbbw : bb < wn.heap.size := Nat.lt_of_lt_of_le hbb hB.size
      replace xa := xa.below hB hba
      replace xb := xb.below hB hbb
      have HX0 : Hid (IsT w1 x vx) := ix
      have HY0 : Hid (IsT w1 y vy) := iy
      obtain ⟨c0, c1, c2, c3, c4, c5, hvx, x0, x1, x2, x3, x4, x5⟩ := xa
      obtain ⟨d0, d1, d2, d3, d4, d5, hvy, y0, y1, y2, y3, y4, y5⟩ := xb
      obtain ⟨sl3, sk3, ev3, hl3, hk3, -⟩ := ix.open
      obtain ⟨sl4, sk4, ev4, hl4, hk4, -⟩ := iy.open
      obtain ⟨pl3, cl3, rfl⟩ := hl3.shape
      obtain ⟨pk3, ck3, rfl, -⟩ := hk3.shape
      obtain ⟨pl4, cl4, rfl⟩ := hl4.shape
      obtain ⟨pk4, ck4, rfl, -⟩ := hk4.shape
      rw [ev3] at hvx HX0
      rw [ev4] at hvy HY0
      simp only [tmV, Value.agg.injEq, List.toArray_inj, List.cons.injEq, and_true] at hvx hvy
      obtain ⟨rfl, rfl, rfl, rfl, rfl, rfl⟩ := hvx
      obtain ⟨rfl, rfl, rfl, rfl, rfl, rfl⟩ := hvy
      clear ix iy ev3 ev4 hl3 hl4 hk3 hk4 vx vy
      obtain ⟨n0, n1⟩ := un.cells
      go_cut [12, 13] from 21 to 63 (fun s q wc => TwoT wn x.kind x.neg (.slice pl3 x.limbs.length cl3) x.str x.num (.slice pk3 x.kids.length ck3) y.kind y.neg (.slice pl4 y.limbs.length cl4) y.str y.num (.slice pk4 y.kids.length ck4) s q wc)
      case first =>
        go_region
        all_goals
          go_wp2_with fail
          go_meet
          case rel => first
            | exact twoT_ab wn _ _ _ _ _ _ _ _ _ _ _ _ ⟨_, _, _, rfl⟩ ⟨_, _, _, rfl⟩ ⟨_, _, _, rfl⟩ ⟨_, _, _, rfl⟩
            | exact twoT_ba wn _ _ _ _ _ _ _ _ _ _ _ _ ⟨_, _, _, rfl⟩ ⟨_, _, _, rfl⟩ ⟨_, _, _, rfl⟩ ⟨_, _, _, rfl⟩
      case rest =>
        obtain ⟨g1, g2, rfl, rfl, b1, b2, hBc⟩ := hcut
        replace hW' := hW'.below hBc
        replace un := un.under hBc
        replace hB := hB.trans (hBc.mono hB.size)
        clear x0 x1 x2 x3 x4 x5 y0 y1 y2 y3 y4 y5 n0 n1 hBc hbaw hbbw hnlt
        obtain ⟨p0, p1, p2, p3, p4, p5⟩ := b1.cells
        obtain ⟨q0, q1, q2, q3, q4, q5⟩ := b2.cells
        go_wp2_with fail
        refine (hj.out x y _ _ wc (hP.out _ _ HP1.out hB) (HG5.out x (by simp)) (HG6.out y (by simp)) (HX0.out.under hB) (HY0.out.under hB)).mono ?_
        rintro e w2 ⟨rfl, bJ⟩
        replace hW' := hW'.below bJ
        replace un := un.under bJ
        replace b1 := b1.under bJ
        replace b2 := b2.under bJ
        replace hB := hB.trans (bJ.mono hB.size)
        clear p0 p1 p2 p3 p4 p5 q0 q1 q2 q3 q4 q5 bJ
        obtain ⟨jv, hjv⟩ : ∃ jv, jd x y = jv := ⟨_, rfl⟩
        have HJ : Hid (jd x y = jv) := hjv
        rw [hjv]
        clear hjv
        have hxp := nodes_pos x
        have hG0 : 0 < gk := by simp only [nodesL] at hrem; omega
        have HST := sbF_step (jd := jd) hpt.out gk x y (xs ++ stA qs) (ys ++ stB qs) (by simp only [nodesL, nodesL_app] at hrem ⊢; omega)
        rw [HJ.out] at HST
        by_cases hj0 : jv = 0
        · subst hj0
          have HR : Hid (sbF jd pt (gk - 1) (pt x ++ (xs ++ stA qs)) (pt y ++ (ys ++ stB qs)) = R) := by
            show _ = R
            rw [← HSUM.out]
            exact (HST.trans (if_pos rfl)).symm
          clear HST
          obtain ⟨m0, m1⟩ := un.cells
          go_upto_region 9 with fail
          have fq1 : (0 : Int) ≤ (qs.length : Int) := by omega
          have fq2 : (qs.length : Int) ≤ (cap : Int) := by omega
          have fx1 : (1 : Int) ≤ (xs.length : Int) + 1 := by omega
          have fx2 : (xs.length : Int) + 1 ≤ (ca : Int) := by simp at hca1; omega
          have fy1 : (1 : Int) ≤ (ys.length : Int) + 1 := by omega
          have fy2 : (ys.length : Int) + 1 ≤ (cb : Int) := by simp at hcb1; omega
          obtain ⟨PA, hPA⟩ : ∃ PA, (if ca = 1 then some (⟨ba, oa, none⟩ : Addr) else some ⟨ba, oa + 6, none⟩) = PA := ⟨_, rfl⟩
          obtain ⟨PB, hPB⟩ : ∃ PB, (if cb = 1 then some (⟨bb, ob, none⟩ : Addr) else some ⟨bb, ob + 6, none⟩) = PB := ⟨_, rfl⟩
          have HC1 : Hid (Ts w1 (.slice PA xs.length (ca - 1)) xs) := by rw [← hPA]; exact HT1.out.cut1
          have HC2 : Hid (Ts w1 (.slice PB ys.length (cb - 1)) ys) := by rw [← hPB]; exact HT2.out.cut1
          go_cut [9] from 21 to 63 (fun s wc => RestP w1 G qs xs ys s wc ∧ Bt wc g1 x.kind x.neg (.slice pl3 x.limbs.length cl3) x.str x.num (.slice pk3 x.kids.length ck3) ∧ Bt wc g2 y.kind y.neg (.slice pl4 y.limbs.length cl4) y.str y.num (.slice pk4 y.kids.length ck4) ∧ Below w1.heap.size w1 wc)
          case first =>
            go_region_held3 (fun w' => w'.cell? ⟨gn, 0, none⟩ = some (.slice (some ⟨ba, oa, none⟩) (xs.length + 1) ca) ∧ w'.cell? ⟨gn, 1, none⟩ = some (.slice (some ⟨bb, ob, none⟩) (ys.length + 1) cb))
              (first | exact un.cells | exact un3.cells)
              (first | (go_at_call 40; refine (wait_any w1.heap.size _ (qs.map Prod.fst) _ _ _ _ _ _ _ (hW'.below (Below.refl _ _).drew) hB.size (by simp; omega)).mono ?_; rintro e w3 ⟨v3, rfl, hW3, hgr⟩; have un3 := Bp.grown (un.under (Below.refl _ _).drew) hgr hgg; have b13 := Bt.grown (w0 := w2) (b1.under (Below.refl _ _).drew) (hW'.below (Below.refl _ _).drew) hgr; have b23 := Bt.grown (w0 := w2) (b2.under (Below.refl _ _).drew) (hW'.below (Below.refl _ _).drew) hgr; have hB3 : Below w1.heap.size w1 w3 := hB.drew.grown hgr hB.size (fun k hk => by simp [Value.ownBlock] at hk; omega)))
            all_goals
              go_wp2_with fail
              go_meet
              case rel => exact ⟨restP_of HTq.out HC1.out HC2.out (by have := HL3.out; simpa using this) (fun t h => HG5.out t (by simp [h])) (fun t h => HG6.out t (by simp [h])) hW3, b13, b23, hB3⟩
          case rest =>
            clear hW' un b1 b2 hB m0 m1 fq1 fq2 fx1 fx2 fy1 fy2
            obtain ⟨⟨ps, hW10, hT, e1, e2, hps⟩, b1, b2, hB⟩ := hcut
            have HTp : Hid (∀ p ∈ ps, PrOk w1 G p) := hT
            have E1 : Hid (stA ps = xs ++ stA qs) := e1
            have E2 : Hid (stB ps = ys ++ stB qs) := e2
            clear hT e1 e2
            obtain ⟨p0, p1, p2, p3, p4, p5⟩ := b1.cells
            obtain ⟨q0, q1, q2, q3, q4, q5⟩ := b2.cells
            have HPl : Hid ((pt x).length = (pt y).length) := hlen.out x y (HG5.out x (by simp)) (HG6.out y (by simp)) HJ.out
            have hps2 : ps.length ≤ 1000000 := by have := nodes_pos x; simp only [nodesL] at hrem; omega
            go_upto_region 10 with fail
            go_region_held3 (fun w' => (w'.cell? ⟨g1, 0, none⟩ = some (.int .i64 x.kind) ∧ w'.cell? ⟨g1, 1, none⟩ = some (.bool x.neg) ∧ w'.cell? ⟨g1, 2, none⟩ = some (.slice pl3 x.limbs.length cl3) ∧ w'.cell? ⟨g1, 3, none⟩ = some (.string x.str) ∧ w'.cell? ⟨g1, 4, none⟩ = some (.int .i64 x.num) ∧ w'.cell? ⟨g1, 5, none⟩ = some (.slice pk3 x.kids.length ck3)) ∧ (w'.cell? ⟨g2, 0, none⟩ = some (.int .i64 y.kind) ∧ w'.cell? ⟨g2, 1, none⟩ = some (.bool y.neg) ∧ w'.cell? ⟨g2, 2, none⟩ = some (.slice pl4 y.limbs.length cl4) ∧ w'.cell? ⟨g2, 3, none⟩ = some (.string y.str) ∧ w'.cell? ⟨g2, 4, none⟩ = some (.int .i64 y.num) ∧ w'.cell? ⟨g2, 5, none⟩ = some (.slice pk4 y.kids.length ck4)))
              (first | exact ⟨(b1.under (Below.refl _ _).drew).cells, (b2.under (Below.refl _ _).drew).cells⟩ | exact ⟨b1.cells, b2.cells⟩)
              (first
                | ((have := tX; have := tY; go_at_call 40; refine (wait_any w1.heap.size _ (ps.map Prod.fst) _ _ _ _ _ _ _ hW10 hB.size (by rw [List.length_map]; exact hps2)).mono ?_; rintro e w4 ⟨v4, rfl, hW4, hgr⟩; replace b1 := Bt.grown (w0 := w4) b1 hW10 hgr; replace b2 := Bt.grown (w0 := w4) b2 hW10 hgr; replace hB : Below w1.heap.size w1 w4 := hB.grown hgr hB.size (fun k hk => (World.ownsRow.lt hW10 k hk).1)))
                | ((go_at_call_of 24 (Value.slice pk3 x.kids.length ck3); refine (hq.out x _ _ (HG5.out x (by simp)) (HX0.out.under (by first | exact hB.drew | exact hB))).mono ?_; rintro e wX ⟨sX, rfl, pX, bX⟩; have tX := pX w1 HX0.out; obtain ⟨aX, cX, rfl, -⟩ := tX.shape; (first | (have kX : Below wc.heap.size wc wX := (Below.refl _ _).drew.trans bX) | (have kX : Below wY.heap.size wY wX := bX)); replace hW10 := hW10.below kX; replace b1 := b1.under kX; replace b2 := b2.under kX; replace hB := hB.trans (kX.mono hB.size)))
                | ((go_at_call_of 24 (Value.slice pk4 y.kids.length ck4); refine (hq.out y _ _ (HG6.out y (by simp)) (HY0.out.under (by first | exact hB.drew | exact hB))).mono ?_; rintro e wY ⟨sY, rfl, pY, bY⟩; have tY := pY w1 HY0.out; obtain ⟨aY, cY, rfl, -⟩ := tY.shape; (first | (have kY : Below wc.heap.size wc wY := (Below.refl _ _).drew.trans bY) | (have kY : Below wX.heap.size wX wY := bY)); replace hW10 := hW10.below kY; replace b1 := b1.under kY; replace b2 := b2.under kY; replace hB := hB.trans (kY.mono hB.size))))
            all_goals
              go_wp2_with fail
              go_roundg (gk - 1)
              case measure => omega
              case rel => rw [HW1.out]; exact sbOut_of (restP_of HTp.out tX tY HPl.out (hG.out x (HG5.out x (by simp))) (hG.out y (HG6.out y (by simp))) hW4) E1.out E2.out HR.out (hpt.out x) hrem hgk hB
        · have HR : Hid (R = jv) := by show R = jv; rw [← HSUM.out]; exact HST.trans (if_neg hj0)
          have hj1 : (jv == 0) = false := by simp [hj0]
          clear HST hj0
          go_wp2_with fail
          go_ret
          exact ⟨by rw [HR.out]; rfl, HB0.out.trans (hB.mono HB0.out.size)⟩
end Go.Proofs.YtfcdocgjmgpmkaaDoor
