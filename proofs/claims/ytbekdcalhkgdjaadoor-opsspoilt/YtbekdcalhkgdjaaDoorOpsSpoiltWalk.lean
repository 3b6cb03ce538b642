/-
  relictlaw07.OpsSpoilt.
-/
import Derived.Test.YtbekdcalhkgdjaaDoorOpSp
import Derived.Test.YtbekdcalhkgdjaaDoorOpRefD
import Derived.Test.YtbekdcalhkgdjaaDoorPlaceB
namespace Go.Proofs.YtbekdcalhkgdjaaDoor
open Go.RowKit
set_option linter.unusedVariables false
set_option linter.unusedSimpArgs false

set_option maxRecDepth 100000 in
set_option maxHeartbeats 8000000 in
theorem opsSpoilt_walk (op : Int) (v : Value) (K : List Ag) (x1 x2 : Int) (w : World) (hN : Nam w) (hG : Gs w v K) (a1 : -9223372036854775808 ≤ x1) (a2 : x1 ≤ 9223372036854775807) (b1 : -9223372036854775808 ≤ x2) (b2 : x2 ≤ 9223372036854775807) :
    Calls Tryd.prog 4 #[.agg #[.int .i64 op, v], .int .i64 x1, .int .i64 x2] w (RB true w) := by
  obtain ⟨p, cap, rfl, hc1, hc2, hc3⟩ := hG.shape
  have HN : Hid (Nam w) := hN
  have HG : Hid (Gs w (.slice p K.length cap) K) := hG
  have HAW : Hid (∀ W, Below w.heap.size w W → Calls Tryd.prog 13 #[] W (RB true W)) := fun W hW => awake7 W (hN.under hW)
  have hbx := box_below w #[.int .i64 op, .slice p K.length cap] 27
  have HB0 : Hid (Below w.heap.size w (w.alloc (.cells #[.int .i64 op, .slice p K.length cap] 27))) := hbx
  have HX0 : Hid (BxI (w.alloc (.cells #[.int .i64 op, .slice p K.length cap] 27)) w.heap.size op (.slice p K.length cap)) := BxI.new w op _
  have HFEW : Hid (Calls Tryd.prog 14 #[.slice p K.length cap, .int .i64 3] (w.alloc (.cells #[.int .i64 op, .slice p K.length cap] 27)) (FewT (w.alloc (.cells #[.int .i64 op, .slice p K.length cap] 27)) K)) := few_tell ⟨0, 0, K⟩ _ _ 3 (hG.under hbx) (by decide) (by decide)
  clear hN hG hbx
  go_enter Tryd.func4, Tryd.ntmps4
  go_wp2_with fail
  generalize w.alloc (.cells #[.int .i64 op, .slice p K.length cap] 27) = w1 at *
  refine HFEW.out.mono ?_
  rintro e w2 ⟨q, rfl, rfl, hq⟩
  clear HFEW
  obtain ⟨x0c, x1c, x2c⟩ := HX0.out.facts
  cases q
  · clear hq
    go_wp2_with fail
    refine (HAW.out _ HB0.out).mono ?_
    rintro e w3 ⟨rfl, b3⟩
    have HB3 : Hid (Below w.heap.size w w3) := HB0.out.trans (b3.mono HB0.out.size)
    clear b3
    go_wp2_with fail
    go_ret
    exact ⟨rfl, HB3.out⟩
  obtain ⟨hk60, hall⟩ := hq rfl
  have HALL : Hid (K.all fewAll = true) := hall
  clear hq hall
  go_wp2_with fail
  refine (rFits_any op K _ _ (HG.out.under HB0.out)).mono ?_
  obtain ⟨q, hq⟩ : ∃ q, fitsI op K = q := ⟨_, rfl⟩
  have HQ : Hid (fitsI op K = q) := hq
  rw [hq]
  clear hq
  rintro e w3 ⟨rfl, b3⟩
  have HB3 : Hid (Below w.heap.size w w3) := HB0.out.trans (b3.mono HB0.out.size)
  have HX3 : Hid (BxI w3 w.heap.size op (.slice p K.length cap)) := HX0.out.under b3
  clear b3 HB0 HX0 x0c x1c x2c
  cases q
  · go_wp2_with fail
    refine (HAW.out _ HB3.out).mono ?_
    rintro e w4 ⟨rfl, b4⟩
    have HB4 : Hid (Below w.heap.size w w4) := HB3.out.trans (b4.mono HB3.out.size)
    clear b4
    go_wp2_with fail
    go_ret
    exact ⟨rfl, HB4.out⟩
  have hk2 : K.length ≤ 60 := hk60
  have HCP : Hid (∀ W, Below w3.heap.size w3 W → Calls Tryd.prog 16 #[.slice p K.length cap] W (ArgsPost W K)) := fun W hW => args_copy K W _ (HG.out.under (HB3.out.trans (hW.mono HB3.out.size))) hk2 HALL.out
  have HXF : Hid (∀ W, Below w3.heap.size w3 W → W.cell? ⟨w.heap.size, 0, none⟩ = some (.int .i64 op) ∧ W.cell? ⟨w.heap.size, 1, none⟩ = some (.slice p K.length cap)) := fun W hW => ⟨(HX3.out.under hW).facts.1, (HX3.out.under hW).facts.2.1⟩
  obtain ⟨x0c, x1c⟩ := HXF.out w3 (Below.refl _ _)
  go_wp2_with fail
  have HBXE : Hid (∀ W, Below (w3.alloc (.cells #[.int .i64 0, .slice none 0 0] 27)).heap.size (w3.alloc (.cells #[.int .i64 0, .slice none 0 0] 27)) W → BxI W w3.heap.size 0 (.slice none 0 0)) := fun W hW => (BxI.new w3 0 (.slice none 0 0)).under hW
  obtain ⟨y0c, y1c⟩ := HXF.out _ (box_below w3 #[.int .i64 0, .slice none 0 0] 27)
  have tok : Hid True := trivial
  go_cut [7] from 18 (fun s7 wc => ∃ g p' c' L, s7 = .pointer (some ⟨g, 0, none⟩) ∧ Hid (SpSt w3 K op g (.slice p' K.length c') L wc))
  case first =>
    go_region_law (first
      | (go_simp; have := tok; go_at_call 16; refine (HCP.out _ (by first | exact (Below.refl _ _).drew | exact (box_below _ _ _).drew | exact Below.refl _ _)).mono ?_; rintro e xx ⟨v', L, rfl, hst, hlen⟩; clear tok; have hst' := hst; have hq1 : Below w3.heap.size w3 xx := (by first | exact ((Below.refl _ _).drew).trans (hst.2.2.2.2.mono (Nat.le_refl _)) | exact ((box_below _ _ _).drew).trans (hst.2.2.2.2.mono (by simp))); obtain ⟨u0, u1⟩ := HXF.out _ hq1; obtain ⟨v0c, v1c⟩ := HXF.out _ (hq1.trans ((box_below xx #[.int .i64 0, .slice none 0 0] 27).mono hq1.size)); (first | (have hbx : BxI xx w3.heap.size 0 (.slice none 0 0) := HBXE.out _ (((Below.refl _ _).drew).trans (hst.2.2.2.2.mono (Nat.le_refl _))); obtain ⟨f0, f1, f2, f3⟩ := hbx.stor) | skip); obtain ⟨p', c', rfl, hcc1, hcc2⟩ := own_shape hst.1; rw [hlen] at hst'; (first | (have hSP : Hid (SpSt w3 K op w3.heap.size (.slice p' K.length c') L (setBxI xx w3.heap.size op (.slice p' K.length c'))) := sp_a hst' (by show (w3.alloc _).heap.size = _; simp) hlen hbx hq1) | (have hSP : Hid (SpSt w3 K op xx.heap.size (.slice p' K.length c') L (xx.alloc (.cells #[.int .i64 op, .slice p' K.length c'] 27))) := sp_b hst' rfl hlen hq1)); clear hst hst'))
    all_goals
      go_wp2_with fail
      go_meet
      case rel => exact ⟨_, p', c', L, rfl, hSP⟩
  case rest =>
    obtain ⟨g, p', c', L, rfl, HSP⟩ := hcut
    have HLK : Hid (L.length = K.length) := HSP.out.2.2.2.1
    have HBC : Hid (Below w.heap.size w wc) := HB3.out.trans (HSP.out.2.2.2.2.2.2.2.mono HB3.out.size)
    have HFI : Hid (∀ W, Below w.heap.size w W → Calls Tryd.prog 19 #[.agg #[.int .i64 op, .slice p K.length cap]] W (RB true W)) := fun W hW => by
      have := Fits_any op K _ W (HG.out.under hW)
      rw [HQ.out] at this
      exact this
    have hp1 := Int.emod_nonneg x1 (show (3 : Int) ≠ 0 by decide)
    have hp2 := Int.emod_lt_of_pos x1 (show (0 : Int) < 3 by decide)
    have HP1 : Hid (∀ W, Calls Tryd.prog 17 #[.int .i64 x1, .int .i64 3] W fun e w' => e = .returned (.int .i64 (x1 % 3)) ∧ W = w') := fun W => place_any x1 3 W (by decide) (by decide) a1 a2
    generalize x1 % 3 = k at *
    obtain ⟨i0, hi, hz0, hz1, hz2⟩ := info_parts Tryd.infoArg
    clear x0c x1c y0c y1c HCP HALL HBXE HX3
    go_wp2_with fail
    refine (HP1.out _).mono ?_
    rintro e wq ⟨rfl, rfl⟩
    clear HP1
    obtain ⟨j0, j1, jf0, jf1⟩ := HSP.out.1.stor
    rcases (show k = 0 ∨ k = 1 ∨ k = 2 by omega) with rfl | rfl | rfl
    · have HU : Hid (∀ W, Calls Tryd.prog 18 #[.int .i64 0] W (Mk1 0 0 W)) := fun W => U_any 0 W
      have hown0 := HSP.out.2.2.1
      unfold AOwn at hown0
      rw [HLK.out] at hown0
      have HOW : Hid (wc.ownsRow w3.heap.size 33 3 (.slice p' K.length c') K.length (cl3 L)) := hown0
      have hb3c := HSP.out.2.2.2.2.2.2.2.size
      have hnf : fitsI op (K ++ [⟨0, 0, []⟩]) = false := fits_len_no HQ.out (by simp)
      have HNF : Hid (fitsI op (K ++ [⟨0, 0, []⟩]) = false) := hnf
      clear hown0 hnf
      go_wp2_with fail
      go_region_law (first
        | (go_simp; go_at_call 18; refine (HU.out _).mono ?_; rintro e wu ⟨rfl, bu⟩; have hbu : Below wc.heap.size wc wu := ((Below.refl _ _).drew).trans (bu.mono (Nat.le_refl _)); clear bu; obtain ⟨u0, u1, uf0, uf1⟩ := (HSP.out.1.under hbu).stor; obtain ⟨t0c, t1c, -⟩ := (HSP.out.1.under (hbu.trans ((box_below wu #[.int .i64 0, .int .i64 0, .slice none 0 0] 33).mono hbu.size))).facts)
        | (refine step_append_at rfl (.tmp 43) (.tmp 45) 25 rfl w3.heap.size 33 i0 (.agg #[.int .i64 0, .int .i64 0, .slice none 0 0]) 3 40 Tryd.underlying25 hi hz0 hz1 hz2 rfl (by decide) (.slice p' K.length c') K.length (cl3 L) (by simp [Act.eval, Act.put]) (World.ownsRow.alloc (own_same HOW.out (fun b _ hlt => hbu.block b hlt)) _) ⟨wu.heap.size, 0, none⟩ 1 1 [.int .i64 0, .int .i64 0, .slice none 0 0] (by simp [Act.eval, Act.put]) rfl (World.news_of_block (heap_alloc_new wu _)) (by simp [Value.oneCell']) (by unfold maxLen; omega) (by omega) (by have := hbu.size; simp; omega) ?_; intro v5 w5 hown5 hgr5 hloc5; have HS5 : Hid (SpEnd w3 op g v5 (K ++ [⟨0, 0, []⟩]) (w5.setCell ⟨g, 1, none⟩ v5)) := sp_push HSP.out hbu (by rw [HLK.out]; exact hown5) hgr5 hloc5; obtain ⟨s0, s1, sf0, sf1⟩ := (sp_box HSP.out hbu hgr5).stor; obtain ⟨p5, c5, rfl, hcc5, hcc6⟩ := own_shape hown5; clear hown5 hgr5 hloc5 hbu))
      all_goals
        have HEND := HS5
        clear HS5 s0 s1 sf0 sf1 t0c t1c u0 u1 uf0 uf1 HOW HU j0 j1 jf0 jf1
        generalize w5.setCell ⟨g, 1, none⟩ (.slice p5 (K.length + 1) c5) = wz at *
        have HBZ : Hid (Below w.heap.size w wz) := HB3.out.trans (HEND.out.2.2.mono HB3.out.size)
        obtain ⟨i0c, i1c⟩ := HXF.out wz HEND.out.2.2
        obtain ⟨j0c, j1c, -⟩ := HEND.out.1.facts
        go_wp2_with fail
        refine (HFI.out _ HBZ.out).mono ?_
        rintro e wa ⟨rfl, ba⟩
        have HBA : Hid (Below w.heap.size w wa) := HBZ.out.trans (ba.mono HBZ.out.size)
        have HJA : Hid (BxI wa g op (.slice p5 (K.length + 1) c5)) := HEND.out.1.under ba
        have HGA : Hid (Gs wa (.slice p5 (K.length + 1) c5) (K ++ [⟨0, 0, []⟩])) := HEND.out.2.1.under ba
        clear i0c i1c j0c j1c ba HBZ
        obtain ⟨j0c, j1c, -⟩ := HJA.out.facts
        go_wp2_with fail
        refine (Fits_any op (K ++ [⟨0, 0, []⟩]) _ _ HGA.out).mono ?_
        rw [HNF.out]
        rintro e wb ⟨rfl, bb⟩
        have HBB : Hid (Below w.heap.size w wb) := HBA.out.trans (bb.mono HBA.out.size)
        have HJB : Hid (BxI wb g op (.slice p5 (K.length + 1) c5)) := HJA.out.under bb
        have HGB : Hid (Gs wb (.slice p5 (K.length + 1) c5) (K ++ [⟨0, 0, []⟩])) := HGA.out.under bb
        clear j0c j1c bb HBA HJA HGA
        obtain ⟨j0c, j1c, -⟩ := HJB.out.facts
        go_wp2_with fail
        refine (Throws_any op (K ++ [⟨0, 0, []⟩]) _ _ HGB.out).mono ?_
        rw [thr_no HNF.out]
        rintro e wd ⟨rfl, bd⟩
        have HBD : Hid (Below w.heap.size w wd) := HBB.out.trans (bd.mono HBB.out.size)
        clear j0c j1c bd HBB HJB HGB
        go_wp2_with fail
        refine (HAW.out _ HBD.out).mono ?_
        rintro e we ⟨rfl, be⟩
        have HBE : Hid (Below w.heap.size w we) := HBD.out.trans (be.mono HBD.out.size)
        clear be
        go_wp2_with fail
        go_ret
        exact ⟨rfl, HBE.out⟩
    · by_cases hk0 : K.length = 0
      · have hk0' : (K.length : Int) = 0 := by omega
        have HB9 : Hid (Below w.heap.size w wc) := HBC.out
        go_wp2_with fail
        refine (HAW.out _ HB9.out).mono ?_
        rintro e we ⟨rfl, be⟩
        have HBE : Hid (Below w.heap.size w we) := HB9.out.trans (be.mono HB9.out.size)
        clear be
        go_wp2_with fail
        go_ret
        exact ⟨rfl, HBE.out⟩
      · obtain ⟨gr, c, cur, he, -, -, -, -, hkc, hcb⟩ := sp_row HSP.out (by omega)
        injection he with he1 _ he3
        subst he1; subst he3
        obtain ⟨n, hn⟩ : ∃ n, K.length = n + 1 := ⟨K.length - 1, by omega⟩
        have HNN : Hid (K.length = n + 1) := hn
        generalize K.length = m at HSP HFI HXF hn hkc hk60 j1 HG hc1 hk0 ⊢
        subst hn
        have hnf : fitsI op (K.take n) = false := fits_len_no HQ.out (by rw [List.length_take, HNN.out]; omega)
        have HNF : Hid (fitsI op (K.take n) = false) := hnf
        have HEND : Hid (SpEnd w3 op g (.slice (some ⟨gr, 0, none⟩) n c') (K.take n) (wc.setCell ⟨g, 1, none⟩ (.slice (some ⟨gr, 0, none⟩) n c'))) := sp_cut HSP.out HNN.out
        clear hnf
        have hn0 : ((n : Int) + 1 == 0) = false := by simp; omega
        have hsb : (n : Int) + 1 - 1 = (n : Int) := by omega
        have HBZ : Hid (Below w.heap.size w (wc.setCell ⟨g, 1, none⟩ (.slice (some ⟨gr, 0, none⟩) n c'))) := HB3.out.trans (HEND.out.2.2.mono HB3.out.size)
        obtain ⟨i0c, i1c⟩ := HXF.out (wc.setCell ⟨g, 1, none⟩ (.slice (some ⟨gr, 0, none⟩) n c')) HEND.out.2.2
        obtain ⟨j0c, j1c, -⟩ := HEND.out.1.facts
        go_wp2_with fail
        generalize wc.setCell ⟨g, 1, none⟩ (.slice (some ⟨gr, 0, none⟩) n c') = wz at *
        refine (HFI.out _ HBZ.out).mono ?_
        rintro e wa ⟨rfl, ba⟩
        have HBA : Hid (Below w.heap.size w wa) := HBZ.out.trans (ba.mono HBZ.out.size)
        have HJA : Hid (BxI wa g op (.slice (some ⟨gr, 0, none⟩) n c')) := HEND.out.1.under ba
        have HGA : Hid (Gs wa (.slice (some ⟨gr, 0, none⟩) n c') (K.take n)) := HEND.out.2.1.under ba
        clear i0c i1c j0c j1c ba HBZ
        obtain ⟨j0c, j1c, -⟩ := HJA.out.facts
        go_wp2_with fail
        refine (Fits_any op (K.take n) _ _ HGA.out).mono ?_
        rw [HNF.out]
        rintro e wb ⟨rfl, bb⟩
        have HBB : Hid (Below w.heap.size w wb) := HBA.out.trans (bb.mono HBA.out.size)
        have HJB : Hid (BxI wb g op (.slice (some ⟨gr, 0, none⟩) n c')) := HJA.out.under bb
        have HGB : Hid (Gs wb (.slice (some ⟨gr, 0, none⟩) n c') (K.take n)) := HGA.out.under bb
        clear j0c j1c bb HBA HJA HGA
        obtain ⟨j0c, j1c, -⟩ := HJB.out.facts
        go_wp2_with fail
        refine (Throws_any op (K.take n) _ _ HGB.out).mono ?_
        rw [thr_no HNF.out]
        rintro e wd ⟨rfl, bd⟩
        have HBD : Hid (Below w.heap.size w wd) := HBB.out.trans (bd.mono HBB.out.size)
        clear j0c j1c bd HBB HJB HGB
        go_wp2_with fail
        refine (HAW.out _ HBD.out).mono ?_
        rintro e we ⟨rfl, be⟩
        have HBE : Hid (Below w.heap.size w we) := HBD.out.trans (be.mono HBD.out.size)
        clear be
        go_wp2_with fail
        go_ret
        exact ⟨rfl, HBE.out⟩
    · by_cases hk0 : K.length = 0
      · have hk0' : (K.length : Int) = 0 := by omega
        have HB9 : Hid (Below w.heap.size w wc) := HBC.out
        go_wp2_with fail
        refine (HAW.out _ HB9.out).mono ?_
        rintro e we ⟨rfl, be⟩
        have HBE : Hid (Below w.heap.size w we) := HB9.out.trans (be.mono HB9.out.size)
        clear be
        go_wp2_with fail
        go_ret
        exact ⟨rfl, HBE.out⟩
      · obtain ⟨gr, c, cur, he, hgb, hgne, hcur, hcs, hkc, hcb⟩ := sp_row HSP.out (by omega)
        injection he with he1 _ he3
        subst he1; subst he3
        have hi1 := Int.emod_nonneg x2 (show (K.length : Int) ≠ 0 by omega)
        have hi2 := Int.emod_lt_of_pos x2 (show (0 : Int) < (K.length : Int) by omega)
        have HP2 : Hid (∀ W, Calls Tryd.prog 17 #[.int .i64 x2, .int .i64 (K.length : Int)] W fun e w' => e = .returned (.int .i64 (x2 % (K.length : Int))) ∧ W = w') := fun W => place_any x2 (K.length : Int) W (by omega) (by omega) b1 b2
        obtain ⟨ix, hix⟩ : ∃ ix : Nat, x2 % (K.length : Int) = (ix : Int) := ⟨(x2 % (K.length : Int)).toNat, by omega⟩
        rw [hix] at HP2 hi1 hi2
        have hixk : ix < K.length := by omega
        have hixc : (ix : Int) < (c' : Int) := by omega
        clear hix
        have hnf : fitsI op (K.set ix ⟨8, 0, []⟩) = false := fits_set_no hixk
        have HNF : Hid (fitsI op (K.set ix ⟨8, 0, []⟩) = false) := hnf
        have HSE : Hid (∀ W, Below wc.heap.size wc W → SpEnd w3 op g (.slice (some ⟨gr, 0, none⟩) K.length c') (K.set ix ⟨8, 0, []⟩) (setEl W gr ix 8 0 (.slice none 0 0))) := fun W hW => sp_set (HSP.out.under hW) hixk
        have hcell : ∀ j, j < 3 → (∃ q, wc.cell? ⟨gr, ix * 3 + j, none⟩ = some q) ∧ wc.frozen? ⟨gr, ix * 3 + j, none⟩ = false := by
          intro j hj
          have hlt : ix * 3 + j < cur.size := by omega
          refine ⟨⟨cur[ix * 3 + j], ?_⟩, ?_⟩
          · unfold World.cell?
            simp only [hcur]
            show cur[ix * 3 + j]? = _
            exact Array.getElem?_eq_getElem hlt
          · simp [World.frozen?, hcur]
        obtain ⟨⟨q0, e0⟩, z0⟩ := hcell 0 (by decide)
        obtain ⟨⟨q1, e1⟩, z1⟩ := hcell 1 (by decide)
        obtain ⟨⟨q2, e2⟩, z2⟩ := hcell 2 (by decide)
        rw [Nat.add_zero] at e0 z0
        have HGN : Hid (gr ≠ g) := hgne
        clear hcell hnf hcur hcs hgb hgne
        go_wp2_with fail
        go_region_law (first
          | (go_simp; go_at_call 17; refine (HP2.out _).mono ?_; rintro e wq ⟨rfl, rfl⟩))
        all_goals
          have HEND : Hid (SpEnd w3 op g (.slice (some ⟨gr, 0, none⟩) K.length c') (K.set ix ⟨8, 0, []⟩) (((wc.setCell ⟨gr, ix * 3, none⟩ (.int .i64 8)).setCell ⟨gr, ix * 3 + 1, none⟩ (.int .i64 0)).setCell ⟨gr, ix * 3 + 2, none⟩ (.slice none 0 0))) := HSE.out wc (Below.refl _ _)
          clear HSE e0 e1 e2 z0 z1 z2 j0 j1 jf0 jf1 HP2
          generalize ((wc.setCell ⟨gr, ix * 3, none⟩ (.int .i64 8)).setCell ⟨gr, ix * 3 + 1, none⟩ (.int .i64 0)).setCell ⟨gr, ix * 3 + 2, none⟩ (.slice none 0 0) = wx at *
          have HEND := HEND.out.drew
          generalize wx.drew = wz at *
          have HEND : Hid (SpEnd w3 op g (.slice (some ⟨gr, 0, none⟩) K.length c') (K.set ix ⟨8, 0, []⟩) wz) := HEND
          have HBZ : Hid (Below w.heap.size w wz) := HB3.out.trans (HEND.out.2.2.mono HB3.out.size)
          obtain ⟨i0c, i1c⟩ := HXF.out wz HEND.out.2.2
          obtain ⟨j0c, j1c, -⟩ := HEND.out.1.facts
          go_wp2_with fail
          refine (HFI.out _ HBZ.out).mono ?_
          rintro e wa ⟨rfl, ba⟩
          have HBA : Hid (Below w.heap.size w wa) := HBZ.out.trans (ba.mono HBZ.out.size)
          have HJA : Hid (BxI wa g op (.slice (some ⟨gr, 0, none⟩) K.length c')) := HEND.out.1.under ba
          have HGA : Hid (Gs wa (.slice (some ⟨gr, 0, none⟩) K.length c') (K.set ix ⟨8, 0, []⟩)) := HEND.out.2.1.under ba
          clear i0c i1c j0c j1c ba HBZ
          obtain ⟨j0c, j1c, -⟩ := HJA.out.facts
          go_wp2_with fail
          refine (Fits_any op (K.set ix ⟨8, 0, []⟩) _ _ HGA.out).mono ?_
          rw [HNF.out]
          rintro e wb ⟨rfl, bb⟩
          have HBB : Hid (Below w.heap.size w wb) := HBA.out.trans (bb.mono HBA.out.size)
          have HJB : Hid (BxI wb g op (.slice (some ⟨gr, 0, none⟩) K.length c')) := HJA.out.under bb
          have HGB : Hid (Gs wb (.slice (some ⟨gr, 0, none⟩) K.length c') (K.set ix ⟨8, 0, []⟩)) := HGA.out.under bb
          clear j0c j1c bb HBA HJA HGA
          obtain ⟨j0c, j1c, -⟩ := HJB.out.facts
          go_wp2_with fail
          refine (Throws_any op (K.set ix ⟨8, 0, []⟩) _ _ HGB.out).mono ?_
          rw [thr_no HNF.out]
          rintro e wd ⟨rfl, bd⟩
          have HBD : Hid (Below w.heap.size w wd) := HBB.out.trans (bd.mono HBB.out.size)
          clear j0c j1c bd HBB HJB HGB
          go_wp2_with fail
          refine (HAW.out _ HBD.out).mono ?_
          rintro e we ⟨rfl, be⟩
          have HBE : Hid (Below w.heap.size w we) := HBD.out.trans (be.mono HBD.out.size)
          clear be
          go_wp2_with fail
          go_ret
          exact ⟨rfl, HBE.out⟩
end Go.Proofs.YtbekdcalhkgdjaaDoor
