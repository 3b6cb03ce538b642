
/-
  relictlaw07.OpsPairs.
-/
import Derived.Test.YtgjjeghnfhjnnaaDoorOpP
import Derived.Test.YtgjjeghnfhjnnaaDoorPlaceB
import Derived.Deep.CutBlock
import Derived.Test.YtgjjeghnfhjnnaaDoorNth
namespace Go.Proofs.YtgjjeghnfhjnnaaDoor
open Go.RowKit
set_option linter.unusedVariables false
set_option linter.unusedSimpArgs false

theorem lit3 {w0 : World} {g m c : Nat} {p : Option Addr} {K : List Ag} (W' : World) (h : PEnd w0 g (.slice p m c) K W') : Gs (W'.alloc (.cells #[.int .i64 3, .int .i64 0, .slice none 0 0, .int .i64 5, .int .i64 1, .slice none 0 0, .int .i64 7, .int .i64 0, .slice p m c] 25)) (.slice (some ⟨W'.heap.size, 0, none⟩) 3 3) [agS (3, 0), agS (5, 1), ⟨7, 0, K⟩] := by
  obtain ⟨p', c', he, hc1, hc2, hc3⟩ := h.2.1.shape
  injection he with e1 e2 e3
  subst e1; subst e2; subst e3
  have hf7 : El.fit ⟨7, 0, p, K.length, c⟩ := ⟨by dsimp only; omega, by dsimp only; omega, by dsimp only; omega, by dsimp only; omega, hc1, hc2⟩
  have h7 : IsG W' ⟨7, 0, K⟩ (El.v ⟨7, 0, p, K.length, c⟩) := by
    obtain ⟨p2, c2, L, he2, hl, hr, hk⟩ := h.2.1
    injection he2 with q1 q2 q3
    subst q1; subst q3
    exact (isG_mk ..).2 ⟨p, c, L, rfl, hf7, hl, hr, hk⟩
  refine gs_new W' [elS (3, 0), elS (5, 1), ⟨7, 0, p, K.length, c⟩] [agS (3, 0), agS (5, 1), ⟨7, 0, K⟩] rfl (fun x hx => ?_) (fun i hi hi' => ?_) (by simp)
  · simp only [List.mem_cons, List.not_mem_nil, or_false] at hx
    rcases hx with rfl | rfl | rfl
    · exact elS_fit (by decide) (by decide)
    · exact elS_fit (by decide) (by decide)
    · exact hf7
  · match i, hi, hi' with
    | 0, _, _ => exact isG_single _ (3, 0) (elS_fit (by decide) (by decide))
    | 1, _, _ => exact isG_single _ (5, 1) (elS_fit (by decide) (by decide))
    | 2, _, _ => exact h7

set_option maxRecDepth 100000 in
set_option maxHeartbeats 100000000 in
theorem opsPairs_walk (a : Option Addr) (len cap : Nat) (zs : List Int) (tw : Bool) (how : Int) (w : World) (hN : Nam w) (hL : LRow w a len cap zs) (b1 : -9223372036854775808 ≤ how) (b2 : how ≤ 9223372036854775807) :
    Calls Tryd.prog 4 #[.slice a len cap, .bool tw, .int .i64 how] w (RBool true w) := by
  obtain ⟨hlc, hcb, hcn, hzs⟩ := hL
  have HZ : Hid (∀ i, i < len → ∃ b off, a = some ⟨b, off, none⟩ ∧ b < w.heap.size ∧ w.cell? ⟨b, off + i, none⟩ = some (.int .i64 (zs.getD i 0)) ∧ -9223372036854775808 ≤ zs.getD i 0 ∧ zs.getD i 0 ≤ 9223372036854775807) := hzs
  have HAW : Hid (∀ W, Below w.heap.size w W → Calls Tryd.prog 25 #[] W (RBool true W)) := fun W hW => awake7 W (hN.under hW)
  obtain ⟨i0, hi, hz0, hz1, hz2⟩ := info_parts Tryd.infoArg
  clear hzs hN hcn
  obtain ⟨N, hNN⟩ : ∃ N, N = min len 15 := ⟨_, rfl⟩
  have hN1 : N ≤ len := by omega
  have hN2 : N ≤ 15 := by omega
  have hN3 : N = len ∨ N = 15 := by omega
  clear hNN
  go_enter Tryd.func4, Tryd.ntmps4
  go_wp2_with fail
  refine (S_nil _).mono ?_
  rintro e w1 ⟨rfl, bb⟩
  have HB1 : Hid (Below w.heap.size w w1) := bb
  have HPS : Hid (PSt w w1.heap.size (.slice none 0 0) [] (w1.alloc (.cells #[.int .i64 7, .int .i64 0, .slice none 0 0] 25))) := ⟨BxA.new _ _ _ _, bb.size, AOwn.nil _ _, fun p hp => absurd hp (by simp), fun e => (by cases e), bb.trans ((box_below _ _ _).mono bb.size)⟩
  clear bb
  go_wp2_with fail
  generalize w1.alloc (.cells #[.int .i64 7, .int .i64 0, .slice none 0 0] 25) = w2 at *
  generalize w1.heap.size = g at *
  clear HB1
  go_loopg [8] N (fun gk s8 wr => ∃ (k m : Nat) (ps : List (Int × Int)) (p : Option Addr) (c : Nat), k + gk = N ∧ s8 = .int .i64 (k : Int) ∧ m = 2 * k ∧ Hid (ps.length = m) ∧ Hid (PSt w g (.slice p m c) ps wr) ∧ Hid (psOk ps k))
  case atStart => exact ⟨0, 0, [], none, 0, by omega, rfl, rfl, rfl, HPS.out, psOk.nil⟩
  case round =>
    obtain ⟨k, m, ps, p, c, hk, rfl, hm, HML, HST, HOK⟩ := hrel
    clear HPS
    cases gk with
    | zero =>
      obtain rfl : k = N := by omega
      have hm30 : m ≤ 30 := by omega
      have HM : Hid (m = 2 * k) := hm
      have HK15 : Hid (k ≤ 15) := hN2
      clear hm
      have HEND : Hid (PEnd w g (.slice p m c) (ps.map agS) wr) := HST.out.fin
      obtain ⟨j0, j1, j2, -⟩ := HEND.out.1.facts
      have hex : ¬ (k : Int) < (len : Int) ∨ ((k : Int) < (len : Int) ∧ ¬ (k : Int) < 15) := by omega
      by_cases hm0 : m = 0
      · subst hm0
        rcases hex with h1 | ⟨h1, h2⟩
        all_goals
          have HL : Hid (∀ W, Below wr.heap.size wr W → Gs (W.alloc (.cells #[.int .i64 3, .int .i64 0, .slice none 0 0, .int .i64 5, .int .i64 1, .slice none 0 0, .int .i64 7, .int .i64 0, .slice p 0 c] 25)) (.slice (some ⟨W.heap.size, 0, none⟩) 3 3) [agS (3, 0), agS (5, 1), ⟨7, 0, (ps.map agS)⟩]) := fun W hW => lit3 W (HEND.out.under hW)
          have HRES : Hid (fitsI 33 [agS (3, 0), agS (5, 1), ⟨7, 0, (ps.map agS)⟩] = true) := by unfold Hid; rw [fits33, pairs_good HOK.out HK15.out, Bool.and_true]; exact decide_eq_true (by rw [List.length_map, HML.out]; omega)
          have HBW : Hid (Below w.heap.size w wr) := HEND.out.2.2
          obtain ⟨j0, j1, j2, -⟩ := HEND.out.1.facts
          go_wp2_with fail
          go_region_law (first
            | (go_simp; go_at_call 24; refine (X_any 0 _).mono ?_; rintro e xX ⟨rfl, bX⟩; have hX : Below wr.heap.size wr xX := (by first | exact hF.trans (bX.mono hF.size) | exact ((Below.refl _ _).drew).trans (bX.mono (Nat.le_refl _))); clear bX; obtain ⟨x0, x1, x2, -⟩ := (HEND.out.1.under hX).facts)
            | (go_simp; go_at_call 20; refine (F_any 1 _).mono ?_; rintro e xF ⟨rfl, bF⟩; have hF : Below wr.heap.size wr xF := (by first | exact hX.trans (bF.mono hX.size) | exact ((Below.refl _ _).drew).trans (bF.mono (Nat.le_refl _))); clear bF; obtain ⟨y0, y1, y2, -⟩ := (HEND.out.1.under hF).facts)
            | (go_simp; go_at_call 23; refine (Op_any 33 [agS (3, 0), agS (5, 1), ⟨7, 0, (ps.map agS)⟩] _ 3 _ (by first | exact HL.out xF hF | exact HL.out xX hX) (by simp)).mono ?_; rintro e xO ⟨pO, cO, rfl, gO, bO⟩; have hO : Below wr.heap.size wr xO := (by first | exact (hF.trans ((box_below xF _ _).mono hF.size)).trans (bO.mono (by have := hF.size; simp; omega)) | exact (hX.trans ((box_below xX _ _).mono hX.size)).trans (bO.mono (by have := hX.size; simp; omega))); clear bO; dsimp only [List.length_cons, List.length_nil])
            | (go_simp; go_at_call 22; refine (Fits_any 33 [agS (3, 0), agS (5, 1), ⟨7, 0, (ps.map agS)⟩] _ _ gO).mono ?_; rw [HRES.out]; rintro e xT ⟨rfl, bT⟩; have hT : Below wr.heap.size wr xT := hO.trans (bT.mono hO.size); clear bT gO)
            | (go_simp; go_at_call 25; refine (HAW.out _ (HBW.out.trans (hT.mono HBW.out.size))).mono ?_; rintro e xA ⟨rfl, bA⟩; have hA : Below wr.heap.size wr xA := hT.trans (bA.mono hT.size); clear bA))
          all_goals
            have HBE : Hid (Below w.heap.size w xA) := HBW.out.trans (hA.mono HBW.out.size)
            go_wp2_with fail
            go_ret
            exact ⟨rfl, HBE.out⟩
      · have hmz : ((m : Int) == 0) = false := by simp; omega
        have HKP : Hid (0 < k) := by have := HM.out; unfold Hid; omega
        have HM2 : Hid (1 < m ∧ m % 2 = 0) := by have := HM.out; unfold Hid; omega
        rcases hex with h1 | ⟨h1, h2⟩
        all_goals
          go_wp2_with fail
          go_cut [53] from 47 (fun s wc => s = .bool false ∧ Below wr.heap.size wr wc)
          case first =>
            have HL : Hid (∀ W, Below wr.heap.size wr W → Gs (W.alloc (.cells #[.int .i64 3, .int .i64 0, .slice none 0 0, .int .i64 5, .int .i64 1, .slice none 0 0, .int .i64 7, .int .i64 0, .slice p m c] 25)) (.slice (some ⟨W.heap.size, 0, none⟩) 3 3) [agS (3, 0), agS (5, 1), ⟨7, 0, (ps.map agS)⟩]) := fun W hW => lit3 W (HEND.out.under hW)
            have HRES : Hid (fitsI 33 [agS (3, 0), agS (5, 1), ⟨7, 0, (ps.map agS)⟩] = true) := by unfold Hid; rw [fits33, pairs_good HOK.out HK15.out, Bool.and_true]; exact decide_eq_true (by rw [List.length_map, HML.out]; omega)
            have HBW : Hid (Below w.heap.size w wr) := HEND.out.2.2
            obtain ⟨j0, j1, j2, -⟩ := HEND.out.1.facts
            go_wp2_with fail
            go_region_law (first
              | (go_simp; go_at_call 24; refine (X_any 0 _).mono ?_; rintro e xX ⟨rfl, bX⟩; have hX : Below wr.heap.size wr xX := (by first | exact hF.trans (bX.mono hF.size) | exact ((Below.refl _ _).drew).trans (bX.mono (Nat.le_refl _))); clear bX; obtain ⟨x0, x1, x2, -⟩ := (HEND.out.1.under hX).facts)
              | (go_simp; go_at_call 20; refine (F_any 1 _).mono ?_; rintro e xF ⟨rfl, bF⟩; have hF : Below wr.heap.size wr xF := (by first | exact hX.trans (bF.mono hX.size) | exact ((Below.refl _ _).drew).trans (bF.mono (Nat.le_refl _))); clear bF; obtain ⟨y0, y1, y2, -⟩ := (HEND.out.1.under hF).facts)
              | (go_simp; go_at_call 23; refine (Op_any 33 [agS (3, 0), agS (5, 1), ⟨7, 0, (ps.map agS)⟩] _ 3 _ (by first | exact HL.out xF hF | exact HL.out xX hX) (by simp)).mono ?_; rintro e xO ⟨pO, cO, rfl, gO, bO⟩; have hO : Below wr.heap.size wr xO := (by first | exact (hF.trans ((box_below xF _ _).mono hF.size)).trans (bO.mono (by have := hF.size; simp; omega)) | exact (hX.trans ((box_below xX _ _).mono hX.size)).trans (bO.mono (by have := hX.size; simp; omega))); clear bO; dsimp only [List.length_cons, List.length_nil])
              | (go_simp; go_at_call 22; refine (Fits_any 33 [agS (3, 0), agS (5, 1), ⟨7, 0, (ps.map agS)⟩] _ _ gO).mono ?_; rw [HRES.out]; rintro e xT ⟨rfl, bT⟩; have hT : Below wr.heap.size wr xT := hO.trans (bT.mono hO.size); clear bT gO))
            all_goals
              go_wp2_with fail
              go_meet
              case rel => exact ⟨rfl, hT⟩
          case rest =>
            obtain ⟨rfl, hcw⟩ := hcut
            have HSC : Hid (PSt w g (.slice p m c) ps wc) := HST.out.under hcw
            have HEC : Hid (PEnd w g (.slice p m c) (ps.map agS) wc) := HSC.out.fin
            have hwc := HSC.out.2.2.2.2.2.size
            clear hcw HST HEND j0 j1 j2
            obtain ⟨j0, j1, j2, f0, f1, f2⟩ := HEC.out.1.facts
            go_upto_block 2 with fail
            go_cut [58] from 54 to 91 (fun s wz => ∃ p5 m5 c5 K5, Hid (PEnd w g (.slice p5 m5 c5) K5 wz) ∧ Hid (pairsB K5 = false))
            case first =>
              cases tw
              case true =>
                have hown0 := HSC.out.2.2.1
                unfold AOwn at hown0
                rw [List.length_map, HML.out] at hown0
                have HOW : Hid (wc.ownsRow w.heap.size 25 3 (.slice p m c) m (cl3 (ps.map elS))) := hown0
                have HFA : Hid (El.fit (elS (1, 0))) := elS_fit (by decide) (by decide)
                have HFB : Hid (El.fit (elS (5, 9))) := elS_fit (by decide) (by decide)
                have HFC : Hid (∀ W, Below wc.heap.size wc W → W.cell? ⟨g, 2, none⟩ = some (.slice p m c)) := fun W hW => (HSC.out.1.under hW).facts.2.2.1
                clear hown0
                go_wp2_with fail
                go_region_law (first
                  | (refine step_append_at rfl (.tmp 61) (.tmp 64) 23 rfl w.heap.size 25 i0 (.agg #[.int .i64 0, .int .i64 0, .slice none 0 0]) 3 40 Tryd.underlying23 hi hz0 hz1 hz2 rfl (by decide) (.slice p m c) m (cl3 (ps.map elS)) (by simp [Act.eval, Act.put]) (World.ownsRow.alloc (own_same HOW.out (fun b _ hlt => hF.block b hlt)) _) ⟨xF.heap.size, 0, none⟩ 2 2 [.int .i64 1, .int .i64 0, .slice none 0 0, .int .i64 5, .int .i64 9, .slice none 0 0] (by simp [Act.eval, Act.put]) rfl (World.news_of_block (heap_alloc_new xF _)) (by simp [Value.oneCell']) (by unfold maxLen; omega) (by omega) (by have := hF.size; simp; omega) ?_; intro v5 w5 hown5 hgr5 hloc5; have HS5 : Hid (PSt w g v5 (ps ++ [(1, 0), (5, 9)]) (w5.setCell ⟨g, 2, none⟩ v5)) := p_push HSC.out hF HFA.out HFB.out (by rw [HML.out]; exact hown5) hgr5 hloc5; obtain ⟨s0, s1, s2, s3, s4, s5⟩ := (p_box HSC.out hF hgr5).facts; obtain ⟨p5, c5, rfl, hcc5, hcc6⟩ := own_shape hown5; clear hown5 hgr5 hloc5)
                  | (refine step_append_at rfl (.tmp 61) (.tmp 64) 23 rfl w.heap.size 25 i0 (.agg #[.int .i64 0, .int .i64 0, .slice none 0 0]) 3 40 Tryd.underlying23 hi hz0 hz1 hz2 rfl (by decide) (.slice p m c) m (cl3 (ps.map elS)) (by simp [Act.eval, Act.put]) (World.ownsRow.alloc (own_same HOW.out (fun b _ hlt => hI.block b hlt)) _) ⟨xI.heap.size, 0, none⟩ 2 2 [.int .i64 1, .int .i64 0, .slice none 0 0, .int .i64 5, .int .i64 9, .slice none 0 0] (by simp [Act.eval, Act.put]) rfl (World.news_of_block (heap_alloc_new xI _)) (by simp [Value.oneCell']) (by unfold maxLen; omega) (by omega) (by have := hI.size; simp; omega) ?_; intro v5 w5 hown5 hgr5 hloc5; have HS5 : Hid (PSt w g v5 (ps ++ [(1, 0), (5, 9)]) (w5.setCell ⟨g, 2, none⟩ v5)) := p_push HSC.out hI HFA.out HFB.out (by rw [HML.out]; exact hown5) hgr5 hloc5; obtain ⟨s0, s1, s2, s3, s4, s5⟩ := (p_box HSC.out hI hgr5).facts; obtain ⟨p5, c5, rfl, hcc5, hcc6⟩ := own_shape hown5; clear hown5 hgr5 hloc5)
                  | (go_simp; first
                    | (go_at_call 19; refine (I_any 0 _).mono ?_; rintro e xI ⟨rfl, bI⟩; have hI : Below wc.heap.size wc xI := (by first | exact hF.trans (bI.mono hF.size) | exact ((Below.refl _ _).drew).trans (bI.mono (Nat.le_refl _))); clear bI; have i0c := HFC.out _ hI; have i2c := HFC.out _ (hI.trans ((box_below xI #[.int .i64 1, .int .i64 0, .slice none 0 0, .int .i64 5, .int .i64 9, .slice none 0 0] 25).mono hI.size)))
                    | (go_at_call 20; refine (F_any 9 _).mono ?_; rintro e xF ⟨rfl, bF⟩; have hF : Below wc.heap.size wc xF := (by first | exact hI.trans (bF.mono hI.size) | exact ((Below.refl _ _).drew).trans (bF.mono (Nat.le_refl _))); clear bF; have f0c := HFC.out _ hF; have f2c := HFC.out _ (hF.trans ((box_below xF #[.int .i64 1, .int .i64 0, .slice none 0 0, .int .i64 5, .int .i64 9, .slice none 0 0] 25).mono hF.size)))))
                all_goals
                  have HPE := HS5.out.fin
                  have HBAD := pairs_twice HOK.out HKP.out
                  go_wp2_with fail
                  go_meet
                  case rel => exact ⟨p5, m + 2, c5, _, HPE, HBAD⟩
              case false =>
                obtain ⟨r, hr⟩ : ∃ r, how.tmod 3 = r := ⟨_, rfl⟩
                have hr3 := Int.tmod_lt_of_pos how (show (0 : Int) < 3 by decide)
                have hr4 : -3 < how.tmod 3 := by
                  have h1 := Int.emod_nonneg how (show (3 : Int) ≠ 0 by decide)
                  have h2 := Int.emod_lt_of_pos how (show (0 : Int) < 3 by decide)
                  have h3 := Int.tmod_eq_emod (a := how) (b := 3)
                  split at h3 <;> omega
                rw [hr] at hr3 hr4
                obtain ⟨gr, c2, cur, he, hgb, hgne, hcur, hcs, hkc, hcb2⟩ := p_row HSC.out (by have := HML.out; omega)
                injection he with he1 he2 he3
                subst he1; subst he3
                rw [← he2] at hcs hkc
                clear he2
                have hmg : 1 < m := HM2.out.1
                have HGM : Hid (ps.length = m) := HML.out
                by_cases r0 : r = 0
                · subst r0
                  obtain ⟨n, hn⟩ : ∃ n, m = n + 1 := ⟨m - 1, by omega⟩
                  subst hn
                  have HEND : Hid (PEnd w g (.slice (some ⟨gr, 0, none⟩) n c) ((ps.take n).map agS) (wc.setCell ⟨g, 2, none⟩ (.slice (some ⟨gr, 0, none⟩) n c))) := p_cut HSC.out HGM.out
                  have hsb : (n : Int) + 1 - 1 = (n : Int) := by omega
                  have HODD : Hid (((ps.take n).map agS).length % 2 = 1) := by have := HM2.out; unfold Hid; rw [List.length_map, List.length_take, HGM.out]; omega
                  have HBAD := pairs_odd HODD.out
                  clear hcur hcs
                  go_wp2_with fail
                  go_meet
                  case rel => exact ⟨some ⟨gr, 0, none⟩, n, c, _, HEND, HBAD⟩
                have r0' : (r == 0) = false := by simpa using r0
                have HRR : Hid (how.tmod 3 = r) := hr
                by_cases r1 : r = 1 ∨ r = -1
                · rcases r1 with r1 | r1
                  all_goals
                    subst r1
                    have HCW : Hid (∀ W, Below wc.heap.size wc W → (∃ q, W.cell? ⟨gr, 3, none⟩ = some q) ∧ (∃ q, W.cell? ⟨gr, 4, none⟩ = some q) ∧ (∃ q, W.cell? ⟨gr, 5, none⟩ = some q) ∧ W.frozen? ⟨gr, 3, none⟩ = false ∧ W.frozen? ⟨gr, 4, none⟩ = false ∧ W.frozen? ⟨gr, 5, none⟩ = false ∧ W.cell? ⟨g, 2, none⟩ = some (.slice (some ⟨gr, 0, none⟩) m c)) := by
                      intro W hW
                      have hgl : gr < wc.heap.size := (Array.getElem?_eq_some_iff.1 hcur).1
                      have hcu : W.heap[gr]? = some (.cells cur 25 (0, 0)) := by rw [hW.block gr hgl]; exact hcur
                      have hc : ∀ j, j < cur.size → ∃ q, W.cell? ⟨gr, j, none⟩ = some q := fun j hj => ⟨cur[j], by
                        unfold World.cell?
                        simp only [hcu]
                        show cur[j]? = _
                        exact Array.getElem?_eq_getElem hj⟩
                      have hz : ∀ j, W.frozen? ⟨gr, j, none⟩ = false := fun j => by simp [World.frozen?, hcu]
                      exact ⟨hc _ (by omega), hc _ (by omega), hc _ (by omega), hz _, hz _, hz _, (HSC.out.1.under hW).facts.2.2.1⟩
                    have HSE : Hid (∀ W, Below wc.heap.size wc W → PEnd w g (.slice (some ⟨gr, 0, none⟩) m c) ((ps.map agS).set 1 (agS (5, 0))) (setEl W gr 1 5 0 (.slice none 0 0))) := fun W hW => by
                      have h0 := HSC.out.under hW
                      rw [← HGM.out] at h0 ⊢
                      exact p_set h0 (by rw [HGM.out]; omega) (elS_fit (by decide) (by decide))
                    have HBAD : Hid (pairsB ((ps.map agS).set 1 (agS (5, 0))) = false) := pairs_lab (by rw [List.length_map, HGM.out]; exact hmg)
                    obtain ⟨⟨q0, e0⟩, ⟨q1, e1⟩, ⟨q2, e2⟩, z0, z1, z2, jj⟩ := HCW.out wc (Below.refl _ _)
                    have hmi : (1 : Int) < (m : Int) := by omega
                    clear hcur hcs
                    go_wp2_with fail
                    go_region_law (first
                      | (go_simp; go_at_call 20; refine (F_any 0 _).mono ?_; rintro e xF ⟨rfl, bF⟩; have hF : Below wc.heap.size wc xF := ((Below.refl _ _).drew).trans (bF.mono (Nat.le_refl _)); clear bF; have HPE : Hid (PEnd w g (.slice (some ⟨gr, 0, none⟩) m c) ((ps.map agS).set 1 (agS (5, 0))) (setEl xF gr 1 5 0 (.slice none 0 0))) := HSE.out xF hF; obtain ⟨⟨u0, e3⟩, ⟨u1, e4⟩, ⟨u2, e5⟩, z3, z4, z5, jk⟩ := HCW.out xF hF))
                    all_goals
                      go_wp2_with fail
                      go_meet
                      case rel => exact ⟨some ⟨gr, 0, none⟩, m, c, _, HPE, HBAD⟩
                · have r2 : r = 2 ∨ r = -2 := by omega
                  rcases r2 with r2 | r2
                  all_goals
                    subst r2
                    have HCW : Hid (∀ W, Below wc.heap.size wc W → (∃ q, W.cell? ⟨gr, 0, none⟩ = some q) ∧ (∃ q, W.cell? ⟨gr, 1, none⟩ = some q) ∧ (∃ q, W.cell? ⟨gr, 2, none⟩ = some q) ∧ W.frozen? ⟨gr, 0, none⟩ = false ∧ W.frozen? ⟨gr, 1, none⟩ = false ∧ W.frozen? ⟨gr, 2, none⟩ = false ∧ W.cell? ⟨g, 2, none⟩ = some (.slice (some ⟨gr, 0, none⟩) m c)) := by
                      intro W hW
                      have hgl : gr < wc.heap.size := (Array.getElem?_eq_some_iff.1 hcur).1
                      have hcu : W.heap[gr]? = some (.cells cur 25 (0, 0)) := by rw [hW.block gr hgl]; exact hcur
                      have hc : ∀ j, j < cur.size → ∃ q, W.cell? ⟨gr, j, none⟩ = some q := fun j hj => ⟨cur[j], by
                        unfold World.cell?
                        simp only [hcu]
                        show cur[j]? = _
                        exact Array.getElem?_eq_getElem hj⟩
                      have hz : ∀ j, W.frozen? ⟨gr, j, none⟩ = false := fun j => by simp [World.frozen?, hcu]
                      exact ⟨hc _ (by omega), hc _ (by omega), hc _ (by omega), hz _, hz _, hz _, (HSC.out.1.under hW).facts.2.2.1⟩
                    have HSE : Hid (∀ W, Below wc.heap.size wc W → PEnd w g (.slice (some ⟨gr, 0, none⟩) m c) ((ps.map agS).set 0 (agS (3, 1))) (setEl W gr 0 3 1 (.slice none 0 0))) := fun W hW => by
                      have h0 := HSC.out.under hW
                      rw [← HGM.out] at h0 ⊢
                      exact p_set h0 (by rw [HGM.out]; omega) (elS_fit (by decide) (by decide))
                    have HBAD : Hid (pairsB ((ps.map agS).set 0 (agS (3, 1))) = false) := pairs_reg (by rw [List.length_map, HGM.out]; exact hmg)
                    obtain ⟨⟨q0, e0⟩, ⟨q1, e1⟩, ⟨q2, e2⟩, z0, z1, z2, jj⟩ := HCW.out wc (Below.refl _ _)
                    have hmi : (0 : Int) < (m : Int) := by omega
                    have hmn : 0 < m := by omega
                    clear hcur hcs
                    go_wp2_with fail
                    go_region_law (first
                      | (go_simp; go_at_call 24; refine (X_any 1 _).mono ?_; rintro e xF ⟨rfl, bF⟩; have hF : Below wc.heap.size wc xF := ((Below.refl _ _).drew).trans (bF.mono (Nat.le_refl _)); clear bF; have HPE : Hid (PEnd w g (.slice (some ⟨gr, 0, none⟩) m c) ((ps.map agS).set 0 (agS (3, 1))) (setEl xF gr 0 3 1 (.slice none 0 0))) := HSE.out xF hF; obtain ⟨⟨u0, e3⟩, ⟨u1, e4⟩, ⟨u2, e5⟩, z3, z4, z5, jk⟩ := HCW.out xF hF))
                    all_goals
                      go_wp2_with fail
                      go_meet
                      case rel => exact ⟨some ⟨gr, 0, none⟩, m, c, _, HPE, HBAD⟩
            case rest =>
              obtain ⟨p5, m5, c5, K5, HEND, HBAD⟩ := hcut
              have HL : Hid (∀ W, Below wc.heap.size wc W → Gs (W.alloc (.cells #[.int .i64 3, .int .i64 0, .slice none 0 0, .int .i64 5, .int .i64 1, .slice none 0 0, .int .i64 7, .int .i64 0, .slice p5 m5 c5] 25)) (.slice (some ⟨W.heap.size, 0, none⟩) 3 3) [agS (3, 0), agS (5, 1), ⟨7, 0, K5⟩]) := fun W hW => lit3 W (HEND.out.under hW)
              have HRES : Hid (fitsI 33 [agS (3, 0), agS (5, 1), ⟨7, 0, K5⟩] = false) := by unfold Hid; rw [fits33, HBAD.out, Bool.and_false]
              have HBW : Hid (Below w.heap.size w wc) := HEND.out.2.2
              obtain ⟨j0, j1, j2, -⟩ := HEND.out.1.facts
              go_wp2_with fail
              go_region_law (first
                | (go_simp; go_at_call 24; refine (X_any 0 _).mono ?_; rintro e xX ⟨rfl, bX⟩; have hX : Below wc.heap.size wc xX := (by first | exact hF.trans (bX.mono hF.size) | exact ((Below.refl _ _).drew).trans (bX.mono (Nat.le_refl _))); clear bX; obtain ⟨x0, x1, x2, -⟩ := (HEND.out.1.under hX).facts)
                | (go_simp; go_at_call 20; refine (F_any 1 _).mono ?_; rintro e xF ⟨rfl, bF⟩; have hF : Below wc.heap.size wc xF := (by first | exact hX.trans (bF.mono hX.size) | exact ((Below.refl _ _).drew).trans (bF.mono (Nat.le_refl _))); clear bF; obtain ⟨y0, y1, y2, -⟩ := (HEND.out.1.under hF).facts)
                | (go_simp; go_at_call 23; refine (Op_any 33 [agS (3, 0), agS (5, 1), ⟨7, 0, K5⟩] _ 3 _ (by first | exact HL.out xF hF | exact HL.out xX hX) (by simp)).mono ?_; rintro e xO ⟨pO, cO, rfl, gO, bO⟩; have hO : Below wc.heap.size wc xO := (by first | exact (hF.trans ((box_below xF _ _).mono hF.size)).trans (bO.mono (by have := hF.size; simp; omega)) | exact (hX.trans ((box_below xX _ _).mono hX.size)).trans (bO.mono (by have := hX.size; simp; omega))); clear bO; dsimp only [List.length_cons, List.length_nil])
                | (go_simp; go_at_call 22; refine (Fits_any 33 [agS (3, 0), agS (5, 1), ⟨7, 0, K5⟩] _ _ gO).mono ?_; rw [HRES.out]; rintro e xT ⟨rfl, bT⟩; have hT : Below wc.heap.size wc xT := hO.trans (bT.mono hO.size); clear bT gO)
                | (go_simp; go_at_call 25; refine (HAW.out _ (HBW.out.trans (hT.mono HBW.out.size))).mono ?_; rintro e xA ⟨rfl, bA⟩; have hA : Below wc.heap.size wc xA := hT.trans (bA.mono hT.size); clear bA))
              all_goals
                have HBE : Hid (Below w.heap.size w xA) := HBW.out.trans (hA.mono HBW.out.size)
                go_wp2_with fail
                go_ret
                exact ⟨rfl, HBE.out⟩
    | succ gk' =>
      have hkl : (k : Int) < (len : Int) := by omega
      have hk15 : (k : Int) < 15 := by omega
      have hkc : (k : Int) < (cap : Int) := by omega
      obtain ⟨b, off, rfl, hlt, hcz, hz3, hz4⟩ := HZ.out k (by omega)
      obtain ⟨z, hz⟩ : ∃ z, zs.getD k 0 = z := ⟨_, rfl⟩
      rw [hz] at hcz hz3 hz4
      have hbw : Below w.heap.size w wr := HST.out.2.2.2.2.2
      have hcz2 : wr.cell? ⟨b, off + k, none⟩ = some (.int .i64 z) := by rw [hbw.cell (p := ⟨b, off + k, none⟩) hlt]; exact hcz
      have hltr : b < wr.heap.size := Nat.lt_of_lt_of_le hlt hbw.size
      have HFC : Hid (∀ W, Below wr.heap.size wr W → W.cell? ⟨g, 2, none⟩ = some (.slice p m c) ∧ W.cell? ⟨b, off + k, none⟩ = some (.int .i64 z)) := fun W hW => ⟨(HST.out.1.under hW).facts.2.2.1, by rw [hW.cell (p := ⟨b, off + k, none⟩) hltr]; exact hcz2⟩
      have hf1 := Int.emod_nonneg z (show (100 : Int) ≠ 0 by decide)
      have hf2 := Int.emod_lt_of_pos z (show (0 : Int) < 100 by decide)
      have HPL : Hid (∀ W, Calls Tryd.prog 21 #[.int .i64 z, .int .i64 100] W fun e w' => e = .returned (.int .i64 (z % 100)) ∧ W = w') := fun W => place_any z 100 W (by decide) (by decide) hz3 hz4
      generalize z % 100 = f at *
      have hown0 := HST.out.2.2.1
      unfold AOwn at hown0
      rw [List.length_map, HML.out] at hown0
      have HOW : Hid (wr.ownsRow w.heap.size 25 3 (.slice p m c) m (cl3 (ps.map elS))) := hown0
      have hrowlt := World.ownsRow.lt HST.out.2.2.1
      have HFAR : Hid (∀ (W W5 : World), Below wr.heap.size wr W → ∀ lit : Obj, (W.alloc lit).grownBy W5 (Value.slice p m c).ownBlock → W5.cell? ⟨b, off + k, none⟩ = some (.int .i64 z)) := by
        intro W W5 hW lit hg
        have h1 := hW.size
        have h2 : (W.alloc lit).heap.size = W.heap.size + 1 := by simp
        rw [World.cell?_of_block (a := ⟨b, off + k, none⟩) (hg.block b (by omega) (fun e => by have := (hrowlt b e.symm).1; omega)), World.cell?_of_block (a := ⟨b, off + k, none⟩) (((Below.refl W.heap.size W).alloc (Nat.le_refl _) lit).block b (by omega))]
        exact (HFC.out W hW).2
      have hbg : b < g := Nat.lt_of_lt_of_le hlt HST.out.2.1
      have HSTO : Hid (∀ (W5 : World) (u : Value), W5.cell? ⟨b, off + k, none⟩ = some (.int .i64 z) → (W5.setCell ⟨g, 2, none⟩ u).cell? ⟨b, off + k, none⟩ = some (.int .i64 z)) := fun W5 u h => by
        rw [World.cell?_of_block (a := ⟨b, off + k, none⟩) (by
          simp only [World.setCell, Array.getElem?_modify]
          rw [if_neg (by omega)])]
        exact h
      clear hrowlt hbg
      have hws := hbw.size
      have hk14 : k < 15 := by omega
      have hm30 : m ≤ 30 := by omega
      have HMK : Hid (m = 2 * k) := hm
      clear hm
      have hwf : IntKind.i64.wrap (1 + f) = 1 + f := by rw [IntKind.wrap_i64]; omega
      have HFA : Hid (El.fit (elS (1, (k : Int)))) := elS_fit (by dsimp only; omega) (by dsimp only; omega)
      have HFB : Hid (El.fit (elS (5, 1 + f))) := elS_fit (by dsimp only; omega) (by dsimp only; omega)
      obtain ⟨c0, c1⟩ := HFC.out wr (Below.refl _ _)
      clear hown0 hbw hz hcz hcz2 hltr hlt
      go_wp2_with fail
      clear HZ HAW
      refine wp_region_noPanic ?_
      refine wp_region_held_drew (S := (fun W' => W'.cell? ⟨b, off + k, none⟩ = some (.int .i64 z))) (by kernel_rfl) ?_ (fun hHeld => ?_)
      · exact (HFC.out _ ((Below.refl _ _).drew)).2
      refine wpAnyH_take (i := 0) (v := ?_) (opNth_ops rfl) (by kernel_rfl) (by kernel_rfl) (by kernel_rfl) (fun _ _ _ h => h) (Or.inl ⟨by rfl, ?_⟩) (by assumption) ?_
      rotate_left
      · intro wq hSq
        go_simp
        try with_reducible rfl
      try simp only [Act.put, List.setIfInBounds_toArray, List.set_cons_zero, List.set_cons_succ]
      refine wpAnyH_take (i := 2) (v := ?_) (opNth_ops rfl) (by kernel_rfl) (by kernel_rfl) (by kernel_rfl) (fun _ _ _ h => h) (Or.inl ⟨by rfl, ?_⟩) (by assumption) ?_
      rotate_left
      · intro wq hSq
        go_simp
        try with_reducible rfl
      try simp only [Act.put, List.setIfInBounds_toArray, List.set_cons_zero, List.set_cons_succ]
      refine wpAnyH_take (i := 4) (v := ?_) (opNth_ops rfl) (by kernel_rfl) (by kernel_rfl) (by kernel_rfl) (fun _ _ _ h => h) (Or.inl ⟨by rfl, ?_⟩) (by assumption) ?_
      rotate_left
      · intro wq hSq
        go_simp
        try with_reducible rfl
      try simp only [Act.put, List.setIfInBounds_toArray, List.set_cons_zero, List.set_cons_succ]
      refine wpAnyH_take (i := 5) (v := ?_) (opNth_ops rfl) (by kernel_rfl) (by kernel_rfl) (by kernel_rfl) (fun _ _ _ h => h) (Or.inl ⟨by rfl, ?_⟩) (by assumption) ?_
      rotate_left
      · intro wq hSq
        go_simp
        try with_reducible rfl
      try simp only [Act.put, List.setIfInBounds_toArray, List.set_cons_zero, List.set_cons_succ]
      refine wpAnyH_take (i := 6) (v := ?_) (opNth_ops rfl) (by kernel_rfl) (by kernel_rfl) (by kernel_rfl) (fun _ _ _ h => h) (Or.inl ⟨by rfl, ?_⟩) (by assumption) ?_
      rotate_left
      · intro wq hSq
        go_simp
        try with_reducible rfl
      try simp only [Act.put, List.setIfInBounds_toArray, List.set_cons_zero, List.set_cons_succ]
      refine wpAnyH_take (i := 7) (v := ?_) (opNth_ops rfl) (by kernel_rfl) (by kernel_rfl) (by kernel_rfl) (fun _ _ _ h => h) (Or.inl ⟨by rfl, ?_⟩) (by assumption) ?_
      rotate_left
      · intro wq hSq
        go_simp
        try with_reducible rfl
      try simp only [Act.put, List.setIfInBounds_toArray, List.set_cons_zero, List.set_cons_succ]
      refine wpAnyH_ready (rs := [1, 3]) (by kernel_rfl) (by simp) ?_
      refine AllReadyH.cons (opNth_ops rfl) (fun K hK => ?_) ?_
      · have cL := (HFC.out _ ((Below.refl _ _).drew)).1
        go_simp
        refine hK.out _ _ ?_ (fun hHeld => ?_)
        · exact (HFC.out _ ((Below.refl _ _).drew)).2
        clear hK K
        try simp only [Act.put, List.setIfInBounds_toArray, List.set_cons_zero, List.set_cons_succ]
        clear cL
        refine wpAnyH_ready (rs := [3]) (by kernel_rfl) (by simp) ?_
        refine AllReadyH.cons (opNth_ops rfl) (fun K hK => ?_) ?_
        rotate_left
        exact AllReadyH.nil
        go_simp
        go_at_call 19
        refine (I_any (k : Int) _).mono ?_
        rintro e xI ⟨rfl, bI⟩
        have hI : Below wr.heap.size wr xI := ((Below.refl _ _).drew).trans (bI.mono (Nat.le_refl _))
        clear bI
        go_wp2_with fail
        refine hK.out _ _ ?_ (fun hHeld => ?_)
        · exact (HFC.out _ hI).2
        clear hK K
        try simp only [Act.put, List.setIfInBounds_toArray, List.set_cons_zero, List.set_cons_succ]
        refine wpAnyH_ready (rs := [8]) (by kernel_rfl) (by simp) ?_
        refine AllReadyH.cons (opNth_ops rfl) (fun K hK => ?_) ?_
        rotate_left
        exact AllReadyH.nil
        go_simp
        go_at_call 21
        refine (HPL.out _).mono ?_
        rintro e xP ⟨rfl, rfl⟩
        go_wp2_with fail
        refine hK.out _ _ ?_ (fun hHeld => ?_)
        · exact (HFC.out _ hI).2
        clear hK K
        try simp only [Act.put, List.setIfInBounds_toArray, List.set_cons_zero, List.set_cons_succ]
        refine wpAnyH_take (i := 9) (v := ?_) (opNth_ops rfl) (by kernel_rfl) (by kernel_rfl) (by kernel_rfl) (fun _ _ _ h => h) (Or.inl ⟨by rfl, ?_⟩) (by assumption) ?_
        rotate_left
        · intro wq hSq
          go_simp
          try with_reducible rfl
        try simp only [Act.put, List.setIfInBounds_toArray, List.set_cons_zero, List.set_cons_succ]
        refine wpAnyH_ready (rs := [10]) (by kernel_rfl) (by simp) ?_
        refine AllReadyH.cons (opNth_ops rfl) (fun K hK => ?_) ?_
        rotate_left
        exact AllReadyH.nil
        go_simp
        try rw [hwf]
        go_at_call 20
        refine (F_any (1 + f) _).mono ?_
        rintro e xF ⟨rfl, bF⟩
        have hF : Below wr.heap.size wr xF := hI.trans (bF.mono hI.size)
        clear bF
        go_wp2_with fail
        refine hK.out _ _ ?_ (fun hHeld => ?_)
        · exact (HFC.out _ hF).2
        clear hK K
        try simp only [Act.put, List.setIfInBounds_toArray, List.set_cons_zero, List.set_cons_succ]
        refine wpAnyH_ready (rs := [11]) (by kernel_rfl) (by simp) ?_
        refine AllReadyH.cons (opNth_ops rfl) (fun K hK => ?_) ?_
        rotate_left
        exact AllReadyH.nil
        have hL : Below wr.heap.size wr (xF.alloc (.cells #[.int .i64 1, .int .i64 (k : Int), .slice none 0 0, .int .i64 5, .int .i64 (1 + f), .slice none 0 0] 25)) := hF.trans ((box_below xF #[.int .i64 1, .int .i64 (k : Int), .slice none 0 0, .int .i64 5, .int .i64 (1 + f), .slice none 0 0] 25).mono hF.size)
        go_simp
        refine hK.out _ _ ?_ (fun hHeld => ?_)
        · exact (HFC.out _ hL).2
        clear hK K
        try simp only [Act.put, List.setIfInBounds_toArray, List.set_cons_zero, List.set_cons_succ]
        refine wpAnyH_ready (rs := [12]) (by kernel_rfl) (by simp) ?_
        refine AllReadyH.cons (opNth_ops rfl) (fun K hK => ?_) ?_
        rotate_left
        exact AllReadyH.nil
        refine step_append_at rfl (.tmp 21) (.tmp 31) 23 rfl w.heap.size 25 i0 (.agg #[.int .i64 0, .int .i64 0, .slice none 0 0]) 3 40 Tryd.underlying23 hi hz0 hz1 hz2 rfl (by decide) (.slice p m c) m (cl3 (ps.map elS)) (by simp [Act.eval, Act.put]) (World.ownsRow.alloc (own_same HOW.out (fun b _ hlt => hF.block b hlt)) _) ⟨xF.heap.size, 0, none⟩ 2 2 [.int .i64 1, .int .i64 (k : Int), .slice none 0 0, .int .i64 5, .int .i64 (1 + f), .slice none 0 0] (by simp [Act.eval, Act.put]) rfl (World.news_of_block (heap_alloc_new xF _)) (by simp [Value.oneCell']) (by unfold maxLen; omega) (by omega) (by have := hF.size; simp; omega) ?_
        intro v5 w5 hown5 hgr5 hloc5
        have HS5 : Hid (PSt w g v5 (ps ++ [(1, (k : Int)), (5, 1 + f)]) (w5.setCell ⟨g, 2, none⟩ v5)) := p_push HST.out hF HFA.out HFB.out (by rw [HML.out]; exact hown5) hgr5 hloc5
        obtain ⟨s0, s1, s2, s3, s4, s5⟩ := (p_box HST.out hF hgr5).facts
        have t5 : w5.cell? ⟨b, off + k, none⟩ = some (.int .i64 z) := HFAR.out _ _ hF _ hgr5
        obtain ⟨p5, c5, rfl, hcc5, hcc6⟩ := own_shape hown5
        clear hown5 hgr5 hloc5
        refine hK.out _ _ ?_ (fun hHeld => ?_)
        · exact t5
        clear hK K
        try simp only [Act.put, List.setIfInBounds_toArray, List.set_cons_zero, List.set_cons_succ]
        refine wpAnyH_take (i := 13) (v := ?_) (opNth_ops rfl) (by kernel_rfl) (by kernel_rfl) (by kernel_rfl) (fun _ _ _ h => h) (Or.inl ⟨by rfl, ?_⟩) (by assumption) ?_
        rotate_left
        · intro wq hSq
          go_simp
          try with_reducible rfl
        try simp only [Act.put, List.setIfInBounds_toArray, List.set_cons_zero, List.set_cons_succ]
        refine wpAnyH_ready (rs := [14]) (by kernel_rfl) (by simp) ?_
        refine AllReadyH.cons (opNth_ops rfl) (fun K hK => ?_) ?_
        rotate_left
        exact AllReadyH.nil
        go_simp
        refine hK.out _ _ ?_ (fun hHeld => ?_)
        · exact HSTO.out _ _ t5
        clear hK K
        try simp only [Act.put, List.setIfInBounds_toArray, List.set_cons_zero, List.set_cons_succ]
        refine wpAnyH_done (by kernel_rfl) ?_ _
        refine NoPanic.normal ?_
        have HOK5 : Hid (psOk (ps ++ [(1, (k : Int)), (5, 1 + f)]) (k + 1)) := HOK.out.push (by omega) (by omega)
        have HML5 : Hid ((ps ++ [(1, (k : Int)), (5, 1 + f)]).length = m + 2) := by have := HML.out; unfold Hid; simp; omega
        clear s0 s1 s2 s3 s4 s5 c0 c1 t5
        go_wp2_with fail
        go_roundg gk'
        case measure => omega
        case rel => exact ⟨k + 1, m + 2, _, p5, c5, by omega, by go_num, by have := HMK.out; omega, HML5, HS5, HOK5⟩
      refine AllReadyH.cons (opNth_ops rfl) (fun K hK => ?_) ?_
      · go_simp
        go_at_call 19
        refine (I_any (k : Int) _).mono ?_
        rintro e xI ⟨rfl, bI⟩
        have hI : Below wr.heap.size wr xI := ((Below.refl _ _).drew).trans (bI.mono (Nat.le_refl _))
        clear bI
        go_wp2_with fail
        refine hK.out _ _ ?_ (fun hHeld => ?_)
        · exact (HFC.out _ hI).2
        clear hK K
        try simp only [Act.put, List.setIfInBounds_toArray, List.set_cons_zero, List.set_cons_succ]
        refine wpAnyH_ready (rs := [1, 8]) (by kernel_rfl) (by simp) ?_
        refine AllReadyH.cons (opNth_ops rfl) (fun K hK => ?_) ?_
        · have cL := (HFC.out _ hI).1
          go_simp
          refine hK.out _ _ ?_ (fun hHeld => ?_)
          · exact (HFC.out _ hI).2
          clear hK K
          try simp only [Act.put, List.setIfInBounds_toArray, List.set_cons_zero, List.set_cons_succ]
          clear cL
          refine wpAnyH_ready (rs := [8]) (by kernel_rfl) (by simp) ?_
          refine AllReadyH.cons (opNth_ops rfl) (fun K hK => ?_) ?_
          rotate_left
          exact AllReadyH.nil
          go_simp
          go_at_call 21
          refine (HPL.out _).mono ?_
          rintro e xP ⟨rfl, rfl⟩
          go_wp2_with fail
          refine hK.out _ _ ?_ (fun hHeld => ?_)
          · exact (HFC.out _ hI).2
          clear hK K
          try simp only [Act.put, List.setIfInBounds_toArray, List.set_cons_zero, List.set_cons_succ]
          refine wpAnyH_take (i := 9) (v := ?_) (opNth_ops rfl) (by kernel_rfl) (by kernel_rfl) (by kernel_rfl) (fun _ _ _ h => h) (Or.inl ⟨by rfl, ?_⟩) (by assumption) ?_
          rotate_left
          · intro wq hSq
            go_simp
            try with_reducible rfl
          try simp only [Act.put, List.setIfInBounds_toArray, List.set_cons_zero, List.set_cons_succ]
          refine wpAnyH_ready (rs := [10]) (by kernel_rfl) (by simp) ?_
          refine AllReadyH.cons (opNth_ops rfl) (fun K hK => ?_) ?_
          rotate_left
          exact AllReadyH.nil
          go_simp
          try rw [hwf]
          go_at_call 20
          refine (F_any (1 + f) _).mono ?_
          rintro e xF ⟨rfl, bF⟩
          have hF : Below wr.heap.size wr xF := hI.trans (bF.mono hI.size)
          clear bF
          go_wp2_with fail
          refine hK.out _ _ ?_ (fun hHeld => ?_)
          · exact (HFC.out _ hF).2
          clear hK K
          try simp only [Act.put, List.setIfInBounds_toArray, List.set_cons_zero, List.set_cons_succ]
          refine wpAnyH_ready (rs := [11]) (by kernel_rfl) (by simp) ?_
          refine AllReadyH.cons (opNth_ops rfl) (fun K hK => ?_) ?_
          rotate_left
          exact AllReadyH.nil
          have hL : Below wr.heap.size wr (xF.alloc (.cells #[.int .i64 1, .int .i64 (k : Int), .slice none 0 0, .int .i64 5, .int .i64 (1 + f), .slice none 0 0] 25)) := hF.trans ((box_below xF #[.int .i64 1, .int .i64 (k : Int), .slice none 0 0, .int .i64 5, .int .i64 (1 + f), .slice none 0 0] 25).mono hF.size)
          go_simp
          refine hK.out _ _ ?_ (fun hHeld => ?_)
          · exact (HFC.out _ hL).2
          clear hK K
          try simp only [Act.put, List.setIfInBounds_toArray, List.set_cons_zero, List.set_cons_succ]
          refine wpAnyH_ready (rs := [12]) (by kernel_rfl) (by simp) ?_
          refine AllReadyH.cons (opNth_ops rfl) (fun K hK => ?_) ?_
          rotate_left
          exact AllReadyH.nil
          refine step_append_at rfl (.tmp 21) (.tmp 31) 23 rfl w.heap.size 25 i0 (.agg #[.int .i64 0, .int .i64 0, .slice none 0 0]) 3 40 Tryd.underlying23 hi hz0 hz1 hz2 rfl (by decide) (.slice p m c) m (cl3 (ps.map elS)) (by simp [Act.eval, Act.put]) (World.ownsRow.alloc (own_same HOW.out (fun b _ hlt => hF.block b hlt)) _) ⟨xF.heap.size, 0, none⟩ 2 2 [.int .i64 1, .int .i64 (k : Int), .slice none 0 0, .int .i64 5, .int .i64 (1 + f), .slice none 0 0] (by simp [Act.eval, Act.put]) rfl (World.news_of_block (heap_alloc_new xF _)) (by simp [Value.oneCell']) (by unfold maxLen; omega) (by omega) (by have := hF.size; simp; omega) ?_
          intro v5 w5 hown5 hgr5 hloc5
          have HS5 : Hid (PSt w g v5 (ps ++ [(1, (k : Int)), (5, 1 + f)]) (w5.setCell ⟨g, 2, none⟩ v5)) := p_push HST.out hF HFA.out HFB.out (by rw [HML.out]; exact hown5) hgr5 hloc5
          obtain ⟨s0, s1, s2, s3, s4, s5⟩ := (p_box HST.out hF hgr5).facts
          have t5 : w5.cell? ⟨b, off + k, none⟩ = some (.int .i64 z) := HFAR.out _ _ hF _ hgr5
          obtain ⟨p5, c5, rfl, hcc5, hcc6⟩ := own_shape hown5
          clear hown5 hgr5 hloc5
          refine hK.out _ _ ?_ (fun hHeld => ?_)
          · exact t5
          clear hK K
          try simp only [Act.put, List.setIfInBounds_toArray, List.set_cons_zero, List.set_cons_succ]
          refine wpAnyH_take (i := 13) (v := ?_) (opNth_ops rfl) (by kernel_rfl) (by kernel_rfl) (by kernel_rfl) (fun _ _ _ h => h) (Or.inl ⟨by rfl, ?_⟩) (by assumption) ?_
          rotate_left
          · intro wq hSq
            go_simp
            try with_reducible rfl
          try simp only [Act.put, List.setIfInBounds_toArray, List.set_cons_zero, List.set_cons_succ]
          refine wpAnyH_ready (rs := [14]) (by kernel_rfl) (by simp) ?_
          refine AllReadyH.cons (opNth_ops rfl) (fun K hK => ?_) ?_
          rotate_left
          exact AllReadyH.nil
          go_simp
          refine hK.out _ _ ?_ (fun hHeld => ?_)
          · exact HSTO.out _ _ t5
          clear hK K
          try simp only [Act.put, List.setIfInBounds_toArray, List.set_cons_zero, List.set_cons_succ]
          refine wpAnyH_done (by kernel_rfl) ?_ _
          refine NoPanic.normal ?_
          have HOK5 : Hid (psOk (ps ++ [(1, (k : Int)), (5, 1 + f)]) (k + 1)) := HOK.out.push (by omega) (by omega)
          have HML5 : Hid ((ps ++ [(1, (k : Int)), (5, 1 + f)]).length = m + 2) := by have := HML.out; unfold Hid; simp; omega
          clear s0 s1 s2 s3 s4 s5 c0 c1 t5
          go_wp2_with fail
          go_roundg gk'
          case measure => omega
          case rel => exact ⟨k + 1, m + 2, _, p5, c5, by omega, by go_num, by have := HMK.out; omega, HML5, HS5, HOK5⟩
        refine AllReadyH.cons (opNth_ops rfl) (fun K hK => ?_) ?_
        · go_simp
          go_at_call 21
          refine (HPL.out _).mono ?_
          rintro e xP ⟨rfl, rfl⟩
          go_wp2_with fail
          refine hK.out _ _ ?_ (fun hHeld => ?_)
          · exact (HFC.out _ hI).2
          clear hK K
          try simp only [Act.put, List.setIfInBounds_toArray, List.set_cons_zero, List.set_cons_succ]
          refine wpAnyH_take (i := 9) (v := ?_) (opNth_ops rfl) (by kernel_rfl) (by kernel_rfl) (by kernel_rfl) (fun _ _ _ h => h) (Or.inl ⟨by rfl, ?_⟩) (by assumption) ?_
          rotate_left
          · intro wq hSq
            go_simp
            try with_reducible rfl
          try simp only [Act.put, List.setIfInBounds_toArray, List.set_cons_zero, List.set_cons_succ]
          refine wpAnyH_ready (rs := [1, 10]) (by kernel_rfl) (by simp) ?_
          refine AllReadyH.cons (opNth_ops rfl) (fun K hK => ?_) ?_
          · have cL := (HFC.out _ hI).1
            go_simp
            refine hK.out _ _ ?_ (fun hHeld => ?_)
            · exact (HFC.out _ hI).2
            clear hK K
            try simp only [Act.put, List.setIfInBounds_toArray, List.set_cons_zero, List.set_cons_succ]
            clear cL
            refine wpAnyH_ready (rs := [10]) (by kernel_rfl) (by simp) ?_
            refine AllReadyH.cons (opNth_ops rfl) (fun K hK => ?_) ?_
            rotate_left
            exact AllReadyH.nil
            go_simp
            try rw [hwf]
            go_at_call 20
            refine (F_any (1 + f) _).mono ?_
            rintro e xF ⟨rfl, bF⟩
            have hF : Below wr.heap.size wr xF := hI.trans (bF.mono hI.size)
            clear bF
            go_wp2_with fail
            refine hK.out _ _ ?_ (fun hHeld => ?_)
            · exact (HFC.out _ hF).2
            clear hK K
            try simp only [Act.put, List.setIfInBounds_toArray, List.set_cons_zero, List.set_cons_succ]
            refine wpAnyH_ready (rs := [11]) (by kernel_rfl) (by simp) ?_
            refine AllReadyH.cons (opNth_ops rfl) (fun K hK => ?_) ?_
            rotate_left
            exact AllReadyH.nil
            have hL : Below wr.heap.size wr (xF.alloc (.cells #[.int .i64 1, .int .i64 (k : Int), .slice none 0 0, .int .i64 5, .int .i64 (1 + f), .slice none 0 0] 25)) := hF.trans ((box_below xF #[.int .i64 1, .int .i64 (k : Int), .slice none 0 0, .int .i64 5, .int .i64 (1 + f), .slice none 0 0] 25).mono hF.size)
            go_simp
            refine hK.out _ _ ?_ (fun hHeld => ?_)
            · exact (HFC.out _ hL).2
            clear hK K
            try simp only [Act.put, List.setIfInBounds_toArray, List.set_cons_zero, List.set_cons_succ]
            refine wpAnyH_ready (rs := [12]) (by kernel_rfl) (by simp) ?_
            refine AllReadyH.cons (opNth_ops rfl) (fun K hK => ?_) ?_
            rotate_left
            exact AllReadyH.nil
            refine step_append_at rfl (.tmp 21) (.tmp 31) 23 rfl w.heap.size 25 i0 (.agg #[.int .i64 0, .int .i64 0, .slice none 0 0]) 3 40 Tryd.underlying23 hi hz0 hz1 hz2 rfl (by decide) (.slice p m c) m (cl3 (ps.map elS)) (by simp [Act.eval, Act.put]) (World.ownsRow.alloc (own_same HOW.out (fun b _ hlt => hF.block b hlt)) _) ⟨xF.heap.size, 0, none⟩ 2 2 [.int .i64 1, .int .i64 (k : Int), .slice none 0 0, .int .i64 5, .int .i64 (1 + f), .slice none 0 0] (by simp [Act.eval, Act.put]) rfl (World.news_of_block (heap_alloc_new xF _)) (by simp [Value.oneCell']) (by unfold maxLen; omega) (by omega) (by have := hF.size; simp; omega) ?_
            intro v5 w5 hown5 hgr5 hloc5
            have HS5 : Hid (PSt w g v5 (ps ++ [(1, (k : Int)), (5, 1 + f)]) (w5.setCell ⟨g, 2, none⟩ v5)) := p_push HST.out hF HFA.out HFB.out (by rw [HML.out]; exact hown5) hgr5 hloc5
            obtain ⟨s0, s1, s2, s3, s4, s5⟩ := (p_box HST.out hF hgr5).facts
            have t5 : w5.cell? ⟨b, off + k, none⟩ = some (.int .i64 z) := HFAR.out _ _ hF _ hgr5
            obtain ⟨p5, c5, rfl, hcc5, hcc6⟩ := own_shape hown5
            clear hown5 hgr5 hloc5
            refine hK.out _ _ ?_ (fun hHeld => ?_)
            · exact t5
            clear hK K
            try simp only [Act.put, List.setIfInBounds_toArray, List.set_cons_zero, List.set_cons_succ]
            refine wpAnyH_take (i := 13) (v := ?_) (opNth_ops rfl) (by kernel_rfl) (by kernel_rfl) (by kernel_rfl) (fun _ _ _ h => h) (Or.inl ⟨by rfl, ?_⟩) (by assumption) ?_
            rotate_left
            · intro wq hSq
              go_simp
              try with_reducible rfl
            try simp only [Act.put, List.setIfInBounds_toArray, List.set_cons_zero, List.set_cons_succ]
            refine wpAnyH_ready (rs := [14]) (by kernel_rfl) (by simp) ?_
            refine AllReadyH.cons (opNth_ops rfl) (fun K hK => ?_) ?_
            rotate_left
            exact AllReadyH.nil
            go_simp
            refine hK.out _ _ ?_ (fun hHeld => ?_)
            · exact HSTO.out _ _ t5
            clear hK K
            try simp only [Act.put, List.setIfInBounds_toArray, List.set_cons_zero, List.set_cons_succ]
            refine wpAnyH_done (by kernel_rfl) ?_ _
            refine NoPanic.normal ?_
            have HOK5 : Hid (psOk (ps ++ [(1, (k : Int)), (5, 1 + f)]) (k + 1)) := HOK.out.push (by omega) (by omega)
            have HML5 : Hid ((ps ++ [(1, (k : Int)), (5, 1 + f)]).length = m + 2) := by have := HML.out; unfold Hid; simp; omega
            clear s0 s1 s2 s3 s4 s5 c0 c1 t5
            go_wp2_with fail
            go_roundg gk'
            case measure => omega
            case rel => exact ⟨k + 1, m + 2, _, p5, c5, by omega, by go_num, by have := HMK.out; omega, HML5, HS5, HOK5⟩
          refine AllReadyH.cons (opNth_ops rfl) (fun K hK => ?_) ?_
          · go_simp
            try rw [hwf]
            go_at_call 20
            refine (F_any (1 + f) _).mono ?_
            rintro e xF ⟨rfl, bF⟩
            have hF : Below wr.heap.size wr xF := hI.trans (bF.mono hI.size)
            clear bF
            go_wp2_with fail
            refine hK.out _ _ ?_ (fun hHeld => ?_)
            · exact (HFC.out _ hF).2
            clear hK K
            try simp only [Act.put, List.setIfInBounds_toArray, List.set_cons_zero, List.set_cons_succ]
            refine wpAnyH_ready (rs := [1, 11]) (by kernel_rfl) (by simp) ?_
            refine AllReadyH.cons (opNth_ops rfl) (fun K hK => ?_) ?_
            · have cL := (HFC.out _ hF).1
              go_simp
              refine hK.out _ _ ?_ (fun hHeld => ?_)
              · exact (HFC.out _ hF).2
              clear hK K
              try simp only [Act.put, List.setIfInBounds_toArray, List.set_cons_zero, List.set_cons_succ]
              clear cL
              refine wpAnyH_ready (rs := [11]) (by kernel_rfl) (by simp) ?_
              refine AllReadyH.cons (opNth_ops rfl) (fun K hK => ?_) ?_
              rotate_left
              exact AllReadyH.nil
              have hL : Below wr.heap.size wr (xF.alloc (.cells #[.int .i64 1, .int .i64 (k : Int), .slice none 0 0, .int .i64 5, .int .i64 (1 + f), .slice none 0 0] 25)) := hF.trans ((box_below xF #[.int .i64 1, .int .i64 (k : Int), .slice none 0 0, .int .i64 5, .int .i64 (1 + f), .slice none 0 0] 25).mono hF.size)
              go_simp
              refine hK.out _ _ ?_ (fun hHeld => ?_)
              · exact (HFC.out _ hL).2
              clear hK K
              try simp only [Act.put, List.setIfInBounds_toArray, List.set_cons_zero, List.set_cons_succ]
              refine wpAnyH_ready (rs := [12]) (by kernel_rfl) (by simp) ?_
              refine AllReadyH.cons (opNth_ops rfl) (fun K hK => ?_) ?_
              rotate_left
              exact AllReadyH.nil
              refine step_append_at rfl (.tmp 21) (.tmp 31) 23 rfl w.heap.size 25 i0 (.agg #[.int .i64 0, .int .i64 0, .slice none 0 0]) 3 40 Tryd.underlying23 hi hz0 hz1 hz2 rfl (by decide) (.slice p m c) m (cl3 (ps.map elS)) (by simp [Act.eval, Act.put]) (World.ownsRow.alloc (own_same HOW.out (fun b _ hlt => hF.block b hlt)) _) ⟨xF.heap.size, 0, none⟩ 2 2 [.int .i64 1, .int .i64 (k : Int), .slice none 0 0, .int .i64 5, .int .i64 (1 + f), .slice none 0 0] (by simp [Act.eval, Act.put]) rfl (World.news_of_block (heap_alloc_new xF _)) (by simp [Value.oneCell']) (by unfold maxLen; omega) (by omega) (by have := hF.size; simp; omega) ?_
              intro v5 w5 hown5 hgr5 hloc5
              have HS5 : Hid (PSt w g v5 (ps ++ [(1, (k : Int)), (5, 1 + f)]) (w5.setCell ⟨g, 2, none⟩ v5)) := p_push HST.out hF HFA.out HFB.out (by rw [HML.out]; exact hown5) hgr5 hloc5
              obtain ⟨s0, s1, s2, s3, s4, s5⟩ := (p_box HST.out hF hgr5).facts
              have t5 : w5.cell? ⟨b, off + k, none⟩ = some (.int .i64 z) := HFAR.out _ _ hF _ hgr5
              obtain ⟨p5, c5, rfl, hcc5, hcc6⟩ := own_shape hown5
              clear hown5 hgr5 hloc5
              refine hK.out _ _ ?_ (fun hHeld => ?_)
              · exact t5
              clear hK K
              try simp only [Act.put, List.setIfInBounds_toArray, List.set_cons_zero, List.set_cons_succ]
              refine wpAnyH_take (i := 13) (v := ?_) (opNth_ops rfl) (by kernel_rfl) (by kernel_rfl) (by kernel_rfl) (fun _ _ _ h => h) (Or.inl ⟨by rfl, ?_⟩) (by assumption) ?_
              rotate_left
              · intro wq hSq
                go_simp
                try with_reducible rfl
              try simp only [Act.put, List.setIfInBounds_toArray, List.set_cons_zero, List.set_cons_succ]
              refine wpAnyH_ready (rs := [14]) (by kernel_rfl) (by simp) ?_
              refine AllReadyH.cons (opNth_ops rfl) (fun K hK => ?_) ?_
              rotate_left
              exact AllReadyH.nil
              go_simp
              refine hK.out _ _ ?_ (fun hHeld => ?_)
              · exact HSTO.out _ _ t5
              clear hK K
              try simp only [Act.put, List.setIfInBounds_toArray, List.set_cons_zero, List.set_cons_succ]
              refine wpAnyH_done (by kernel_rfl) ?_ _
              refine NoPanic.normal ?_
              have HOK5 : Hid (psOk (ps ++ [(1, (k : Int)), (5, 1 + f)]) (k + 1)) := HOK.out.push (by omega) (by omega)
              have HML5 : Hid ((ps ++ [(1, (k : Int)), (5, 1 + f)]).length = m + 2) := by have := HML.out; unfold Hid; simp; omega
              clear s0 s1 s2 s3 s4 s5 c0 c1 t5
              go_wp2_with fail
              go_roundg gk'
              case measure => omega
              case rel => exact ⟨k + 1, m + 2, _, p5, c5, by omega, by go_num, by have := HMK.out; omega, HML5, HS5, HOK5⟩
            refine AllReadyH.cons (opNth_ops rfl) (fun K hK => ?_) ?_
            · have hL : Below wr.heap.size wr (xF.alloc (.cells #[.int .i64 1, .int .i64 (k : Int), .slice none 0 0, .int .i64 5, .int .i64 (1 + f), .slice none 0 0] 25)) := hF.trans ((box_below xF #[.int .i64 1, .int .i64 (k : Int), .slice none 0 0, .int .i64 5, .int .i64 (1 + f), .slice none 0 0] 25).mono hF.size)
              go_simp
              refine hK.out _ _ ?_ (fun hHeld => ?_)
              · exact (HFC.out _ hL).2
              clear hK K
              try simp only [Act.put, List.setIfInBounds_toArray, List.set_cons_zero, List.set_cons_succ]
              refine wpAnyH_ready (rs := [1]) (by kernel_rfl) (by simp) ?_
              refine AllReadyH.cons (opNth_ops rfl) (fun K hK => ?_) ?_
              rotate_left
              exact AllReadyH.nil
              have cL := (HFC.out _ hL).1
              go_simp
              refine hK.out _ _ ?_ (fun hHeld => ?_)
              · exact (HFC.out _ hL).2
              clear hK K
              try simp only [Act.put, List.setIfInBounds_toArray, List.set_cons_zero, List.set_cons_succ]
              clear cL
              refine wpAnyH_ready (rs := [12]) (by kernel_rfl) (by simp) ?_
              refine AllReadyH.cons (opNth_ops rfl) (fun K hK => ?_) ?_
              rotate_left
              exact AllReadyH.nil
              refine step_append_at rfl (.tmp 21) (.tmp 31) 23 rfl w.heap.size 25 i0 (.agg #[.int .i64 0, .int .i64 0, .slice none 0 0]) 3 40 Tryd.underlying23 hi hz0 hz1 hz2 rfl (by decide) (.slice p m c) m (cl3 (ps.map elS)) (by simp [Act.eval, Act.put]) (World.ownsRow.alloc (own_same HOW.out (fun b _ hlt => hF.block b hlt)) _) ⟨xF.heap.size, 0, none⟩ 2 2 [.int .i64 1, .int .i64 (k : Int), .slice none 0 0, .int .i64 5, .int .i64 (1 + f), .slice none 0 0] (by simp [Act.eval, Act.put]) rfl (World.news_of_block (heap_alloc_new xF _)) (by simp [Value.oneCell']) (by unfold maxLen; omega) (by omega) (by have := hF.size; simp; omega) ?_
              intro v5 w5 hown5 hgr5 hloc5
              have HS5 : Hid (PSt w g v5 (ps ++ [(1, (k : Int)), (5, 1 + f)]) (w5.setCell ⟨g, 2, none⟩ v5)) := p_push HST.out hF HFA.out HFB.out (by rw [HML.out]; exact hown5) hgr5 hloc5
              obtain ⟨s0, s1, s2, s3, s4, s5⟩ := (p_box HST.out hF hgr5).facts
              have t5 : w5.cell? ⟨b, off + k, none⟩ = some (.int .i64 z) := HFAR.out _ _ hF _ hgr5
              obtain ⟨p5, c5, rfl, hcc5, hcc6⟩ := own_shape hown5
              clear hown5 hgr5 hloc5
              refine hK.out _ _ ?_ (fun hHeld => ?_)
              · exact t5
              clear hK K
              try simp only [Act.put, List.setIfInBounds_toArray, List.set_cons_zero, List.set_cons_succ]
              refine wpAnyH_take (i := 13) (v := ?_) (opNth_ops rfl) (by kernel_rfl) (by kernel_rfl) (by kernel_rfl) (fun _ _ _ h => h) (Or.inl ⟨by rfl, ?_⟩) (by assumption) ?_
              rotate_left
              · intro wq hSq
                go_simp
                try with_reducible rfl
              try simp only [Act.put, List.setIfInBounds_toArray, List.set_cons_zero, List.set_cons_succ]
              refine wpAnyH_ready (rs := [14]) (by kernel_rfl) (by simp) ?_
              refine AllReadyH.cons (opNth_ops rfl) (fun K hK => ?_) ?_
              rotate_left
              exact AllReadyH.nil
              go_simp
              refine hK.out _ _ ?_ (fun hHeld => ?_)
              · exact HSTO.out _ _ t5
              clear hK K
              try simp only [Act.put, List.setIfInBounds_toArray, List.set_cons_zero, List.set_cons_succ]
              refine wpAnyH_done (by kernel_rfl) ?_ _
              refine NoPanic.normal ?_
              have HOK5 : Hid (psOk (ps ++ [(1, (k : Int)), (5, 1 + f)]) (k + 1)) := HOK.out.push (by omega) (by omega)
              have HML5 : Hid ((ps ++ [(1, (k : Int)), (5, 1 + f)]).length = m + 2) := by have := HML.out; unfold Hid; simp; omega
              clear s0 s1 s2 s3 s4 s5 c0 c1 t5
              go_wp2_with fail
              go_roundg gk'
              case measure => omega
              case rel => exact ⟨k + 1, m + 2, _, p5, c5, by omega, by go_num, by have := HMK.out; omega, HML5, HS5, HOK5⟩
            exact AllReadyH.nil
          exact AllReadyH.nil
        exact AllReadyH.nil
      exact AllReadyH.nil
end Go.Proofs.YtgjjeghnfhjnnaaDoor
