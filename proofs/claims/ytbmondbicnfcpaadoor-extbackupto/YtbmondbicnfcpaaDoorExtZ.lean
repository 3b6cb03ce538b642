
/-
  ext: read.
-/
import Derived.Test.YtbmondbicnfcpaaDoorZExtE
namespace Go.Proofs.YtbmondbicnfcpaaDoor
open Go.RowKit
set_option linter.unusedVariables false
set_option linter.unusedSimpArgs false

/-- What begin has read joins what may be read. -/
theorem ro_begin {W0 wr w1 w2 : World} {B g gr L p n p2 n2 : Nat} {bv ov v : Value} {hs : List Ho} {P : Nat → Bool} {t : Tm} (hI : RoI W0 B g gr bv L p n hs ov P wr) (hgB : g < gr) (hgr : B = gr + 1) (hWg : W0.heap.size ≤ g)
    (hG2 : Grw g wr w2) (hX3 : RdX w2 g bv p2 n2 ov) (hR2 : Bt w2 gr 0 false (.slice none 0 0) ⟨#[]⟩ 0 (.slice none 0 0)) (hI1 : IsT (veil (fromB wr.heap.size) w1) t v) (hB2 : Below w1.heap.size w1 w2) (h12 : w1.heap.size < w2.heap.size) (hs1 : wr.heap.size ≤ w1.heap.size)
    (hp2 : p2 ≤ L) (hn2 : n2 ≤ 2000) (hnn : n < n2) : ∃ P1, RoI W0 B g gr bv L p2 n2 hs ov P1 w2 ∧ IsT (veil P1 w2) t v ∧ P1 w1.heap.size = false := by
  obtain ⟨hx, hst, hbr, hpl, hn, hsn, hpw⟩ := hI
  have hbl := hbr.lt
  have hst0 := hst
  obtain ⟨i1, i2, i3, i4, i5, i6, i7, i8⟩ := hst
  refine ⟨fun b => P b || (decide (wr.heap.size ≤ b) && decide (b < w1.heap.size)), ⟨hX3, hst0.grw (by omega) hWg (i2.grw hx hG2) hG2 (fun b hb => by simp [hb]) (fun b hb => ?_) (fun b hb => ?_) (fun x hx2 b hb => ?_), hR2, hp2, hn2, by omega, hpw⟩, ?_, ?_⟩
  · rw [Bool.or_eq_true, Bool.and_eq_true, decide_eq_true_eq, decide_eq_true_eq] at hb
    rcases hb with hb | ⟨h1, h2⟩
    · have := i5 b hb; have := hG2.size; omega
    · omega
  · have h1 := i6 b hb
    have h2 := (i3.lt b hb).2.1
    rw [h1, decide_eq_false (show ¬ wr.heap.size ≤ b by omega)]; rfl
  · have h1 := i7 x hx2 b hb
    have h2 := ((i4 x hx2).1.lt b hb).2.1
    rw [h1, decide_eq_false (show ¬ wr.heap.size ≤ b by omega)]; rfl
  · refine hI1.veiled (by omega) (fun b hb hlt => ⟨hB2.block b hlt, ?_⟩)
    rw [decide_eq_true (fromB_is.1 hb), decide_eq_true hlt]; simp
  · cases hP : P w1.heap.size with
    | false => simp [hP]
    | true => have := (i5 _ hP).1; omega

theorem own_some {w : World} {base : Nat} {e : TypeId} {size : Nat} {v : Value} {n : Nat} {xs : List Value} (h : w.ownsRow base e size v n xs) (hn : 0 < n) : ∃ g c, v = .slice (some ⟨g, 0, none⟩) n c ∧ base ≤ g ∧ g < w.heap.size ∧ n ≤ c := by
  rcases h.2 with ⟨_, h2⟩ | ⟨g, cap, cur, h1, h2, h3, h4, _⟩
  · omega
  · exact ⟨g, cap, h1, h2, (Array.getElem?_eq_some_iff.1 h3).1, h4⟩
/-- The six new cells of a row that has grown by one zero term. -/
theorem zero_cells {w : World} {base g c m : Nat} {fs : List Value} (h : w.ownsRow base 29 6 (.slice (some ⟨g, 0, none⟩) (m + 1) c) (m + 1) (fs ++ [.int .i64 0, .bool false, .slice none 0 0, .string ⟨#[]⟩, .int .i64 0, .slice none 0 0])) (hf : fs.length = m * 6) :
    (w.cell? ⟨g, m * 6, none⟩ = some (.int .i64 0) ∧ w.cell? ⟨g, m * 6 + 1, none⟩ = some (.bool false) ∧ w.cell? ⟨g, m * 6 + 2, none⟩ = some (.slice none 0 0) ∧ w.cell? ⟨g, m * 6 + 3, none⟩ = some (.string ⟨#[]⟩) ∧ w.cell? ⟨g, m * 6 + 4, none⟩ = some (.int .i64 0) ∧ w.cell? ⟨g, m * 6 + 5, none⟩ = some (.slice none 0 0)) ∧ ∀ j, w.frozen? ⟨g, j, none⟩ = false := by
  have hc : ∀ j, j < 6 → w.cell? ⟨g, m * 6 + j, none⟩ = [Value.int .i64 0, .bool false, .slice none 0 0, .string ⟨#[]⟩, .int .i64 0, .slice none 0 0][j]? := fun j hj => by
    rw [World.ownsRow.cellAt h (m * 6 + j) (by omega), List.getElem?_append_right (by omega), hf, Nat.add_sub_cancel_left]
  exact ⟨⟨(hc 0 (by omega)).trans rfl, (hc 1 (by omega)).trans rfl, (hc 2 (by omega)).trans rfl, (hc 3 (by omega)).trans rfl, (hc 4 (by omega)).trans rfl, (hc 5 (by omega)).trans rfl⟩, fun j => World.ownsRow.frozenAt h j⟩
theorem flat_six : ∀ (ps : List (Value × Tm)), (∀ p ∈ ps, (cells6 p.1).length = 6) → (flat ps).length = ps.length * 6
  | [], _ => rfl
  | p :: ps, h => by
    have h1 := flat_six ps (fun q hq => h q (List.mem_cons_of_mem _ hq))
    have h2 := h p (by simp)
    have : flat (p :: ps) = cells6 p.1 ++ flat ps := by simp [flat]
    rw [this, List.length_append, h1, h2, List.length_cons]
    omega

set_option maxRecDepth 100000 in
set_option maxHeartbeats 16000000 in
theorem read_any (W0 w : World) (g : Nat) (bv : Value) (l : List UInt8) (p0 : Nat) (hS : Shp w) (hx : RdX w g bv p0 0 (.slice none 0 0)) (hy : By W0 bv l) (hW : Below W0.heap.size W0 w) (hg : W0.heap.size ≤ g) (hp : p0 ≤ l.length) (hl : l.length ≤ 1000000000) (hG : (0 : Nat) < W0.heap.size) :
    Calls Tryd.prog 46 #[.pointer (some ⟨g, 0, none⟩)] w fun e w' => RePost W0 g bv (RT l p0 0 1) e w' := by
  obtain ⟨R, hR⟩ : ∃ R, RT l p0 0 1 = R := ⟨_, rfl⟩
  have HR : Hid (RT l p0 0 1 = R) := hR
  rw [hR]
  clear hR
  obtain ⟨wA, hwA⟩ : ∃ wA, w.alloc (.cells #[.int .i64 0, .bool false, .slice none 0 0, .string ⟨#[]⟩, .int .i64 0, .slice none 0 0] 29) = wA := ⟨_, rfl⟩
  have hBt : Bt wA w.heap.size 0 false (.slice none 0 0) ⟨#[]⟩ 0 (.slice none 0 0) := by rw [← hwA]; exact Bt.new w _ _ _ _ _ _ ⟨_, _, _, rfl⟩ ⟨_, _, _, rfl⟩
  have hBA : Below w.heap.size w wA := by rw [← hwA]; exact (Below.refl _ _).alloc (Nat.le_refl _) _
  have hszA : wA.heap.size = w.heap.size + 1 := by rw [← hwA]; simp
  have hgl := hx.lt
  have hWs := hW.size
  have HST : Hid (RoI W0 (w.heap.size + 1) g w.heap.size bv l.length p0 0 [] (.slice none 0 0) (fun _ => false) wA) := by
    have hst : StI W0 (w.heap.size + 1) g [] (.slice none 0 0) (fun _ => false) wA := by
      refine ⟨hW.trans (hBA.mono hW.size), hS.under hBA, ?_, ?_, ?_, ?_, ?_, ?_⟩
      · exact ⟨World.ownsRow_nil _ _ _ _, fun h hh => absurd hh (by simp)⟩
      · exact fun h hh => absurd hh (by simp)
      · exact fun b hb => absurd hb (by simp)
      · exact fun b hb => rfl
      · exact fun h hh => absurd hh (by simp)
      · exact fun i j hi => absurd hi (by simp)
    exact ⟨hx.under hBA, hst, hBt, hp, by omega, by simp, fun h hh => absurd hh (by simp)⟩
  have HV0 : Hid (fin (RT l) (stkP []) (RT l p0 0 (depS [])) = R) := HR.out
  clear hx hS hW hBt hBA
  generalize hBd : w.heap.size + 1 = B at *
  have hBd2 : B = w.heap.size + 1 := hBd.symm
  clear hBd
  go_enter Tryd.func46, Tryd.ntmps46
  go_wp2_with fail
  go_step3
  go_wp2_with fail
  go_step3
  go_wp2_with fail
  go_loopg [5] 2001 (fun gk s5 wr => ∃ (p n : Nat) (hs : List Ho) (ov : Value) (P : Nat → Bool), gk + n = 2001 ∧ Hid (RoI W0 B g w.heap.size bv l.length p n hs ov P wr) ∧ Hid (fin (RT l) (stkP hs) (RT l p n (depS hs)) = R))
  case atStart => exact ⟨p0, 0, [], _, _, rfl, HST, HV0⟩
  case round =>
    obtain ⟨p, n, hs, ov, P, hgk, HI, HV⟩ := hrel
    obtain ⟨hx, hst, hbr, hpl, hn2, hsn, hpw⟩ := HI.out
    have HBG : Hid (BgP wr g bv ov (bgn l p n (depS hs)) = BgP wr g bv ov (bgn l p n (depS hs))) := rfl
    have HCB : Hid (Calls Tryd.prog 81 #[.pointer (some ⟨g, 0, none⟩)] wr fun e w' => BgP wr g bv ov (bgn l p n (depS hs)) e w') := begin_any W0 wr g bv l p n ov B hs hst.2.1 hx hst.2.2.1 hy hst.1 hg hpl hl hn2
    clear hx hst hpw HST HV0 HBG
    go_wp2_with fail
    refine HCB.out.mono ?_
    rintro e w1 ⟨v1, rfl, hg1, hi1, hx1⟩
    obtain ⟨b, hb⟩ : ∃ b, b = bgn l p n (depS hs) := ⟨_, rfl⟩
    have HBb : Hid (b = bgn l p n (depS hs)) := hb
    rw [← hb] at hi1 hx1 ⊢
    clear hb HCB
    obtain ⟨sl, sk, rfl, hls, hks, -⟩ := hi1.open
    obtain ⟨pl, cl, rfl⟩ := hls.shape
    obtain ⟨pk, ck, rfl, -⟩ := hks.shape
    obtain ⟨w2, hw2⟩ : ∃ w2, w1.alloc (.cells #[.int .i64 b.t.kind, .bool b.t.neg, .slice pl b.t.limbs.length cl, .string b.t.str, .int .i64 b.t.num, .slice pk b.t.kids.length ck] 29) = w2 := ⟨_, rfl⟩
    have hB2 : Below w1.heap.size w1 w2 := by rw [← hw2]; exact (Below.refl _ _).alloc (Nat.le_refl _) _
    have hT2 : Bt w2 w1.heap.size b.t.kind b.t.neg (.slice pl b.t.limbs.length cl) b.t.str b.t.num (.slice pk b.t.kids.length ck) := by rw [← hw2]; exact Bt.new w1 _ _ _ _ _ _ ⟨_, _, _, rfl⟩ ⟨_, _, _, rfl⟩
    have hs1 := hg1.size
    have hsz2 : w2.heap.size = w1.heap.size + 1 := by rw [← hw2]; simp
    have HG2 : Hid (Grw g wr w2) := hg1.more hB2
    have HT2 : Hid (Bt w2 w1.heap.size b.t.kind b.t.neg (.slice pl b.t.limbs.length cl) b.t.str b.t.num (.slice pk b.t.kids.length ck)) := hT2
    have hbl := hbr.lt
    have HR2 : Hid (Bt w2 w.heap.size 0 false (.slice none 0 0) ⟨#[]⟩ 0 (.slice none 0 0)) := hbr.grw HG2.out (by omega)
    have HI1 : Hid (IsT (veil (fromB wr.heap.size) w1) b.t (tmV b.t.kind b.t.neg (.slice pl b.t.limbs.length cl) b.t.str b.t.num (.slice pk b.t.kids.length ck))) := hi1
    have HB2 : Hid (Below w1.heap.size w1 w2) := hB2
    have HX2 : Hid (b.e = 0 → RdX w2 g bv b.p b.n ov) := fun h => (hx1 h).under hB2
    obtain ⟨a0, a1, a2, a3, a4, a5⟩ := HR2.out.cells
    obtain ⟨f0, f1, f2, f3, f4, f5⟩ := HR2.out.froz
    obtain ⟨t0, t1, t2, t3, t4, t5⟩ := hT2.cells
    clear hi1 hx1 hls hks hB2 hT2 hg1 hbr
    simp only [tmV]
    by_cases hbe : b.e = 0
    · have hki : ((b.e : Int) != 0) = false := by rw [hbe]; rfl
      have HBE : Hid (b.e = 0) := hbe
      have hbo := bgn_ok (l := l) (p := p) (n := n) (d := depS hs) (by rw [← HBb.out]; exact hbe)
      rw [← HBb.out] at hbo
      obtain ⟨bo1, bo2, bo3, bo4, bo5, bo6, bo7⟩ := hbo
      have HX3 : Hid (RdX w2 g bv b.p b.n ov) := HX2.out hbe
      clear hbe HX2
      by_cases hwt : 0 < b.want
      · have hwi : (0 : Int) < (b.want : Int) := by omega
        obtain ⟨i1, i2, i3, i4, i5, i6, i7, i8⟩ := HI.out.2.1
        have hr2 : HoRow w2 B ov hs := i3.see (fun k hk => HG2.out.block k (i3.lt k hk).2.1 (by have := (i3.lt k hk).1; omega))
        have HDEP : Hid (∀ W, Below w2.heap.size w2 W → Calls Tryd.prog 82 #[.pointer (some ⟨g, 0, none⟩)] W fun e w' => e = .returned (.int .i64 (depS hs : Int)) ∧ Below w2.heap.size w2 w') := fun W hW => (depth_any W g bv b.p b.n ov B hs (HX3.out.under hW) (hr2.under hW)).mono (fun e w' h => ⟨h.1, hW.trans (h.2.mono hW.size)⟩)
        obtain ⟨oa, oc, rfl⟩ := hr2.shape
        have HROW : Hid (∀ W, Below w2.heap.size w2 W → W.ownsRow B 113 4 (.slice oa hs.length oc) hs.length (flatH hs)) := fun W hW => (hr2.under hW).1
        have HKP : Hid (∀ W, Below w2.heap.size w2 W → RdX W g bv b.p b.n (.slice oa hs.length oc) ∧ Bt W w1.heap.size b.t.kind b.t.neg (.slice pl b.t.limbs.length cl) b.t.str b.t.num (.slice pk b.t.kids.length ck)) := fun W hW => ⟨HX3.out.under hW, HT2.out.under hW⟩
        obtain ⟨⟨-, -, -, d3⟩, -, -, -, e3⟩ := HX3.out.facts
        obtain ⟨d, hdd⟩ : ∃ d, d = depS hs := ⟨_, rfl⟩
        rw [← hdd] at HDEP bo5
        have hdi : (d : Int) ≤ 60 := by omega
        have hwi2 : (b.want : Int) ≤ 2001 := by omega
        have hni2 : (hs.length : Int) ≤ 2000 := by omega
        have HOV : Hid (∀ k, (Value.slice oa hs.length oc).ownBlock = some k → B ≤ k ∧ k < w2.heap.size) := fun k hk => ⟨(hr2.lt k hk).1, (hr2.lt k hk).2.1⟩
        obtain ⟨ti, hti, hz0, hz1, hz2⟩ := info_parts Tryd.infoH
        have HD : Hid (d = depS hs) := hdd
        have HWT : Hid (0 < b.want) := hwt
        have hg2l := HX3.out.lt
        have HGX : Hid (∀ X O W5, Below w2.heap.size w2 X → (X.alloc O).grownBy W5 (Value.slice oa hs.length oc).ownBlock → RdX W5 g bv b.p b.n (.slice oa hs.length oc)) := fun X O W5 hX hgr => by
          have ba := (Below.refl X.heap.size X).alloc (Nat.le_refl _) O
          have h1 := (HX3.out.under hX).under ba
          exact h1.block (hgr.block g h1.lt (fun e => by have := (HOV.out g e.symm).1; omega))
        clear i1 i2 i3 i4 i5 i6 i7 i8 hr2 hdd hwt
        go_wp2_with fail
        go_cut [20] from 19 to 34 (fun s20 wc => s20 = s20 ∧ ∃ ov', Hid (RoI W0 B g w.heap.size bv l.length b.p b.n (hs ++ [⟨b.t.kind, d, .slice none 0 0, [], b.want⟩]) ov' P wc))
        case first =>
          go_region_law (first
            | (refine step_app_at rfl (.tmp 24) (.tmp 31) 78 rfl B 113 ti (.agg #[.int .i64 0, .int .i64 0, .slice none 0 0, .int .i64 0]) 4 48 Tryd.underlying78 hti hz0 hz1 hz2 rfl (by decide) (.slice oa hs.length oc) hs.length (flatH hs) (by simp [Act.eval, Act.put]) (World.ownsRow.alloc (HROW.out x1 hk1) _) ⟨x1.heap.size, 0, none⟩ 1 1 [.int .i64 b.t.kind, .int .i64 (d : Int), .slice none 0 0, .int .i64 (b.want : Int)] (by simp [Act.eval, Act.put]) rfl (World.news_of_block (heap_alloc_new x1 _)) (fun u hu => by simp at hu; rcases hu with rfl | rfl | rfl | rfl <;> rfl) (by simp only [maxLen]; omega) (by omega) (by have := hk1.size; simp; omega) ?_; intro v5 w5 hown5 hgr5 hloc5; obtain ⟨a5, c5, rfl⟩ := own_slice hown5; obtain ⟨⟨-, -, -, m3⟩, -, -, -, n3⟩ := (HGX.out x1 _ w5 hk1 hgr5).facts)
            | (go_simp; go_at_call 82; refine (HDEP.out _ (by first | exact (Below.refl _ _).drew | exact below_drewN (Below.refl _ _) _ | exact Below.refl _ _)).mono ?_; rintro e x1 ⟨rfl, hk1⟩; obtain ⟨⟨-, -, -, g3⟩, -, -, -, h3⟩ := (HKP.out x1 hk1).1.facts; obtain ⟨⟨-, -, -, g3a⟩, -⟩ := (HKP.out (x1.alloc (.cells #[.int .i64 b.t.kind, .int .i64 (d : Int), .slice none 0 0, .int .i64 (b.want : Int)] 113)) (hk1.alloc hk1.size _)).1.facts; obtain ⟨k0, -⟩ := (HKP.out x1 hk1).2.cells))
          all_goals
            go_wp2_with fail
            go_meet
            case rel => exact ⟨trivial, _, ro_push HI.out (by omega) (by omega) hg HX3.out HG2.out hk1 hgr5 hown5 hloc5 rfl rfl (by rcases bo7 HWT.out with h | ⟨h, _⟩ <;> simp [h]) (by simp only; omega) (by simp only; omega) (by simp only; have := HWT.out; omega) bo4 bo2 bo1 hG⟩
        case rest =>
          obtain ⟨-, ov', hro⟩ := hcut
          clear HDEP HROW HKP HOV HGX
          go_wp2_with fail
          go_roundg (2001 - b.n)
          case measure => omega
          case rel =>
            refine ⟨b.p, b.n, hs ++ [⟨b.t.kind, d, .slice none 0 0, [], b.want⟩], ov', P, by omega, hro, ?_⟩
            unfold Hid
            have h := fin_push l (RT l) (fun p n d hn => RT_eq l p n d hn) (stkP hs) p n hn2 (by rw [← depS_eq, ← HBb.out]; exact HBE.out) (by rw [← depS_eq, ← HBb.out]; exact HWT.out)
            rw [← depS_eq, ← HBb.out, HV.out] at h
            rw [depS_eq, stkP_more, HD.out]
            exact h.symm
      · have hw0 : b.want = 0 := by omega
        have hwi : ¬ (0 : Int) < (b.want : Int) := by omega
        have HV2 : Hid (fin (RT l) (stkP hs) ⟨0, b.t, b.p, b.n⟩ = R) := by
          unfold Hid
          have h := HV.out
          rw [RT_eq l p n _ hn2, ← HBb.out] at h
          unfold opnR at h
          rw [if_neg (fun h2 => h2 HBE.out), if_pos hw0] at h
          exact h
        clear hw0 hwt
        go_wp2_with fail
        have HIN : Hid (∃ P1, RoI W0 B g w.heap.size bv l.length b.p b.n hs ov P1 w2 ∧ IsT (veil P1 w2) b.t (tmV b.t.kind b.t.neg (.slice pl b.t.limbs.length cl) b.t.str b.t.num (.slice pk b.t.kids.length ck)) ∧ P1 w1.heap.size = false) := ro_begin HI.out (by omega) hBd2 hg HG2.out HX3 HR2.out HI1.out HB2.out (by omega) (by omega) bo4 bo2 bo1
        have HNE1 : Hid (∀ x ∈ hs, x.pv.ownBlock ≠ some w1.heap.size) := fun x hx2 e2 => by
          have := ((HI.out.2.1.2.2.2.1 x hx2).1.lt _ e2).2.1
          omega
        go_loopg [6, 7] hs.length (fun gk s6 s7 wr2 => ∃ (hs2 : List Ho) (ov2 : Value) (P2 : Nat → Bool) (t : Tm) (p2 n2 : Nat) (pl cl : _) (pk ck : _), gk = hs2.length ∧ Hid (InI W0 B g w.heap.size w1.heap.size bv p2 n2 hs2 ov2 P2 t (tmV t.kind t.neg (.slice pl t.limbs.length cl) t.str t.num (.slice pk t.kids.length ck)) wr2) ∧ Hid (Bt wr2 w1.heap.size t.kind t.neg (.slice pl t.limbs.length cl) t.str t.num (.slice pk t.kids.length ck)) ∧ Hid (p2 ≤ l.length ∧ n2 ≤ 2000 ∧ hs2.length ≤ n2 ∧ n < n2 ∧ (∀ h ∈ hs2, h.ps.length < h.want)) ∧ Hid (fin (RT l) (stkP hs2) ⟨0, t, p2, n2⟩ = R))
        case atStart =>
          obtain ⟨P1, h1, h2, h3⟩ := HIN.out
          exact ⟨hs, ov, P1, b.t, b.p, b.n, pl, cl, pk, ck, rfl, ⟨h1.1, h1.2.1, h1.2.2.1, h2, h3, HNE1.out, by omega⟩, HT2.out, ⟨h1.2.2.2.1, h1.2.2.2.2.1, h1.2.2.2.2.2.1, bo1, h1.2.2.2.2.2.2⟩, HV2⟩
        case round =>
          obtain ⟨hs2, ov2, P2, t, p2, n2, pl, cl, pk, ck, hgk2, HI2, HT4, HBD, HVI⟩ := hrel
          have hx2 := HI2.out.1
          have hst2 := HI2.out.2.1
          have hbr2 := HI2.out.2.2.1
          have hov2 := hx2.facts.1.2.2.2
          have hsn2 : hs2.length ≤ 2000 := Nat.le_trans HBD.out.2.2.1 HBD.out.2.1
          obtain ⟨t0, t1, t2, t3, t4, t5⟩ := HT4.out.cells
          obtain ⟨a0, a1, a2, a3, a4, a5⟩ := hbr2.cells
          obtain ⟨f0, f1, f2, f3, f4, f5⟩ := hbr2.froz
          cases gk with
          | zero =>
            obtain rfl : hs2 = [] := List.eq_nil_of_length_eq_zero hgk2.symm
            obtain ⟨oa, oc, rfl⟩ := hst2.2.2.1.shape
            rw [List.length_nil] at hov2
            have HE : Hid (R = ⟨0, t, p2, n2⟩) := HVI.out.symm
            have HWF : Hid (Below W0.heap.size W0 wr) := hst2.1
            have HBR : Hid (Bt wr w.heap.size 0 false (.slice none 0 0) ⟨#[]⟩ 0 (.slice none 0 0)) := hbr2
            have HXX : Hid (RdX wr g bv p2 n2 (.slice oa ([] : List Ho).length oc)) := hx2
            have HPL : Hid (∀ b, P2 b = true → b < wr.heap.size ∧ B ≤ b) := hst2.2.2.2.2.1
            clear hx2 hst2 hbr2 hsn2 HIN HV HI HV2 HNE1 hgk2 hw2 hsz2 bo1 bo2 bo3 bo4 bo5 bo6 bo7 hgk hwA
            go_wp2_with fail
            try simp only [Exit.noGoto]
            refine bodyPost_ret (results_bt2 rfl _ _ w.heap.size t.kind t.neg (.slice pl t.limbs.length cl) t.str t.num (.slice pk t.kids.length ck) rfl (Bt.set HBR.out t.kind t.neg (.slice pl t.limbs.length cl) t.str t.num (.slice pk t.kids.length ck) ⟨_, _, _, rfl⟩ ⟨_, _, _, rfl⟩)) rfl ?_
            rw [HE.out]
            have hbu := setBt_but wr w.heap.size t.kind t.neg (.slice pl t.limbs.length cl) t.str t.num (.slice pk t.kids.length ck)
            refine ⟨_, rfl, ⟨_, _, _, _, _, _, rfl, ⟨_, _, _, rfl⟩, ⟨_, _, _, rfl⟩⟩, HWF.out.trans (hbu.below (by omega)), fun _ => ⟨P2, n2, _, HXX.out.block (hbu.block g (by omega)), HI2.out.2.2.2.1.veiled (Nat.le_of_eq hbu.size.symm) (fun b hb hlt => ⟨hbu.block b (by have := (HPL.out b hb).2; omega), hb⟩), ?_⟩⟩
            exact fun b hb => by have := (HPL.out b hb).2; omega
          | succ gk2 =>
            rcases snoc_or hs2 with rfl | ⟨hs0, h, rfl⟩
            · simp at hgk2
            obtain ⟨i1, i2, i3, i4, i5, i6, i7, i8⟩ := hst2
            have HGK2 : Hid (gk2 = hs0.length) := by unfold Hid; simp at hgk2; omega
            have HKD : Hid ((h.kind = 4 ∨ h.kind = 5) ∧ h.ps.length < h.want) := ⟨(i3.2 h (by simp)).2.1, HBD.out.2.2.2.2 h (by simp)⟩
            obtain ⟨hwt, htr⟩ := i4 h (by simp)
            obtain ⟨go, oc, rfl, hgoB, hoc1, hoc2, c0, c1, c2, c3⟩ := i3.at hs0.length (by simp)
            have hgt : (hs0 ++ [h])[hs0.length]'(by simp) = h := by simp
            rw [hgt] at c0 c1 c2 c3
            have HIX : Hid (InI W0 B g w.heap.size w1.heap.size bv p2 n2 (hs0 ++ [h]) (.slice (some ⟨go, 0, none⟩) (hs0.length + 1) oc) P2 t (tmV t.kind t.neg (.slice pl t.limbs.length cl) t.str t.num (.slice pk t.kids.length ck)) wr) := by have := HI2.out; simp only [List.length_append, List.length_cons, List.length_nil] at this; exact this
            obtain ⟨⟨pa, pc, hpv⟩, hk, hdp, hw1, hw2', hpl3⟩ := i3.2 h (by simp)
            have hL : (hs0 ++ [h]).length = hs0.length + 1 := by simp
            rw [hL] at hov2 hoc1
            rw [hpv] at c2
            obtain ⟨m, hmd⟩ : ∃ m, m = h.ps.length := ⟨_, rfl⟩
            obtain ⟨wnt, hwnt⟩ : ∃ wnt, wnt = h.want := ⟨_, rfl⟩
            have hfz : wr.frozen? ⟨go, hs0.length * 4 + 2, none⟩ = false := World.ownsRow.frozenAt (g := go) (cap := oc) (by have := i3.1; rw [hL] at this; exact this) _
            rw [← hmd] at c2 hpl3
            rw [← hwnt] at c3
            have hgol := World.block_lt_of_cell? wr _ c0
            have hi : ((hs0.length : Nat) : Int) + 1 - 1 = (hs0.length : Int) := by omega
            have hlt : (hs0.length : Int) < (hs0.length : Int) + 1 := by omega
            have hlc : (hs0.length : Int) + 1 ≤ (oc : Int) := by omega
            have hm3 : m + 1 ≤ 3000 := by have h9 := HBD.out.2.2.2.2 h (by simp); omega
            have hmi : (m : Int) ≤ 3000 := by omega
            have hmlt : (m : Int) < (m : Int) + 1 := by omega
            have hwti : (wnt : Int) ≤ 3000 := by omega
            have hT4l := HT4.out.lt
            have bA := (Below.refl wr.heap.size wr).alloc (Nat.le_refl _) (.cells #[.int .i64 0, .bool false, .slice none 0 0, .string ⟨#[]⟩, .int .i64 0, .slice none 0 0] 29)
            have bC : ∀ (x : Addr) (u : Value), wr.cell? x = some u → (wr.alloc (.cells #[.int .i64 0, .bool false, .slice none 0 0, .string ⟨#[]⟩, .int .i64 0, .slice none 0 0] 29)).cell? x = some u := fun x u hu => (bA.cell (World.block_lt_of_cell? wr x hu)).trans hu
            have c2a := bC _ _ c2
            have t0a := bC _ _ t0
            have t1a := bC _ _ t1
            have t2a := bC _ _ t2
            have t3a := bC _ _ t3
            have t4a := bC _ _ t4
            have t5a := bC _ _ t5
            have hWTm : wr.ownsRow B 29 6 (.slice pa m pc) m (flat h.ps) := by rw [hmd, ← hpv]; exact hwt
            have HWT : Hid (wr.ownsRow B 29 6 (.slice pa m pc) m (flat h.ps)) := hWTm
            have hf6 : (flat h.ps).length = m * 6 := by rw [hmd]; exact flat_six h.ps (fun q hq => (htr q hq).six)
            have HF6 : Hid ((flat h.ps).length = m * 6) := hf6
            -- what stands behind the append
            have HAP : Hid (∀ W5 g5 c5, (wr.alloc (.cells #[.int .i64 0, .bool false, .slice none 0 0, .string ⟨#[]⟩, .int .i64 0, .slice none 0 0] 29)).grownBy W5 (Value.slice pa m pc).ownBlock → W5.ownsRow B 29 6 (.slice (some ⟨g5, 0, none⟩) (m + 1) c5) (m + 1) (flat h.ps ++ [.int .i64 0, .bool false, .slice none 0 0, .string ⟨#[]⟩, .int .i64 0, .slice none 0 0]) → ((Value.slice (some ⟨g5, 0, none⟩) (m + 1) c5).ownBlock = (Value.slice pa m pc).ownBlock ∨ (Value.slice (some ⟨g5, 0, none⟩) (m + 1) c5).ownBlock = some (wr.alloc (.cells #[.int .i64 0, .bool false, .slice none 0 0, .string ⟨#[]⟩, .int .i64 0, .slice none 0 0] 29)).heap.size) →
                Bt W5 w1.heap.size t.kind t.neg (.slice pl t.limbs.length cl) t.str t.num (.slice pk t.kids.length ck) ∧ (W5.cell? ⟨go, hs0.length * 4 + 2, none⟩ = some (.slice pa m pc) ∧ W5.frozen? ⟨go, hs0.length * 4 + 2, none⟩ = false) ∧ g5 ≠ go) := by
              intro W5 g5 c5 h1 h2 h3
              obtain ⟨q1, q2, q3⟩ := ap_facts (hs := hs0) (h := h) HIX.out (by rw [hpv, hmd]) h1 h3
              refine ⟨⟨by rw [q3 hT4l]; exact HT4.out.1, HT4.out.2⟩, ⟨?_, ?_⟩, q1⟩
              · rw [World.cell?_of_block (w := wr) q2]; exact c2
              · unfold World.frozen? at hfz ⊢
                rw [q2]; exact hfz
            have HPVM : Hid (h.pv = .slice pa m pc ∧ m = h.ps.length ∧ wnt = h.want) := ⟨by rw [hpv, hmd], hmd, hwnt⟩
            obtain ⟨tt, htt, hz0, hz1, hz2⟩ := info_parts Tryd.infoT
            clear hpv hwt htr i1 i2 i3 i4 i5 i6 i7 i8 hgt hk hdp hw1 hw2' hmd hwnt hx2 hbr2 HIN HV HI HV2 HNE1 hgk2 hw2 hsz2 bo1 bo2 bo3 bo4 bo5 bo6 bo7 hwA bA bC hf6 hWTm hL
            go_wp2_with fail
            go_region
            go_wp2_with fail
            go_cut [52] from 52 to 62 (fun s52 wc => s52 = s52 ∧ ∃ g5 c5, Hid (InI W0 B g w.heap.size w1.heap.size bv p2 n2 (hs0 ++ [⟨h.kind, h.depth, .slice (some ⟨g5, 0, none⟩) (m + 1) c5, h.ps ++ [(tmV t.kind t.neg (.slice pl t.limbs.length cl) t.str t.num (.slice pk t.kids.length ck), t)], h.want⟩]) (.slice (some ⟨go, 0, none⟩) (hs0.length + 1) oc) P2 t (tmV t.kind t.neg (.slice pl t.limbs.length cl) t.str t.num (.slice pk t.kids.length ck)) wc) ∧ Hid (Bt wc w1.heap.size t.kind t.neg (.slice pl t.limbs.length cl) t.str t.num (.slice pk t.kids.length ck)))
            case first =>
              go_region_law (first
                | (refine step_app_at rfl (.tmp 55) (.tmp 58) 27 rfl B 29 tt (.agg #[.int .i64 0, .bool false, .slice none 0 0, .string ⟨#[]⟩, .int .i64 0, .slice none 0 0]) 6 88 Tryd.underlying27 htt hz0 hz1 hz2 rfl (by decide) (.slice pa m pc) m (flat h.ps) (by simp [Act.eval, Act.put]) (World.ownsRow.alloc (World.ownsRow.drew (World.ownsRow.drew HWT.out)) _) ⟨wr.heap.size, 0, none⟩ 1 1 [.int .i64 0, .bool false, .slice none 0 0, .string ⟨#[]⟩, .int .i64 0, .slice none 0 0] (by simp [Act.eval, Act.put]) rfl (World.news_of_block (heap_alloc_new wr.drew.drew _)) (fun u hu => by simp at hu; rcases hu with rfl | rfl | rfl | rfl | rfl | rfl <;> rfl) (by simp only [maxLen]; omega) (by omega) (by simp; omega) ?_; intro v5 w5 hown5 hgr5 hloc5; obtain ⟨g5, c5, rfl, hg5B, hg5l, hc5⟩ := own_some hown5 (by omega); have hgr6 : (wr.alloc (.cells #[.int .i64 0, .bool false, .slice none 0 0, .string ⟨#[]⟩, .int .i64 0, .slice none 0 0] 29)).grownBy w5 (Value.slice pa m pc).ownBlock := ⟨hgr5.os, hgr5.tape, hgr5.output, hgr5.size, hgr5.block⟩; have hap := HAP.out w5 g5 c5 hgr6 hown5 hloc5; obtain ⟨y0, y1, y2, y3, y4, y5⟩ := hap.1.cells; obtain ⟨⟨x0, x1⟩, hne5⟩ := hap.2; obtain ⟨⟨n0, n1, n2', n3, n4, n5⟩, nf⟩ := zero_cells hown5 HF6.out; have nf0 := nf (m * 6); have nf1 := nf (m * 6 + 1); have nf2 := nf (m * 6 + 2); have nf3 := nf (m * 6 + 3); have nf4 := nf (m * 6 + 4); have nf5 := nf (m * 6 + 5))
                | fail)
              all_goals
                have hip := in_part HIX.out (by omega) (by omega) hg hG HPVM.out.1 HPVM.out.2.1 (by omega) hT4l hgr6 hown5 hloc5
                have hbt : Bt _ w1.heap.size t.kind t.neg (.slice pl t.limbs.length cl) t.str t.num (.slice pk t.kids.length ck) := ⟨(hip.2.1 _ hT4l hip.2.2.1 (hip.2.2.2 _ HT4.out.1)).trans HT4.out.1, HT4.out.2⟩
                go_wp2_with fail
                go_meet
                case rel =>
                  refine ⟨trivial, g5, c5, ?_⟩
                  try rw [laid_turn w5 g5 (m * 6) _ _ _ _ _ _ go (hs0.length * 4 + 2) _ hap.2.2]
                  exact ⟨hip.1, hbt⟩
            case rest =>
              obtain ⟨-, g5, c5, HIP, HT5⟩ := hcut
              clear HAP HWT
              obtain ⟨hx5, hst5, hbr5, hit5, hPt5, hne5, hBt5⟩ := HIP.out
              obtain ⟨go', oc', he5, -, -, -, e0, e1, e2, e3⟩ := hst5.2.2.1.at hs0.length (by simp)
              simp only [Value.slice.injEq, Option.some.injEq, Addr.mk.injEq, and_true] at he5
              obtain ⟨⟨rfl, -⟩, -, rfl⟩ := he5
              rw [List.getElem_append_right (Nat.le_refl _)] at e0 e1 e2 e3
              simp only [Nat.sub_self, List.getElem_cons_zero] at e0 e1 e2 e3
              rw [← HPVM.out.2.2] at e3
              obtain ⟨k0, k1, k2, k3, k4, k5⟩ := HT5.out.cells
              obtain ⟨l0, l1, l2, l3, l4, l5⟩ := HT5.out.froz
              have HBR5 : Hid (Bt wc w.heap.size 0 false (.slice none 0 0) ⟨#[]⟩ 0 (.slice none 0 0)) := hbr5
              have HWC : Hid (Below W0.heap.size W0 wc) := hst5.1
              clear c0 c1 c2 c3 c2a t0 t1 t2 t3 t4 t5 t0a t1a t2a t3a t4a t5a hfz hx5 hst5 hbr5 hit5 hPt5 hne5 hBt5 hov2 HF6
              have hdd : True := trivial
              by_cases hmw : m + 1 < wnt
              · have hmwi : (m : Int) + 1 < (wnt : Int) := by omega
                have HMW : Hid (m + 1 < wnt) := hmw
                clear hmw
                go_wp2_with fail
                go_region
                go_wp2_with fail
                go_roundg (2001 - n2)
                case measure => have := HBD.out.2.2.2.1; have := HBD.out.2.1; omega
                case rel =>
                  obtain ⟨q1, q2, q3, q4, q5, q6, q7⟩ := HIP.out
                  obtain ⟨z1, z2, z3, z4, z5⟩ := HBD.out
                  obtain ⟨y1, y2, y3⟩ := HPVM.out
                  refine ⟨p2, n2, hs0 ++ [⟨h.kind, h.depth, .slice (some ⟨g5, 0, none⟩) (m + 1) c5, h.ps ++ [(tmV t.kind t.neg (.slice pl t.limbs.length cl) t.str t.num (.slice pk t.kids.length ck), t)], h.want⟩], .slice (some ⟨go, 0, none⟩) (hs0.length + 1) oc, P2, by omega, ?_, ?_⟩
                  · have hro : RoI W0 B g w.heap.size bv l.length p2 n2 (hs0 ++ [⟨h.kind, h.depth, .slice (some ⟨g5, 0, none⟩) (m + 1) c5, h.ps ++ [(tmV t.kind t.neg (.slice pl t.limbs.length cl) t.str t.num (.slice pk t.kids.length ck), t)], h.want⟩]) (.slice (some ⟨go, 0, none⟩) (hs0.length + 1) oc) P2 wc := by
                      refine ⟨q1, q2, q3, z1, z2, by simp at z3 ⊢; omega, fun x hx2 => ?_⟩
                      rcases List.mem_append.1 hx2 with hx2 | hx2
                      · exact z5 x (List.mem_append_left _ hx2)
                      · simp only [List.mem_singleton] at hx2
                        subst hx2
                        simp only [List.length_append, List.length_cons, List.length_nil]
                        have := HMW.out
                        omega
                    exact hro.drew (by omega) hg
                  · unfold Hid
                    have hv := HVI.out
                    rw [stkP_more] at hv
                    have e := fin_part (RT l) h.pl (stkP hs0) t p2 n2 HKD.out.1 (by show (h.ps.map Prod.snd).length + 1 < h.want; have := HMW.out; simp; omega)
                    rw [hv] at e
                    rw [depS_eq, stkP_more]
                    have e2 : Ho.pl ⟨h.kind, h.depth, .slice (some ⟨g5, 0, none⟩) (m + 1) c5, h.ps ++ [(tmV t.kind t.neg (.slice pl t.limbs.length cl) t.str t.num (.slice pk t.kids.length ck), t)], h.want⟩ = ⟨h.pl.kind, h.pl.depth, h.pl.K ++ [t], h.pl.want⟩ := by simp [Ho.pl]
                    rw [e2]
                    exact e.symm
              · have hmwi : ¬ (m : Int) + 1 < (wnt : Int) := by omega
                have HMW : Hid (m + 1 = wnt) := by unfold Hid; have := HKD.out.2; have := HPVM.out.2.1; have := HPVM.out.2.2; omega
                clear hmw
                have HSC : Hid (∀ W, W = wc.drew → Calls Tryd.prog 83 #[.pointer (some ⟨g, 0, none⟩)] W fun e w' => ShP W0 B g hs0 bv p2 n2 P2 (.slice (some ⟨g5, 0, none⟩) (m + 1) c5) (shutT ⟨h.kind, h.depth, h.ps.map Prod.snd, h.want⟩ t p2 n2) W e w') := fun W hW => by
                  subst hW
                  obtain ⟨q1, q2, q3, q4, q5, q6, q7⟩ := HIP.out
                  obtain ⟨y1, y2, y3⟩ := HPVM.out
                  exact shut_any W0 wc.drew B g bv p2 n2 (.slice (some ⟨go, 0, none⟩) (hs0.length + 1) oc) hs0 ⟨h.kind, h.depth, .slice (some ⟨g5, 0, none⟩) (m + 1) c5, h.ps ++ [(tmV t.kind t.neg (.slice pl t.limbs.length cl) t.str t.num (.slice pk t.kids.length ck), t)], h.want⟩ h.ps (tmV t.kind t.neg (.slice pl t.limbs.length cl) t.str t.num (.slice pk t.kids.length ck)) t P2 q1.drew (q2.drew (by omega) hg) rfl (by simp; have := HMW.out; omega) (by omega) hg
                have HVS : Hid (fin (RT l) (stkP hs0) (shutT ⟨h.kind, h.depth, h.ps.map Prod.snd, h.want⟩ t p2 n2) = R) := by
                  unfold Hid
                  have hv := HVI.out
                  rw [stkP_more] at hv
                  have e := fin_shut (RT l) h.pl (stkP hs0) t p2 n2 (by show (h.ps.map Prod.snd).length + 1 = h.want; have := HMW.out; have := HPVM.out.2.1; have := HPVM.out.2.2; simp; omega)
                  rw [hv] at e
                  exact e.symm
                obtain ⟨RS, hRS⟩ : ∃ RS, RS = shutT ⟨h.kind, h.depth, h.ps.map Prod.snd, h.want⟩ t p2 n2 := ⟨_, rfl⟩
                have HRE : Hid (RS.e ≠ 0 ∧ RS = Rs.bad RS.e ∨ RS = ⟨0, RS.t, p2, n2⟩) := by
                  unfold Hid
                  rw [hRS]
                  unfold shutT
                  split
                  · exact .inr rfl
                  · split
                    · exact .inl ⟨by decide, rfl⟩
                    · exact .inr rfl
                rw [← hRS] at HSC HVS
                clear hRS
                go_wp2_with fail
                go_region
                go_wp2_with fail
                refine (HSC.out _ rfl).mono ?_
                clear HSC
                rintro e w5 ⟨v5, rfl, hgr5, hs6, hok⟩
                have HGR5 : Hid (Grw g wc.drew w5) := hgr5
                have HT6 : Hid (Bt w5 w1.heap.size t.kind t.neg (.slice pl t.limbs.length cl) t.str t.num (.slice pk t.kids.length ck)) := HT5.out.drew.grw hgr5 (by omega)
                have HBR6 : Hid (Bt w5 w.heap.size 0 false (.slice none 0 0) ⟨#[]⟩ 0 (.slice none 0 0)) := HBR5.out.drew.grw hgr5 (by omega)
                have HWC6 : Hid (Below W0.heap.size W0 w5) := HWC.out.drew.trans (hgr5.below hg (by have := HWC.out.size; show W0.heap.size ≤ wc.heap.size; omega))
                obtain ⟨k0, k1, k2, k3, k4, k5⟩ := HT6.out.cells
                obtain ⟨l0, l1, l2, l3, l4, l5⟩ := HT6.out.froz
                clear hgr5
                by_cases hre : RS.e = 0
                · have hki2 : ((RS.e : Int) != 0) = false := by rw [hre]; rfl
                  have HEQ : Hid (RS = ⟨0, RS.t, p2, n2⟩) := by
                    rcases HRE.out with ⟨h1, -⟩ | h1
                    · exact absurd hre h1
                    · exact h1
                  obtain ⟨ov', P', h1, h2, h3, h4⟩ := hok hre
                  obtain ⟨sl5, sk5, rfl, hl5, hk5, -⟩ := h3.open
                  obtain ⟨pl5, cl5, rfl⟩ := hl5.shape
                  obtain ⟨pk5, ck5, rfl, -⟩ := hk5.shape
                  have HIN5 : Hid (InI W0 B g w.heap.size w1.heap.size bv p2 n2 hs0 ov' P' RS.t (tmV RS.t.kind RS.t.neg (.slice pl5 RS.t.limbs.length cl5) RS.t.str RS.t.num (.slice pk5 RS.t.kids.length ck5)) w5) := (in_shut (HIP.out.drew (by omega) hg) HT5.out.drew (by omega) (by omega) HGR5.out h1 h2 h3 h4).1
                  clear h1 h2 h3 h4 hok hl5 hk5 hs6 hre
                  simp only [tmV]
                  go_wp2_with fail
                  go_roundg gk2
                  case measure => omega
                  case rel =>
                    have hu := setBt_but w5 w1.heap.size RS.t.kind RS.t.neg (.slice pl5 RS.t.limbs.length cl5) RS.t.str RS.t.num (.slice pk5 RS.t.kids.length ck5)
                    obtain ⟨z1, z2, z3, z4, z5⟩ := HBD.out
                    refine ⟨hs0, ov', P', RS.t, p2, n2, pl5, cl5, pk5, ck5, HGK2.out, HIN5.out.lay HT6.out (by omega) (by omega) hg hG hu, HT6.out.set _ _ _ _ _ _ ⟨_, _, _, rfl⟩ ⟨_, _, _, rfl⟩, ⟨z1, z2, by simp at z3; omega, z4, fun x hx2 => z5 x (List.mem_append_left _ hx2)⟩, ?_⟩
                    rw [← HEQ.out]
                    exact HVS.out
                · have hki2 : ((RS.e : Int) != 0) = true := by rw [bne_iff_ne]; omega
                  have HNE5 : Hid (RS.e ≠ 0) := hre
                  have HEQ : Hid (R = Rs.bad RS.e) := by
                    unfold Hid
                    rcases HRE.out with ⟨h1, h2⟩ | h1
                    · have h3 := HVS.out
                      rw [h2, fin_bad _ _ h1] at h3
                      exact h3.symm
                    · exact absurd (congrArg Rs.e h1) hre
                  obtain ⟨k5', ng5, sl5, S5, N5, sk5, rfl, ⟨sa, sn, sc, rfl⟩, ⟨ka, kn, kc, rfl⟩⟩ := hs6
                  obtain ⟨r0, r1, r2, r3, r4, r5⟩ := HBR6.out.cells
                  obtain ⟨s0, s1, s2, s3, s4, s5⟩ := HBR6.out.froz
                  have hBt5 := HIP.out.2.2.2.2.2.2
                  clear hok hre
                  simp only [tmV]
                  go_wp2_with fail
                  try simp only [Exit.noGoto]
                  have hu := setBt_but w5 w1.heap.size k5' ng5 (.slice sa sn sc) S5 N5 (.slice ka kn kc)
                  have HR7 := HBR6.out.other hu (by omega)
                  refine bodyPost_ret (results_bt2 rfl _ _ w.heap.size 0 false (.slice none 0 0) ⟨#[]⟩ 0 (.slice none 0 0) rfl (Bt.set HR7 0 false (.slice none 0 0) ⟨#[]⟩ 0 (.slice none 0 0) ⟨_, _, _, rfl⟩ ⟨_, _, _, rfl⟩)) rfl ?_
                  rw [HEQ.out]
                  exact ⟨_, rfl, ⟨_, _, _, _, _, _, rfl, ⟨_, _, _, rfl⟩, ⟨_, _, _, rfl⟩⟩, (HWC6.out.trans (hu.below (by omega))).trans ((setBt_but _ w.heap.size 0 false (.slice none 0 0) ⟨#[]⟩ 0 (.slice none 0 0)).below (by omega)), fun h => absurd h HNE5.out⟩
    · have hki : ((b.e : Int) != 0) = true := by rw [bne_iff_ne]; omega
      have HE : Hid (R = Rs.bad b.e) := by
        unfold Hid
        rw [← HV.out, RT_eq l p n _ hn2, ← HBb.out]
        unfold opnR
        rw [if_pos hbe, fin_bad _ _ hbe]
      have HNE : Hid (b.e ≠ 0) := hbe
      have HWF : Hid (Below W0.heap.size W0 w2) := by
        have h := HI.out.2.1.1
        exact h.trans (HG2.out.below hg h.size)
      clear hbe
      go_wp2_with fail
      try simp only [Exit.noGoto]
      refine bodyPost_ret (results_bt2 rfl _ _ w.heap.size 0 false (.slice none 0 0) ⟨#[]⟩ 0 (.slice none 0 0) rfl (Bt.set HR2.out 0 false (.slice none 0 0) ⟨#[]⟩ 0 (.slice none 0 0) ⟨_, _, _, rfl⟩ ⟨_, _, _, rfl⟩)) rfl ?_
      rw [HE.out]
      exact ⟨_, rfl, ⟨_, _, _, _, _, _, rfl, ⟨_, _, _, rfl⟩, ⟨_, _, _, rfl⟩⟩, HWF.out.trans ((setBt_but w2 w.heap.size 0 false (.slice none 0 0) ⟨#[]⟩ 0 (.slice none 0 0)).below (by omega)), fun h => absurd h HNE.out⟩
end Go.Proofs.YtbmondbicnfcpaaDoor
