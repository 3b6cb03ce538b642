
/-
  ext: putList.
-/
import Derived.Test.YtbmondbicnfcpaaDoorExtF
namespace Go.Proofs.YtbmondbicnfcpaaDoor
open Go.RowKit
set_option linter.unusedVariables false
set_option linter.unusedSimpArgs false

theorem len_nodes : ∀ K : List Tm, K.length ≤ nodesL K
  | [] => by simp
  | a :: K => by
    have := len_nodes K
    have := nodes_pos a
    simp only [List.length_cons, nodesL]
    omega
def PutLPost (W0 w : World) (l : List UInt8) (K : List Tm) (L : List UInt8) (e : Ending) (w' : World) : Prop :=
  ∃ v', e = .returned v' ∧ OB w' W0.heap.size v' (l ++ L) ∧ (putK K).length ≤ 410 * nodesL K ∧ Below W0.heap.size W0 w' ∧ Keep w w'

set_option maxRecDepth 100000 in
set_option maxHeartbeats 4000000 in
theorem putList_of (n : Nat) (HA : Hid (PutUpto n)) (H : List Tm) (tl : Tm) (W0 w : World) (v tv : Value) (l : List UInt8) (h4 : ¬ tl.kind = 4) (hn : nodesL (H ++ [tl]) < n) (hW : Below W0.heap.size W0 w) (hR : RB w W0.heap.size v l)
    (ht : IsT W0 (listT H tl) tv) (hok : ∀ t ∈ H ++ [tl], ∃ d, okD t d) (hl : l.length + 5 + 410 * nodesL (H ++ [tl]) ≤ 90000000) :
    Calls Tryd.prog 76 #[v, tv] w fun e w' => PutLPost W0 w l (H ++ [tl]) (108 :: (four H.length ++ putK (H ++ [tl]))) e w' := by
  obtain ⟨ti, hi, hz0, hz1, hz2⟩ := info_parts Tryd.infoT
  have hlen : H.length ≤ 300000 := by
    have h1 := len_nodes (H ++ [tl])
    simp only [List.length_append, List.length_cons, List.length_nil] at h1
    omega
  have h0 := ht
  obtain ⟨sl, sk, rfl, hls, hk, -⟩ := ht.open
  obtain ⟨pl, cl, rfl⟩ := hls.shape
  obtain ⟨pk, ck, rfl, -⟩ := hk.shape
  obtain ⟨t, htt⟩ : ∃ t, t = listT H tl := ⟨_, rfl⟩
  rw [← htt] at h0 ⊢
  have HB : Hid (Below w.heap.size w (w.alloc (.cells #[.int .i64 t.kind, .bool t.neg, .slice pl t.limbs.length cl, .string t.str, .int .i64 t.num, .slice pk t.kids.length ck] 29))) := (Below.refl w.heap.size w).alloc (Nat.le_refl _) _
  have HST : Hid (PlSt W0 w H tl H.length (.slice none 0 0) (w.alloc (.cells #[.int .i64 t.kind, .bool t.neg, .slice pl t.limbs.length cl, .string t.str, .int .i64 t.num, .slice pk t.kids.length ck] 29))) :=
    ⟨[], H, [], _, _, _, _, _, _, rfl, rfl, rfl, World.ownsRow_nil _ _ _ _, fun p hp => by simp at hp, Bt.new w t.kind t.neg (.slice pl t.limbs.length cl) t.str t.num (.slice pk t.kids.length ck) ⟨_, _, _, rfl⟩ ⟨_, _, _, rfl⟩, by rw [← htt]; exact h0, HB.out⟩
  have HW : Hid (Below W0.heap.size W0 w) := hW
  have HR : Hid (RB w W0.heap.size v l) := hR
  have HOK : Hid (∀ t ∈ H ++ [tl], ∃ d, okD t d) := hok
  have hsW := hW.size
  clear ht h0 hls hk htt hW hR hok
  simp only [tmV]
  go_enter Tryd.func76, Tryd.ntmps76
  go_wp2_with fail
  have hst := HST.out
  go_loopg [5] H.length (fun q sv wr => PlSt W0 w H tl q sv wr)
  case atStart => exact hst
  case round =>
    clear hst HST HB
    obtain ⟨D, R, ps, k, nn, sl, S, N, sk, hDR, hRq, hpD, hWt, hps, hBt, hI, hB⟩ := hrel
    have hpl : ps.length ≤ 300000 := by
      have h1 := congrArg List.length hpD
      have h2 := congrArg List.length hDR
      simp at h1 h2
      omega
    have hpi : (ps.length : Int) ≤ 300000 := by omega
    have hsl : ∃ p c, u5 = .slice p ps.length c := by
      rcases hWt.2 with ⟨h1, h2⟩ | ⟨g, cap, cur, h1, _⟩
      · exact ⟨none, 0, by rw [h1, h2]⟩
      · exact ⟨_, _, h1⟩
    obtain ⟨po, co, rfl⟩ := hsl
    obtain ⟨sl', sk', ev, hl', hk', -⟩ := hI.open
    obtain ⟨rfl, rfl, rfl, rfl, rfl, rfl⟩ := tmV_one ev
    obtain ⟨pl', cl', rfl⟩ := hl'.shape
    obtain ⟨pk', ck', rfl, hck1, hck2, -⟩ := hk'.shape
    obtain ⟨a0, a1, a2, a3, a4, a5⟩ := hBt.cells
    obtain ⟨f0, f1, f2, f3, f4, f5⟩ := hBt.froz
    cases R with
    | nil =>
      have hD : D = H := by rw [← hDR]; simp
      subst hD
      have HPN : Hid (ps.length = D.length) := by show ps.length = D.length; have := congrArg List.length hpD; simpa using this
      have e4 : (tl.kind == 4) = false := by simp [h4]
      have hkk : (listT [] tl).kind = tl.kind := rfl
      rw [hkk] at a0
      have hRB : RB wr W0.heap.size v l := HR.out.under hB
      have hWr : Below W0.heap.size W0 wr := HW.out.trans (hB.mono hsW)
      have hsr := hB.size
      have hnw : ∀ j u, (bv [108])[j]? = some u → (wr.alloc (.cells #[.int .u8 108] 5)).cell? ((⟨wr.heap.size, 0, none⟩ : Addr).add j) = some u := new_cells wr (bv [108]) _
      have HWT : Hid (WaitT wr (w.heap.size + 1) (.slice po ps.length co) ps) := hWt
      have HBT : Hid (Bt wr w.heap.size tl.kind tl.neg (.slice pl' tl.limbs.length cl') tl.str tl.num (.slice pk' tl.kids.length ck')) := hBt
      have HI : Hid (IsT W0 tl (tmV tl.kind tl.neg (.slice pl' tl.limbs.length cl') tl.str tl.num (.slice pk' tl.kids.length ck'))) := hI
      have HPS : Hid (∀ p ∈ ps, IsT W0 p.2 p.1) := hps
      have HWr : Hid (Below W0.heap.size W0 wr) := hWr
      have HBr : Hid (Below w.heap.size w wr) := hB
      have HPD : Hid (ps.map Prod.snd = D) := hpD
      clear hWt hBt hI hps hWr hB hl' hk' hDR hRq hpD
      go_wp2_with (first
        | (at_builtin; refine wpList_append_rb rfl _ _ rfl W0.heap.size _ l rfl (hRB.under ((Below.refl _ _).alloc (Nat.le_refl _) _)) (by omega) (by simp; omega) ⟨wr.heap.size, 0, none⟩ 1 1 [108] rfl (by omega) (by omega) rfl hnw ?_; intro v2 w2 o2 g2 k2)
        | fail)
      have hW2 := g2 _ _ (by simp; omega) (Nat.le_refl _) (HWr.out.alloc (by omega) _)
      refine (putFour_any W0.heap.size v2 (l ++ [108]) (ps.length : Int) w2 o2 (by simp; omega) (by omega) (by omega) hW2.size).mono ?_
      rintro e w3 ⟨v3, rfl, o3, g3⟩
      have k3 : Keep wr w3 := ((Keep.alloc _ _).trans k2).trans (Keep.row o2 g3)
      have hW3 : Below W0.heap.size W0 w3 := OB.belowG o2 hW2 g3 hW2.size (Nat.le_refl _)
      have hs3 := k3.1
      have hWT3 := HWT.out.keep k3
      obtain ⟨d0, d1, d2, d3, d4, d5⟩ := (HBT.out.keep k3).cells
      have HO3 : Hid (OB w3 W0.heap.size v3 (l ++ [108] ++ four (u32of (ps.length : Int)))) := o3
      have HW3 : Hid (Below W0.heap.size W0 w3) := hW3
      have HK3 : Hid (Keep wr w3) := k3
      clear o2 g2 k2 o3 g3 hW2 hW3 k3 hnw hRB a0 a1 a2 a3 a4 a5 f0 f1 f2 f3 f4 f5
      go_wp2_with (first
        | (at_builtin; refine wpList_append_own_at _ rfl _ _ 27 rfl (w.heap.size + 1) 29 ti (.agg #[.int .i64 0, .bool false, .slice none 0 0, .string ⟨#[]⟩, .int .i64 0, .slice none 0 0]) 6 88 Tryd.underlying27 hi hz0 hz1 hz2 rfl (by decide) (.slice po ps.length co) ps.length (flat ps) rfl (World.ownsRow.alloc hWT3 _) ⟨w3.heap.size, 0, none⟩ 1 1 [.int .i64 tl.kind, .bool tl.neg, .slice pl' tl.limbs.length cl', .string tl.str, .int .i64 tl.num, .slice pk' tl.kids.length ck'] rfl rfl (World.news_of_block (heap_alloc_new w3 _)) (fun u hu => by simp at hu; rcases hu with rfl | rfl | rfl | rfl | rfl | rfl <;> rfl) (by simp only [maxLen]; omega) (by omega) (by simp; omega) ?_; intro v5 w5 hown5 hgr5 hnil5 hloc5)
        | fail)
      have hWT5 : WaitT w5 (w.heap.size + 1) v5 (ps ++ [(tmV tl.kind tl.neg (.slice pl' tl.limbs.length cl') tl.str tl.num (.slice pk' tl.kids.length ck'), tl)]) := by
        unfold WaitT
        rw [flat_app, List.length_append]
        simpa [flat, cells6, tmV] using hown5
      have hrd : RdT W0 w5 v5 (D ++ [tl]) := by
        have := row_rd (W0 := W0) hWT5 (fun p hp => by
          rcases List.mem_append.1 hp with hp | hp
          · exact HPS.out p hp
          · simp only [List.mem_singleton] at hp
            subst hp
            exact HI.out)
        rwa [List.map_append, HPD.out] at this
      have hbl : ∀ j, (Value.slice po ps.length co).ownBlock = some j → w.heap.size + 1 ≤ j := fun j hj => (World.ownsRow.lt hWT3 j hj).1
      have hW5 : Below W0.heap.size W0 w5 := (HW3.out.alloc HW3.out.size _).grown hgr5 (by have := HW3.out.size; simp; omega) (fun j hj => by have := hbl j hj; omega)
      have hB5 : Below w.heap.size w3 w5 := ((Below.refl w.heap.size w3).alloc (by omega) _).grown hgr5 (by simp; omega) (fun j hj => by have := hbl j hj; omega)
      have o5 : OB w5 W0.heap.size v3 (l ++ [108] ++ four (u32of (ps.length : Int))) := (HO3.out.under ((Below.refl _ _).alloc (Nat.le_refl _) _)).grown hgr5 (HO3.out.notT hWT3)
      have k5 : Keep w w5 := ((Keep.below HBr.out).trans HK3.out).then hB5 hB5.size
      refine (HA.out (D ++ [tl]) W0 w5 v3 v5 (l ++ [108] ++ four (u32of (ps.length : Int))) hn hW5 (.inl o5) hrd HOK.out (by simp [four]; omega)).mono ?_
      rintro e w6 ⟨v6, rfl, r6, o6, -, l6, b6, k6⟩
      have HO6 : Hid (OB w6 W0.heap.size v6 (l ++ [108] ++ four (u32of (ps.length : Int)) ++ putK (D ++ [tl]))) := o6 (by simp)
      have HF : Hid (Below W0.heap.size W0 w6 ∧ Keep w w6) := ⟨b6, k5.trans k6⟩
      clear r6 o6 b6 k6 k5 o5 hB5 hW5 hrd hWT5 hgr5 hown5 hloc5 hnil5
      go_wp2_with fail
      go_ret
      refine ⟨v6, rfl, ?_, l6, HF.out.1, HF.out.2⟩
      have e1 : u32of (ps.length : Int) = D.length := by have := HPN.out; unfold u32of; omega
      have := HO6.out
      rw [e1] at this
      simpa using this
    | cons x R =>
      have hkl : (listT (x :: R) tl).kids.length = 2 := rfl
      have hkd : (listT (x :: R) tl).kind = 4 := rfl
      rw [hkl] at a5 hck1 hk'
      rw [hkd] at a0
      replace hk' : Ts W0 (.slice pk' 2 ck') [x, listT R tl] := hk'
      obtain ⟨bb, off, vx, rfl, hlt, h6, hx⟩ := hk'.at 0 (by simp)
      obtain ⟨bb2, off2, vy, e2, hlt2, g6, hy⟩ := hk'.at 1 (by simp)
      simp only [Option.some.injEq, Addr.mk.injEq, and_true] at e2
      obtain ⟨rfl, rfl⟩ := e2
      simp only [List.getElem_cons_zero, List.getElem_cons_succ, Nat.zero_mul, Nat.add_zero, Nat.one_mul] at h6 hx g6 hy
      have HX : Hid (IsT W0 x vx) := hx
      have HY : Hid (IsT W0 (listT R tl) vy) := hy
      obtain ⟨slx, skx, evx, hlx, hkx, -⟩ := hx.open
      obtain ⟨sly, sky, evy, hly, hky, -⟩ := hy.open
      obtain ⟨plx, clx, rfl⟩ := hlx.shape
      obtain ⟨pkx, ckx, rfl, -⟩ := hkx.shape
      obtain ⟨ply, cly, rfl⟩ := hly.shape
      obtain ⟨pky, cky, rfl, -⟩ := hky.shape
      have hW0r : Below W0.heap.size W0 wr := HW.out.trans (hB.mono hsW)
      obtain ⟨c0, c1, c2, c3, c4, c5, hvx, x0, x1, x2, x3, x4, x5⟩ := h6.below hW0r hlt
      have HG6 : Hid (At6 W0 bb (off + 6) vy) := g6
      rw [evx] at hvx HX
      rw [evy] at HY HG6
      simp only [tmV, Value.agg.injEq, List.toArray_inj, List.cons.injEq, and_true] at hvx
      obtain ⟨rfl, rfl, rfl, rfl, rfl, rfl⟩ := hvx
      clear hx hy h6 g6 evx evy hlx hly hkx hky
      have HBT : Hid (Bt wr w.heap.size 4 false (.slice pl' ([] : List Int).length cl') ⟨#[]⟩ 0 (.slice (some ⟨bb, off, none⟩) 2 ck')) := hBt
      have HWt : Hid (WaitT wr (w.heap.size + 1) (.slice po ps.length co) ps) := hWt
      have HPS : Hid (∀ p ∈ ps, IsT W0 p.2 p.1) := hps
      have hsz := hBt.lt
      have hBs := hB.size
      have HB : Hid (Below w.heap.size w wr) := hB
      clear hps hW0r
      go_wp2_with (first | (at_builtin; refine wpList_append_own_at _ rfl _ _ 27 rfl (w.heap.size + 1) 29 ti (.agg #[.int .i64 0, .bool false, .slice none 0 0, .string ⟨#[]⟩, .int .i64 0, .slice none 0 0]) 6 88 Tryd.underlying27 hi hz0 hz1 hz2 rfl (by decide) (.slice po ps.length co) ps.length (flat ps) rfl (World.ownsRow.alloc hWt _) ⟨wr.heap.size, 0, none⟩ 1 1 [.int .i64 x.kind, .bool x.neg, .slice plx x.limbs.length clx, .string x.str, .int .i64 x.num, .slice pkx x.kids.length ckx] rfl rfl (World.news_of_block (heap_alloc_new wr _)) (fun u hu => by simp at hu; rcases hu with rfl | rfl | rfl | rfl | rfl | rfl <;> rfl) (by simp only [maxLen]; omega) (by omega) (by simp; omega) ?_; intro v5 w5 hown5 hgr5 hnil5 hloc5; have hQ := part_facts HB.out HBT.out HWt.out hgr5; obtain ⟨q0, q1, q2, q3, q4, q5⟩ := hQ.1.cells; obtain ⟨r0, r1, r2, r3, r4, r5⟩ := hQ.1.froz; obtain ⟨d0, d1, d2, d3, d4, d5, hvy, y0, y1, y2, y3, y4, y5⟩ := HG6.out.below (HW.out.trans (hQ.2.mono hsW)) hlt2; simp only [tmV, Value.agg.injEq, List.toArray_inj, List.cons.injEq, and_true] at hvy; obtain ⟨rfl, rfl, rfl, rfl, rfl, rfl⟩ := hvy; have HQ : Hid (Bt w5 w.heap.size 4 false (.slice pl' ([] : List Int).length cl') ⟨#[]⟩ 0 (.slice (some ⟨bb, off, none⟩) 2 ck') ∧ Below w.heap.size w w5) := hQ; clear hQ) | fail)
      have hbu := setBt_but w5 w.heap.size (listT R tl).kind (listT R tl).neg (.slice ply (listT R tl).limbs.length cly) (listT R tl).str (listT R tl).num (.slice pky (listT R tl).kids.length cky)
      go_roundg R.length
      case measure => simp at hRq; omega
      case rel =>
        refine ⟨D ++ [x], R, ps ++ [(tmV x.kind x.neg (.slice plx x.limbs.length clx) x.str x.num (.slice pkx x.kids.length ckx), x)], _, _, _, _, _, _, by rw [← hDR]; simp, rfl, by rw [List.map_append, hpD]; rfl, ?_, ?_, HQ.out.1.set (listT R tl).kind (listT R tl).neg (.slice ply (listT R tl).limbs.length cly) (listT R tl).str (listT R tl).num (.slice pky (listT R tl).kids.length cky) ⟨_, _, _, rfl⟩ ⟨_, _, _, rfl⟩, HY.out, HQ.out.2.trans (hbu.below (Nat.le_refl _))⟩
        · refine World.ownsRow.kept (row := some w.heap.size) (w := w5) ?_ ⟨hbu.os, hbu.tape, hbu.output, Nat.le_of_eq hbu.size.symm, fun j _ hj => hbu.block j (fun e => hj (by rw [e]))⟩ (Or.inr (fun e => by have := (World.ownsRow.lt hown5 _ e).1; omega))
          rw [flat_app, List.length_append]
          simpa [flat, cells6, tmV] using hown5
        · intro p hp
          rcases List.mem_append.1 hp with hp | hp
          · exact HPS.out p hp
          · simp only [List.mem_singleton] at hp
            subst hp
            exact HX.out
end Go.Proofs.YtbmondbicnfcpaaDoor
