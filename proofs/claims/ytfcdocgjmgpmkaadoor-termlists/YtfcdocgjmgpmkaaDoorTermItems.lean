
/-
  term.Items of a list that is one, and of one that ends in something else.
-/
import Derived.Test.YtfcdocgjmgpmkaaDoorTermList
import Derived.Test.YtfcdocgjmgpmkaaDoorTermTupRow
import Derived.Maps.AppendAt
namespace Go.Proofs.YtfcdocgjmgpmkaaDoor
open Go.RowKit
set_option linter.unusedVariables false
set_option linter.unusedSimpArgs false

/-- A row of terms, each of which is read. -/
theorem row_ts {w : World} {base : Nat} {v : Value} {ps : List (Value × Tm)} (hw : WaitT w base v ps) (h : ∀ p ∈ ps, IsT w p.2 p.1) : Ts w v (ps.map Prod.snd) := by
  rcases hw.2 with ⟨rfl, h1⟩ | ⟨g, cap, cur, rfl, hb, hh, hn, hc, _, _⟩
  · obtain rfl : ps = [] := List.eq_nil_of_length_eq_zero h1
    exact Ts.nil w
  · have hl : (ps.map Prod.snd).length = ps.length := by simp
    refine ⟨some ⟨g, 0, none⟩, cap, fun i => (ps.map Prod.fst).getD i (.bool false), by rw [hl], ⟨by rw [hl]; exact hn, by unfold maxLen at hc; omega, fun e => (by cases e), fun _ => ⟨g, 0, rfl, (Array.getElem?_eq_some_iff.1 hh).1, fun i hi => ?_⟩⟩, fun i hi => ?_⟩
    · rw [hl] at hi
      have h6 : ∀ p ∈ ps, (cells6 p.1).length = 6 := fun p hp => (h p hp).six
      have hc : ∀ j, j < 6 → w.cell? ⟨g, i * 6 + j, none⟩ = (cells6 ps[i].1)[j]? := fun j hj => by
        rw [World.ownsRow.cellAt hw (i * 6 + j) (by omega), flat_get ps h6 i j hi hj]
      obtain ⟨sl, sk, h1, -⟩ := (h ps[i] (List.getElem_mem hi)).open
      rw [h1] at hc
      have e : (ps.map Prod.fst).getD i (.bool false) = ps[i].1 := by simp [List.getD, hi]
      show At6 w g (0 + i * 6) ((ps.map Prod.fst).getD i (.bool false))
      rw [e, h1, Nat.zero_add]
      exact ⟨_, _, _, _, _, _, rfl, (hc 0 (by omega)).trans rfl, (hc 1 (by omega)).trans rfl, (hc 2 (by omega)).trans rfl, (hc 3 (by omega)).trans rfl, (hc 4 (by omega)).trans rfl, (hc 5 (by omega)).trans rfl⟩
    · rw [hl] at hi
      have := h ps[i] (List.getElem_mem hi)
      simpa [List.getD, hi] using this

theorem tmV_inj' {k k' : Int} {n n' : Bool} {sl sl' : Value} {S S' : ByteArray} {N N' : Int} {sk sk' : Value} (h : tmV k n sl S N sk = tmV k' n' sl' S' N' sk') : k = k' ∧ n = n' ∧ sl = sl' ∧ S = S' ∧ N = N' ∧ sk = sk' := by
  simpa [tmV] using h
theorem item_facts {w wr w5 : World} {k : Int} {n : Bool} {sl : Value} {S : ByteArray} {N : Int} {sk v : Value} {ps : List (Value × Tm)} {o : Obj} (hB : Below w.heap.size w wr) (hBt : Bt wr w.heap.size k n sl S N sk) (hW : WaitT wr (w.heap.size + 1) v ps) (hgr : (wr.alloc o).grownBy w5 v.ownBlock) :
    Bt w5 w.heap.size k n sl S N sk ∧ Below w.heap.size w w5 := by
  have hlt := hBt.lt
  have b1 := (Below.refl wr.heap.size wr).alloc (Nat.le_refl _) o
  have u1 := hBt.under b1
  have hr : ∀ j, v.ownBlock = some j → w.heap.size + 1 ≤ j := fun j hj => (World.ownsRow.lt hW j hj).1
  refine ⟨⟨?_, u1.2⟩, (hB.alloc hB.size o).grown hgr (by have := hB.size; simp; omega) (fun j hj => by have := hr j hj; omega)⟩
  rw [hgr.block _ u1.lt (fun e => by have := hr _ e.symm; omega)]
  exact u1.1
/-- The loop's state: what is out, what is left. -/
def ItSt (w : World) (K : List Tm) (tl : Tm) (q : Nat) (sv : Value) (wr : World) : Prop :=
  ∃ (D R : List Tm) (ps : List (Value × Tm)) (k : Int) (n : Bool) (sl : Value) (S : ByteArray) (N : Int) (sk : Value), D ++ R = K ∧ R.length = q ∧ ps.map Prod.snd = D ∧ WaitT wr (w.heap.size + 1) sv ps ∧ (∀ p ∈ ps, IsT w p.2 p.1) ∧ Bt wr w.heap.size k n sl S N sk ∧ IsT w (listT R tl) (tmV k n sl S N sk) ∧ Below w.heap.size w wr
def ItPost (w : World) (K : List Tm) (ok : Bool) (e : Ending) (w' : World) : Prop := ∃ s, e = .returned (.tuple #[s, .bool ok]) ∧ Below w.heap.size w w' ∧ (ok = true → Ts w' s K) ∧ IsS s

set_option maxRecDepth 100000 in
set_option maxHeartbeats 4000000 in
theorem items_any (K : List Tm) (tl : Tm) (v : Value) (w : World) (h : IsT w (listT K tl) v) (hK : K.length ≤ 60) (ht : tl.kind = 3 ∨ tl.kind = 5) :
    Calls Tryd.prog 16 #[v] w fun e w' => ItPost w K (decide (tl.kind = 3)) e w' := by
  obtain ⟨ti, hi, hz0, hz1, hz2⟩ := info_parts Tryd.infoT
  have h0 := h
  obtain ⟨sl, sk, rfl, hl, hk, -⟩ := h.open
  obtain ⟨pl, cl, rfl⟩ := hl.shape
  obtain ⟨pk, ck, rfl, -⟩ := hk.shape
  obtain ⟨t, htt⟩ : ∃ t, t = listT K tl := ⟨_, rfl⟩
  rw [← htt] at h0 ⊢
  have HB : Hid (Below w.heap.size w (w.alloc (.cells #[.int .i64 t.kind, .bool t.neg, .slice pl t.limbs.length cl, .string t.str, .int .i64 t.num, .slice pk t.kids.length ck] 27))) := (Below.refl w.heap.size w).alloc (Nat.le_refl _) _
  have HST : Hid (ItSt w K tl K.length (.slice none 0 0) (w.alloc (.cells #[.int .i64 t.kind, .bool t.neg, .slice pl t.limbs.length cl, .string t.str, .int .i64 t.num, .slice pk t.kids.length ck] 27))) :=
    ⟨[], K, [], _, _, _, _, _, _, rfl, rfl, rfl, World.ownsRow_nil _ _ _ _, fun p hp => by simp at hp, Bt.new w t.kind t.neg (.slice pl t.limbs.length cl) t.str t.num (.slice pk t.kids.length ck) ⟨_, _, _, rfl⟩ ⟨_, _, _, rfl⟩, by rw [← htt]; exact h0, HB.out⟩
  clear h h0 hl hk htt
  simp only [tmV]
  go_enter Tryd.func16, Tryd.ntmps16
  go_wp2_with fail
  try (go_step3; go_wp2_with fail)
  try (go_step3; go_wp2_with fail)
  have hst := HST.out
  go_loopg [4] K.length (fun q sv wr => ItSt w K tl q sv wr)
  case atStart => exact hst
  case round =>
    clear hst HST HB
    obtain ⟨D, R, ps, k, n, sl, S, N, sk, hDR, hRq, hpD, hW, hps, hBt, hI, hB⟩ := hrel
    have hpl : ps.length ≤ 60 := by
      have h1 := congrArg List.length hpD
      have h2 := congrArg List.length hDR
      simp at h1 h2
      omega
    have hpi : (ps.length : Int) ≤ 2000 := by omega
    have hsv : IsS u4 := by
      rcases hW.2 with ⟨h1, _⟩ | ⟨g, cap, cur, h1, _⟩
      · exact ⟨_, _, _, h1⟩
      · exact ⟨_, _, _, h1⟩
    have hsl : ∃ p c, u4 = .slice p ps.length c := by
      rcases hW.2 with ⟨h1, h2⟩ | ⟨g, cap, cur, h1, _⟩
      · exact ⟨none, 0, by rw [h1, h2]⟩
      · exact ⟨_, _, h1⟩
    obtain ⟨po, co, rfl⟩ := hsl
    obtain ⟨sl', sk', ev, hl', hk', -⟩ := hI.open
    obtain ⟨rfl, rfl, rfl, rfl, rfl, rfl⟩ := tmV_inj' ev
    obtain ⟨pl', cl', rfl⟩ := hl'.shape
    obtain ⟨pk', ck', rfl, hck1, hck2, -⟩ := hk'.shape
    obtain ⟨a0, a1, a2, a3, a4, a5⟩ := hBt.cells
    obtain ⟨f0, f1, f2, f3, f4, f5⟩ := hBt.froz
    cases R with
    | nil =>
      have HD : Hid (D = K) := by show D = K; rw [← hDR]; simp
      have HTS : Hid (Ts wr (.slice po ps.length co) K) := by
        have := row_ts hW (fun p hp => (hps p hp).under hB)
        rw [hpD, HD.out] at this
        exact this
      have hkk : (listT [] tl).kind = tl.kind := rfl
      rw [hkk] at a0
      rcases ht with h3 | h5
      · have e3 : (tl.kind == 3) = true := by simp [h3]
        have HK3 : Hid (tl.kind = 3) := h3
        clear h3
        go_wp2_with fail
        go_ret2
        exact ⟨.slice po ps.length co, (by rw [decide_eq_true HK3.out]; rfl), hB, (fun _ => HTS.out), ⟨_, _, _, rfl⟩⟩
      · have e3 : (tl.kind == 3) = false := by simp [h5]
        have e4 : (tl.kind != 4) = true := by simp [h5]
        have e4' : (tl.kind == 4) = false := by simp [h5]
        have HK5 : Hid (decide (tl.kind = 3) = false) := by show _ = _; simp [h5]
        clear h5
        go_wp2_with fail
        go_ret2
        exact ⟨.slice none 0 0, (by rw [HK5.out]; rfl), hB, (fun h => absurd (HK5.out.symm.trans h) (by decide)), ⟨_, _, _, rfl⟩⟩
    | cons x R =>
      have hkl : (listT (x :: R) tl).kids.length = 2 := rfl
      have hkd : (listT (x :: R) tl).kind = 4 := rfl
      rw [hkl] at a5 hck1 hk'
      rw [hkd] at a0
      replace hk' : Ts w (.slice pk' 2 ck') [x, listT R tl] := hk'
      obtain ⟨bb, off, vx, rfl, hlt, h6, hx⟩ := hk'.at 0 (by simp)
      obtain ⟨bb2, off2, vy, e2, hlt2, g6, hy⟩ := hk'.at 1 (by simp)
      simp only [Option.some.injEq, Addr.mk.injEq, and_true] at e2
      obtain ⟨rfl, rfl⟩ := e2
      simp only [List.getElem_cons_zero, List.getElem_cons_succ, Nat.zero_mul, Nat.add_zero, Nat.one_mul] at h6 hx g6 hy
      have HX : Hid (IsT w x vx) := hx
      have HY : Hid (IsT w (listT R tl) vy) := hy
      obtain ⟨slx, skx, evx, hlx, hkx, -⟩ := hx.open
      obtain ⟨sly, sky, evy, hly, hky, -⟩ := hy.open
      obtain ⟨plx, clx, rfl⟩ := hlx.shape
      obtain ⟨pkx, ckx, rfl, -⟩ := hkx.shape
      obtain ⟨ply, cly, rfl⟩ := hly.shape
      obtain ⟨pky, cky, rfl, -⟩ := hky.shape
      obtain ⟨c0, c1, c2, c3, c4, c5, hvx, x0, x1, x2, x3, x4, x5⟩ := h6.below hB hlt
      have HG6 : Hid (At6 w bb (off + 6) vy) := g6
      rw [evx] at hvx HX
      rw [evy] at HY HG6
      simp only [tmV, Value.agg.injEq, List.toArray_inj, List.cons.injEq, and_true] at hvx
      obtain ⟨rfl, rfl, rfl, rfl, rfl, rfl⟩ := hvx
      clear hx hy h6 g6 evx evy hlx hly hkx hky
      have HBT : Hid (Bt wr w.heap.size 4 false (.slice pl' ([] : List Int).length cl') ⟨#[]⟩ 0 (.slice (some ⟨bb, off, none⟩) 2 ck')) := hBt
      have HW : Hid (WaitT wr (w.heap.size + 1) (.slice po ps.length co) ps) := hW
      have hsz := hBt.lt
      have hBs := hB.size
      have HB : Hid (Below w.heap.size w wr) := hB
      have n4 : ((4 : Int) != 4) = false := by decide
      go_wp2_with (first | (at_builtin; refine wpList_append_own_at _ rfl _ _ 25 rfl (w.heap.size + 1) 27 ti (.agg #[.int .i64 0, .bool false, .slice none 0 0, .string ⟨#[]⟩, .int .i64 0, .slice none 0 0]) 6 88 Tryd.underlying25 hi hz0 hz1 hz2 rfl (by decide) (.slice po ps.length co) ps.length (flat ps) rfl (World.ownsRow.alloc hW _) ⟨wr.heap.size, 0, none⟩ 1 1 [.int .i64 x.kind, .bool x.neg, .slice plx x.limbs.length clx, .string x.str, .int .i64 x.num, .slice pkx x.kids.length ckx] rfl rfl (World.news_of_block (heap_alloc_new wr _)) (fun u hu => by simp at hu; rcases hu with rfl | rfl | rfl | rfl | rfl | rfl <;> rfl) (by simp only [maxLen]; omega) (by omega) (by simp; omega) ?_; intro v5 w5 hown5 hgr5 hnil5 hloc5; have hQ := item_facts HB.out HBT.out HW.out hgr5; obtain ⟨q0, q1, q2, q3, q4, q5⟩ := hQ.1.cells; obtain ⟨r0, r1, r2, r3, r4, r5⟩ := hQ.1.froz; obtain ⟨d0, d1, d2, d3, d4, d5, hvy, y0, y1, y2, y3, y4, y5⟩ := HG6.out.below hQ.2 hlt2; simp only [tmV, Value.agg.injEq, List.toArray_inj, List.cons.injEq, and_true] at hvy; obtain ⟨rfl, rfl, rfl, rfl, rfl, rfl⟩ := hvy; have HQ : Hid (Bt w5 w.heap.size 4 false (.slice pl' ([] : List Int).length cl') ⟨#[]⟩ 0 (.slice (some ⟨bb, off, none⟩) 2 ck') ∧ Below w.heap.size w w5) := hQ; clear hQ) | fail)
      have hbu := setBt_but w5 w.heap.size (listT R tl).kind (listT R tl).neg (.slice ply (listT R tl).limbs.length cly) (listT R tl).str (listT R tl).num (.slice pky (listT R tl).kids.length cky)
      go_roundg R.length
      case measure => simp at hRq; omega
      case rel =>
        refine ⟨D ++ [x], R, ps ++ [(tmV x.kind x.neg (.slice plx x.limbs.length clx) x.str x.num (.slice pkx x.kids.length ckx), x)], _, _, _, _, _, _, by rw [← hDR]; simp, rfl, by rw [List.map_append, hpD]; rfl, ?_, ?_, HQ.out.1.set (listT R tl).kind (listT R tl).neg (.slice ply (listT R tl).limbs.length cly) (listT R tl).str (listT R tl).num (.slice pky (listT R tl).kids.length cky) ⟨_, _, _, rfl⟩ ⟨_, _, _, rfl⟩, HY.out, HQ.out.2.trans (hbu.below (Nat.le_refl _))⟩
        · refine World.ownsRow.kept (row := some w.heap.size) (w := w5) ?_ ⟨hbu.os, hbu.tape, hbu.output, Nat.le_of_eq hbu.size.symm, fun j _ hj => hbu.block j (fun e => hj (by rw [e]))⟩ (Or.inr (fun e => by have := (World.ownsRow.lt hown5 _ e).1; omega))
          rw [flat_app, List.length_append]
          simpa [flat, cells6, tmV] using hown5
        · intro p hp
          rcases List.mem_append.1 hp with hp | hp
          · exact hps p hp
          · simp only [List.mem_singleton] at hp
            subst hp
            exact HX.out
end Go.Proofs.YtfcdocgjmgpmkaaDoor
