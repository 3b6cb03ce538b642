
/-
  ext: a shape's box; first.
-/
import Derived.Test.YtbmondbicnfcpaaDoorExtM
namespace Go.Proofs.YtbmondbicnfcpaaDoor
open Go.RowKit
set_option linter.unusedVariables false
set_option linter.unusedSimpArgs false

/-- A shape's box. -/
def BxS (w : World) (g : Nat) (s : Sh) : Prop := w.heap[g]? = some (.cells #[.int .u8 (s.tag : Int), .int .i64 (s.w : Int), .int .i64 (s.lo : Int), .int .i64 (s.hi : Int), .int .i64 (s.al : Int), .int .i64 (s.ea : Int)] 140 (0, 0))
theorem BxS.lt {w : World} {g : Nat} {s : Sh} (h : BxS w g s) : g < w.heap.size := (Array.getElem?_eq_some_iff.1 h).1
theorem BxS.cells {w : World} {g : Nat} {s : Sh} (h : BxS w g s) : w.cell? ⟨g, 0, none⟩ = some (.int .u8 (s.tag : Int)) ∧ w.cell? ⟨g, 1, none⟩ = some (.int .i64 (s.w : Int)) ∧ w.cell? ⟨g, 2, none⟩ = some (.int .i64 (s.lo : Int)) ∧ w.cell? ⟨g, 3, none⟩ = some (.int .i64 (s.hi : Int)) ∧ w.cell? ⟨g, 4, none⟩ = some (.int .i64 (s.al : Int)) ∧ w.cell? ⟨g, 5, none⟩ = some (.int .i64 (s.ea : Int)) := by
  unfold BxS at h
  refine ⟨?_, ?_, ?_, ?_, ?_, ?_⟩ <;> simp [World.cell?, h]
theorem BxS.froz {w : World} {g : Nat} {s : Sh} (h : BxS w g s) : w.frozen? ⟨g, 0, none⟩ = false ∧ w.frozen? ⟨g, 1, none⟩ = false ∧ w.frozen? ⟨g, 2, none⟩ = false ∧ w.frozen? ⟨g, 3, none⟩ = false ∧ w.frozen? ⟨g, 4, none⟩ = false ∧ w.frozen? ⟨g, 5, none⟩ = false := by
  unfold BxS at h
  refine ⟨?_, ?_, ?_, ?_, ?_, ?_⟩ <;> simp [World.frozen?, h]
theorem BxS.block {w w' : World} {g : Nat} {s : Sh} (h : BxS w g s) (hb : w'.heap[g]? = w.heap[g]?) : BxS w' g s := by unfold BxS; rw [hb]; exact h
theorem BxS.under {w w' : World} {g : Nat} {s : Sh} (h : BxS w g s) (hb : Below w.heap.size w w') : BxS w' g s := h.block (hb.block g h.lt)
theorem BxS.drew {w : World} {g : Nat} {s : Sh} (h : BxS w g s) : BxS w.drew g s := h
theorem BxS.new (w : World) (s : Sh) : BxS (w.alloc (.cells #[.int .u8 (s.tag : Int), .int .i64 (s.w : Int), .int .i64 (s.lo : Int), .int .i64 (s.hi : Int), .int .i64 (s.al : Int), .int .i64 (s.ea : Int)] 140)) w.heap.size s := heap_alloc_new w _
def setBxS (w : World) (g : Nat) (s : Sh) : World := (((((w.setCell ⟨g, 0, none⟩ (.int .u8 (s.tag : Int))).setCell ⟨g, 1, none⟩ (.int .i64 (s.w : Int))).setCell ⟨g, 2, none⟩ (.int .i64 (s.lo : Int))).setCell ⟨g, 3, none⟩ (.int .i64 (s.hi : Int))).setCell ⟨g, 4, none⟩ (.int .i64 (s.al : Int))).setCell ⟨g, 5, none⟩ (.int .i64 (s.ea : Int))
theorem setBxS_but (w : World) (g : Nat) (s : Sh) : But g w (setBxS w g s) := ((((((But.refl g w).setCell 0 _).setCell 1 _).setCell 2 _).setCell 3 _).setCell 4 _).setCell 5 _
theorem BxS.set {w : World} {g : Nat} {s : Sh} (h : BxS w g s) (s' : Sh) : BxS (setBxS w g s') g s' := by
  unfold BxS at h ⊢
  simp [setBxS, World.setCell, Array.getElem?_modify, h]
def setBxZ (w : World) (g : Nat) : World := (((((w.setCell ⟨g, 0, none⟩ (.int .u8 0)).setCell ⟨g, 1, none⟩ (.int .i64 0)).setCell ⟨g, 2, none⟩ (.int .i64 0)).setCell ⟨g, 3, none⟩ (.int .i64 0)).setCell ⟨g, 4, none⟩ (.int .i64 0)).setCell ⟨g, 5, none⟩ (.int .i64 0)
theorem setBxZ_but (w : World) (g : Nat) : But g w (setBxZ w g) := ((((((But.refl g w).setCell 0 _).setCell 1 _).setCell 2 _).setCell 3 _).setCell 4 _).setCell 5 _
theorem BxS.setZ {w : World} {g : Nat} {s : Sh} (h : BxS w g s) : BxS (setBxZ w g) g shZ := h.set shZ
theorem BxS.load {w : World} {g : Nat} {s : Sh} (h : BxS w g s) : (loadVar 140 ⟨g, 0, none⟩).run Tryd.prog w = .ok (shV s) w := by
  obtain ⟨c0, c1, c2, c3, c4, c5⟩ := h.cells
  simp [loadVar, go_sem, c0, c1, c2, c3, c4, c5, shV]
theorem results_s2 {fn : Func} {q u : Tmp} (h : fn.results = #[.cell q 140, .tmp u]) (tmps : Array Value) (w : World) (g : Nat) (s : Sh) (hq : tmps.getD q undef = .pointer (some ⟨g, 0, none⟩)) (hb : BxS w g s) :
    (results fn tmps).run Tryd.prog w = .ok (.tuple #[shV s, tmps.getD u undef]) w := by
  have hl := hb.load
  simp only [Array.getD_eq_getD_getElem?] at hq
  simp only [results, h]
  simp [hq, asAddr, hl]

theorem HoRow.grw {w w' : World} {g base : Nat} {v ov ov2 : Value} {p n : Int} {hs : List Ho} (h : HoRow w base ov hs) (hx : RdX w g v p n ov2) (hg : Grw g w w') : HoRow w' base ov hs := by
  obtain ⟨⟨h1, h2⟩, h3⟩ := h
  refine ⟨⟨h1, ?_⟩, h3⟩
  rcases h2 with h4 | ⟨k, cap, cur, rfl, hb1, hh, h4⟩
  · exact .inl h4
  · refine .inr ⟨k, cap, cur, rfl, hb1, ?_, h4⟩
    rw [hg.block k (Array.getElem?_eq_some_iff.1 hh).1 (fun e => ?_)]
    · exact hh
    · subst e
      rw [hx.1] at hh
      injection hh with hh
      injection hh with _ e2 _
      exact absurd e2 (by decide)
theorem HoRow.under {w w' : World} {base : Nat} {ov : Value} {hs : List Ho} (h : HoRow w base ov hs) (hb : Below w.heap.size w w') : HoRow w' base ov hs := by
  obtain ⟨⟨h1, h2⟩, h3⟩ := h
  refine ⟨⟨h1, ?_⟩, h3⟩
  rcases h2 with h4 | ⟨k, cap, cur, rfl, hb1, hh, h4⟩
  · exact .inl h4
  · exact .inr ⟨k, cap, cur, rfl, hb1, by rw [hb.block k (Array.getElem?_eq_some_iff.1 hh).1]; exact hh, h4⟩
theorem Shp.grw {w w' : World} {g : Nat} {v ov : Value} {p n : Int} (h : Shp w) (hx : RdX w g v p n ov) (hg : Grw g w w') : Shp w' := by
  have h0 := h 0 _ rfl
  have hne : (0 : Nat) ≠ g := by
    rintro rfl
    obtain ⟨a, m, c, hv⟩ := hx.2.1
    rw [hx.facts.1.1, hv] at h0
    cases h0
  have hG : (0 : Nat) < w.heap.size := World.block_lt_of_cell? w ⟨0, 0, none⟩ h0
  intro j u hj
  rw [World.cell?_of_block (w := w) (hg.block _ hG hne)]
  exact h j u hj

/-- That the first of the shapes have another byte. -/
def NoTag (t k : Nat) : Prop := ∀ s ∈ shT.take k, s.tag ≠ t
theorem NoTag.all {t : Nat} (h : NoTag t 8) : shF t = none := by
  unfold shF
  rw [List.find?_eq_none]
  intro s hs
  have := h s hs
  simpa using this
theorem NoTag.succ {t k : Nat} (h : NoTag t k) (hk : k < 8) (hne : (shT.getD k shZ).tag ≠ t) : NoTag t (k + 1) := by
  intro s hs
  have hk8 : k < shT.length := hk
  rw [List.take_succ_eq_append_getElem hk8] at hs
  rcases List.mem_append.1 hs with hs | hs
  · exact h s hs
  · simp only [List.mem_singleton] at hs
    subst hs
    simpa [List.getD, hk8] using hne
theorem NoTag.hit {t k : Nat} (h : NoTag t k) (hk : k < 8) (he : (shT.getD k shZ).tag = t) : shF t = some (shT.getD k shZ) := by
  have hk8 : k < shT.length := hk
  have e : shT = shT.take k ++ (shT.getD k shZ :: shT.drop (k + 1)) := by
    conv => lhs; rw [← List.take_append_drop k shT]
    congr 1
    rw [List.drop_eq_getElem_cons hk8]
    simp [List.getD, hk8]
  unfold shF
  generalize shT.getD k shZ = x at *
  rw [e, List.find?_append]
  have h1 : (shT.take k).find? (fun s => s.tag == t) = none := by
    rw [List.find?_eq_none]
    intro s hs
    have := h s hs
    simpa using this
  rw [h1]
  simp [he]

/-- first's answer. -/
def FsP (w : World) (g : Nat) (bv : Value) (p n : Nat) (ov : Value) (R : Nat × Sh) (e : Ending) (w' : World) : Prop :=
  e = .returned (.tuple #[shV R.2, .int .i64 (R.1 : Int)]) ∧ Grw g w w' ∧ (R.1 = 0 → RdX w' g bv ((p + 1 : Nat) : Int) n ov)
def FsSt (w wq : World) (wi : World) : Prop := Below wq.heap.size wq wi

set_option maxRecDepth 100000 in
set_option maxHeartbeats 8000000 in
theorem first_any (W0 w : World) (g : Nat) (bv : Value) (l : List UInt8) (p n : Nat) (ov : Value) (base : Nat) (hs : List Ho) (hS : Shp w) (hx : RdX w g bv p n ov) (hr : HoRow w base ov hs) (hy : By W0 bv l) (hW : Below W0.heap.size W0 w) (hg : W0.heap.size ≤ g) (hp : p ≤ l.length) (hl : l.length ≤ 1000000000) :
    Calls Tryd.prog 128 #[.pointer (some ⟨g, 0, none⟩)] w fun e w' => FsP w g bv p n ov (fstR l p n (depS hs)) e w' := by
  obtain ⟨R, hR⟩ : ∃ R, fstR l p n (depS hs) = R := ⟨_, rfl⟩
  have HR : Hid (fstR l p n (depS hs) = R) := hR
  rw [hR]
  clear hR
  obtain ⟨wA, hwA⟩ : ∃ wA, w.alloc (.cells #[.int .u8 0, .int .i64 0, .int .i64 0, .int .i64 0, .int .i64 0, .int .i64 0] 140) = wA := ⟨_, rfl⟩
  have hbA : Below w.heap.size w wA := by rw [← hwA]; exact (Below.refl _ _).alloc (Nat.le_refl _) _
  have hSA : BxS wA w.heap.size shZ := by rw [← hwA]; exact BxS.new w shZ
  have hxA := hx.under hbA
  have hrA := hr.under hbA
  have hsA := hS.under hbA
  have hWA : Below W0.heap.size W0 wA := hW.trans (hbA.mono hW.size)
  have hgl := hx.lt
  have HBA : Hid (Below w.heap.size w wA) := hbA
  have hWs := hW.size
  have hbs := hbA.size
  clear hx hr hS hW hbA
  have HSA : Hid (BxS wA w.heap.size shZ) := hSA
  have HXA : Hid (RdX wA g bv p n ov) := hxA
  have HRA : Hid (HoRow wA base ov hs) := hrA
  have HSP : Hid (Shp wA) := hsA
  have HWA : Hid (Below W0.heap.size W0 wA) := hWA
  clear hSA hxA hrA hsA hWA
  go_enter Tryd.func128, Tryd.ntmps128
  go_wp2_with fail
  refine (takeX_any W0 wA g bv l p n ov 1 HXA.out hy hp (by omega) hl).mono ?_
  rintro e w1 ⟨s, k, rfl, hsS, hgr, hcase⟩
  obtain ⟨sa, sn, sc, rfl⟩ := hsS
  have hb1 : BxS w1 w.heap.size shZ := HSA.out.block (hgr.block _ HSA.out.lt (by omega))
  have HGR : Hid (Grw g wA w1) := hgr
  have HB1 : Hid (BxS w1 w.heap.size shZ) := hb1
  have hW1 : Below W0.heap.size W0 w1 := HWA.out.trans (hgr.below hg (by omega))
  have HW1 : Hid (Below W0.heap.size W0 w1) := hW1
  have HGW : Hid (Grw g w w1) := (Grw.ofBelow HBA.out).trans hgr
  obtain ⟨z0, z1, z2, z3, z4, z5⟩ := hb1.cells
  obtain ⟨y0, y1, y2, y3, y4, y5⟩ := hb1.froz
  rcases hcase with ⟨h1, rfl, hys, hx1⟩ | ⟨h1, rfl, hse⟩
  · have hD : ((l.drop p).take 1).length = 1 := by simp; omega
    have hD0 : ((l.drop p).take 1).getD 0 0 = l.getD p 0 := by rw [getD_take _ _ _ (by omega), getD_drop, Nat.add_zero]
    obtain ⟨b, off, hsa, hblt, hcell⟩ := hys.at 0 (by omega)
    subst hsa
    obtain ⟨a', cap', he, hc1, hc2, -⟩ := hys.shape
    rw [hD] at he hc1
    injection he with e1 e2 e3
    subst e1; subst e2; subst e3
    have hc0 := hcell 0 (by omega)
    rw [hD0, Nat.add_zero] at hc0
    have hx8 := ubd l p
    obtain ⟨d, hdd⟩ : ∃ d, depS hs = d := ⟨_, rfl⟩
    have HDD : Hid (depS hs = d) := hdd
    have HR' : Hid ((if 2000 ≤ n ∨ 60 < d then (4, shZ) else tagR (shF (l.getD p 0).toNat)) = R) := by
      have h := HR.out
      unfold fstR at h
      rw [if_neg (by omega), hdd] at h
      exact h
    obtain ⟨x, hxd⟩ : ∃ x, x = (l.getD p 0).toNat := ⟨_, rfl⟩
    rw [← hxd] at HR' hc0 hx8
    have hcw : w1.cell? ⟨b, off, none⟩ = some (.int .u8 (x : Int)) := (HW1.out.cell (p := ⟨b, off, none⟩) hblt).trans hc0
    have HC0 : Hid (W0.cell? ⟨b, off, none⟩ = some (.int .u8 (x : Int))) := hc0
    have hr1 : HoRow w1 base ov hs := HRA.out.grw HXA.out HGR.out
    have HSP1 : Hid (Shp w1) := HSP.out.grw HXA.out HGR.out
    have HX1 : Hid (RdX w1 g bv ((p + 1 : Nat) : Int) n ov) := hx1
    obtain ⟨⟨q0, q1, q2, q3⟩, -⟩ := hx1.facts
    clear hcell hys hxd hD hD0 hdd hgr hb1 hW1 HR HXA HRA HSP HSA HWA HGR HBA hc0
    by_cases hn : 2000 ≤ n
    · have hni : (2000 : Int) ≤ (n : Int) := by omega
      have HE : Hid (R = (4, shZ)) := by unfold Hid; rw [← HR'.out, if_pos (.inl hn)]
      clear hn hr1 hx1
      go_wp2_with fail
      refine bodyPost_ret (results_s2 rfl _ _ w.heap.size shZ rfl HB1.out.setZ) rfl ?_
      rw [HE.out]
      exact ⟨rfl, HGW.out.but (setBxZ_but _ _) (.inr (Nat.le_refl _)), fun h => absurd h (by decide)⟩
    · have hni : ¬ (2000 : Int) ≤ (n : Int) := by omega
      have HN : Hid (¬ 2000 ≤ n) := hn
      have HDEP : Hid (Calls Tryd.prog 82 #[.pointer (some ⟨g, 0, none⟩)] w1 fun e w' => e = .returned (.int .i64 (d : Int)) ∧ Below w1.heap.size w1 w') := by
        have := depth_any w1 g bv _ n ov base hs hx1 hr1
        rw [HDD.out] at this
        exact this
      clear hn hr1 hx1
      go_wp2_with fail
      refine HDEP.out.mono ?_
      rintro e w2 ⟨rfl, b2⟩
      have HB2 : Hid (BxS w2 w.heap.size shZ) := HB1.out.under b2
      have HX2 : Hid (RdX w2 g bv ((p + 1 : Nat) : Int) n ov) := HX1.out.under b2
      have HGW2 : Hid (Grw g w w2) := HGW.out.more b2
      have HW2 : Hid (Below W0.heap.size W0 w2) := HW1.out.trans (b2.mono HW1.out.size)
      obtain ⟨z0, z1, z2, z3, z4, z5⟩ := HB2.out.cells
      obtain ⟨y0, y1, y2, y3, y4, y5⟩ := HB2.out.froz
      have HSP2 : Hid (Shp w2) := HSP1.out.under b2
      have hb2s := b2.size
      clear b2 HB1 HX1 HGW HW1 HSP1 HDEP hcw q0 q1 q2 q3
      by_cases hd : 60 < d
      · have hdi : (60 : Int) < (d : Int) := by omega
        have HE : Hid (R = (4, shZ)) := by unfold Hid; rw [← HR'.out, if_pos (.inr hd)]
        clear hd
        go_wp2_with fail
        refine bodyPost_ret (results_s2 rfl _ _ w.heap.size shZ rfl HB2.out.setZ) rfl ?_
        rw [HE.out]
        exact ⟨rfl, HGW2.out.but (setBxZ_but _ _) (.inr (Nat.le_refl _)), fun h => absurd h (by decide)⟩
      · have hdi : ¬ (60 : Int) < (d : Int) := by omega
        have HRF : Hid (tagR (shF x) = R) := by
          have h := HR'.out
          rw [if_neg (fun h => h.elim HN.out hd)] at h
          exact h
        have HIX : Hid (∀ k : Nat, k < 8 → ∀ wx, (Instr.index 157 shpV (.int .i64 (k : Int))).run Tryd.prog wx = .ok (shV (shT.getD k shZ)) wx) := shp_index
        clear hd HR'
        go_wp2_with (refine wpList_load_shp rfl _ rfl rfl HSP2.out ?_)
        generalize shpV = VS at *
        clear z0 z1 z2 z3 z4 z5 y0 y1 y2 y3 y4 y5
        go_loopg [29] 8 (fun gk s29 wr => ∃ k : Nat, k + gk = 8 ∧ s29 = .int .i64 (k : Int) ∧ Hid (Below w2.heap.size w2 wr) ∧ Hid (NoTag x k))
        case atStart => exact ⟨0, by omega, rfl, Below.refl _ _, fun s hs => by simp at hs⟩
        case round =>
          obtain ⟨k, hk, rfl, HBr, HNT⟩ := hrel
          cases gk with
          | zero =>
            obtain rfl : k = 8 := by omega
            have HE : Hid (R = (4, shZ)) := by unfold Hid; rw [← HRF.out, HNT.out.all]; rfl
            have HB3 : Hid (BxS wr w.heap.size shZ) := HB2.out.under HBr.out
            obtain ⟨z0, z1, z2, z3, z4, z5⟩ := HB3.out.cells
            obtain ⟨y0, y1, y2, y3, y4, y5⟩ := HB3.out.froz
            go_wp2_with fail
            refine bodyPost_ret (results_s2 rfl _ _ w.heap.size shZ rfl HB3.out.setZ) rfl ?_
            rw [HE.out]
            exact ⟨rfl, (HGW2.out.more HBr.out).but (setBxZ_but _ _) (.inr (Nat.le_refl _)), fun h => absurd h (by decide)⟩
          | succ gk' =>
            obtain ⟨s, hsd⟩ : ∃ s, s = shT.getD k shZ := ⟨_, rfl⟩
            have hix := HIX.out k (by omega)
            rw [← hsd] at hix
            unfold shV at hix
            have HSD : Hid (s = shT.getD k shZ) := hsd
            clear hsd
            have hk8 : (k : Int) < 8 := by omega
            obtain ⟨wb, hwb⟩ : ∃ wb, wr.alloc (.cells #[.int .u8 (s.tag : Int), .int .i64 (s.w : Int), .int .i64 (s.lo : Int), .int .i64 (s.hi : Int), .int .i64 (s.al : Int), .int .i64 (s.ea : Int)] 140) = wb := ⟨_, rfl⟩
            have hbb : Below wr.heap.size wr wb := by rw [← hwb]; exact (Below.refl _ _).alloc (Nat.le_refl _) _
            have hbs : BxS wb wr.heap.size s := by rw [← hwb]; exact BxS.new wr s
            have hBb : Below w2.heap.size w2 wb := HBr.out.trans (hbb.mono HBr.out.size)
            have hcb : wb.cell? ⟨b, off, none⟩ = some (.int .u8 (x : Int)) := ((HW2.out.trans (hBb.mono (by have := HW2.out.size; omega))).cell (p := ⟨b, off, none⟩) hblt).trans HC0.out
            have HBS : Hid (BxS wb wr.heap.size s) := hbs
            have HBB : Hid (Below w2.heap.size w2 wb) := hBb
            have HB3 : Hid (BxS wb w.heap.size shZ) := HB2.out.under hBb
            have HGW3 : Hid (Grw g w wb) := HGW2.out.more hBb
            have HX3 : Hid (RdX wb g bv ((p + 1 : Nat) : Int) n ov) := HX2.out.under hBb
            obtain ⟨t0, t1, t2, t3, t4, t5⟩ := hbs.cells
            obtain ⟨z0, z1, z2, z3, z4, z5⟩ := HB3.out.cells
            obtain ⟨y0, y1, y2, y3, y4, y5⟩ := HB3.out.froz
            have hgx : w.heap.size < wr.heap.size := HB2.out.under HBr.out |>.lt
            clear hbb hbs hBb HBr
            go_wp2_with fail
            go_region
            by_cases ht : s.tag = x
            · have hti : ((s.tag : Int) == (x : Int)) = true := by simp [ht]
              have HE : Hid (R = (0, s)) := by unfold Hid; rw [← HRF.out, HNT.out.hit (by omega) (by rw [← HSD.out]; exact ht), ← HSD.out]; rfl
              clear ht
              go_wp2_with fail
              refine bodyPost_ret (results_s2 rfl _ _ w.heap.size s rfl (HB3.out.set s).drew) rfl ?_
              rw [HE.out]
              exact ⟨rfl, (HGW3.out.but (setBxS_but wb w.heap.size s) (.inr (Nat.le_refl _))).drew, fun _ => (HX3.out.block ((setBxS_but wb w.heap.size s).block g (by omega))).drew⟩
            · have hti : ((s.tag : Int) == (x : Int)) = false := by rw [beq_eq_false_iff_ne]; omega
              have HNT2 : Hid (NoTag x (k + 1)) := HNT.out.succ (by omega) (by rw [← HSD.out]; exact ht)
              clear ht
              go_wp2_with fail
              go_roundg gk'
              case measure => omega
              case rel => exact ⟨k + 1, by omega, by go_num, HBB.out.drew, HNT2.out⟩
  · have HE : Hid (R = (3, shZ)) := by unfold Hid; rw [← HR.out]; unfold fstR; rw [if_pos h1]
    rw [hse]
    clear hgr hb1 hW1 h1 hse
    go_wp2_with fail
    refine bodyPost_ret (results_s2 rfl _ _ w.heap.size shZ rfl HB1.out.setZ) rfl ?_
    rw [HE.out]
    exact ⟨rfl, HGW.out.but (setBxZ_but _ _) (.inr (Nat.le_refl _)), fun h => absurd h (by decide)⟩
end Go.Proofs.YtbmondbicnfcpaaDoor
