import Derived.Test.YtbmondbicnfcpaaDoorZExtB
import Derived.Deep.RegionWith
import Derived.Deep.RegionHeld3
import Derived.Deep.Cut

/-
  ext: a shape's box; first.
-/
namespace Go.Proofs.YtbmondbicnfcpaaDoor
open Go.RowKit
set_option linter.unusedVariables false
set_option linter.unusedSimpArgs false

/-- A shape's box. -/
def BxS (w : World) (g : Nat) (s : Sh) : Prop := w.heap[g]? = some (.cells #[.int .u8 (s.tag : Int), .int .i64 (s.w : Int), .int .i64 (s.lo : Int), .int .i64 (s.hi : Int), .int .i64 (s.al : Int), .int .i64 (s.ea : Int)] 140 (0, 0))
theorem BxS.lt {w : World} {g : Nat} {s : Sh} (h : BxS w g s) : g < w.heap.size := (Array.getElem?_eq_some_iff.1 h).1
theorem BxS.cells {w : World} {g : Nat} {s : Sh} (h : BxS w g s) : w.cell? ⟨g, 0, none⟩ = some (.int .u8 (s.tag : Int)) ∧ w.cell? ⟨g, 1, none⟩ = some (.int .i64 (s.w : Int)) ∧ w.cell? ⟨g, 2, none⟩ = some (.int .i64 (s.lo : Int)) ∧ w.cell? ⟨g, 3, none⟩ = some (.int .i64 (s.hi : Int)) ∧ w.cell? ⟨g, 4, none⟩ = some (.int .i64 (s.al : Int)) ∧ w.cell? ⟨g, 5, none⟩ = some (.int .i64 (s.ea : Int)) := by
  unfold BxS at h
  refine ⟨?_, ?_, ?_, ?_, ?_, ?_⟩ <;> simp [World.cell?, h]
theorem BxS.froz {w : World} {g : Nat} {s : Sh} (h : BxS w g s) : w.frozen? ⟨g, 0, none⟩ = false ∧ w.frozen? ⟨g, 1, none⟩ = false ∧ w.frozen? ⟨g, 2, none⟩ = false ∧ w.frozen? ⟨g, 3, none⟩ = false ∧ w.frozen? ⟨g, 4, none⟩ = false ∧ w.frozen? ⟨g, 5, none⟩ = false := by
  unfold BxS at h
  refine ⟨?_, ?_, ?_, ?_, ?_, ?_⟩ <;> simp [World.frozen?, h]
theorem BxS.block {w w' : World} {g : Nat} {s : Sh} (h : BxS w g s) (hb : w'.heap[g]? = w.heap[g]?) : BxS w' g s := by unfold BxS; rw [hb]; exact h
theorem BxS.under {w w' : World} {g : Nat} {s : Sh} (h : BxS w g s) (hb : Below w.heap.size w w') : BxS w' g s := h.block (hb.block g h.lt)
theorem BxS.drew {w : World} {g : Nat} {s : Sh} (h : BxS w g s) : BxS w.drew g s := h
theorem BxS.new (w : World) (s : Sh) : BxS (w.alloc (.cells #[.int .u8 (s.tag : Int), .int .i64 (s.w : Int), .int .i64 (s.lo : Int), .int .i64 (s.hi : Int), .int .i64 (s.al : Int), .int .i64 (s.ea : Int)] 140)) w.heap.size s := heap_alloc_new w _
def setBxS (w : World) (g : Nat) (s : Sh) : World := (((((w.setCell ⟨g, 0, none⟩ (.int .u8 (s.tag : Int))).setCell ⟨g, 1, none⟩ (.int .i64 (s.w : Int))).setCell ⟨g, 2, none⟩ (.int .i64 (s.lo : Int))).setCell ⟨g, 3, none⟩ (.int .i64 (s.hi : Int))).setCell ⟨g, 4, none⟩ (.int .i64 (s.al : Int))).setCell ⟨g, 5, none⟩ (.int .i64 (s.ea : Int))
theorem setBxS_but (w : World) (g : Nat) (s : Sh) : But g w (setBxS w g s) := ((((((But.refl g w).setCell 0 _).setCell 1 _).setCell 2 _).setCell 3 _).setCell 4 _).setCell 5 _
theorem BxS.set {w : World} {g : Nat} {s : Sh} (h : BxS w g s) (s' : Sh) : BxS (setBxS w g s') g s' := by
  unfold BxS at h ⊢
  simp [setBxS, World.setCell, Array.getElem?_modify, h]
def setBxZ (w : World) (g : Nat) : World := (((((w.setCell ⟨g, 0, none⟩ (.int .u8 0)).setCell ⟨g, 1, none⟩ (.int .i64 0)).setCell ⟨g, 2, none⟩ (.int .i64 0)).setCell ⟨g, 3, none⟩ (.int .i64 0)).setCell ⟨g, 4, none⟩ (.int .i64 0)).setCell ⟨g, 5, none⟩ (.int .i64 0)
theorem setBxZ_but (w : World) (g : Nat) : But g w (setBxZ w g) := ((((((But.refl g w).setCell 0 _).setCell 1 _).setCell 2 _).setCell 3 _).setCell 4 _).setCell 5 _
theorem BxS.setZ {w : World} {g : Nat} {s : Sh} (h : BxS w g s) : BxS (setBxZ w g) g shZ := h.set shZ
theorem BxS.load {w : World} {g : Nat} {s : Sh} (h : BxS w g s) : (loadVar 140 ⟨g, 0, none⟩).run Tryd.prog w = .ok (shV s) w := by
  obtain ⟨c0, c1, c2, c3, c4, c5⟩ := h.cells
  simp [loadVar, go_sem, c0, c1, c2, c3, c4, c5, shV]
theorem results_s2 {fn : Func} {q u : Tmp} (h : fn.results = #[.cell q 140, .tmp u]) (tmps : Array Value) (w : World) (g : Nat) (s : Sh) (hq : tmps.getD q undef = .pointer (some ⟨g, 0, none⟩)) (hb : BxS w g s) :
    (results fn tmps).run Tryd.prog w = .ok (.tuple #[shV s, tmps.getD u undef]) w := by
  have hl := hb.load
  simp only [Array.getD_eq_getD_getElem?] at hq
  simp only [results, h]
  simp [hq, asAddr, hl]

theorem HoRow.grw {w w' : World} {g base : Nat} {v ov ov2 : Value} {p n : Int} {hs : List Ho} (h : HoRow w base ov hs) (hx : RdX w g v p n ov2) (hg : Grw g w w') : HoRow w' base ov hs := by
  obtain ⟨⟨h1, h2⟩, h3⟩ := h
  refine ⟨⟨h1, ?_⟩, h3⟩
  rcases h2 with h4 | ⟨k, cap, cur, rfl, hb1, hh, h4⟩
  · exact .inl h4
  · refine .inr ⟨k, cap, cur, rfl, hb1, ?_, h4⟩
    rw [hg.block k (Array.getElem?_eq_some_iff.1 hh).1 (fun e => ?_)]
    · exact hh
    · subst e
      rw [hx.1] at hh
      injection hh with hh
      injection hh with _ e2 _
      exact absurd e2 (by decide)
theorem HoRow.under {w w' : World} {base : Nat} {ov : Value} {hs : List Ho} (h : HoRow w base ov hs) (hb : Below w.heap.size w w') : HoRow w' base ov hs := by
  obtain ⟨⟨h1, h2⟩, h3⟩ := h
  refine ⟨⟨h1, ?_⟩, h3⟩
  rcases h2 with h4 | ⟨k, cap, cur, rfl, hb1, hh, h4⟩
  · exact .inl h4
  · exact .inr ⟨k, cap, cur, rfl, hb1, by rw [hb.block k (Array.getElem?_eq_some_iff.1 hh).1]; exact hh, h4⟩
theorem Shp.grw {w w' : World} {g : Nat} {v ov : Value} {p n : Int} (h : Shp w) (hx : RdX w g v p n ov) (hg : Grw g w w') : Shp w' := by
  have h0 := h 0 _ rfl
  have hne : (0 : Nat) ≠ g := by
    rintro rfl
    obtain ⟨a, m, c, hv⟩ := hx.2.1
    rw [hx.facts.1.1, hv] at h0
    cases h0
  have hG : (0 : Nat) < w.heap.size := World.block_lt_of_cell? w ⟨0, 0, none⟩ h0
  intro j u hj
  rw [World.cell?_of_block (w := w) (hg.block _ hG hne)]
  exact h j u hj

/-- That the first of the shapes have another byte. -/
def NoTag (t k : Nat) : Prop := ∀ s ∈ shT.take k, s.tag ≠ t
theorem NoTag.all {t : Nat} (h : NoTag t 8) : shF t = none := by
  unfold shF
  rw [List.find?_eq_none]
  intro s hs
  have := h s hs
  simpa using this
theorem NoTag.succ {t k : Nat} (h : NoTag t k) (hk : k < 8) (hne : (shT.getD k shZ).tag ≠ t) : NoTag t (k + 1) := by
  intro s hs
  have hk8 : k < shT.length := hk
  rw [List.take_succ_eq_append_getElem hk8] at hs
  rcases List.mem_append.1 hs with hs | hs
  · exact h s hs
  · simp only [List.mem_singleton] at hs
    subst hs
    simpa [List.getD, hk8] using hne
theorem NoTag.hit {t k : Nat} (h : NoTag t k) (hk : k < 8) (he : (shT.getD k shZ).tag = t) : shF t = some (shT.getD k shZ) := by
  have hk8 : k < shT.length := hk
  have e : shT = shT.take k ++ (shT.getD k shZ :: shT.drop (k + 1)) := by
    conv => lhs; rw [← List.take_append_drop k shT]
    congr 1
    rw [List.drop_eq_getElem_cons hk8]
    simp [List.getD, hk8]
  unfold shF
  generalize shT.getD k shZ = x at *
  rw [e, List.find?_append]
  have h1 : (shT.take k).find? (fun s => s.tag == t) = none := by
    rw [List.find?_eq_none]
    intro s hs
    have := h s hs
    simpa using this
  rw [h1]
  simp [he]

/-- first's answer. -/
def FsP (w : World) (g : Nat) (bv : Value) (p n : Nat) (ov : Value) (R : Nat × Sh) (e : Ending) (w' : World) : Prop :=
  e = .returned (.tuple #[shV R.2, .int .i64 (R.1 : Int)]) ∧ Grw g w w' ∧ (R.1 = 0 → RdX w' g bv ((p + 1 : Nat) : Int) n ov)
def FsSt (w wq : World) (wi : World) : Prop := Below wq.heap.size wq wi

set_option maxRecDepth 100000 in
set_option maxHeartbeats 8000000 in
theorem first_any (W0 w : World) (g : Nat) (bv : Value) (l : List UInt8) (p n : Nat) (ov : Value) (base : Nat) (hs : List Ho) (hS : Shp w) (hx : RdX w g bv p n ov) (hr : HoRow w base ov hs) (hy : By W0 bv l) (hW : Below W0.heap.size W0 w) (hg : W0.heap.size ≤ g) (hp : p ≤ l.length) (hl : l.length ≤ 1000000000) :
    Calls Tryd.prog 128 #[.pointer (some ⟨g, 0, none⟩)] w fun e w' => FsP w g bv p n ov (fstR l p n (depS hs)) e w' := by
  obtain ⟨R, hR⟩ : ∃ R, fstR l p n (depS hs) = R := ⟨_, rfl⟩
  have HR : Hid (fstR l p n (depS hs) = R) := hR
  rw [hR]
  clear hR
  obtain ⟨wA, hwA⟩ : ∃ wA, w.alloc (.cells #[.int .u8 0, .int .i64 0, .int .i64 0, .int .i64 0, .int .i64 0, .int .i64 0] 140) = wA := ⟨_, rfl⟩
  have hbA : Below w.heap.size w wA := by rw [← hwA]; exact (Below.refl _ _).alloc (Nat.le_refl _) _
  have hSA : BxS wA w.heap.size shZ := by rw [← hwA]; exact BxS.new w shZ
  have hxA := hx.under hbA
  have hrA := hr.under hbA
  have hsA := hS.under hbA
  have hWA : Below W0.heap.size W0 wA := hW.trans (hbA.mono hW.size)
  have hgl := hx.lt
  have HBA : Hid (Below w.heap.size w wA) := hbA
  have hWs := hW.size
  have hbs := hbA.size
  clear hx hr hS hW hbA
  have HSA : Hid (BxS wA w.heap.size shZ) := hSA
  have HXA : Hid (RdX wA g bv p n ov) := hxA
  have HRA : Hid (HoRow wA base ov hs) := hrA
  have HSP : Hid (Shp wA) := hsA
  have HWA : Hid (Below W0.heap.size W0 wA) := hWA
  clear hSA hxA hrA hsA hWA
  go_enter Tryd.func128, Tryd.ntmps128
  go_wp2_with fail
  refine (takeX_any W0 wA g bv l p n ov 1 HXA.out hy hp (by omega) hl).mono ?_
  rintro e w1 ⟨s, k, rfl, hsS, hgr, hcase⟩
  obtain ⟨sa, sn, sc, rfl⟩ := hsS
  have hb1 : BxS w1 w.heap.size shZ := HSA.out.block (hgr.block _ HSA.out.lt (by omega))
  have HGR : Hid (Grw g wA w1) := hgr
  have HB1 : Hid (BxS w1 w.heap.size shZ) := hb1
  have hW1 : Below W0.heap.size W0 w1 := HWA.out.trans (hgr.below hg (by omega))
  have HW1 : Hid (Below W0.heap.size W0 w1) := hW1
  have HGW : Hid (Grw g w w1) := (Grw.ofBelow HBA.out).trans hgr
  obtain ⟨z0, z1, z2, z3, z4, z5⟩ := hb1.cells
  obtain ⟨y0, y1, y2, y3, y4, y5⟩ := hb1.froz
  rcases hcase with ⟨h1, rfl, hys, hx1⟩ | ⟨h1, rfl, hse⟩
  · have hD : ((l.drop p).take 1).length = 1 := by simp; omega
    have hD0 : ((l.drop p).take 1).getD 0 0 = l.getD p 0 := by rw [getD_take _ _ _ (by omega), getD_drop, Nat.add_zero]
    obtain ⟨b, off, hsa, hblt, hcell⟩ := hys.at 0 (by omega)
    subst hsa
    obtain ⟨a', cap', he, hc1, hc2, -⟩ := hys.shape
    rw [hD] at he hc1
    injection he with e1 e2 e3
    subst e1; subst e2; subst e3
    have hc0 := hcell 0 (by omega)
    rw [hD0, Nat.add_zero] at hc0
    have hx8 := ubd l p
    obtain ⟨d, hdd⟩ : ∃ d, depS hs = d := ⟨_, rfl⟩
    have HDD : Hid (depS hs = d) := hdd
    have HR' : Hid ((if 2000 ≤ n ∨ 60 < d then (4, shZ) else tagR (shF (l.getD p 0).toNat)) = R) := by
      have h := HR.out
      unfold fstR at h
      rw [if_neg (by omega), hdd] at h
      exact h
    obtain ⟨x, hxd⟩ : ∃ x, x = (l.getD p 0).toNat := ⟨_, rfl⟩
    rw [← hxd] at HR' hc0 hx8
    have hcw : w1.cell? ⟨b, off, none⟩ = some (.int .u8 (x : Int)) := (HW1.out.cell (p := ⟨b, off, none⟩) hblt).trans hc0
    have HC0 : Hid (W0.cell? ⟨b, off, none⟩ = some (.int .u8 (x : Int))) := hc0
    have hr1 : HoRow w1 base ov hs := HRA.out.grw HXA.out HGR.out
    have HSP1 : Hid (Shp w1) := HSP.out.grw HXA.out HGR.out
    have HX1 : Hid (RdX w1 g bv ((p + 1 : Nat) : Int) n ov) := hx1
    obtain ⟨⟨q0, q1, q2, q3⟩, -⟩ := hx1.facts
    clear hcell hys hxd hD hD0 hdd hgr hb1 hW1 HR HXA HRA HSP HSA HWA HGR HBA hc0
    by_cases hn : 2000 ≤ n
    · have hni : (2000 : Int) ≤ (n : Int) := by omega
      have HE : Hid (R = (4, shZ)) := by unfold Hid; rw [← HR'.out, if_pos (.inl hn)]
      clear hn hr1 hx1
      go_wp2_with fail
      refine bodyPost_ret (results_s2 rfl _ _ w.heap.size shZ rfl HB1.out.setZ) rfl ?_
      rw [HE.out]
      exact ⟨rfl, HGW.out.but (setBxZ_but _ _) (.inr (Nat.le_refl _)), fun h => absurd h (by decide)⟩
    · have hni : ¬ (2000 : Int) ≤ (n : Int) := by omega
      have HN : Hid (¬ 2000 ≤ n) := hn
      have HDEP : Hid (Calls Tryd.prog 82 #[.pointer (some ⟨g, 0, none⟩)] w1 fun e w' => e = .returned (.int .i64 (d : Int)) ∧ Below w1.heap.size w1 w') := by
        have := depth_any w1 g bv _ n ov base hs hx1 hr1
        rw [HDD.out] at this
        exact this
      clear hn hr1 hx1
      go_wp2_with fail
      refine HDEP.out.mono ?_
      rintro e w2 ⟨rfl, b2⟩
      have HB2 : Hid (BxS w2 w.heap.size shZ) := HB1.out.under b2
      have HX2 : Hid (RdX w2 g bv ((p + 1 : Nat) : Int) n ov) := HX1.out.under b2
      have HGW2 : Hid (Grw g w w2) := HGW.out.more b2
      have HW2 : Hid (Below W0.heap.size W0 w2) := HW1.out.trans (b2.mono HW1.out.size)
      obtain ⟨z0, z1, z2, z3, z4, z5⟩ := HB2.out.cells
      obtain ⟨y0, y1, y2, y3, y4, y5⟩ := HB2.out.froz
      have HSP2 : Hid (Shp w2) := HSP1.out.under b2
      have hb2s := b2.size
      clear b2 HB1 HX1 HGW HW1 HSP1 HDEP hcw q0 q1 q2 q3
      by_cases hd : 60 < d
      · have hdi : (60 : Int) < (d : Int) := by omega
        have HE : Hid (R = (4, shZ)) := by unfold Hid; rw [← HR'.out, if_pos (.inr hd)]
        clear hd
        go_wp2_with fail
        refine bodyPost_ret (results_s2 rfl _ _ w.heap.size shZ rfl HB2.out.setZ) rfl ?_
        rw [HE.out]
        exact ⟨rfl, HGW2.out.but (setBxZ_but _ _) (.inr (Nat.le_refl _)), fun h => absurd h (by decide)⟩
      · have hdi : ¬ (60 : Int) < (d : Int) := by omega
        have HRF : Hid (tagR (shF x) = R) := by
          have h := HR'.out
          rw [if_neg (fun h => h.elim HN.out hd)] at h
          exact h
        have HIX : Hid (∀ k : Nat, k < 8 → ∀ wx, (Instr.index 157 shpV (.int .i64 (k : Int))).run Tryd.prog wx = .ok (shV (shT.getD k shZ)) wx) := shp_index
        clear hd HR'
        go_wp2_with (refine wpList_load_shp rfl _ rfl rfl HSP2.out ?_)
        generalize shpV = VS at *
        clear z0 z1 z2 z3 z4 z5 y0 y1 y2 y3 y4 y5
        go_loopg [29] 8 (fun gk s29 wr => ∃ k : Nat, k + gk = 8 ∧ s29 = .int .i64 (k : Int) ∧ Hid (Below w2.heap.size w2 wr) ∧ Hid (NoTag x k))
        case atStart => exact ⟨0, by omega, rfl, Below.refl _ _, fun s hs => by simp at hs⟩
        case round =>
          obtain ⟨k, hk, rfl, HBr, HNT⟩ := hrel
          cases gk with
          | zero =>
            obtain rfl : k = 8 := by omega
            have HE : Hid (R = (4, shZ)) := by unfold Hid; rw [← HRF.out, HNT.out.all]; rfl
            have HB3 : Hid (BxS wr w.heap.size shZ) := HB2.out.under HBr.out
            obtain ⟨z0, z1, z2, z3, z4, z5⟩ := HB3.out.cells
            obtain ⟨y0, y1, y2, y3, y4, y5⟩ := HB3.out.froz
            go_wp2_with fail
            refine bodyPost_ret (results_s2 rfl _ _ w.heap.size shZ rfl HB3.out.setZ) rfl ?_
            rw [HE.out]
            exact ⟨rfl, (HGW2.out.more HBr.out).but (setBxZ_but _ _) (.inr (Nat.le_refl _)), fun h => absurd h (by decide)⟩
          | succ gk' =>
            obtain ⟨s, hsd⟩ : ∃ s, s = shT.getD k shZ := ⟨_, rfl⟩
            have hix := HIX.out k (by omega)
            rw [← hsd] at hix
            unfold shV at hix
            have HSD : Hid (s = shT.getD k shZ) := hsd
            clear hsd
            have hk8 : (k : Int) < 8 := by omega
            obtain ⟨wb, hwb⟩ : ∃ wb, wr.alloc (.cells #[.int .u8 (s.tag : Int), .int .i64 (s.w : Int), .int .i64 (s.lo : Int), .int .i64 (s.hi : Int), .int .i64 (s.al : Int), .int .i64 (s.ea : Int)] 140) = wb := ⟨_, rfl⟩
            have hbb : Below wr.heap.size wr wb := by rw [← hwb]; exact (Below.refl _ _).alloc (Nat.le_refl _) _
            have hbs : BxS wb wr.heap.size s := by rw [← hwb]; exact BxS.new wr s
            have hBb : Below w2.heap.size w2 wb := HBr.out.trans (hbb.mono HBr.out.size)
            have hcb : wb.cell? ⟨b, off, none⟩ = some (.int .u8 (x : Int)) := ((HW2.out.trans (hBb.mono (by have := HW2.out.size; omega))).cell (p := ⟨b, off, none⟩) hblt).trans HC0.out
            have HBS : Hid (BxS wb wr.heap.size s) := hbs
            have HBB : Hid (Below w2.heap.size w2 wb) := hBb
            have HB3 : Hid (BxS wb w.heap.size shZ) := HB2.out.under hBb
            have HGW3 : Hid (Grw g w wb) := HGW2.out.more hBb
            have HX3 : Hid (RdX wb g bv ((p + 1 : Nat) : Int) n ov) := HX2.out.under hBb
            obtain ⟨t0, t1, t2, t3, t4, t5⟩ := hbs.cells
            obtain ⟨z0, z1, z2, z3, z4, z5⟩ := HB3.out.cells
            obtain ⟨y0, y1, y2, y3, y4, y5⟩ := HB3.out.froz
            have hgx : w.heap.size < wr.heap.size := HB2.out.under HBr.out |>.lt
            clear hbb hbs hBb HBr
            go_wp2_with fail
            go_region
            by_cases ht : s.tag = x
            · have hti : ((s.tag : Int) == (x : Int)) = true := by simp [ht]
              have HE : Hid (R = (0, s)) := by unfold Hid; rw [← HRF.out, HNT.out.hit (by omega) (by rw [← HSD.out]; exact ht), ← HSD.out]; rfl
              clear ht
              go_wp2_with fail
              refine bodyPost_ret (results_s2 rfl _ _ w.heap.size s rfl (HB3.out.set s).drew) rfl ?_
              rw [HE.out]
              exact ⟨rfl, (HGW3.out.but (setBxS_but wb w.heap.size s) (.inr (Nat.le_refl _))).drew, fun _ => (HX3.out.block ((setBxS_but wb w.heap.size s).block g (by omega))).drew⟩
            · have hti : ((s.tag : Int) == (x : Int)) = false := by rw [beq_eq_false_iff_ne]; omega
              have HNT2 : Hid (NoTag x (k + 1)) := HNT.out.succ (by omega) (by rw [← HSD.out]; exact ht)
              clear ht
              go_wp2_with fail
              go_roundg gk'
              case measure => omega
              case rel => exact ⟨k + 1, by omega, by go_num, HBB.out.drew, HNT2.out⟩
  · have HE : Hid (R = (3, shZ)) := by unfold Hid; rw [← HR.out]; unfold fstR; rw [if_pos h1]
    rw [hse]
    clear hgr hb1 hW1 h1 hse
    go_wp2_with fail
    refine bodyPost_ret (results_s2 rfl _ _ w.heap.size shZ rfl HB1.out.setZ) rfl ?_
    rw [HE.out]
    exact ⟨rfl, HGW.out.but (setBxZ_but _ _) (.inr (Nat.le_refl _)), fun h => absurd h (by decide)⟩
end Go.Proofs.YtbmondbicnfcpaaDoor


/-
  ext: howMany.
-/
namespace Go.Proofs.YtbmondbicnfcpaaDoor
open Go.RowKit
set_option linter.unusedVariables false
set_option linter.unusedSimpArgs false

/-- howMany's answer. -/
def HmP (w : World) (g : Nat) (bv : Value) (p n : Nat) (ov : Value) (s : Sh) (R : Nat × Nat) (e : Ending) (w' : World) : Prop :=
  e = .returned (.tuple #[.int .i64 (R.2 : Int), .int .i64 (R.1 : Int)]) ∧ Grw g w w' ∧ (R.1 = 0 → RdX w' g bv ((p + s.w : Nat) : Int) n ov)

set_option maxRecDepth 100000 in
set_option maxHeartbeats 8000000 in
theorem howMany_any (W0 w : World) (g : Nat) (bv : Value) (l : List UInt8) (p n : Nat) (ov : Value) (s : Sh) (hx : RdX w g bv p n ov) (hy : By W0 bv l) (hW : Below W0.heap.size W0 w) (hg : W0.heap.size ≤ g) (hp : p ≤ l.length) (hl : l.length ≤ 1000000000)
    (h1 : s.w ≤ 4) (h2 : s.lo ≤ 1) (h3 : s.hi ≤ 2000) (h4 : s.tag = 108 → n ≤ s.hi) (h5 : s.tag ≤ 255) (hn : n ≤ 2000) :
    Calls Tryd.prog 129 #[.pointer (some ⟨g, 0, none⟩), shV s] w fun e w' => HmP w g bv p n ov s (manR l p n s) e w' := by
  obtain ⟨R, hR⟩ : ∃ R, manR l p n s = R := ⟨_, rfl⟩
  have HR : Hid (manR l p n s = R) := hR
  rw [hR]
  clear hR
  unfold shV
  obtain ⟨wA, hwA⟩ : ∃ wA, w.alloc (.cells #[.int .u8 (s.tag : Int), .int .i64 (s.w : Int), .int .i64 (s.lo : Int), .int .i64 (s.hi : Int), .int .i64 (s.al : Int), .int .i64 (s.ea : Int)] 140) = wA := ⟨_, rfl⟩
  have hbA : Below w.heap.size w wA := by rw [← hwA]; exact (Below.refl _ _).alloc (Nat.le_refl _) _
  have hSA : BxS wA w.heap.size s := by rw [← hwA]; exact BxS.new w s
  have hxA := hx.under hbA
  have hWA : Below W0.heap.size W0 wA := hW.trans (hbA.mono hW.size)
  have hgl := hx.lt
  have hbs := hbA.size
  have hWs := hW.size
  obtain ⟨t0, t1, t2, t3, t4, t5⟩ := hSA.cells
  have HSA : Hid (BxS wA w.heap.size s) := hSA
  have HXA : Hid (RdX wA g bv p n ov) := hxA
  have HWA : Hid (Below W0.heap.size W0 wA) := hWA
  have HBA : Hid (Below w.heap.size w wA) := hbA
  clear hx hW hbA hSA hxA hWA
  go_enter Tryd.func129, Tryd.ntmps129
  go_wp2_with fail
  refine (takeX_any W0 wA g bv l p n ov s.w HXA.out hy hp (by omega) hl).mono ?_
  rintro e w1 ⟨v, k, rfl, hsS, hgr, hcase⟩
  obtain ⟨sa, sn, sc, rfl⟩ := hsS
  have hb1 : BxS w1 w.heap.size s := HSA.out.block (hgr.block _ HSA.out.lt (by omega))
  have HB1 : Hid (BxS w1 w.heap.size s) := hb1
  have HW1 : Hid (Below W0.heap.size W0 w1) := HWA.out.trans (hgr.below hg (by omega))
  have HGW : Hid (Grw g w w1) := (Grw.ofBelow HBA.out).trans hgr
  clear t0 t1 t2 t3 t4 t5
  obtain ⟨t0, t1, t2, t3, t4, t5⟩ := hb1.cells
  rcases hcase with ⟨q1, rfl, hys, hx1⟩ | ⟨q1, rfl, hse⟩
  · obtain ⟨c, hcd⟩ : ∃ c, c = highL ((l.drop p).take s.w) := ⟨_, rfl⟩
    have hD : ((l.drop p).take s.w).length ≤ 4 := by simp; omega
    have hc32 : c < 4294967296 := by
      have h6 := high_lt ((l.drop p).take s.w).length ((l.drop p).take s.w) rfl
      have h7 : 256 ^ ((l.drop p).take s.w).length ≤ 256 ^ 4 := Nat.pow_le_pow_right (by omega) hD
      have h8 : (256 : Nat) ^ 4 = 4294967296 := by decide
      omega
    have HHF : Hid (∀ wx, Below w1.heap.size w1 wx → Calls Tryd.prog 156 #[.slice sa sn sc] wx fun e w' => e = .returned (.int .i64 (c : Int)) ∧ w' = wx) := fun wx hb => by
      rw [hcd]
      exact highFirst_any _ _ wx ((hys.under HW1.out).under hb) hD
    have HX1 : Hid (RdX w1 g bv ((p + s.w : Nat) : Int) n ov) := hx1
    obtain ⟨⟨d0, d1, d2, d3⟩, -⟩ := hx1.facts
    have HR' : Hid ((if c < s.lo ∨ (if s.tag = 108 then s.hi - n else s.hi) < c then (4, 0) else (0, c)) = R) := by
      have h := HR.out
      unfold manR at h
      rw [if_neg (by omega), ← hcd] at h
      exact h
    have hci : (c : Int) < 4294967296 := by omega
    clear hys hx1 hcd hD hgr hb1 HR HXA HSA HWA HBA
    obtain ⟨hi', hhi⟩ : ∃ hi', hi' = if s.tag = 108 then s.hi - n else s.hi := ⟨_, rfl⟩
    rw [← hhi] at HR'
    have hni : (n : Int) ≤ 2000 := by omega
    have h3i : (s.hi : Int) ≤ 2000 := by omega
    go_wp2_with fail
    go_quiet (first | (go_at_call 156; exact Calls.quiet_of_same (HHF.out _ (by first | exact Below.refl _ _ | exact below_drewN (Below.refl _ _) _))))
    by_cases ht : s.tag = 108
    · have hti : ((s.tag : Int) == 108) = true := by simp [ht]
      have hle := h4 ht
      rw [if_pos ht] at hhi
      have hhi2 : (s.hi : Int) - (n : Int) = (hi' : Int) := by omega
      clear ht hhi h4
      by_cases hlo : c < s.lo
      · have hloi : (c : Int) < (s.lo : Int) := by omega
        have HE : Hid (R = (4, 0)) := by unfold Hid; rw [← HR'.out, if_pos (.inl hlo)]
        clear hlo
        go_wp2_with fail
        go_ret2
        rw [HE.out]
        exact ⟨rfl, HGW.out.drewN _, fun h => absurd h (by decide)⟩
      · have hloi : ¬ (c : Int) < (s.lo : Int) := by omega
        by_cases hh : hi' < c
        · have hhI : (hi' : Int) < (c : Int) := by omega
          have HE : Hid (R = (4, 0)) := by unfold Hid; rw [← HR'.out, if_pos (.inr hh)]
          clear hlo hh
          go_wp2_with fail
          go_ret2
          rw [HE.out]
          exact ⟨rfl, HGW.out.drewN _, fun h => absurd h (by decide)⟩
        · have hhI : ¬ (hi' : Int) < (c : Int) := by omega
          have HE : Hid (R = (0, c)) := by unfold Hid; rw [← HR'.out, if_neg (fun h => h.elim hlo hh)]
          clear hlo hh
          go_wp2_with fail
          go_ret2
          rw [HE.out]
          exact ⟨rfl, HGW.out.drewN _, fun _ => HX1.out.drewN _⟩
    · have hti : ((s.tag : Int) == 108) = false := by rw [beq_eq_false_iff_ne]; omega
      rw [if_neg ht] at hhi
      subst hhi
      clear ht h4
      by_cases hlo : c < s.lo
      · have hloi : (c : Int) < (s.lo : Int) := by omega
        have HE : Hid (R = (4, 0)) := by unfold Hid; rw [← HR'.out, if_pos (.inl hlo)]
        clear hlo
        go_wp2_with fail
        go_ret2
        rw [HE.out]
        exact ⟨rfl, HGW.out.drewN _, fun h => absurd h (by decide)⟩
      · have hloi : ¬ (c : Int) < (s.lo : Int) := by omega
        by_cases hh : s.hi < c
        · have hhI : (s.hi : Int) < (c : Int) := by omega
          have HE : Hid (R = (4, 0)) := by unfold Hid; rw [← HR'.out, if_pos (.inr hh)]
          clear hlo hh
          go_wp2_with fail
          go_ret2
          rw [HE.out]
          exact ⟨rfl, HGW.out.drewN _, fun h => absurd h (by decide)⟩
        · have hhI : ¬ (s.hi : Int) < (c : Int) := by omega
          have HE : Hid (R = (0, c)) := by unfold Hid; rw [← HR'.out, if_neg (fun h => h.elim hlo hh)]
          clear hlo hh
          go_wp2_with fail
          go_ret2
          rw [HE.out]
          exact ⟨rfl, HGW.out.drewN _, fun _ => HX1.out.drewN _⟩
  · have HE : Hid (R = (3, 0)) := by unfold Hid; rw [← HR.out]; unfold manR; rw [if_pos q1]
    rw [hse]
    clear hgr hb1 q1 hse
    go_wp2_with fail
    go_ret2
    rw [HE.out]
    exact ⟨rfl, HGW.out, fun h => absurd h (by decide)⟩
end Go.Proofs.YtbmondbicnfcpaaDoor


/-
  ext: alone.
-/
namespace Go.Proofs.YtbmondbicnfcpaaDoor
open Go.RowKit
set_option linter.unusedVariables false
set_option linter.unusedSimpArgs false

/-- A small number has but one sign and one list of limbs. -/
theorem num_one {n : Bool} {z : List Int} {x : Int} (hg : Good n z) (hok : Ok z) (h : Z n (V z) = x) (hx : x.natAbs < 4294967296) : n = decide (x < 0) ∧ z = if x = 0 then [] else [(x.natAbs : Int)] := by
  obtain ⟨A, hA⟩ := Int.eq_ofNat_of_zero_le (V_nonneg hok)
  have hab : x.natAbs = A := by rw [← h]; exact natAbs_Z n hok hA
  have hsg := Z_pos hg hok
  rw [h] at hsg
  have hn : n = decide (x < 0) := by
    cases n
    · have := hsg.2 rfl; simp; omega
    · have := hsg.1 rfl; simp; omega
  refine ⟨hn, ?_⟩
  by_cases h0 : x = 0
  · rw [if_pos h0]
    refine Nm_inj hok Ok.nil hg.2.1 Nm_nil ?_
    rw [hA]; simp only [V]; omega
  · rw [if_neg h0]
    refine Nm_inj hok ?_ hg.2.1 ?_ ?_
    · intro y hy
      simp only [List.mem_singleton] at hy
      omega
    · intro _
      simp
      omega
    · rw [hA]; simp only [V]; omega

def AlP (w : World) (t : Tm) (e : Ending) (w' : World) : Prop := ∃ v, e = .returned v ∧ IsT (veil (fromB w.heap.size) w') t v ∧ Below w.heap.size w w'
theorem al_int {w w1 : World} {n : Bool} {p : Option Addr} {z : List Int} {c : Nat} (hs : Sl (veil (fromB (w.heap.size + 1)) w1) (.slice p z.length c) z) (hB : Below w.heap.size w w1) :
    AlP w (.mk 1 n z ⟨#[]⟩ 0 []) (.returned (tmV 1 n (.slice p z.length c) ⟨#[]⟩ 0 (.slice none 0 0))) (setBt w1 w.heap.size 1 n (.slice p z.length c) ⟨#[]⟩ 0 (.slice none 0 0)) := by
  have hbu := setBt_but w1 w.heap.size 1 n (.slice p z.length c) ⟨#[]⟩ 0 (.slice none 0 0)
  refine ⟨_, rfl, IsT.shut (by omega) (by omega) (by decide) (hs.veiled (by rw [hbu.size]; exact Nat.le_refl _) (fun b hb hlt => ⟨hbu.block b (by have := fromB_is.1 hb; omega), fromB_is.2 (by have := fromB_is.1 hb; omega)⟩)) (Ts.nil _), hB.trans (hbu.below (Nat.le_refl _))⟩
theorem al_str {w w1 : World} (k : Int) (hk : -9223372036854775808 ≤ k ∧ k ≤ 9223372036854775807) (S : ByteArray) (hS : (S.size : Int) ≤ 140737488355328) (hB : Below w.heap.size w w1) :
    AlP w (.mk k false [] S 0 []) (.returned (tmV k false (.slice none 0 0) S 0 (.slice none 0 0))) (setBt w1 w.heap.size k false (.slice none 0 0) S 0 (.slice none 0 0)) :=
  ⟨_, rfl, IsT.shut hk (by omega) hS (Sl.nil _) (Ts.nil _), hB.trans ((setBt_but _ _ _ _ _ _ _ _).below (Nat.le_refl _))⟩

/-- How many bytes a tag may have with it. -/
def alF (tag m : Nat) : Prop := (tag = 97 → m = 1) ∧ (tag = 98 → m = 4) ∧ (tag = 110 → 1 ≤ m) ∧ m ≤ 401

set_option maxRecDepth 100000 in
set_option maxHeartbeats 8000000 in
theorem alone_any (tag : Nat) (v : Value) (D : List UInt8) (w : World) (hy : By w v D) (hf : alF tag D.length) (ht : tag ≤ 255) :
    Calls Tryd.prog 131 #[.int .u8 (tag : Int), v] w fun e w' => AlP w (rawT tag D) e w' := by
  obtain ⟨hf1, hf2, hf3, hf4⟩ := hf
  obtain ⟨t, htd⟩ : ∃ t, rawT tag D = t := ⟨_, rfl⟩
  have HT : Hid (rawT tag D = t) := htd
  rw [htd]
  clear htd
  obtain ⟨a, cap, rfl, hc, hcm, hnl⟩ := hy.shape
  obtain ⟨wA, hwA⟩ : ∃ wA, w.alloc (.cells #[.int .i64 0, .bool false, .slice none 0 0, .string ⟨#[]⟩, .int .i64 0, .slice none 0 0] 29) = wA := ⟨_, rfl⟩
  have hBt : Bt wA w.heap.size 0 false (.slice none 0 0) ⟨#[]⟩ 0 (.slice none 0 0) := by rw [← hwA]; exact Bt.new w _ _ _ _ _ _ ⟨_, _, _, rfl⟩ ⟨_, _, _, rfl⟩
  have hBA : Below w.heap.size w wA := by rw [← hwA]; exact (Below.refl _ _).alloc (Nat.le_refl _) _
  have hszA : wA.heap.size = w.heap.size + 1 := by rw [← hwA]; simp
  have hyA := hy.under hBA
  obtain ⟨a0, a1, a2, a3, a4, a5⟩ := hBt.cells
  obtain ⟨f0, f1, f2, f3, f4, f5⟩ := hBt.froz
  have HBt : Hid (Bt wA w.heap.size 0 false (.slice none 0 0) ⟨#[]⟩ 0 (.slice none 0 0)) := hBt
  have HBA : Hid (Below w.heap.size w wA) := hBA
  have HSZ : Hid (wA.heap.size = w.heap.size + 1) := hszA
  have HYA : Hid (By wA (.slice a D.length cap) D) := hyA
  clear hBt hBA hszA hy
  by_cases h97 : tag = 97
  · have hl := hf1 h97
    have q1 : ((tag : Int) == 97) = true := by simp [h97]
    have hE : t = numT (highL D) := by rw [← HT.out]; unfold rawT; rw [if_pos h97]
    have hh : highL D ≤ 255 := by have := high_lt 1 D hl; omega
    have HE : Hid _ := hE
    have HHF : Hid (Calls Tryd.prog 156 #[.slice a D.length cap] wA fun e w' => e = .returned (.int .i64 (highL D : Int)) ∧ w' = wA) := highFirst_any _ D wA HYA.out (by omega)
    obtain ⟨x, hx⟩ : ∃ x : Int, x = (highL D : Int) := ⟨_, rfl⟩
    rw [← hx] at HE HHF
    have hx0 : 0 ≤ x := by omega
    have hx1 : x ≤ 255 := by omega
    clear hyA h97 hE hh hx hl hf1 hf2 hf3
    go_enter Tryd.func131, Tryd.ntmps131
    go_wp2_with fail
    refine HHF.out.mono ?_
    rintro e w1 ⟨rfl, rfl⟩
    go_wp2_with fail
    refine (of_new x w1 (by omega) (by omega)).mono ?_
    rintro e w2 ⟨n, p, z, c, rfl, hs, hg, hz, b2⟩
    have HN : Hid (n = decide (x < 0) ∧ z = if x = 0 then [] else [(x.natAbs : Int)]) := num_one hg hs.ok hz (by omega)
    have HS : Hid (Sl (veil (fromB (w.heap.size + 1)) w2) (.slice p z.length c) z) := by unfold Hid; rw [← HSZ.out]; exact hs
    have HB2 : Hid (Bt w2 w.heap.size 0 false (.slice none 0 0) ⟨#[]⟩ 0 (.slice none 0 0)) := HBt.out.under b2
    have HBw : Hid (Below w.heap.size w w2) := HBA.out.trans (b2.mono (by rw [HSZ.out]; omega))
    obtain ⟨a0, a1, a2, a3, a4, a5⟩ := HB2.out.cells
    obtain ⟨f0, f1, f2, f3, f4, f5⟩ := HB2.out.froz
    clear hs hg hz b2
    go_wp2_with fail
    refine bodyPost_ret (results_bt1 rfl _ _ w.heap.size 1 n (.slice p z.length c) ⟨#[]⟩ 0 (.slice none 0 0) rfl (HB2.out.set 1 n (.slice p z.length c) ⟨#[]⟩ 0 (.slice none 0 0) ⟨_, _, _, rfl⟩ ⟨_, _, _, rfl⟩)) rfl ?_
    have h := al_int (n := n) HS.out HBw.out
    rw [HE.out]
    unfold numT
    rw [← HN.out.1, ← HN.out.2]
    exact h
  by_cases h98 : tag = 98
  · have hl := hf2 h98
    have q1 : ((tag : Int) == 97) = false := by simp [h98]
    have q2 : ((tag : Int) == 98) = true := by simp [h98]
    have hE : t = numT (sig32 (highL D)) := by rw [← HT.out]; unfold rawT; rw [if_neg h97, if_pos h98]
    have hh : highL D < 4294967296 := by
      have h := high_lt 4 D hl
      have h8 : (256 : Nat) ^ 4 = 4294967296 := by decide
      omega
    have HE : Hid _ := hE
    have HHF : Hid (Calls Tryd.prog 156 #[.slice a D.length cap] wA fun e w' => e = .returned (.int .i64 (highL D : Int)) ∧ w' = wA) := highFirst_any _ D wA HYA.out (by omega)
    obtain ⟨x, hx⟩ : ∃ x : Nat, x = highL D := ⟨_, rfl⟩
    rw [← hx] at HE HHF hh
    obtain ⟨y, hy⟩ : ∃ y, y = sig32 x := ⟨_, rfl⟩
    rw [← hy] at HE
    have hw : IntKind.i32.wrap (x : Int) = y := by
      rw [hy]; unfold sig32
      rw [IntKind.wrap_i32]
      split <;> omega
    have hy0 : -2147483648 ≤ y ∧ y ≤ 2147483647 := by rw [hy]; unfold sig32; split <;> omega
    obtain ⟨hy1, hy2⟩ := hy0
    clear hyA h97 h98 hE hh hx hy hl hf1 hf2 hf3
    go_enter Tryd.func131, Tryd.ntmps131
    go_wp2_with fail
    refine HHF.out.mono ?_
    rintro e w1 ⟨rfl, rfl⟩
    go_wp2_with fail
    refine (of_new y w1 (by omega) (by omega)).mono ?_
    rintro e w2 ⟨n, p, z, c, rfl, hs, hg, hz, b2⟩
    have HN : Hid (n = decide (y < 0) ∧ z = if y = 0 then [] else [(y.natAbs : Int)]) := num_one hg hs.ok hz (by omega)
    have HS : Hid (Sl (veil (fromB (w.heap.size + 1)) w2) (.slice p z.length c) z) := by unfold Hid; rw [← HSZ.out]; exact hs
    have HB2 : Hid (Bt w2 w.heap.size 0 false (.slice none 0 0) ⟨#[]⟩ 0 (.slice none 0 0)) := HBt.out.under b2
    have HBw : Hid (Below w.heap.size w w2) := HBA.out.trans (b2.mono (by rw [HSZ.out]; omega))
    obtain ⟨a0, a1, a2, a3, a4, a5⟩ := HB2.out.cells
    obtain ⟨f0, f1, f2, f3, f4, f5⟩ := HB2.out.froz
    clear hs hg hz b2
    go_wp2_with fail
    refine bodyPost_ret (results_bt1 rfl _ _ w.heap.size 1 n (.slice p z.length c) ⟨#[]⟩ 0 (.slice none 0 0) rfl (HB2.out.set 1 n (.slice p z.length c) ⟨#[]⟩ 0 (.slice none 0 0) ⟨_, _, _, rfl⟩ ⟨_, _, _, rfl⟩)) rfl ?_
    have h := al_int (n := n) HS.out HBw.out
    rw [HE.out]
    unfold numT
    rw [← HN.out.1, ← HN.out.2]
    exact h
  by_cases h110 : tag = 110
  · have r1 : ((tag : Int) == 97) = false := by simp [h110]
    have r2 : ((tag : Int) == 98) = false := by simp [h110]
    have r3 : ((tag : Int) == 110) = true := by simp [h110]
    have h0 := hf3 h110
    have HE : Hid (t = .mk 1 (decide (D.getD 0 0 ≠ 0)) (limR (D.drop 1) (D.drop 1).length) ⟨#[]⟩ 0 []) := by unfold Hid; rw [← HT.out]; unfold rawT; rw [if_neg h97, if_neg h98, if_pos h110]
    obtain ⟨b, off, rfl, hlt, hcell⟩ := hyA.at 0 (by omega)
    have hc0 := hcell 0 (by omega)
    rw [Nat.add_zero] at hc0
    have hx8 := ubd D 0
    obtain ⟨x, hxd⟩ : ∃ x, x = (D.getD 0 0).toNat := ⟨_, rfl⟩
    rw [← hxd] at hc0 hx8
    have hne : ((x : Int) != 0) = decide (D.getD 0 0 ≠ 0) := by
      rw [hxd]
      generalize D.getD 0 0 = d
      have e : (d ≠ 0) ↔ d.toNat ≠ 0 := by
        constructor
        · intro h e; exact h (UInt8.toNat_inj.1 (by simpa using e))
        · intro h e; subst e; exact h rfl
      rw [Bool.eq_iff_iff]
      simp only [bne_iff_ne, decide_eq_true_eq, e]
      omega
    obtain ⟨ng, hng⟩ : ∃ ng, ng = decide (D.getD 0 0 ≠ 0) := ⟨_, rfl⟩
    rw [← hng] at hne HE
    obtain ⟨ob, hob⟩ : ∃ ob, ob = if cap = 1 then off else off + 1 := ⟨_, rfl⟩
    have hy1 := hyA.dropI 1 ob (by omega) hob
    have hq : (if cap = 1 then some (⟨b, off, none⟩ : Addr) else some ⟨b, off + 1, none⟩) = some ⟨b, ob, none⟩ := by rw [hob]; split <;> rfl
    obtain ⟨m, hm⟩ : ∃ m, m = D.length := ⟨_, rfl⟩
    have hm1 : (1 : Int) ≤ (m : Int) := by omega
    have hm2 : (m : Int) ≤ 401 := by omega
    have hm3 : (m : Int) ≤ (cap : Int) := by omega
    have hlim : ((D.drop 1).length + 3) / 4 = (limR (D.drop 1) (D.drop 1).length).length := (limR_len _ _).symm
    have hLI : ∀ wx, Below wA.heap.size wA wx → Calls Tryd.prog 157 #[.slice (some ⟨b, ob, none⟩) (m - 1) (cap - 1)] wx fun e w' => ∃ p z c, e = .returned (.slice p z.length c) ∧ Sl (veil (fromB wx.heap.size) w') (.slice p z.length c) z ∧ Below wx.heap.size wx w' ∧ z = limR (D.drop 1) (D.drop 1).length := fun wx hb => by
      rw [hm]
      refine (limbs_any _ (D.drop 1) wx (hy1.under hb) (by simp; omega)).mono ?_
      rintro e w' ⟨p, c, rfl, hs, hbw⟩
      rw [hlim] at hs ⊢
      exact ⟨p, _, c, rfl, hs, hbw, rfl⟩
    have HLI : Hid _ := hLI
    have HC0 : Hid (wA.cell? ⟨b, off, none⟩ = some (.int .u8 (x : Int)) ∧ b < wA.heap.size) := ⟨hc0, hlt⟩
    rw [← hm]
    have hc0d : wA.drew.cell? ⟨b, off, none⟩ = some (.int .u8 (x : Int)) := hc0
    clear hyA h97 h98 h110 hf1 hf2 hf3 hxd hng hob hy1 hlim hLI hm h0 hcell HT HYA hnl hc hcm
    go_enter Tryd.func131, Tryd.ntmps131
    go_wp2_with fail
    go_region_with (first
      | (go_at_call 157; refine (HLI.out _ (by first | exact (Below.refl _ _).drew | exact below_drewN (Below.refl _ _) _ | exact Below.refl _ _)).mono ?_; rintro e w2 ⟨p, z, c, rfl, hs, b2, hz⟩; have hk2 : Below wA.heap.size wA w2 := (by first | exact ((Below.refl _ _).drew).trans (b2.mono (Nat.le_refl _)) | exact (below_drewN (Below.refl _ _) _).trans (b2.mono (Nat.le_refl _)) | exact b2); have hc2 : w2.cell? ⟨b, off, none⟩ = some (.int .u8 (x : Int)) := (hk2.cell (p := ⟨b, off, none⟩) HC0.out.2).trans HC0.out.1; have HZ : Hid (z = limR (D.drop 1) (D.drop 1).length) := hz; have HS : Hid (Sl (veil (fromB (w.heap.size + 1)) w2) (.slice p z.length c) z) := (by unfold Hid; rw [← HSZ.out]; exact hs); have HK2 : Hid (Below wA.heap.size wA w2) := hk2; clear hz hs b2; obtain ⟨b0, b1, b2', b3, b4, b5⟩ := (HBt.out.under hk2).cells; obtain ⟨g0, g1, g2, g3, g4, g5⟩ := (HBt.out.under hk2).froz))
    all_goals
      go_wp2_with fail
      refine bodyPost_ret (results_bt1 rfl _ _ w.heap.size 1 ng (.slice p z.length c) ⟨#[]⟩ 0 (.slice none 0 0) rfl ((HBt.out.under HK2.out).set 1 ng (.slice p z.length c) ⟨#[]⟩ 0 (.slice none 0 0) ⟨_, _, _, rfl⟩ ⟨_, _, _, rfl⟩)) rfl ?_
      have h := al_int (n := ng) HS.out (HBA.out.trans (HK2.out.mono (by rw [HSZ.out]; omega)))
      rw [HE.out, ← HZ.out]
      exact h
  have r1 : ((tag : Int) == 97) = false := by rw [beq_eq_false_iff_ne]; omega
  have r2 : ((tag : Int) == 98) = false := by rw [beq_eq_false_iff_ne]; omega
  have r3 : ((tag : Int) == 110) = false := by rw [beq_eq_false_iff_ne]; omega
  have hsz : (⟨D.toArray⟩ : ByteArray).size = D.length := by simp [ByteArray.size]
  have htx := hyA.text
  have HSS : Hid (((⟨D.toArray⟩ : ByteArray).size : Int) ≤ 140737488355328) := by unfold Hid; rw [hsz]; omega
  clear hyA hsz
  by_cases h119 : tag = 119
  · have r4 : ((tag : Int) == 119) = true := by simp [h119]
    have HE : Hid (t = .mk 2 false [] ⟨D.toArray⟩ 0 []) := by unfold Hid; rw [← HT.out]; unfold rawT; rw [if_neg h97, if_neg h98, if_neg h110, if_pos h119]
    clear h97 h98 h110 h119
    obtain ⟨S, hS⟩ : ∃ S : ByteArray, S = ⟨D.toArray⟩ := ⟨_, rfl⟩
    rw [← hS] at htx HE HSS
    clear hS
    go_enter Tryd.func131, Tryd.ntmps131
    go_wp2_with fail
    refine bodyPost_ret (results_bt1 rfl _ _ w.heap.size 2 false (.slice none 0 0) S 0 (.slice none 0 0) rfl (HBt.out.set 2 false (.slice none 0 0) S 0 (.slice none 0 0) ⟨_, _, _, rfl⟩ ⟨_, _, _, rfl⟩)) rfl ?_
    rw [HE.out]
    exact al_str 2 (by omega) S HSS.out HBA.out
  have r4 : ((tag : Int) == 119) = false := by rw [beq_eq_false_iff_ne]; omega
  by_cases h109 : tag = 109
  · have r5 : ((tag : Int) == 109) = true := by simp [h109]
    have HE : Hid (t = .mk 6 false [] ⟨D.toArray⟩ 0 []) := by unfold Hid; rw [← HT.out]; unfold rawT; rw [if_neg h97, if_neg h98, if_neg h110, if_neg h119, if_pos h109]
    clear h97 h98 h110 h119 h109
    obtain ⟨S, hS⟩ : ∃ S : ByteArray, S = ⟨D.toArray⟩ := ⟨_, rfl⟩
    rw [← hS] at htx HE HSS
    clear hS
    go_enter Tryd.func131, Tryd.ntmps131
    go_wp2_with fail
    refine bodyPost_ret (results_bt1 rfl _ _ w.heap.size 6 false (.slice none 0 0) S 0 (.slice none 0 0) rfl (HBt.out.set 6 false (.slice none 0 0) S 0 (.slice none 0 0) ⟨_, _, _, rfl⟩ ⟨_, _, _, rfl⟩)) rfl ?_
    rw [HE.out]
    exact al_str 6 (by omega) S HSS.out HBA.out
  have r5 : ((tag : Int) == 109) = false := by rw [beq_eq_false_iff_ne]; omega
  by_cases h108 : tag = 108
  · have r6 : ((tag : Int) == 108) = true := by simp [h108]
    have HE : Hid (t = .mk 4 false [] ⟨#[]⟩ 0 []) := by unfold Hid; rw [← HT.out]; unfold rawT; rw [if_neg h97, if_neg h98, if_neg h110, if_neg h119, if_neg h109, if_pos h108]
    clear h97 h98 h110 h119 h109 h108 htx
    go_enter Tryd.func131, Tryd.ntmps131
    go_wp2_with fail
    refine bodyPost_ret (results_bt1 rfl _ _ w.heap.size 4 false (.slice none 0 0) ⟨#[]⟩ 0 (.slice none 0 0) rfl (HBt.out.set 4 false (.slice none 0 0) ⟨#[]⟩ 0 (.slice none 0 0) ⟨_, _, _, rfl⟩ ⟨_, _, _, rfl⟩)) rfl ?_
    rw [HE.out]
    exact al_str 4 (by omega) ⟨#[]⟩ (by decide) HBA.out
  have r6 : ((tag : Int) == 108) = false := by rw [beq_eq_false_iff_ne]; omega
  by_cases h104 : tag = 104
  · have r7 : ((tag : Int) == 104) = true := by simp [h104]
    have HE : Hid (t = .mk 5 false [] ⟨#[]⟩ 0 []) := by unfold Hid; rw [← HT.out]; unfold rawT; rw [if_neg h97, if_neg h98, if_neg h110, if_neg h119, if_neg h109, if_neg h108, if_pos h104]
    clear h97 h98 h110 h119 h109 h108 h104 htx
    go_enter Tryd.func131, Tryd.ntmps131
    go_wp2_with fail
    refine bodyPost_ret (results_bt1 rfl _ _ w.heap.size 5 false (.slice none 0 0) ⟨#[]⟩ 0 (.slice none 0 0) rfl (HBt.out.set 5 false (.slice none 0 0) ⟨#[]⟩ 0 (.slice none 0 0) ⟨_, _, _, rfl⟩ ⟨_, _, _, rfl⟩)) rfl ?_
    rw [HE.out]
    exact al_str 5 (by omega) ⟨#[]⟩ (by decide) HBA.out
  have r7 : ((tag : Int) == 104) = false := by rw [beq_eq_false_iff_ne]; omega
  have HE : Hid (t = .mk 3 false [] ⟨#[]⟩ 0 []) := by unfold Hid; rw [← HT.out]; unfold rawT; rw [if_neg h97, if_neg h98, if_neg h110, if_neg h119, if_neg h109, if_neg h108, if_neg h104]; rfl
  clear h97 h98 h110 h119 h109 h108 h104 htx
  go_enter Tryd.func131, Tryd.ntmps131
  go_wp2_with fail
  refine bodyPost_ret (results_bt1 rfl _ _ w.heap.size 3 false (.slice none 0 0) ⟨#[]⟩ 0 (.slice none 0 0) rfl (HBt.out.set 3 false (.slice none 0 0) ⟨#[]⟩ 0 (.slice none 0 0) ⟨_, _, _, rfl⟩ ⟨_, _, _, rfl⟩)) rfl ?_
  rw [HE.out]
  exact al_str 3 (by omega) ⟨#[]⟩ (by decide) HBA.out
end Go.Proofs.YtbmondbicnfcpaaDoor


/-
  ext: begin.
-/
namespace Go.Proofs.YtbmondbicnfcpaaDoor
open Go.RowKit
set_option linter.unusedVariables false
set_option linter.unusedSimpArgs false

set_option maxRecDepth 100000 in
set_option maxHeartbeats 2000000 in
theorem eqB_any (v1 v2 : Value) (l1 l2 : List UInt8) (w : World) (h1 : By w v1 l1) (h2 : By w v2 l2) :
    Calls Tryd.prog 132 #[v1, v2] w fun e w' => e = .returned (.bool (decide (l1 = l2))) ∧ Below w.heap.size w w' := by
  obtain ⟨a1, c1, rfl, hc1, hm1, hn1⟩ := h1.shape
  obtain ⟨a2, c2, rfl, hc2, hm2, hn2⟩ := h2.shape
  have t1 := h1.text
  have t2 := h2.text
  clear h1 h2
  go_enter Tryd.func132, Tryd.ntmps132
  go_wp2_with fail
  go_ret
  exact ⟨ret_bool (by by_cases h : l1 = l2 <;> simp [h]), Below.refl _ _⟩

theorem results_bt3 {fn : Func} {q u u' : Tmp} (h : fn.results = #[.cell q 29, .tmp u, .tmp u']) (tmps : Array Value) (w : World) (g : Nat) (k : Int) (neg : Bool) (sl : Value) (S : ByteArray) (N : Int) (sk : Value) (hq : tmps.getD q undef = .pointer (some ⟨g, 0, none⟩)) (hb : Bt w g k neg sl S N sk) :
    (results fn tmps).run Tryd.prog w = .ok (.tuple #[tmV k neg sl S N sk, tmps.getD u undef, tmps.getD u' undef]) w := by
  have hl := hb.load
  simp only [Array.getD_eq_getD_getElem?] at hq
  simp only [results, h]
  simp [hq, asAddr, hl, tmV]
theorem results_bt2 {fn : Func} {q u : Tmp} (h : fn.results = #[.cell q 29, .tmp u]) (tmps : Array Value) (w : World) (g : Nat) (k : Int) (neg : Bool) (sl : Value) (S : ByteArray) (N : Int) (sk : Value) (hq : tmps.getD q undef = .pointer (some ⟨g, 0, none⟩)) (hb : Bt w g k neg sl S N sk) :
    (results fn tmps).run Tryd.prog w = .ok (.tuple #[tmV k neg sl S N sk, tmps.getD u undef]) w := by
  have hl := hb.load
  simp only [Array.getD_eq_getD_getElem?] at hq
  simp only [results, h]
  simp [hq, asAddr, hl, tmV]

/-- What holds of each shape. -/
def shOk (s : Sh) : Prop := s.w ≤ 4 ∧ s.lo ≤ 1 ∧ s.hi ≤ 2000 ∧ (s.tag = 108 → s.hi = 2000) ∧ s.tag ≤ 255 ∧ s.ea ≤ 1 ∧ s.al ≤ 4 ∧ ∀ c, s.lo ≤ c → c ≤ s.hi → alF s.tag (s.al + s.ea * c)
theorem sh_ok {t : Nat} {s : Sh} (h : shF t = some s) : shOk s := by
  have hm : s ∈ shT := List.mem_of_find?_eq_some h
  simp only [shT, List.mem_cons, List.not_mem_nil, or_false] at hm
  rcases hm with rfl | rfl | rfl | rfl | rfl | rfl | rfl | rfl <;> (refine ⟨by decide, by decide, by decide, by decide, by decide, by decide, by decide, fun c h1 h2 => ?_⟩; simp only at h1 h2 ⊢; refine ⟨fun h => ?_, fun h => ?_, fun h => ?_, ?_⟩ <;> omega)
theorem fst_ok {l : List UInt8} {p n d : Nat} (h : (fstR l p n d).1 = 0) : shOk (fstR l p n d).2 ∧ p + 1 ≤ l.length ∧ n < 2000 ∧ d ≤ 60 ∧ shF (l.getD p 0).toNat = some (fstR l p n d).2 := by
  unfold fstR at h ⊢
  by_cases h1 : l.length < p + 1
  · rw [if_pos h1] at h; cases h
  · rw [if_neg h1] at h ⊢
    by_cases h2 : 2000 ≤ n ∨ 60 < d
    · rw [if_pos h2] at h; cases h
    · rw [if_neg h2] at h ⊢
      cases hs : shF (l.getD p 0).toNat with
      | none => rw [hs] at h; cases h
      | some s => exact ⟨sh_ok hs, by omega, by omega, by omega, rfl⟩
theorem man_ok {l : List UInt8} {p n : Nat} {s : Sh} (h : (manR l p n s).1 = 0) : p + s.w ≤ l.length ∧ s.lo ≤ (manR l p n s).2 ∧ (manR l p n s).2 ≤ (if s.tag = 108 then s.hi - n else s.hi) := by
  unfold manR at h ⊢
  by_cases h1 : l.length < p + s.w
  · rw [if_pos h1] at h; cases h
  · rw [if_neg h1] at h ⊢
    by_cases h2 : highL ((l.drop p).take s.w) < s.lo ∨ (if s.tag = 108 then s.hi - n else s.hi) < highL ((l.drop p).take s.w)
    · rw [if_pos h2] at h; cases h
    · rw [if_neg h2]
      refine ⟨by omega, ?_, ?_⟩ <;> simp only <;> omega

/-- begin's answer. -/
def BgP (w : World) (g : Nat) (bv : Value) (ov : Value) (R : Bg) (e : Ending) (w' : World) : Prop :=
  ∃ v, e = .returned (.tuple #[v, .int .i64 (R.want : Int), .int .i64 (R.e : Int)]) ∧ Grw g w w' ∧ IsT (veil (fromB w.heap.size) w') R.t v ∧ (R.e = 0 → RdX w' g bv R.p R.n ov)
theorem bg_bad {w w1 : World} {g : Nat} {bv ov : Value} {k : Nat} (hk : k ≠ 0) (h : Grw g w w1) :
    BgP w g bv ov (Bg.bad k) (.returned (.tuple #[tmV 0 false (.slice none 0 0) ⟨#[]⟩ 0 (.slice none 0 0), .int .i64 0, .int .i64 (k : Int)])) (setBt w1 w.heap.size 0 false (.slice none 0 0) ⟨#[]⟩ 0 (.slice none 0 0)) :=
  ⟨_, rfl, h.but (setBt_but _ _ _ _ _ _ _ _) (.inr (Nat.le_refl _)), IsT.shut (by omega) (by omega) (by decide) (Sl.nil _) (Ts.nil _), fun h => absurd h hk⟩

theorem bg_good {w w4 w5 wc w' : World} {g : Nat} {bv ov : Value} {t : Tm} {want Q n2 : Nat} {sl sk : Value} (hI : IsT (veil (fromB w4.heap.size) w5) t (tmV t.kind t.neg sl t.str t.num sk)) (h4 : w.heap.size < w4.heap.size) (h5 : w5.heap.size ≤ wc.heap.size) (hc : Below w5.heap.size w5 wc) (hs : wc.heap.size = w'.heap.size)
    (hb : ∀ b, w4.heap.size ≤ b → w'.heap[b]? = wc.heap[b]?) (hg : Grw g w w') (hx : RdX w' g bv Q n2 ov) : BgP w g bv ov ⟨0, t, want, Q, n2⟩ (.returned (.tuple #[tmV t.kind t.neg sl t.str t.num sk, .int .i64 (want : Int), .int .i64 0])) w' :=
  ⟨_, rfl, hg, hI.veiled (by omega) (fun b hb1 hlt => ⟨by rw [hb b (fromB_is.1 hb1), hc.block b hlt], fromB_is.2 (by have := fromB_is.1 hb1; omega)⟩), fun _ => hx⟩

theorem bg_end {w w4 w5 wc : World} {g : Nat} {bv ov : Value} {t : Tm} {want Q n N : Nat} {NI : Int} {sl sk : Value} (hI : IsT (veil (fromB w4.heap.size) w5) t (tmV t.kind t.neg sl t.str t.num sk)) (h4 : w.heap.size < w4.heap.size) (h5 : w5.heap.size ≤ wc.heap.size) (hc : Below w5.heap.size w5 wc)
    (hg : Grw g w wc) (hx : RdX wc g bv Q n ov) (hgl : g < w.heap.size) (hN : NI = (N : Int)) : BgP w g bv ov ⟨0, t, want, Q, N⟩ (.returned (.tuple #[tmV t.kind t.neg sl t.str t.num sk, .int .i64 (want : Int), .int .i64 0])) (setBt (wc.setCell ⟨g, 2, none⟩ (.int .i64 NI)) w.heap.size t.kind t.neg sl t.str t.num sk) := by
  subst hN
  have hbu := setBt_but (wc.setCell ⟨g, 2, none⟩ (.int .i64 (N : Int))) w.heap.size t.kind t.neg sl t.str t.num sk
  have hcu := (But.refl g wc).setCell 2 (.int .i64 (N : Int))
  refine bg_good hI h4 h5 hc (by rw [hbu.size, hcu.size]) (fun b hb => by rw [hbu.block b (by omega), hcu.block b (by omega)]) ((hg.setCell 2 _).but hbu (.inr (Nat.le_refl _))) ?_
  exact (hx.setN (N : Int)).block (hbu.block g (by omega))

set_option maxRecDepth 100000 in
set_option maxHeartbeats 16000000 in
theorem begin_any (W0 w : World) (g : Nat) (bv : Value) (l : List UInt8) (p n : Nat) (ov : Value) (base : Nat) (hs : List Ho) (hS : Shp w) (hx : RdX w g bv p n ov) (hr : HoRow w base ov hs) (hy : By W0 bv l) (hW : Below W0.heap.size W0 w) (hg : W0.heap.size ≤ g) (hp : p ≤ l.length) (hl : l.length ≤ 1000000000) (hn : n ≤ 2000) :
    Calls Tryd.prog 81 #[.pointer (some ⟨g, 0, none⟩)] w fun e w' => BgP w g bv ov (bgn l p n (depS hs)) e w' := by
  obtain ⟨R, hR⟩ : ∃ R, bgn l p n (depS hs) = R := ⟨_, rfl⟩
  have HR : Hid (bgn l p n (depS hs) = R) := hR
  rw [hR]
  clear hR
  obtain ⟨wA, hwA⟩ : ∃ wA, w.alloc (.cells #[.int .i64 0, .bool false, .slice none 0 0, .string ⟨#[]⟩, .int .i64 0, .slice none 0 0] 29) = wA := ⟨_, rfl⟩
  have hBt : Bt wA w.heap.size 0 false (.slice none 0 0) ⟨#[]⟩ 0 (.slice none 0 0) := by rw [← hwA]; exact Bt.new w _ _ _ _ _ _ ⟨_, _, _, rfl⟩ ⟨_, _, _, rfl⟩
  have hBA : Below w.heap.size w wA := by rw [← hwA]; exact (Below.refl _ _).alloc (Nat.le_refl _) _
  have hszA : wA.heap.size = w.heap.size + 1 := by rw [← hwA]; simp
  have hgl := hx.lt
  have hWs := hW.size
  have HXA : Hid (RdX wA g bv p n ov) := hx.under hBA
  have HRA : Hid (HoRow wA base ov hs) := hr.under hBA
  have HSA : Hid (Shp wA) := hS.under hBA
  have HWA : Hid (Below W0.heap.size W0 wA) := hW.trans (hBA.mono hW.size)
  have HBtA : Hid (Bt wA w.heap.size 0 false (.slice none 0 0) ⟨#[]⟩ 0 (.slice none 0 0)) := hBt
  have HGA : Hid (Grw g w wA) := Grw.ofBelow hBA
  obtain ⟨⟨d0, d1, d2, d3⟩, -⟩ := HXA.out.facts
  clear hx hr hS hW hBt hBA
  go_enter Tryd.func81, Tryd.ntmps81
  go_wp2_with fail
  refine (first_any W0 wA g bv l p n ov base hs HSA.out HXA.out HRA.out hy HWA.out hg hp hl).mono ?_
  rintro e w1 ⟨rfl, hg1, hx1⟩
  obtain ⟨F, hF⟩ : ∃ F, fstR l p n (depS hs) = F := ⟨_, rfl⟩
  rw [hF] at hx1 ⊢
  obtain ⟨k1, s⟩ := F
  dsimp only at hx1 ⊢
  unfold shV
  have HF : Hid (fstR l p n (depS hs) = (k1, s)) := hF
  obtain ⟨w2, hw2⟩ : ∃ w2, w1.alloc (.cells #[.int .u8 (s.tag : Int), .int .i64 (s.w : Int), .int .i64 (s.lo : Int), .int .i64 (s.hi : Int), .int .i64 (s.al : Int), .int .i64 (s.ea : Int)] 140) = w2 := ⟨_, rfl⟩
  have hB2 : Below w1.heap.size w1 w2 := by rw [← hw2]; exact (Below.refl _ _).alloc (Nat.le_refl _) _
  have hS2 : BxS w2 w1.heap.size s := by rw [← hw2]; exact BxS.new w1 s
  have HSX2 : Hid (BxS w2 w1.heap.size s) := hS2
  have hs1 := hg1.size
  have hs2 := hB2.size
  have HGA2 : Hid (Grw g wA w2) := hg1.more hB2
  have HG2 : Hid (Grw g w w2) := (HGA.out.trans hg1).more hB2
  have HBt2 : Hid (Bt w2 w.heap.size 0 false (.slice none 0 0) ⟨#[]⟩ 0 (.slice none 0 0)) := HBtA.out.grw HGA2.out (by omega)
  have HW2 : Hid (Below W0.heap.size W0 w2) := HWA.out.trans (HGA2.out.below hg (by omega))
  obtain ⟨a0, a1, a2, a3, a4, a5⟩ := HBt2.out.cells
  obtain ⟨f0, f1, f2, f3, f4, f5⟩ := HBt2.out.froz
  obtain ⟨t0, t1, t2, t3, t4, t5⟩ := hS2.cells
  have hgs2 := hS2.lt
  have HX2 : Hid (k1 = 0 → RdX w2 g bv ((p + 1 : Nat) : Int) n ov) := fun h => (hx1 h).under hB2
  clear hF hB2 hS2 hg1 hx1 d0 d1 d2 d3 HSA HXA HRA HWA HBtA HGA
  by_cases hk1 : k1 = 0
  · subst hk1
    have HO := fst_ok (l := l) (p := p) (n := n) (d := depS hs) (by rw [HF.out])
    rw [HF.out] at HO
    obtain ⟨hso, hp1, hn1, hd1, hsf⟩ := HO
    dsimp only at hso hsf
    obtain ⟨so1, so2, so3, so4, so5, so6, so7, so8⟩ := hso
    have hX2 := HX2.out rfl
    have HE1 : Hid ((if (manR l (p + 1) n s).1 ≠ 0 then Bg.bad (manR l (p + 1) n s).1 else bgn.bgnD l p n s (manR l (p + 1) n s).2 (p + 1 + s.w) (s.al + s.ea * (manR l (p + 1) n s).2)) = R) := by
      have h := HR.out
      unfold bgn at h
      rw [HF.out, if_neg (fun h => h rfl)] at h
      exact h
    have HHM : Hid (Calls Tryd.prog 129 #[.pointer (some ⟨g, 0, none⟩), .agg #[.int .u8 (s.tag : Int), .int .i64 (s.w : Int), .int .i64 (s.lo : Int), .int .i64 (s.hi : Int), .int .i64 (s.al : Int), .int .i64 (s.ea : Int)]] w2 fun e w' => HmP w2 g bv (p + 1) n ov s (manR l (p + 1) n s) e w') := howMany_any W0 w2 g bv l (p + 1) n ov s hX2 hy HW2.out hg hp1 hl so1 so2 so3 (fun h => by rw [so4 h]; omega) so5 hn
    have HSO8 : Hid (∀ c, s.lo ≤ c → c ≤ s.hi → alF s.tag (s.al + s.ea * c)) := so8
    have HN1 : Hid (n < 2000) := hn1
    clear hX2 HX2 HR HF hsf so4 so8
    go_wp2_with fail
    refine HHM.out.mono ?_
    rintro e w3 ⟨rfl, hg3, hx3⟩
    obtain ⟨M, hM⟩ : ∃ M, manR l (p + 1) n s = M := ⟨_, rfl⟩
    have HM : Hid (manR l (p + 1) n s = M) := hM
    rw [hM] at hx3 HE1 ⊢
    obtain ⟨k2, c⟩ := M
    dsimp only at hx3 HE1 ⊢
    have hs3 := hg3.size
    have HS3 : Hid (BxS w3 w1.heap.size s) := HSX2.out.block (hg3.block _ (by omega) (by omega))
    have HG3 : Hid (Grw g w w3) := HG2.out.trans hg3
    have HBt3 : Hid (Bt w3 w.heap.size 0 false (.slice none 0 0) ⟨#[]⟩ 0 (.slice none 0 0)) := HBt2.out.grw hg3 (by omega)
    have HW3 : Hid (Below W0.heap.size W0 w3) := HW2.out.trans (hg3.below hg (by omega))
    have HX3 : Hid (k2 = 0 → RdX w3 g bv ((p + 1 + s.w : Nat) : Int) n ov) := hx3
    clear a0 a1 a2 a3 a4 a5 f0 f1 f2 f3 f4 f5 t0 t1 t2 t3 t4 t5 HSX2 HG2 HGA2 HBt2 HW2 hg3 hx3 hM HHM
    obtain ⟨a0, a1, a2, a3, a4, a5⟩ := HBt3.out.cells
    obtain ⟨f0, f1, f2, f3, f4, f5⟩ := HBt3.out.froz
    obtain ⟨t0, t1, t2, t3, t4, t5⟩ := HS3.out.cells
    by_cases hk2 : k2 = 0
    · subst hk2
      have HMO := man_ok (l := l) (p := p + 1) (n := n) (s := s) (by rw [HM.out])
      rw [HM.out] at HMO
      obtain ⟨hm1, hm2, hm3⟩ := HMO
      dsimp only at hm2 hm3
      have hc2 : c ≤ s.hi := by split at hm3 <;> omega
      have HE2 : Hid (bgn.bgnD l p n s c (p + 1 + s.w) (s.al + s.ea * c) = R) := by
        have h := HE1.out
        rw [if_neg (fun h => h rfl)] at h
        exact h
      have haf := HSO8.out c hm2 hc2
      obtain ⟨mc, hmc⟩ : ∃ mc, mc = s.ea * c := ⟨_, rfl⟩
      have hmul : (s.ea : Int) * (c : Int) = (mc : Int) := by rw [hmc]; simp
      rw [← hmc] at haf HE2
      have hm4 := haf.2.2.2
      have hmci : (mc : Int) ≤ 401 := by omega
      have hali : (s.al : Int) ≤ 4 := by omega
      obtain ⟨m, hm⟩ : ∃ m, m = s.al + mc := ⟨_, rfl⟩
      have hmi : (s.al : Int) + (mc : Int) = (m : Int) := by omega
      rw [← hm] at haf HE2 hm4
      obtain ⟨q, hq⟩ : ∃ q, q = p + 1 + s.w := ⟨_, rfl⟩
      rw [← hq] at HE2 HX3
      have HTK : Hid (Calls Tryd.prog 130 #[.pointer (some ⟨g, 0, none⟩), .int .i64 (m : Int)] w3 fun e w' => TkP W0 w3 g bv l q n ov m e w') := takeX_any W0 w3 g bv l q n ov m (HX3.out rfl) hy (by omega) (by omega) hl
      have HAF : Hid (alF s.tag m) := haf
      have hci : (c : Int) ≤ 2000 := by omega
      have HM3 : Hid (c ≤ if s.tag = 108 then s.hi - n else s.hi) := hm3
      have HQ : Hid (q = p + 1 + s.w) := hq
      clear hmc hm hm2 hm3 haf HE1 HM HSO8 HX3 hq
      go_wp2_with fail
      refine HTK.out.mono ?_
      rintro e w4 ⟨sv, k3, rfl, hsS, hg4, hcase⟩
      obtain ⟨sa, sn, sc, rfl⟩ := hsS
      have hs4 := hg4.size
      have HS4 : Hid (BxS w4 w1.heap.size s) := HS3.out.block (hg4.block _ (by omega) (by omega))
      have HG4 : Hid (Grw g w w4) := HG3.out.trans hg4
      have HBt4 : Hid (Bt w4 w.heap.size 0 false (.slice none 0 0) ⟨#[]⟩ 0 (.slice none 0 0)) := HBt3.out.grw hg4 (by omega)
      have HW4 : Hid (Below W0.heap.size W0 w4) := HW3.out.trans (hg4.below hg (by omega))
      clear a0 a1 a2 a3 a4 a5 f0 f1 f2 f3 f4 f5 t0 t1 t2 t3 t4 t5 HS3 HG3 HBt3 HW3 hg4 HTK
      obtain ⟨a0, a1, a2, a3, a4, a5⟩ := HBt4.out.cells
      obtain ⟨f0, f1, f2, f3, f4, f5⟩ := HBt4.out.froz
      obtain ⟨t0, t1, t2, t3, t4, t5⟩ := HS4.out.cells
      rcases hcase with ⟨hqm, rfl, hys, hx4⟩ | ⟨hqm, rfl, hse⟩
      · have hDl : ((l.drop q).take m).length = m := by simp; omega
        obtain ⟨D, hD⟩ : ∃ D, D = (l.drop q).take m := ⟨_, rfl⟩
        rw [← hD] at hys hDl
        have HYS : Hid (By W0 (.slice sa sn sc) D) := hys
        obtain ⟨a', c', he, hc1, hc2', -⟩ := hys.shape
        rw [hDl] at he hc1
        injection he with e1 e2 e3
        subst e1; subst e2; subst e3
        obtain ⟨t, htd⟩ : ∃ t, t = rawT s.tag D := ⟨_, rfl⟩
        have HT : Hid (t = rawT s.tag D) := htd
        have HAL : Hid (Calls Tryd.prog 131 #[.int .u8 (s.tag : Int), .slice sa sn sc] w4 fun e w' => AlP w4 t e w') := by
          rw [htd]
          exact alone_any s.tag _ D w4 (hys.under HW4.out) (by rw [hDl]; exact HAF.out) so5
        have HX4 : Hid (RdX w4 g bv ((q + sn : Nat) : Int) n ov) := hx4
        have HE3 : Hid ((if 0 < sn ∧ putO t ≠ (l.drop p).take (q + sn - p) then Bg.bad 4 else ⟨0, t, if s.tag = 108 then c + 1 else if s.tag = 104 then c else 0, q + sn, if s.tag = 108 then n + c else n + 1⟩) = R) := by
          have h := HE2.out
          unfold bgn.bgnD at h
          rw [if_neg (by omega), ← hD, ← htd] at h
          exact h
        clear hys hx4 HE2 HAF htd hD
        go_wp2_with fail
        refine HAL.out.mono ?_
        rintro e w5 ⟨v5, rfl, hi5, b5⟩
        obtain ⟨sl, sk, rfl, hls, hks, -⟩ := hi5.open
        obtain ⟨pl, cl, rfl⟩ := hls.shape
        obtain ⟨pk, ck, rfl, -⟩ := hks.shape
        obtain ⟨w6, hw6⟩ : ∃ w6, w5.alloc (.cells #[.int .i64 t.kind, .bool t.neg, .slice pl t.limbs.length cl, .string t.str, .int .i64 t.num, .slice pk t.kids.length ck] 29) = w6 := ⟨_, rfl⟩
        have hBt6 : Bt w6 w5.heap.size t.kind t.neg (.slice pl t.limbs.length cl) t.str t.num (.slice pk t.kids.length ck) := by rw [← hw6]; exact Bt.new w5 _ _ _ _ _ _ ⟨_, _, _, rfl⟩ ⟨_, _, _, rfl⟩
        have hB6 : Below w5.heap.size w5 w6 := by rw [← hw6]; exact (Below.refl _ _).alloc (Nat.le_refl _) _
        have hs6 : w6.heap.size = w5.heap.size + 1 := by rw [← hw6]; simp
        have hs5 := b5.size
        have HB46 : Hid (Below w4.heap.size w4 w6) := b5.trans (hB6.mono hs5)
        have HI5 : Hid (IsT (veil (fromB w4.heap.size) w5) t (tmV t.kind t.neg (.slice pl t.limbs.length cl) t.str t.num (.slice pk t.kids.length ck))) := hi5
        have HB56 : Hid (Below w5.heap.size w5 w6) := hB6
        have HBT6 : Hid (Bt w6 w5.heap.size t.kind t.neg (.slice pl t.limbs.length cl) t.str t.num (.slice pk t.kids.length ck)) := hBt6
        have HX6 : Hid (RdX w6 g bv ((q + sn : Nat) : Int) n ov) := HX4.out.under HB46.out
        have HBt6' : Hid (Bt w6 w.heap.size 0 false (.slice none 0 0) ⟨#[]⟩ 0 (.slice none 0 0)) := HBt4.out.under HB46.out
        have HS6 : Hid (BxS w6 w1.heap.size s) := HS4.out.under HB46.out
        have HG6 : Hid (Grw g w w6) := HG4.out.more HB46.out
        have HW6 : Hid (Below W0.heap.size W0 w6) := HW4.out.trans (HB46.out.mono HW4.out.size)
        have hsz1 := HS4.out.lt
        have hszr := HBt4.out.lt
        clear hi5 hls hks hBt6 hB6 b5 a0 a1 a2 a3 a4 a5 f0 f1 f2 f3 f4 f5 t0 t1 t2 t3 t4 t5 HX4 HBt4 HS4 HG4 HW4 HAL
        simp only [tmV]
        obtain ⟨BB, hBB⟩ : ∃ BB, BB = (decide (0 < sn) && !decide (putO t = (l.drop p).take (q + sn - p))) := ⟨_, rfl⟩
        have HBB : Hid (BB = (decide (0 < sn) && !decide (putO t = (l.drop p).take (q + sn - p)))) := hBB
        clear hBB
        go_wp2_with fail
        go_cut [72] from 54 (fun s wc => s = .bool BB ∧ Below w6.heap.size w6 wc)
        case first =>
          by_cases h0 : sn = 0
          · have HB0 : Hid (BB = false) := by unfold Hid; rw [HBB.out, h0]; rfl
            subst h0
            go_quiet (fail)
            go_wp2_with fail
            go_meet
            case rel => exact ⟨by rw [HB0.out], below_drewN (Below.refl _ _) _⟩
          · have h0i : (0 : Int) < (sn : Int) := by omega
            obtain ⟨EQ, hEQ⟩ : ∃ EQ, EQ = decide (putO t = (l.drop p).take (q + sn - p)) := ⟨_, rfl⟩
            have HB1 : Hid (BB = !EQ) := by unfold Hid; rw [HBB.out, hEQ, decide_eq_true (show 0 < sn by omega), Bool.true_and]
            obtain ⟨av, cap, rfl, hcap1, hcap2, hcap3⟩ := hy.shape
            obtain ⟨b, off, rfl, hblt, -⟩ := hy.at 0 (by omega)
            obtain ⟨Q, hQd⟩ : ∃ Q, Q = q + sn := ⟨_, rfl⟩
            rw [← hQd] at HX6 hEQ
            obtain ⟨ob, hob⟩ : ∃ ob, ob = if cap = p then off else off + p := ⟨_, rfl⟩
            have hob2 : (if cap = p then some (⟨b, off, none⟩ : Addr) else some ⟨b, off + p, none⟩) = some ⟨b, ob, none⟩ := by rw [hob]; split <;> rfl
            have hsub := hy.part p Q ob (by have := HQ.out; omega) (by omega) hob
            have HYS2 : Hid (∀ W, Below w6.heap.size w6 W → By W (.slice (some ⟨b, ob, none⟩) (Q - p) (cap - p)) ((l.drop p).take (Q - p))) := fun W hW => hsub.under (HW6.out.trans (hW.mono HW6.out.size))
            have HEQ : Hid (∀ W v1 v2, By W v1 ([] ++ putO t) → By W v2 ((l.drop p).take (Q - p)) → Calls Tryd.prog 132 #[v1, v2] W fun e w' => e = .returned (.bool EQ) ∧ Below W.heap.size W w') := by
              intro W v1 v2 h1 h2
              rw [hEQ]
              exact eqB_any v1 v2 _ _ W h1 h2
            have HPUT : Hid (∀ W, Below w6.heap.size w6 W → Calls Tryd.prog 16 #[.slice none 0 0, .agg #[.int .i64 t.kind, .bool t.neg, .slice pl t.limbs.length cl, .string t.str, .int .i64 t.num, .slice pk t.kids.length ck]] W fun e w' => PPost W [] t e w') := fun W hW => eput_any _ _ [] t W (By.nil _) (by simp) ((HI5.out.unveil.under HB56.out).under hW)
            have HKP : Hid (∀ W, Below w6.heap.size w6 W → (W.cell? ⟨g, 0, none⟩ = some (.slice (some ⟨b, off, none⟩) l.length cap) ∧ W.cell? ⟨g, 1, none⟩ = some (.int .i64 (Q : Int))) ∧ W.cell? ⟨w5.heap.size, 0, none⟩ = some (.int .i64 t.kind) ∧ W.cell? ⟨w5.heap.size, 1, none⟩ = some (.bool t.neg) ∧ W.cell? ⟨w5.heap.size, 2, none⟩ = some (.slice pl t.limbs.length cl) ∧ W.cell? ⟨w5.heap.size, 3, none⟩ = some (.string t.str) ∧ W.cell? ⟨w5.heap.size, 4, none⟩ = some (.int .i64 t.num) ∧ W.cell? ⟨w5.heap.size, 5, none⟩ = some (.slice pk t.kids.length ck)) := fun W hW => by
              obtain ⟨⟨z0, z1, z2, z3⟩, -⟩ := (HX6.out.under hW).facts
              obtain ⟨b0, b1, b2, b3, b4, b5⟩ := (HBT6.out.under hW).cells
              exact ⟨⟨z0, z1⟩, b0, b1, b2, b3, b4, b5⟩
            have hq1 : (p : Int) ≤ (Q : Int) := by have := HQ.out; omega
            have hq2 : (Q : Int) ≤ (l.length : Int) := by omega
            have hq3 : (Q : Int) ≤ (cap : Int) := by omega
            obtain ⟨⟨z0, z1⟩, b0, b1, b2, b3, b4, b5⟩ := HKP.out w6 (Below.refl _ _)
            have h0n : 0 < sn := by omega
            have h0d : decide ((0 : Int) < (sn : Int)) = true := decide_eq_true h0i
            clear hEQ hQd hob hsub hy h0
            go_region_held3 (fun W => (W.cell? ⟨g, 0, none⟩ = some (.slice (some ⟨b, off, none⟩) l.length cap) ∧ W.cell? ⟨g, 1, none⟩ = some (.int .i64 (Q : Int))) ∧ W.cell? ⟨w5.heap.size, 0, none⟩ = some (.int .i64 t.kind) ∧ W.cell? ⟨w5.heap.size, 1, none⟩ = some (.bool t.neg) ∧ W.cell? ⟨w5.heap.size, 2, none⟩ = some (.slice pl t.limbs.length cl) ∧ W.cell? ⟨w5.heap.size, 3, none⟩ = some (.string t.str) ∧ W.cell? ⟨w5.heap.size, 4, none⟩ = some (.int .i64 t.num) ∧ W.cell? ⟨w5.heap.size, 5, none⟩ = some (.slice pk t.kids.length ck))
              (first | exact HKP.out _ hk2 | exact HKP.out _ hk1 | exact HKP.out _ ((Below.refl _ _).drew) | exact HKP.out _ (Below.refl _ _))
              (first
                | (go_at_call 16; refine (HPUT.out _ (by first | exact (Below.refl _ _).drew | exact Below.refl _ _ | exact below_drewN (Below.refl _ _) _)).mono ?_; rintro e x1 ⟨v1, rfl, y1, -, bx1⟩; have hk1 : Below w6.heap.size w6 x1 := (by first | exact ((Below.refl _ _).drew).trans (bx1.mono (Nat.le_refl _)) | exact (below_drewN (Below.refl _ _) _).trans (bx1.mono (Nat.le_refl _))))
                | (go_at_call 132; refine (HEQ.out _ _ _ y1.by (HYS2.out _ hk1)).mono ?_; rintro e x2 ⟨rfl, bx2⟩; have hk2 : Below w6.heap.size w6 x2 := hk1.trans (bx2.mono hk1.size)))
            all_goals
              go_wp2_with fail
              go_meet
              case rel => exact ⟨by rw [HB1.out], hk2⟩
        case rest =>
          obtain ⟨rfl, hbc⟩ := hcut
          have HBc : Hid (Below w6.heap.size w6 wc) := hbc
          have hszc := hbc.size
          have HXc : Hid (RdX wc g bv ((q + sn : Nat) : Int) n ov) := HX6.out.under hbc
          have HBtc : Hid (Bt wc w.heap.size 0 false (.slice none 0 0) ⟨#[]⟩ 0 (.slice none 0 0)) := HBt6'.out.under hbc
          have HSc : Hid (BxS wc w1.heap.size s) := HS6.out.under hbc
          have HGc : Hid (Grw g w wc) := HG6.out.more hbc
          have HTc : Hid (Bt wc w5.heap.size t.kind t.neg (.slice pl t.limbs.length cl) t.str t.num (.slice pk t.kids.length ck)) := HBT6.out.under hbc
          have HB5c : Hid (Below w5.heap.size w5 wc) := HB56.out.trans (hbc.mono (by omega))
          obtain ⟨a0, a1, a2, a3, a4, a5⟩ := HBtc.out.cells
          obtain ⟨f0, f1, f2, f3, f4, f5⟩ := HBtc.out.froz
          obtain ⟨t0, t1, t2, t3, t4, t5⟩ := HSc.out.cells
          obtain ⟨b0, b1, b2, b3, b4, b5⟩ := HTc.out.cells
          obtain ⟨⟨d0, d1, d2, d3⟩, e0, e1, e2, e3⟩ := HXc.out.facts
          clear hbc HX6 HBt6' HS6 HG6 HBT6 HB56 HW6 HB46
          cases BB with
          | true =>
            have hbb := HBB.out.symm
            rw [Bool.and_eq_true, decide_eq_true_eq, Bool.not_eq_true', decide_eq_false_iff_not] at hbb
            have HE : Hid (R = Bg.bad 4) := by unfold Hid; rw [← HE3.out, if_pos hbb]
            clear hbb
            go_wp2_with fail
            refine bodyPost_ret (results_bt3 rfl _ _ w.heap.size 0 false (.slice none 0 0) ⟨#[]⟩ 0 (.slice none 0 0) rfl (HBtc.out.set 0 false (.slice none 0 0) ⟨#[]⟩ 0 (.slice none 0 0) ⟨_, _, _, rfl⟩ ⟨_, _, _, rfl⟩)) rfl ?_
            rw [HE.out]
            exact bg_bad (by decide) HGc.out
          | false =>
            have HE4 : Hid (R = ⟨0, t, if s.tag = 108 then c + 1 else if s.tag = 104 then c else 0, q + sn, if s.tag = 108 then n + c else n + 1⟩) := by
              unfold Hid
              rw [← HE3.out, if_neg]
              rintro ⟨h1, h2⟩
              have hbb := HBB.out
              rw [decide_eq_true h1, decide_eq_false h2] at hbb
              cases hbb
            have hni : (n : Int) < 2000 := by have := HN1.out; omega
            by_cases h108 : s.tag = 108
            · have q1 : ((s.tag : Int) == 108) = true := by simp [h108]
              have HE : Hid (R = ⟨0, t, c + 1, q + sn, n + c⟩) := by unfold Hid; rw [HE4.out, if_pos h108, if_pos h108]
              clear h108
              go_wp2_with fail
              refine bodyPost_ret (results_bt3 rfl _ _ w.heap.size t.kind t.neg (.slice pl t.limbs.length cl) t.str t.num (.slice pk t.kids.length ck) rfl (Bt.set (HBtc.out.other ((But.refl g wc).setCell 2 (.int .i64 ((n : Int) + (c : Int)))) (by omega)) t.kind t.neg (.slice pl t.limbs.length cl) t.str t.num (.slice pk t.kids.length ck) ⟨_, _, _, rfl⟩ ⟨_, _, _, rfl⟩)) rfl ?_
              rw [HE.out]
              exact bg_end HI5.out (by omega) (by omega) HB5c.out HGc.out HXc.out hgl (by omega)
            · have q1 : ((s.tag : Int) == 108) = false := by rw [beq_eq_false_iff_ne]; omega
              by_cases h104 : s.tag = 104
              · have q2 : ((s.tag : Int) == 104) = true := by simp [h104]
                have HE : Hid (R = ⟨0, t, c, q + sn, n + 1⟩) := by unfold Hid; rw [HE4.out, if_neg h108, if_neg h108, if_pos h104]
                clear h108 h104
                go_wp2_with fail
                refine bodyPost_ret (results_bt3 rfl _ _ w.heap.size t.kind t.neg (.slice pl t.limbs.length cl) t.str t.num (.slice pk t.kids.length ck) rfl (Bt.set (HBtc.out.other ((But.refl g wc).setCell 2 (.int .i64 ((n : Int) + 1))) (by omega)) t.kind t.neg (.slice pl t.limbs.length cl) t.str t.num (.slice pk t.kids.length ck) ⟨_, _, _, rfl⟩ ⟨_, _, _, rfl⟩)) rfl ?_
                rw [HE.out]
                exact bg_end HI5.out (by omega) (by omega) HB5c.out HGc.out HXc.out hgl (by omega)
              · have q2 : ((s.tag : Int) == 104) = false := by rw [beq_eq_false_iff_ne]; omega
                have HE : Hid (R = ⟨0, t, 0, q + sn, n + 1⟩) := by unfold Hid; rw [HE4.out, if_neg h108, if_neg h108, if_neg h104]
                clear h108 h104
                go_wp2_with fail
                refine bodyPost_ret (results_bt3 rfl _ _ w.heap.size t.kind t.neg (.slice pl t.limbs.length cl) t.str t.num (.slice pk t.kids.length ck) rfl (Bt.set (HBtc.out.other ((But.refl g wc).setCell 2 (.int .i64 ((n : Int) + 1))) (by omega)) t.kind t.neg (.slice pl t.limbs.length cl) t.str t.num (.slice pk t.kids.length ck) ⟨_, _, _, rfl⟩ ⟨_, _, _, rfl⟩)) rfl ?_
                rw [HE.out]
                exact bg_end HI5.out (by omega) (by omega) HB5c.out HGc.out HXc.out hgl (by omega)
      · have HE : Hid (R = Bg.bad 3) := by unfold Hid; rw [← HE2.out]; unfold bgn.bgnD; rw [if_pos hqm]
        rw [hse]
        clear hse hqm
        go_wp2_with fail
        refine bodyPost_ret (results_bt3 rfl _ _ w.heap.size 0 false (.slice none 0 0) ⟨#[]⟩ 0 (.slice none 0 0) rfl (HBt4.out.set 0 false (.slice none 0 0) ⟨#[]⟩ 0 (.slice none 0 0) ⟨_, _, _, rfl⟩ ⟨_, _, _, rfl⟩)) rfl ?_
        rw [HE.out]
        exact bg_bad (by decide) HG4.out
    · have hki : ((k2 : Int) != 0) = true := by rw [bne_iff_ne]; omega
      have HE : Hid (R = Bg.bad k2) := by unfold Hid; rw [← HE1.out, if_pos hk2]
      have HK2 : Hid (k2 ≠ 0) := hk2
      clear hk2
      go_wp2_with fail
      refine bodyPost_ret (results_bt3 rfl _ _ w.heap.size 0 false (.slice none 0 0) ⟨#[]⟩ 0 (.slice none 0 0) rfl (HBt3.out.set 0 false (.slice none 0 0) ⟨#[]⟩ 0 (.slice none 0 0) ⟨_, _, _, rfl⟩ ⟨_, _, _, rfl⟩)) rfl ?_
      rw [HE.out]
      exact bg_bad HK2.out HG3.out
  · have hki : ((k1 : Int) != 0) = true := by rw [bne_iff_ne]; omega
    have HE : Hid (R = Bg.bad k1) := by unfold Hid; rw [← HR.out]; unfold bgn; rw [HF.out, if_pos hk1]
    have HK1 : Hid (k1 ≠ 0) := hk1
    clear hk1
    go_wp2_with fail
    refine bodyPost_ret (results_bt3 rfl _ _ w.heap.size 0 false (.slice none 0 0) ⟨#[]⟩ 0 (.slice none 0 0) rfl (HBt2.out.set 0 false (.slice none 0 0) ⟨#[]⟩ 0 (.slice none 0 0) ⟨_, _, _, rfl⟩ ⟨_, _, _, rfl⟩)) rfl ?_
    rw [HE.out]
    exact bg_bad HK1.out HG2.out
end Go.Proofs.YtbmondbicnfcpaaDoor
