
/-
  ext: shut.
-/
import Derived.Test.YtbmondbicnfcpaaDoorExtW
import Derived.Deep.Cut
namespace Go.Proofs.YtbmondbicnfcpaaDoor
open Go.RowKit
set_option linter.unusedVariables false
set_option linter.unusedSimpArgs false

def Ho.pl (h : Ho) : Hp := ⟨h.kind, h.depth, h.ps.map Prod.snd, h.want⟩
/-- shut's answer. -/
def ShP (W0 : World) (B g : Nat) (hs : List Ho) (bv : Value) (p n : Nat) (P0 : Nat → Bool) (pv : Value) (R : Rs) (w : World) (e : Ending) (w' : World) : Prop :=
  ∃ v, e = .returned (.tuple #[v, .int .i64 (R.e : Int)]) ∧ Grw g w w' ∧ IsS6 v ∧ (R.e = 0 → ∃ ov P, RdX w' g bv p n ov ∧ StI W0 B g hs ov P w' ∧ IsT (veil P w') R.t v ∧ ∀ b, b < w.heap.size → P b = true → P0 b = true ∨ pv.ownBlock = some b)
where IsS6 (v : Value) : Prop := ∃ k ng sl S N sk, v = tmV k ng sl S N sk ∧ IsS sl ∧ IsS sk

theorem Bt.drew {w : World} {g : Nat} {k : Int} {neg : Bool} {sl : Value} {S : ByteArray} {N : Int} {sk : Value} (h : Bt w g k neg sl S N sk) : Bt w.drew g k neg sl S N sk := h
theorem ob_len (a : Option Addr) (m m' c : Nat) : (Value.slice a m c).ownBlock = (Value.slice a m' c).ownBlock := by cases a <;> rfl
theorem StI.less {W0 : World} {B g : Nat} {hs : List Ho} {h : Ho} {a : Option Addr} {m c : Nat} {P : Nat → Bool} {w : World} (hst : StI W0 B g (hs ++ [h]) (.slice a m c) P w) : StI W0 B g hs (.slice a hs.length c) P w := by
  obtain ⟨i1, i2, i3, i4, i5, i6, i7, i8⟩ := hst
  exact ⟨i1, i2, i3.less, fun x hx => i4 x (List.mem_append_left _ hx), i5, fun b hb => i6 b (by rw [ob_len a m hs.length c]; exact hb), fun x hx => i7 x (List.mem_append_left _ hx), fun i j hi hj hij b hb => by
    have := i8 i j (by simp; omega) (by simp; omega) hij b (by rw [List.getElem_append_left hi]; exact hb)
    rwa [List.getElem_append_left hj] at this⟩
/-- The last one's parts lie in a block of their own. -/
theorem StI.own {W0 : World} {B g : Nat} {hs : List Ho} {h : Ho} {ov : Value} {P : Nat → Bool} {w : World} (hst : StI W0 B g (hs ++ [h]) ov P w) : (∀ b, h.pv.ownBlock = some b → P b = false ∧ ov.ownBlock ≠ some b ∧ (∀ x ∈ hs, x.pv.ownBlock ≠ some b) ∧ B ≤ b ∧ b < w.heap.size) := by
  obtain ⟨i1, i2, i3, i4, i5, i6, i7, i8⟩ := hst
  intro b hb
  obtain ⟨l1, l2, cur, l3⟩ := (i4 h (by simp)).1.lt b hb
  refine ⟨i7 h (by simp) b hb, fun e => ?_, fun x hx e => ?_, l1, l2⟩
  · obtain ⟨-, -, cur2, l4⟩ := i3.lt b e
    rw [l3] at l4
    injection l4 with l4
    injection l4 with _ e2 _
    exact absurd e2 (by decide)
  · obtain ⟨i, hi, rfl⟩ := List.getElem_of_mem hx
    have := i8 i hs.length (by simp; omega) (by simp) hi b (by rw [List.getElem_append_left hi]; exact e)
    rw [List.getElem_append_right (Nat.le_refl _)] at this
    simp at this
    exact this hb
/-- The veil with one more block. -/
def andV (P : Nat → Bool) (v : Value) : Nat → Bool := fun b => P b || decide (v.ownBlock = some b)
theorem andV_is {P : Nat → Bool} {v : Value} {b : Nat} : andV P v b = true ↔ P b = true ∨ v.ownBlock = some b := by unfold andV; simp
theorem andV_no {P : Nat → Bool} {v : Value} {b : Nat} (h1 : P b = false) (h2 : v.ownBlock ≠ some b) : andV P v b = false := by unfold andV; rw [h1, decide_eq_false h2]; rfl
theorem StI.shut {W0 : World} {B g : Nat} {hs : List Ho} {h : Ho} {a : Option Addr} {m c : Nat} {P : Nat → Bool} {w w' : World} {bv ov2 : Value} {p n : Int} (hst : StI W0 B g (hs ++ [h]) (.slice a m c) P w) (hx : RdX w g bv p n ov2) (hgB : g < B) (hW : W0.heap.size ≤ g) (hg : Grw g w w') : StI W0 B g hs (.slice a hs.length c) (andV P h.pv) w' := by
  have ho := hst.own
  have hl := hst.less
  obtain ⟨i1, i2, i3, i4, i5, i6, i7, i8⟩ := hst
  refine hl.grw hgB hW (i2.grw hx hg) hg (fun b hb => andV_is.2 (.inl hb)) (fun b hb => ?_) (fun b hb => andV_no (i6 b (by rw [ob_len a m hs.length c]; exact hb)) (fun e => (ho b e).2.1 (by rw [ob_len a m hs.length c]; exact hb))) (fun x hx2 b hb => andV_no (i7 x (List.mem_append_left _ hx2) b hb) (fun e => (ho b e).2.2.1 x hx2 hb))
  rcases andV_is.1 hb with hb | hb
  · have := i5 b hb; have := hg.size; omega
  · obtain ⟨-, -, -, l1, l2⟩ := ho b hb
    have := hg.size
    omega
theorem StI.parts {W0 : World} {B g : Nat} {hs : List Ho} {h : Ho} {ov : Value} {P : Nat → Bool} {w w' : World} (hst : StI W0 B g (hs ++ [h]) ov P w) (hgB : g < B) (hg : Grw g w w') : Ts (veil (andV P h.pv) w') h.pv (h.ps.map Prod.snd) := by
  obtain ⟨i1, i2, i3, i4, i5, i6, i7, i8⟩ := hst
  obtain ⟨hwt, htr⟩ := i4 h (by simp)
  refine row_tv (base := B) (hwt.see (fun b hb => ?_)) (fun q hq => (htr q hq).veiled hg.size (fun b hb hlt => ⟨hg.block b hlt (by have := (i5 b hb).2; omega), andV_is.2 (.inl hb)⟩))
  rw [veil_block (andV_is.2 (.inr hb))]
  obtain ⟨l1, l2, -⟩ := hwt.lt b hb
  exact hg.block b l2 (by omega)

set_option maxRecDepth 100000 in
set_option maxHeartbeats 8000000 in
theorem shut_any (W0 w : World) (B g : Nat) (bv : Value) (p n : Nat) (ov : Value) (hs : List Ho) (h : Ho) (qs : List (Value × Tm)) (vl : Value) (tl : Tm) (P : Nat → Bool) (hx : RdX w g bv p n ov) (hst : StI W0 B g (hs ++ [h]) ov P w) (hps : h.ps = qs ++ [(vl, tl)]) (hw : h.ps.length = h.want) (hgB : g < B) (hWg : W0.heap.size ≤ g) :
    Calls Tryd.prog 83 #[.pointer (some ⟨g, 0, none⟩)] w fun e w' => ShP W0 B g hs bv p n P h.pv (shutT ⟨h.kind, h.depth, qs.map Prod.snd, h.want⟩ tl p n) w e w' := by
  obtain ⟨i1, i2, i3, i4, i5, i6, i7, i8⟩ := hst
  have hhm : h ∈ hs ++ [h] := by simp
  obtain ⟨hwt, htr⟩ := i4 h hhm
  obtain ⟨gr, c, rfl, hb, hc1, hc2, c0, c1, c2, c3⟩ := i3.at hs.length (by simp)
  have hgt : (hs ++ [h])[hs.length]'(by simp) = h := by simp
  rw [hgt] at c0 c1 c2 c3
  obtain ⟨⟨a, cp, hpv⟩, hk, hdp, hw1, hw2, hpl⟩ := i3.2 h hhm
  have hL : (hs ++ [h]).length = hs.length + 1 := by simp
  have hov := hx.facts.1.2.2.2
  rw [hL] at hov hc1
  obtain ⟨wA, hwA⟩ : ∃ wA, w.alloc (.cells #[.int .i64 0, .bool false, .slice none 0 0, .string ⟨#[]⟩, .int .i64 0, .slice none 0 0] 29) = wA := ⟨_, rfl⟩
  have hBt : Bt wA w.heap.size 0 false (.slice none 0 0) ⟨#[]⟩ 0 (.slice none 0 0) := by rw [← hwA]; exact Bt.new w _ _ _ _ _ _ ⟨_, _, _, rfl⟩ ⟨_, _, _, rfl⟩
  have hBA : Below w.heap.size w wA := by rw [← hwA]; exact (Below.refl _ _).alloc (Nat.le_refl _) _
  have hszA : wA.heap.size = w.heap.size + 1 := by rw [← hwA]; simp
  have hgl := hx.lt
  have hgrl := World.block_lt_of_cell? w _ c0
  rw [hpv] at c2
  obtain ⟨k, hkd⟩ : ∃ k, k = h.kind := ⟨_, rfl⟩
  obtain ⟨d, hdd⟩ : ∃ d, d = h.depth := ⟨_, rfl⟩
  obtain ⟨m, hmd⟩ : ∃ m, m = h.ps.length := ⟨_, rfl⟩
  rw [← hkd] at c0 hk
  rw [← hdd] at c1 hdp
  rw [← hw, ← hmd] at c3
  rw [← hmd] at c2 hpl hw
  obtain ⟨wB, hwB⟩ : ∃ wB, wA.alloc (.cells #[.int .i64 k, .int .i64 (d : Int), .slice a m cp, .int .i64 (m : Int)] 113) = wB := ⟨_, rfl⟩
  have hBB : Below wA.heap.size wA wB := by rw [← hwB]; exact (Below.refl _ _).alloc (Nat.le_refl _) _
  have hszB : wB.heap.size = w.heap.size + 2 := by rw [← hwB]; simp; omega
  have hBwB : Below w.heap.size w wB := hBA.trans (hBB.mono hBA.size)
  have hh : wB.heap[wA.heap.size]? = some (.cells #[.int .i64 k, .int .i64 (d : Int), .slice a m cp, .int .i64 (m : Int)] 113 (0, 0)) := by rw [← hwB]; exact heap_alloc_new wA _
  have HX : Hid (RdX wB g bv p n (.slice (some ⟨gr, 0, none⟩) (hs.length + 1) c)) := by have := hx.under hBwB; rw [hL] at this; exact this
  have HXW : RdX w g bv p n (.slice (some ⟨gr, 0, none⟩) (hs.length + 1) c) := by have := hx; rw [hL] at this; exact this
  have HBt : Hid (Bt wB w.heap.size 0 false (.slice none 0 0) ⟨#[]⟩ 0 (.slice none 0 0)) := hBt.under hBB
  have HBwB : Hid (Below w.heap.size w wB) := hBwB
  have hbA : ∀ (x : Addr) (u : Value), w.cell? x = some u → wA.cell? x = some u := fun x u hu => (hBA.cell (World.block_lt_of_cell? w x hu)).trans hu
  have hbB : ∀ (x : Addr) (u : Value), w.cell? x = some u → wB.cell? x = some u := fun x u hu => (hBwB.cell (World.block_lt_of_cell? w x hu)).trans hu
  have c0A := hbA _ _ c0
  have c1A := hbA _ _ c1
  have c2A := hbA _ _ c2
  have c3A := hbA _ _ c3
  have hovA := hbA _ _ hov
  have hovB := hbB _ _ hov
  have hfB : wB.frozen? ⟨g, 3, none⟩ = false := HX.out.facts.2.2.2.2
  rw [hszA] at hh
  have s0 : wB.cell? ⟨w.heap.size + 1, 0, none⟩ = some (.int .i64 k) := by simp [World.cell?, hh]
  have s1 : wB.cell? ⟨w.heap.size + 1, 1, none⟩ = some (.int .i64 (d : Int)) := by simp [World.cell?, hh]
  have s2 : wB.cell? ⟨w.heap.size + 1, 2, none⟩ = some (.slice a m cp) := by simp [World.cell?, hh]
  have s3 : wB.cell? ⟨w.heap.size + 1, 3, none⟩ = some (.int .i64 (m : Int)) := by simp [World.cell?, hh]
  obtain ⟨a0, a1, a2, a3, a4, a5⟩ := HBt.out.cells
  obtain ⟨f0, f1, f2, f3, f4, f5⟩ := HBt.out.froz
  have hi : ((hs.length : Nat) : Int) + 1 - 1 = (hs.length : Int) := by omega
  have hlt : (hs.length : Int) < (hs.length : Int) + 1 := by omega
  have hlc : (hs.length : Int) + 1 ≤ (c : Int) := by omega
  have HI : Hid (StI W0 B g (hs ++ [h]) (.slice (some ⟨gr, 0, none⟩) (hs ++ [h]).length c) P w) := ⟨i1, i2, i3, i4, i5, i6, i7, i8⟩
  have HWT : Hid (WaitT w B (.slice a m cp) h.ps) := by rw [hmd, ← hpv]; exact hwt
  have HTR : Hid (∀ q ∈ h.ps, IsT (veil P w) q.2 q.1) := htr
  have HPV : Hid (h.pv = .slice a m cp) := by rw [hmd]; exact hpv
  have HM : Hid (m = qs.length + 1 ∧ m = h.want) := ⟨by rw [hmd, hps]; simp, hw⟩
  have HPS : Hid (h.ps = qs ++ [(vl, tl)]) := hps
  have HKD : Hid (k = h.kind) := hkd
  clear i1 i2 i3 i4 i5 i6 i7 i8 hwt htr hpv hx hBt hBA hBB hBwB hbA hbB hh c0 c1 c2 c3 hov hgt hhm hps hkd hdd hmd hw hw1 hw2
  have HWA : Hid (RdX w g bv p n (.slice (some ⟨gr, 0, none⟩) (hs.length + 1) c)) := HXW
  clear HXW
  go_enter Tryd.func83, Tryd.ntmps83
  rcases hk with rfl | rfl
  · have hcu := (But.refl g wB).setCell 3 (.slice (some ⟨gr, 0, none⟩) hs.length c)
    obtain ⟨wC, hwC⟩ : ∃ wC, wB.setCell ⟨g, 3, none⟩ (.slice (some ⟨gr, 0, none⟩) hs.length c) = wC := ⟨_, rfl⟩
    rw [hwC] at hcu
    have hszC : wC.heap.size = w.heap.size + 2 := by rw [hcu.size, hszB]
    have hGC : Grw g w wC := (Grw.ofBelow HBwB.out).but hcu (.inl rfl)
    have HGC : Hid (Grw g w wC) := hGC
    have HXC : Hid (RdX wC g bv p n (.slice (some ⟨gr, 0, none⟩) hs.length c)) := by unfold Hid; rw [← hwC]; exact HX.out.setO (.slice (some ⟨gr, 0, none⟩) hs.length c) ⟨_, _, _, rfl⟩
    have HBC : Hid (Bt wC w.heap.size 0 false (.slice none 0 0) ⟨#[]⟩ 0 (.slice none 0 0)) := HBt.out.other hcu (by omega)
    have bC : ∀ (x : Addr) (u : Value), x.block ≠ g → wB.cell? x = some u → wC.cell? x = some u := fun x u hx hu => by rw [World.cell?_of_block (w := wB) (hcu.block x.block hx)]; exact hu
    have r0 := bC _ _ (by show w.heap.size + 1 ≠ g; omega) s0
    have r1 := bC _ _ (by show w.heap.size + 1 ≠ g; omega) s1
    have r2 := bC _ _ (by show w.heap.size + 1 ≠ g; omega) s2
    have r3 := bC _ _ (by show w.heap.size + 1 ≠ g; omega) s3
    have hts := HI.out.parts hgB hGC
    rw [HPV.out] at hts
    have hpl2 : (h.ps.map Prod.snd).length = m := by rw [HPS.out]; simp; have := HM.out.1; omega
    have hgt : (h.ps.map Prod.snd)[m - 1]'(by rw [hpl2]; have := HM.out.1; omega) = tl := by
      have e : h.ps.map Prod.snd = qs.map Prod.snd ++ [tl] := by rw [HPS.out]; simp
      simp only [e]
      rw [List.getElem_append_right (by have := HM.out.1; simp; omega)]
      simp
    obtain ⟨bb, off, vt, ha, hlt2, h6v, hvt⟩ := hts.at (m - 1) (by rw [hpl2]; have := HM.out.1; omega)
    subst ha
    rw [hgt] at hvt
    have h6 : At6 wC bb (off + (m - 1) * 6) vt := h6v.cells (fun a u ha => (veil_cell ha).2)
    obtain ⟨q, hqd⟩ : ∃ q, q = m - 1 := ⟨_, rfl⟩
    rw [← hqd] at h6
    have hqm : q < m := by have := HM.out.1; omega
    have hq1 : (m : Int) - 1 = (q : Int) := by omega
    have hq2 : (q : Int) < (m : Int) := by omega
    obtain ⟨a', cp', hsh, hcp1, hcp2, -⟩ := hts.shape
    rw [hpl2] at hsh hcp1
    injection hsh with e1 e2 e3
    subst e1; subst e3
    have hq3 : (q : Int) ≤ (cp : Int) := by omega
    have htk := hts.take q (by rw [hpl2]; omega)
    have hheads : (h.ps.map Prod.snd).take q = qs.map Prod.snd := by
      have e : h.ps.map Prod.snd = qs.map Prod.snd ++ [tl] := by rw [HPS.out]; simp
      have hql : q = (qs.map Prod.snd).length := by have := HM.out.1; simp; omega
      rw [e, hql, List.take_left]
    rw [hheads] at htk
    obtain ⟨sl, sk, rfl, hls, hks, -⟩ := hvt.open
    obtain ⟨pl, cl, rfl⟩ := hls.shape
    obtain ⟨pk, ck, rfl, -⟩ := hks.shape
    have HLN : Hid (∀ W, Below wC.heap.size wC W → Calls Tryd.prog 133 #[.slice (some ⟨bb, off, none⟩) q cp, .agg #[.int .i64 tl.kind, .bool tl.neg, .slice pl tl.limbs.length cl, .string tl.str, .int .i64 tl.num, .slice pk tl.kids.length ck]] W fun e w' => ∃ v, e = .returned v ∧ IsT (veil (orB (andV P h.pv) wC.heap.size) w') (listT (qs.map Prod.snd) tl) v ∧ Below wC.heap.size wC w') := fun W hW => by
      rw [HPV.out]
      have hmv : ∀ b, andV P (Value.slice (some ⟨bb, off, none⟩) m cp) b = true → b < wC.heap.size → W.heap[b]? = wC.heap[b]? ∧ andV P (Value.slice (some ⟨bb, off, none⟩) m cp) b = true := fun b hb hlt => ⟨hW.block b hlt, hb⟩
      refine (list_new (andV P (.slice (some ⟨bb, off, none⟩) m cp)) _ _ _ tl W (htk.veiled hW.size hmv) (hvt.veiled hW.size hmv)).mono ?_
      rintro e w' ⟨v, rfl, hi, bw⟩
      refine ⟨v, rfl, hi.veiled (Nat.le_refl _) (fun b hb _ => ⟨rfl, ?_⟩), hW.trans (bw.mono hW.size)⟩
      unfold orB at hb ⊢
      rw [Bool.or_eq_true, decide_eq_true_eq] at hb ⊢
      have := hW.size
      rcases hb with hb | hb
      · exact .inl hb
      · exact .inr (by omega)
    obtain ⟨e0, e1, e2', e3', e4, e5, hve, g0, g1, g2, g3, g4, g5⟩ := h6
    simp only [tmV, Value.agg.injEq, List.toArray_inj, List.cons.injEq, and_true] at hve
    obtain ⟨rfl, rfl, rfl, rfl, rfl, rfl⟩ := hve
    have bD : ∀ (x : Addr) (u : Value), wC.cell? x = some u → (wC.alloc (.cells #[.int .i64 0, .bool false, .slice none 0 0, .string ⟨#[]⟩, .int .i64 0, .slice none 0 0] 29)).cell? x = some u := fun x u hu => (((Below.refl wC.heap.size wC).alloc (Nat.le_refl _) _).cell (World.block_lt_of_cell? wC x hu)).trans hu
    have r0' := bD _ _ r0
    have r1' := bD _ _ r1
    have r2' := bD _ _ r2
    have r3' := bD _ _ r3
    have g0' := bD _ _ g0
    have g1' := bD _ _ g1
    have g2' := bD _ _ g2
    have g3' := bD _ _ g3
    have g4' := bD _ _ g4
    have g5' := bD _ _ g5
    obtain ⟨wD, hwD⟩ : ∃ wD, wC.alloc (.cells #[.int .i64 tl.kind, .bool tl.neg, .slice pl tl.limbs.length cl, .string tl.str, .int .i64 tl.num, .slice pk tl.kids.length ck] 29) = wD := ⟨_, rfl⟩
    have hBD : Below wC.heap.size wC wD := by rw [← hwD]; exact (Below.refl _ _).alloc (Nat.le_refl _) _
    have hDT : Bt wD wC.heap.size tl.kind tl.neg (.slice pl tl.limbs.length cl) tl.str tl.num (.slice pk tl.kids.length ck) := by rw [← hwD]; exact Bt.new wC _ _ _ _ _ _ ⟨_, _, _, rfl⟩ ⟨_, _, _, rfl⟩
    rw [hszC] at hDT
    obtain ⟨k0, k1, k2, k3, k4, k5⟩ := hDT.cells
    have HBD : Hid (Below wC.heap.size wC wD) := hBD
    have HBDt : Hid (Bt wD w.heap.size 0 false (.slice none 0 0) ⟨#[]⟩ 0 (.slice none 0 0)) := HBC.out.under hBD
    obtain ⟨a0, a1, a2, a3, a4, a5⟩ := HBDt.out.cells
    obtain ⟨f0, f1, f2, f3, f4, f5⟩ := HBDt.out.froz
    have HXD : Hid (RdX wD g bv p n (.slice (some ⟨gr, 0, none⟩) hs.length c)) := HXC.out.under hBD
    have HGD : Hid (Grw g w wD) := HGC.out.more hBD
    have HSZC : Hid (wC.heap.size = w.heap.size + 2) := hszC
    clear hts htk hheads hvt hls hks hlt2 h6v hgt hpl2 bD bC hBD hDT hGC hcu hqd hcp1 hcp2
    go_wp2_with fail
    go_region
    by_cases ht4 : tl.kind = 4
    · have q4 : (tl.kind == 4) = true := by simp [ht4]
      have HR : Hid (shutT ⟨h.kind, h.depth, qs.map Prod.snd, h.want⟩ tl p n = Rs.bad 4) := by
        unfold Hid shutT
        rw [if_neg (show ¬ h.kind = 5 by rw [← HKD.out]; decide), if_pos ht4]
      clear ht4
      go_wp2_with fail
      refine bodyPost_ret (results_bt2 rfl _ _ w.heap.size 0 false (.slice none 0 0) ⟨#[]⟩ 0 (.slice none 0 0) rfl (Bt.set (w := wD) HBDt.out 0 false (.slice none 0 0) ⟨#[]⟩ 0 (.slice none 0 0) ⟨_, _, _, rfl⟩ ⟨_, _, _, rfl⟩).drew) rfl ?_
      rw [HR.out]
      exact ⟨_, rfl, (HGD.out.but (setBt_but wD _ _ _ _ _ _ _) (.inr (Nat.le_refl _))).drew, ⟨_, _, _, _, _, _, rfl, ⟨_, _, _, rfl⟩, ⟨_, _, _, rfl⟩⟩, fun h => absurd h (by decide)⟩
    · have q4 : (tl.kind == 4) = false := by rw [beq_eq_false_iff_ne]; exact ht4
      have HR : Hid (shutT ⟨h.kind, h.depth, qs.map Prod.snd, h.want⟩ tl p n = ⟨0, listT (qs.map Prod.snd) tl, p, n⟩) := by
        unfold Hid shutT
        rw [if_neg (show ¬ h.kind = 5 by rw [← HKD.out]; decide), if_neg ht4]
      clear ht4
      go_wp2_with fail
      refine (HLN.out _ (by first | exact HBD.out.drew | exact HBD.out)).mono ?_
      rintro e w5 ⟨v, rfl, hi, b5⟩
      obtain ⟨sl5, sk5, rfl, hls5, hks5, -⟩ := hi.open
      obtain ⟨pl5, cl5, rfl⟩ := hls5.shape
      obtain ⟨pk5, ck5, rfl, -⟩ := hks5.shape
      have HI5 : Hid (IsT (veil (orB (andV P h.pv) wC.heap.size) w5) (listT (qs.map Prod.snd) tl) (tmV (listT (qs.map Prod.snd) tl).kind (listT (qs.map Prod.snd) tl).neg (.slice pl5 (listT (qs.map Prod.snd) tl).limbs.length cl5) (listT (qs.map Prod.snd) tl).str (listT (qs.map Prod.snd) tl).num (.slice pk5 (listT (qs.map Prod.snd) tl).kids.length ck5))) := hi
      have HB5 : Hid (Below wC.heap.size wC w5) := b5
      have HBt5 : Hid (Bt w5 w.heap.size 0 false (.slice none 0 0) ⟨#[]⟩ 0 (.slice none 0 0)) := HBC.out.under b5
      have HX5 : Hid (RdX w5 g bv p n (.slice (some ⟨gr, 0, none⟩) hs.length c)) := HXC.out.under b5
      have HG5 : Hid (Grw g w w5) := HGC.out.more b5
      clear hi hls5 hks5 b5 a0 a1 a2 a3 a4 a5 f0 f1 f2 f3 f4 f5
      obtain ⟨a0, a1, a2, a3, a4, a5⟩ := HBt5.out.cells
      obtain ⟨f0, f1, f2, f3, f4, f5⟩ := HBt5.out.froz
      generalize listT (qs.map Prod.snd) tl = tt at *
      simp only [tmV]
      go_wp2_with fail
      refine bodyPost_ret (results_bt2 rfl _ _ w.heap.size tt.kind tt.neg (.slice pl5 tt.limbs.length cl5) tt.str tt.num (.slice pk5 tt.kids.length ck5) rfl (Bt.set HBt5.out tt.kind tt.neg (.slice pl5 tt.limbs.length cl5) tt.str tt.num (.slice pk5 tt.kids.length ck5) ⟨_, _, _, rfl⟩ ⟨_, _, _, rfl⟩)) rfl ?_
      rw [HR.out]
      have hbu := setBt_but w5 w.heap.size tt.kind tt.neg (.slice pl5 tt.limbs.length cl5) tt.str tt.num (.slice pk5 tt.kids.length ck5)
      have hG : Grw g w (setBt w5 w.heap.size tt.kind tt.neg (.slice pl5 tt.limbs.length cl5) tt.str tt.num (.slice pk5 tt.kids.length ck5)) := HG5.out.but hbu (.inr (Nat.le_refl _))
      have hs5 := HB5.out.size
      have hS1 := HI.out.shut HWA.out hgB hWg hG
      obtain ⟨j1, j2, j3, j4, j5, j6, j7, j8⟩ := HI.out
      have ho := HI.out.own
      have hVlt : ∀ b, andV P h.pv b = true → b < w.heap.size ∧ B ≤ b := fun b hb => by
        rcases andV_is.1 hb with hb | hb
        · exact j5 b hb
        · obtain ⟨-, -, -, l1, l2⟩ := ho b hb
          exact ⟨l2, l1⟩
      refine ⟨_, rfl, hG, ⟨_, _, _, _, _, _, rfl, ⟨_, _, _, rfl⟩, ⟨_, _, _, rfl⟩⟩, fun _ => ⟨_, fun b => orB (andV P h.pv) wC.heap.size b && decide (b < w5.heap.size), HX5.out.block (hbu.block g (by omega)), ?_, ?_, fun b hb1 hb2 => (by
          unfold orB at hb2
          rw [Bool.and_eq_true, Bool.or_eq_true, decide_eq_true_eq] at hb2
          rcases hb2.1 with h1 | h1
          · exact andV_is.1 h1
          · have := HSZC.out; omega)⟩⟩
      · refine hS1.grw hgB hWg hS1.2.1 (Grw.refl _ _) (fun b hb => ?_) (fun b hb => ?_) (fun b hb => ?_) (fun x hx b hb => ?_)
        · have := hVlt b hb
          unfold orB
          rw [hb, decide_eq_true (show b < w5.heap.size by have := HSZC.out; omega)]; rfl
        · unfold orB at hb
          rw [Bool.and_eq_true, Bool.or_eq_true, decide_eq_true_eq, decide_eq_true_eq] at hb
          have := HSZC.out
          rcases hb with ⟨hb | hb, h2⟩
          · exact ⟨Nat.lt_of_lt_of_eq h2 hbu.size.symm, (hVlt b hb).2⟩
          · exact ⟨Nat.lt_of_lt_of_eq h2 hbu.size.symm, by omega⟩
        · have h1 := hS1.2.2.2.2.2.1 b hb
          have h2 : b < w.heap.size := by
            have e : gr = b := by simpa [Value.ownBlock] using hb
            omega
          unfold orB
          rw [h1, decide_eq_false (show ¬ wC.heap.size ≤ b by have := HSZC.out; omega)]; rfl
        · have h1 := hS1.2.2.2.2.2.2.1 x hx b hb
          have h2 : b < w.heap.size := ((j4 x (List.mem_append_left _ hx)).1.lt b hb).2.1
          unfold orB
          rw [h1, decide_eq_false (show ¬ wC.heap.size ≤ b by have := HSZC.out; omega)]; rfl
      · refine HI5.out.veiled (Nat.le_of_eq hbu.size.symm) (fun b hb hlt => ⟨hbu.block b ?_, ?_⟩)
        · unfold orB at hb
          rw [Bool.or_eq_true, decide_eq_true_eq] at hb
          have := HSZC.out
          rcases hb with hb | hb
          · have := (hVlt b hb).1; omega
          · omega
        · rw [hb, decide_eq_true hlt]; rfl
  · go_wp2_with fail
    have hcu := (But.refl g wB).setCell 3 (.slice (some ⟨gr, 0, none⟩) hs.length c)
    refine bodyPost_ret (results_bt2 rfl _ _ w.heap.size 5 false (.slice none 0 0) ⟨#[]⟩ 0 (.slice a m cp) rfl (Bt.set (HBt.out.other hcu (by omega)) 5 false (.slice none 0 0) ⟨#[]⟩ 0 (.slice a m cp) ⟨_, _, _, rfl⟩ ⟨_, _, _, rfl⟩)) rfl ?_
    have hbu := setBt_but (wB.setCell ⟨g, 3, none⟩ (.slice (some ⟨gr, 0, none⟩) hs.length c)) w.heap.size 5 false (.slice none 0 0) ⟨#[]⟩ 0 (.slice a m cp)
    have hG : Grw g w (setBt (wB.setCell ⟨g, 3, none⟩ (.slice (some ⟨gr, 0, none⟩) hs.length c)) w.heap.size 5 false (.slice none 0 0) ⟨#[]⟩ 0 (.slice a m cp)) := ((Grw.ofBelow HBwB.out).but hcu (.inl rfl)).but hbu (.inr (Nat.le_refl _))
    have hR : shutT ⟨h.kind, h.depth, qs.map Prod.snd, h.want⟩ tl p n = ⟨0, tupT (h.ps.map Prod.snd), p, n⟩ := by
      unfold shutT
      rw [if_pos HKD.out.symm, HPS.out]
      simp
    rw [hR]
    refine ⟨_, rfl, hG, ⟨_, _, _, _, _, _, rfl, ⟨_, _, _, rfl⟩, ⟨_, _, _, rfl⟩⟩, fun _ => ⟨_, andV P h.pv, (HX.out.setO (.slice (some ⟨gr, 0, none⟩) hs.length c) ⟨_, _, _, rfl⟩).block (hbu.block g (by omega)), HI.out.shut HWA.out hgB hWg hG, ?_, fun b _ hb => andV_is.1 hb⟩⟩
    have hts := HI.out.parts hgB hG
    rw [HPV.out] at hts ⊢
    exact IsT.shut (by omega) (by omega) (by decide) (Sl.nil _) hts
end Go.Proofs.YtbmondbicnfcpaaDoor
