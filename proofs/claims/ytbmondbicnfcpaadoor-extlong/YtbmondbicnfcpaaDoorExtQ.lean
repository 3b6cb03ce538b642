
/-
  ext: begin.
-/
import Derived.Test.YtbmondbicnfcpaaDoorExtP
import Derived.Deep.RegionHeld3
import Derived.Deep.Cut
namespace Go.Proofs.YtbmondbicnfcpaaDoor
open Go.RowKit
set_option linter.unusedVariables false
set_option linter.unusedSimpArgs false

set_option maxRecDepth 100000 in
set_option maxHeartbeats 2000000 in
theorem eqB_any (v1 v2 : Value) (l1 l2 : List UInt8) (w : World) (h1 : By w v1 l1) (h2 : By w v2 l2) :
    Calls Tryd.prog 132 #[v1, v2] w fun e w' => e = .returned (.bool (decide (l1 = l2))) ∧ Below w.heap.size w w' := by
  obtain ⟨a1, c1, rfl, hc1, hm1, hn1⟩ := h1.shape
  obtain ⟨a2, c2, rfl, hc2, hm2, hn2⟩ := h2.shape
  have t1 := h1.text
  have t2 := h2.text
  clear h1 h2
  go_enter Tryd.func132, Tryd.ntmps132
  go_wp2_with fail
  go_ret
  exact ⟨ret_bool (by by_cases h : l1 = l2 <;> simp [h]), Below.refl _ _⟩

theorem results_bt3 {fn : Func} {q u u' : Tmp} (h : fn.results = #[.cell q 29, .tmp u, .tmp u']) (tmps : Array Value) (w : World) (g : Nat) (k : Int) (neg : Bool) (sl : Value) (S : ByteArray) (N : Int) (sk : Value) (hq : tmps.getD q undef = .pointer (some ⟨g, 0, none⟩)) (hb : Bt w g k neg sl S N sk) :
    (results fn tmps).run Tryd.prog w = .ok (.tuple #[tmV k neg sl S N sk, tmps.getD u undef, tmps.getD u' undef]) w := by
  have hl := hb.load
  simp only [Array.getD_eq_getD_getElem?] at hq
  simp only [results, h]
  simp [hq, asAddr, hl, tmV]
theorem results_bt2 {fn : Func} {q u : Tmp} (h : fn.results = #[.cell q 29, .tmp u]) (tmps : Array Value) (w : World) (g : Nat) (k : Int) (neg : Bool) (sl : Value) (S : ByteArray) (N : Int) (sk : Value) (hq : tmps.getD q undef = .pointer (some ⟨g, 0, none⟩)) (hb : Bt w g k neg sl S N sk) :
    (results fn tmps).run Tryd.prog w = .ok (.tuple #[tmV k neg sl S N sk, tmps.getD u undef]) w := by
  have hl := hb.load
  simp only [Array.getD_eq_getD_getElem?] at hq
  simp only [results, h]
  simp [hq, asAddr, hl, tmV]

/-- What holds of each shape. -/
def shOk (s : Sh) : Prop := s.w ≤ 4 ∧ s.lo ≤ 1 ∧ s.hi ≤ 2000 ∧ (s.tag = 108 → s.hi = 2000) ∧ s.tag ≤ 255 ∧ s.ea ≤ 1 ∧ s.al ≤ 4 ∧ ∀ c, s.lo ≤ c → c ≤ s.hi → alF s.tag (s.al + s.ea * c)
theorem sh_ok {t : Nat} {s : Sh} (h : shF t = some s) : shOk s := by
  have hm : s ∈ shT := List.mem_of_find?_eq_some h
  simp only [shT, List.mem_cons, List.not_mem_nil, or_false] at hm
  rcases hm with rfl | rfl | rfl | rfl | rfl | rfl | rfl | rfl <;> (refine ⟨by decide, by decide, by decide, by decide, by decide, by decide, by decide, fun c h1 h2 => ?_⟩; simp only at h1 h2 ⊢; refine ⟨fun h => ?_, fun h => ?_, fun h => ?_, ?_⟩ <;> omega)
theorem fst_ok {l : List UInt8} {p n d : Nat} (h : (fstR l p n d).1 = 0) : shOk (fstR l p n d).2 ∧ p + 1 ≤ l.length ∧ n < 2000 ∧ d ≤ 60 ∧ shF (l.getD p 0).toNat = some (fstR l p n d).2 := by
  unfold fstR at h ⊢
  by_cases h1 : l.length < p + 1
  · rw [if_pos h1] at h; cases h
  · rw [if_neg h1] at h ⊢
    by_cases h2 : 2000 ≤ n ∨ 60 < d
    · rw [if_pos h2] at h; cases h
    · rw [if_neg h2] at h ⊢
      cases hs : shF (l.getD p 0).toNat with
      | none => rw [hs] at h; cases h
      | some s => exact ⟨sh_ok hs, by omega, by omega, by omega, rfl⟩
theorem man_ok {l : List UInt8} {p n : Nat} {s : Sh} (h : (manR l p n s).1 = 0) : p + s.w ≤ l.length ∧ s.lo ≤ (manR l p n s).2 ∧ (manR l p n s).2 ≤ (if s.tag = 108 then s.hi - n else s.hi) := by
  unfold manR at h ⊢
  by_cases h1 : l.length < p + s.w
  · rw [if_pos h1] at h; cases h
  · rw [if_neg h1] at h ⊢
    by_cases h2 : highL ((l.drop p).take s.w) < s.lo ∨ (if s.tag = 108 then s.hi - n else s.hi) < highL ((l.drop p).take s.w)
    · rw [if_pos h2] at h; cases h
    · rw [if_neg h2]
      refine ⟨by omega, ?_, ?_⟩ <;> simp only <;> omega

/-- begin's answer. -/
def BgP (w : World) (g : Nat) (bv : Value) (ov : Value) (R : Bg) (e : Ending) (w' : World) : Prop :=
  ∃ v, e = .returned (.tuple #[v, .int .i64 (R.want : Int), .int .i64 (R.e : Int)]) ∧ Grw g w w' ∧ IsT (veil (fromB w.heap.size) w') R.t v ∧ (R.e = 0 → RdX w' g bv R.p R.n ov)
theorem bg_bad {w w1 : World} {g : Nat} {bv ov : Value} {k : Nat} (hk : k ≠ 0) (h : Grw g w w1) :
    BgP w g bv ov (Bg.bad k) (.returned (.tuple #[tmV 0 false (.slice none 0 0) ⟨#[]⟩ 0 (.slice none 0 0), .int .i64 0, .int .i64 (k : Int)])) (setBt w1 w.heap.size 0 false (.slice none 0 0) ⟨#[]⟩ 0 (.slice none 0 0)) :=
  ⟨_, rfl, h.but (setBt_but _ _ _ _ _ _ _ _) (.inr (Nat.le_refl _)), IsT.shut (by omega) (by omega) (by decide) (Sl.nil _) (Ts.nil _), fun h => absurd h hk⟩

theorem bg_good {w w4 w5 wc w' : World} {g : Nat} {bv ov : Value} {t : Tm} {want Q n2 : Nat} {sl sk : Value} (hI : IsT (veil (fromB w4.heap.size) w5) t (tmV t.kind t.neg sl t.str t.num sk)) (h4 : w.heap.size < w4.heap.size) (h5 : w5.heap.size ≤ wc.heap.size) (hc : Below w5.heap.size w5 wc) (hs : wc.heap.size = w'.heap.size)
    (hb : ∀ b, w4.heap.size ≤ b → w'.heap[b]? = wc.heap[b]?) (hg : Grw g w w') (hx : RdX w' g bv Q n2 ov) : BgP w g bv ov ⟨0, t, want, Q, n2⟩ (.returned (.tuple #[tmV t.kind t.neg sl t.str t.num sk, .int .i64 (want : Int), .int .i64 0])) w' :=
  ⟨_, rfl, hg, hI.veiled (by omega) (fun b hb1 hlt => ⟨by rw [hb b (fromB_is.1 hb1), hc.block b hlt], fromB_is.2 (by have := fromB_is.1 hb1; omega)⟩), fun _ => hx⟩

theorem bg_end {w w4 w5 wc : World} {g : Nat} {bv ov : Value} {t : Tm} {want Q n N : Nat} {NI : Int} {sl sk : Value} (hI : IsT (veil (fromB w4.heap.size) w5) t (tmV t.kind t.neg sl t.str t.num sk)) (h4 : w.heap.size < w4.heap.size) (h5 : w5.heap.size ≤ wc.heap.size) (hc : Below w5.heap.size w5 wc)
    (hg : Grw g w wc) (hx : RdX wc g bv Q n ov) (hgl : g < w.heap.size) (hN : NI = (N : Int)) : BgP w g bv ov ⟨0, t, want, Q, N⟩ (.returned (.tuple #[tmV t.kind t.neg sl t.str t.num sk, .int .i64 (want : Int), .int .i64 0])) (setBt (wc.setCell ⟨g, 2, none⟩ (.int .i64 NI)) w.heap.size t.kind t.neg sl t.str t.num sk) := by
  subst hN
  have hbu := setBt_but (wc.setCell ⟨g, 2, none⟩ (.int .i64 (N : Int))) w.heap.size t.kind t.neg sl t.str t.num sk
  have hcu := (But.refl g wc).setCell 2 (.int .i64 (N : Int))
  refine bg_good hI h4 h5 hc (by rw [hbu.size, hcu.size]) (fun b hb => by rw [hbu.block b (by omega), hcu.block b (by omega)]) ((hg.setCell 2 _).but hbu (.inr (Nat.le_refl _))) ?_
  exact (hx.setN (N : Int)).block (hbu.block g (by omega))

set_option maxRecDepth 100000 in
set_option maxHeartbeats 16000000 in
theorem begin_any (W0 w : World) (g : Nat) (bv : Value) (l : List UInt8) (p n : Nat) (ov : Value) (base : Nat) (hs : List Ho) (hS : Shp w) (hx : RdX w g bv p n ov) (hr : HoRow w base ov hs) (hy : By W0 bv l) (hW : Below W0.heap.size W0 w) (hg : W0.heap.size ≤ g) (hp : p ≤ l.length) (hl : l.length ≤ 1000000000) (hn : n ≤ 2000) :
    Calls Tryd.prog 81 #[.pointer (some ⟨g, 0, none⟩)] w fun e w' => BgP w g bv ov (bgn l p n (depS hs)) e w' := by
  obtain ⟨R, hR⟩ : ∃ R, bgn l p n (depS hs) = R := ⟨_, rfl⟩
  have HR : Hid (bgn l p n (depS hs) = R) := hR
  rw [hR]
  clear hR
  obtain ⟨wA, hwA⟩ : ∃ wA, w.alloc (.cells #[.int .i64 0, .bool false, .slice none 0 0, .string ⟨#[]⟩, .int .i64 0, .slice none 0 0] 29) = wA := ⟨_, rfl⟩
  have hBt : Bt wA w.heap.size 0 false (.slice none 0 0) ⟨#[]⟩ 0 (.slice none 0 0) := by rw [← hwA]; exact Bt.new w _ _ _ _ _ _ ⟨_, _, _, rfl⟩ ⟨_, _, _, rfl⟩
  have hBA : Below w.heap.size w wA := by rw [← hwA]; exact (Below.refl _ _).alloc (Nat.le_refl _) _
  have hszA : wA.heap.size = w.heap.size + 1 := by rw [← hwA]; simp
  have hgl := hx.lt
  have hWs := hW.size
  have HXA : Hid (RdX wA g bv p n ov) := hx.under hBA
  have HRA : Hid (HoRow wA base ov hs) := hr.under hBA
  have HSA : Hid (Shp wA) := hS.under hBA
  have HWA : Hid (Below W0.heap.size W0 wA) := hW.trans (hBA.mono hW.size)
  have HBtA : Hid (Bt wA w.heap.size 0 false (.slice none 0 0) ⟨#[]⟩ 0 (.slice none 0 0)) := hBt
  have HGA : Hid (Grw g w wA) := Grw.ofBelow hBA
  obtain ⟨⟨d0, d1, d2, d3⟩, -⟩ := HXA.out.facts
  clear hx hr hS hW hBt hBA
  go_enter Tryd.func81, Tryd.ntmps81
  go_wp2_with fail
  refine (first_any W0 wA g bv l p n ov base hs HSA.out HXA.out HRA.out hy HWA.out hg hp hl).mono ?_
  rintro e w1 ⟨rfl, hg1, hx1⟩
  obtain ⟨F, hF⟩ : ∃ F, fstR l p n (depS hs) = F := ⟨_, rfl⟩
  rw [hF] at hx1 ⊢
  obtain ⟨k1, s⟩ := F
  dsimp only at hx1 ⊢
  unfold shV
  have HF : Hid (fstR l p n (depS hs) = (k1, s)) := hF
  obtain ⟨w2, hw2⟩ : ∃ w2, w1.alloc (.cells #[.int .u8 (s.tag : Int), .int .i64 (s.w : Int), .int .i64 (s.lo : Int), .int .i64 (s.hi : Int), .int .i64 (s.al : Int), .int .i64 (s.ea : Int)] 140) = w2 := ⟨_, rfl⟩
  have hB2 : Below w1.heap.size w1 w2 := by rw [← hw2]; exact (Below.refl _ _).alloc (Nat.le_refl _) _
  have hS2 : BxS w2 w1.heap.size s := by rw [← hw2]; exact BxS.new w1 s
  have HSX2 : Hid (BxS w2 w1.heap.size s) := hS2
  have hs1 := hg1.size
  have hs2 := hB2.size
  have HGA2 : Hid (Grw g wA w2) := hg1.more hB2
  have HG2 : Hid (Grw g w w2) := (HGA.out.trans hg1).more hB2
  have HBt2 : Hid (Bt w2 w.heap.size 0 false (.slice none 0 0) ⟨#[]⟩ 0 (.slice none 0 0)) := HBtA.out.grw HGA2.out (by omega)
  have HW2 : Hid (Below W0.heap.size W0 w2) := HWA.out.trans (HGA2.out.below hg (by omega))
  obtain ⟨a0, a1, a2, a3, a4, a5⟩ := HBt2.out.cells
  obtain ⟨f0, f1, f2, f3, f4, f5⟩ := HBt2.out.froz
  obtain ⟨t0, t1, t2, t3, t4, t5⟩ := hS2.cells
  have hgs2 := hS2.lt
  have HX2 : Hid (k1 = 0 → RdX w2 g bv ((p + 1 : Nat) : Int) n ov) := fun h => (hx1 h).under hB2
  clear hF hB2 hS2 hg1 hx1 d0 d1 d2 d3 HSA HXA HRA HWA HBtA HGA
  by_cases hk1 : k1 = 0
  · subst hk1
    have HO := fst_ok (l := l) (p := p) (n := n) (d := depS hs) (by rw [HF.out])
    rw [HF.out] at HO
    obtain ⟨hso, hp1, hn1, hd1, hsf⟩ := HO
    dsimp only at hso hsf
    obtain ⟨so1, so2, so3, so4, so5, so6, so7, so8⟩ := hso
    have hX2 := HX2.out rfl
    have HE1 : Hid ((if (manR l (p + 1) n s).1 ≠ 0 then Bg.bad (manR l (p + 1) n s).1 else bgn.bgnD l p n s (manR l (p + 1) n s).2 (p + 1 + s.w) (s.al + s.ea * (manR l (p + 1) n s).2)) = R) := by
      have h := HR.out
      unfold bgn at h
      rw [HF.out, if_neg (fun h => h rfl)] at h
      exact h
    have HHM : Hid (Calls Tryd.prog 129 #[.pointer (some ⟨g, 0, none⟩), .agg #[.int .u8 (s.tag : Int), .int .i64 (s.w : Int), .int .i64 (s.lo : Int), .int .i64 (s.hi : Int), .int .i64 (s.al : Int), .int .i64 (s.ea : Int)]] w2 fun e w' => HmP w2 g bv (p + 1) n ov s (manR l (p + 1) n s) e w') := howMany_any W0 w2 g bv l (p + 1) n ov s hX2 hy HW2.out hg hp1 hl so1 so2 so3 (fun h => by rw [so4 h]; omega) so5 hn
    have HSO8 : Hid (∀ c, s.lo ≤ c → c ≤ s.hi → alF s.tag (s.al + s.ea * c)) := so8
    have HN1 : Hid (n < 2000) := hn1
    clear hX2 HX2 HR HF hsf so4 so8
    go_wp2_with fail
    refine HHM.out.mono ?_
    rintro e w3 ⟨rfl, hg3, hx3⟩
    obtain ⟨M, hM⟩ : ∃ M, manR l (p + 1) n s = M := ⟨_, rfl⟩
    have HM : Hid (manR l (p + 1) n s = M) := hM
    rw [hM] at hx3 HE1 ⊢
    obtain ⟨k2, c⟩ := M
    dsimp only at hx3 HE1 ⊢
    have hs3 := hg3.size
    have HS3 : Hid (BxS w3 w1.heap.size s) := HSX2.out.block (hg3.block _ (by omega) (by omega))
    have HG3 : Hid (Grw g w w3) := HG2.out.trans hg3
    have HBt3 : Hid (Bt w3 w.heap.size 0 false (.slice none 0 0) ⟨#[]⟩ 0 (.slice none 0 0)) := HBt2.out.grw hg3 (by omega)
    have HW3 : Hid (Below W0.heap.size W0 w3) := HW2.out.trans (hg3.below hg (by omega))
    have HX3 : Hid (k2 = 0 → RdX w3 g bv ((p + 1 + s.w : Nat) : Int) n ov) := hx3
    clear a0 a1 a2 a3 a4 a5 f0 f1 f2 f3 f4 f5 t0 t1 t2 t3 t4 t5 HSX2 HG2 HGA2 HBt2 HW2 hg3 hx3 hM HHM
    obtain ⟨a0, a1, a2, a3, a4, a5⟩ := HBt3.out.cells
    obtain ⟨f0, f1, f2, f3, f4, f5⟩ := HBt3.out.froz
    obtain ⟨t0, t1, t2, t3, t4, t5⟩ := HS3.out.cells
    by_cases hk2 : k2 = 0
    · subst hk2
      have HMO := man_ok (l := l) (p := p + 1) (n := n) (s := s) (by rw [HM.out])
      rw [HM.out] at HMO
      obtain ⟨hm1, hm2, hm3⟩ := HMO
      dsimp only at hm2 hm3
      have hc2 : c ≤ s.hi := by split at hm3 <;> omega
      have HE2 : Hid (bgn.bgnD l p n s c (p + 1 + s.w) (s.al + s.ea * c) = R) := by
        have h := HE1.out
        rw [if_neg (fun h => h rfl)] at h
        exact h
      have haf := HSO8.out c hm2 hc2
      obtain ⟨mc, hmc⟩ : ∃ mc, mc = s.ea * c := ⟨_, rfl⟩
      have hmul : (s.ea : Int) * (c : Int) = (mc : Int) := by rw [hmc]; simp
      rw [← hmc] at haf HE2
      have hm4 := haf.2.2.2
      have hmci : (mc : Int) ≤ 401 := by omega
      have hali : (s.al : Int) ≤ 4 := by omega
      obtain ⟨m, hm⟩ : ∃ m, m = s.al + mc := ⟨_, rfl⟩
      have hmi : (s.al : Int) + (mc : Int) = (m : Int) := by omega
      rw [← hm] at haf HE2 hm4
      obtain ⟨q, hq⟩ : ∃ q, q = p + 1 + s.w := ⟨_, rfl⟩
      rw [← hq] at HE2 HX3
      have HTK : Hid (Calls Tryd.prog 130 #[.pointer (some ⟨g, 0, none⟩), .int .i64 (m : Int)] w3 fun e w' => TkP W0 w3 g bv l q n ov m e w') := takeX_any W0 w3 g bv l q n ov m (HX3.out rfl) hy (by omega) (by omega) hl
      have HAF : Hid (alF s.tag m) := haf
      have hci : (c : Int) ≤ 2000 := by omega
      have HM3 : Hid (c ≤ if s.tag = 108 then s.hi - n else s.hi) := hm3
      have HQ : Hid (q = p + 1 + s.w) := hq
      clear hmc hm hm2 hm3 haf HE1 HM HSO8 HX3 hq
      go_wp2_with fail
      refine HTK.out.mono ?_
      rintro e w4 ⟨sv, k3, rfl, hsS, hg4, hcase⟩
      obtain ⟨sa, sn, sc, rfl⟩ := hsS
      have hs4 := hg4.size
      have HS4 : Hid (BxS w4 w1.heap.size s) := HS3.out.block (hg4.block _ (by omega) (by omega))
      have HG4 : Hid (Grw g w w4) := HG3.out.trans hg4
      have HBt4 : Hid (Bt w4 w.heap.size 0 false (.slice none 0 0) ⟨#[]⟩ 0 (.slice none 0 0)) := HBt3.out.grw hg4 (by omega)
      have HW4 : Hid (Below W0.heap.size W0 w4) := HW3.out.trans (hg4.below hg (by omega))
      clear a0 a1 a2 a3 a4 a5 f0 f1 f2 f3 f4 f5 t0 t1 t2 t3 t4 t5 HS3 HG3 HBt3 HW3 hg4 HTK
      obtain ⟨a0, a1, a2, a3, a4, a5⟩ := HBt4.out.cells
      obtain ⟨f0, f1, f2, f3, f4, f5⟩ := HBt4.out.froz
      obtain ⟨t0, t1, t2, t3, t4, t5⟩ := HS4.out.cells
      rcases hcase with ⟨hqm, rfl, hys, hx4⟩ | ⟨hqm, rfl, hse⟩
      · have hDl : ((l.drop q).take m).length = m := by simp; omega
        obtain ⟨D, hD⟩ : ∃ D, D = (l.drop q).take m := ⟨_, rfl⟩
        rw [← hD] at hys hDl
        have HYS : Hid (By W0 (.slice sa sn sc) D) := hys
        obtain ⟨a', c', he, hc1, hc2', -⟩ := hys.shape
        rw [hDl] at he hc1
        injection he with e1 e2 e3
        subst e1; subst e2; subst e3
        obtain ⟨t, htd⟩ : ∃ t, t = rawT s.tag D := ⟨_, rfl⟩
        have HT : Hid (t = rawT s.tag D) := htd
        have HAL : Hid (Calls Tryd.prog 131 #[.int .u8 (s.tag : Int), .slice sa sn sc] w4 fun e w' => AlP w4 t e w') := by
          rw [htd]
          exact alone_any s.tag _ D w4 (hys.under HW4.out) (by rw [hDl]; exact HAF.out) so5
        have HX4 : Hid (RdX w4 g bv ((q + sn : Nat) : Int) n ov) := hx4
        have HE3 : Hid ((if 0 < sn ∧ putO t ≠ (l.drop p).take (q + sn - p) then Bg.bad 4 else ⟨0, t, if s.tag = 108 then c + 1 else if s.tag = 104 then c else 0, q + sn, if s.tag = 108 then n + c else n + 1⟩) = R) := by
          have h := HE2.out
          unfold bgn.bgnD at h
          rw [if_neg (by omega), ← hD, ← htd] at h
          exact h
        clear hys hx4 HE2 HAF htd hD
        go_wp2_with fail
        refine HAL.out.mono ?_
        rintro e w5 ⟨v5, rfl, hi5, b5⟩
        obtain ⟨sl, sk, rfl, hls, hks, -⟩ := hi5.open
        obtain ⟨pl, cl, rfl⟩ := hls.shape
        obtain ⟨pk, ck, rfl, -⟩ := hks.shape
        obtain ⟨w6, hw6⟩ : ∃ w6, w5.alloc (.cells #[.int .i64 t.kind, .bool t.neg, .slice pl t.limbs.length cl, .string t.str, .int .i64 t.num, .slice pk t.kids.length ck] 29) = w6 := ⟨_, rfl⟩
        have hBt6 : Bt w6 w5.heap.size t.kind t.neg (.slice pl t.limbs.length cl) t.str t.num (.slice pk t.kids.length ck) := by rw [← hw6]; exact Bt.new w5 _ _ _ _ _ _ ⟨_, _, _, rfl⟩ ⟨_, _, _, rfl⟩
        have hB6 : Below w5.heap.size w5 w6 := by rw [← hw6]; exact (Below.refl _ _).alloc (Nat.le_refl _) _
        have hs6 : w6.heap.size = w5.heap.size + 1 := by rw [← hw6]; simp
        have hs5 := b5.size
        have HB46 : Hid (Below w4.heap.size w4 w6) := b5.trans (hB6.mono hs5)
        have HI5 : Hid (IsT (veil (fromB w4.heap.size) w5) t (tmV t.kind t.neg (.slice pl t.limbs.length cl) t.str t.num (.slice pk t.kids.length ck))) := hi5
        have HB56 : Hid (Below w5.heap.size w5 w6) := hB6
        have HBT6 : Hid (Bt w6 w5.heap.size t.kind t.neg (.slice pl t.limbs.length cl) t.str t.num (.slice pk t.kids.length ck)) := hBt6
        have HX6 : Hid (RdX w6 g bv ((q + sn : Nat) : Int) n ov) := HX4.out.under HB46.out
        have HBt6' : Hid (Bt w6 w.heap.size 0 false (.slice none 0 0) ⟨#[]⟩ 0 (.slice none 0 0)) := HBt4.out.under HB46.out
        have HS6 : Hid (BxS w6 w1.heap.size s) := HS4.out.under HB46.out
        have HG6 : Hid (Grw g w w6) := HG4.out.more HB46.out
        have HW6 : Hid (Below W0.heap.size W0 w6) := HW4.out.trans (HB46.out.mono HW4.out.size)
        have hsz1 := HS4.out.lt
        have hszr := HBt4.out.lt
        clear hi5 hls hks hBt6 hB6 b5 a0 a1 a2 a3 a4 a5 f0 f1 f2 f3 f4 f5 t0 t1 t2 t3 t4 t5 HX4 HBt4 HS4 HG4 HW4 HAL
        simp only [tmV]
        obtain ⟨BB, hBB⟩ : ∃ BB, BB = (decide (0 < sn) && !decide (putO t = (l.drop p).take (q + sn - p))) := ⟨_, rfl⟩
        have HBB : Hid (BB = (decide (0 < sn) && !decide (putO t = (l.drop p).take (q + sn - p)))) := hBB
        clear hBB
        go_wp2_with fail
        go_cut [72] from 54 (fun s wc => s = .bool BB ∧ Below w6.heap.size w6 wc)
        case first =>
          by_cases h0 : sn = 0
          · have HB0 : Hid (BB = false) := by unfold Hid; rw [HBB.out, h0]; rfl
            subst h0
            go_quiet (fail)
            go_wp2_with fail
            go_meet
            case rel => exact ⟨by rw [HB0.out], below_drewN (Below.refl _ _) _⟩
          · have h0i : (0 : Int) < (sn : Int) := by omega
            obtain ⟨EQ, hEQ⟩ : ∃ EQ, EQ = decide (putO t = (l.drop p).take (q + sn - p)) := ⟨_, rfl⟩
            have HB1 : Hid (BB = !EQ) := by unfold Hid; rw [HBB.out, hEQ, decide_eq_true (show 0 < sn by omega), Bool.true_and]
            obtain ⟨av, cap, rfl, hcap1, hcap2, hcap3⟩ := hy.shape
            obtain ⟨b, off, rfl, hblt, -⟩ := hy.at 0 (by omega)
            obtain ⟨Q, hQd⟩ : ∃ Q, Q = q + sn := ⟨_, rfl⟩
            rw [← hQd] at HX6 hEQ
            obtain ⟨ob, hob⟩ : ∃ ob, ob = if cap = p then off else off + p := ⟨_, rfl⟩
            have hob2 : (if cap = p then some (⟨b, off, none⟩ : Addr) else some ⟨b, off + p, none⟩) = some ⟨b, ob, none⟩ := by rw [hob]; split <;> rfl
            have hsub := hy.part p Q ob (by have := HQ.out; omega) (by omega) hob
            have HYS2 : Hid (∀ W, Below w6.heap.size w6 W → By W (.slice (some ⟨b, ob, none⟩) (Q - p) (cap - p)) ((l.drop p).take (Q - p))) := fun W hW => hsub.under (HW6.out.trans (hW.mono HW6.out.size))
            have HEQ : Hid (∀ W v1 v2, By W v1 ([] ++ putO t) → By W v2 ((l.drop p).take (Q - p)) → Calls Tryd.prog 132 #[v1, v2] W fun e w' => e = .returned (.bool EQ) ∧ Below W.heap.size W w') := by
              intro W v1 v2 h1 h2
              rw [hEQ]
              exact eqB_any v1 v2 _ _ W h1 h2
            have HPUT : Hid (∀ W, Below w6.heap.size w6 W → Calls Tryd.prog 16 #[.slice none 0 0, .agg #[.int .i64 t.kind, .bool t.neg, .slice pl t.limbs.length cl, .string t.str, .int .i64 t.num, .slice pk t.kids.length ck]] W fun e w' => PPost W [] t e w') := fun W hW => eput_any _ _ [] t W (By.nil _) (by simp) ((HI5.out.unveil.under HB56.out).under hW)
            have HKP : Hid (∀ W, Below w6.heap.size w6 W → (W.cell? ⟨g, 0, none⟩ = some (.slice (some ⟨b, off, none⟩) l.length cap) ∧ W.cell? ⟨g, 1, none⟩ = some (.int .i64 (Q : Int))) ∧ W.cell? ⟨w5.heap.size, 0, none⟩ = some (.int .i64 t.kind) ∧ W.cell? ⟨w5.heap.size, 1, none⟩ = some (.bool t.neg) ∧ W.cell? ⟨w5.heap.size, 2, none⟩ = some (.slice pl t.limbs.length cl) ∧ W.cell? ⟨w5.heap.size, 3, none⟩ = some (.string t.str) ∧ W.cell? ⟨w5.heap.size, 4, none⟩ = some (.int .i64 t.num) ∧ W.cell? ⟨w5.heap.size, 5, none⟩ = some (.slice pk t.kids.length ck)) := fun W hW => by
              obtain ⟨⟨z0, z1, z2, z3⟩, -⟩ := (HX6.out.under hW).facts
              obtain ⟨b0, b1, b2, b3, b4, b5⟩ := (HBT6.out.under hW).cells
              exact ⟨⟨z0, z1⟩, b0, b1, b2, b3, b4, b5⟩
            have hq1 : (p : Int) ≤ (Q : Int) := by have := HQ.out; omega
            have hq2 : (Q : Int) ≤ (l.length : Int) := by omega
            have hq3 : (Q : Int) ≤ (cap : Int) := by omega
            obtain ⟨⟨z0, z1⟩, b0, b1, b2, b3, b4, b5⟩ := HKP.out w6 (Below.refl _ _)
            have h0n : 0 < sn := by omega
            have h0d : decide ((0 : Int) < (sn : Int)) = true := decide_eq_true h0i
            clear hEQ hQd hob hsub hy h0
            go_region_held3 (fun W => (W.cell? ⟨g, 0, none⟩ = some (.slice (some ⟨b, off, none⟩) l.length cap) ∧ W.cell? ⟨g, 1, none⟩ = some (.int .i64 (Q : Int))) ∧ W.cell? ⟨w5.heap.size, 0, none⟩ = some (.int .i64 t.kind) ∧ W.cell? ⟨w5.heap.size, 1, none⟩ = some (.bool t.neg) ∧ W.cell? ⟨w5.heap.size, 2, none⟩ = some (.slice pl t.limbs.length cl) ∧ W.cell? ⟨w5.heap.size, 3, none⟩ = some (.string t.str) ∧ W.cell? ⟨w5.heap.size, 4, none⟩ = some (.int .i64 t.num) ∧ W.cell? ⟨w5.heap.size, 5, none⟩ = some (.slice pk t.kids.length ck))
              (first | exact HKP.out _ hk2 | exact HKP.out _ hk1 | exact HKP.out _ ((Below.refl _ _).drew) | exact HKP.out _ (Below.refl _ _))
              (first
                | (go_at_call 16; refine (HPUT.out _ (by first | exact (Below.refl _ _).drew | exact Below.refl _ _ | exact below_drewN (Below.refl _ _) _)).mono ?_; rintro e x1 ⟨v1, rfl, y1, -, bx1⟩; have hk1 : Below w6.heap.size w6 x1 := (by first | exact ((Below.refl _ _).drew).trans (bx1.mono (Nat.le_refl _)) | exact (below_drewN (Below.refl _ _) _).trans (bx1.mono (Nat.le_refl _))))
                | (go_at_call 132; refine (HEQ.out _ _ _ y1.by (HYS2.out _ hk1)).mono ?_; rintro e x2 ⟨rfl, bx2⟩; have hk2 : Below w6.heap.size w6 x2 := hk1.trans (bx2.mono hk1.size)))
            all_goals
              go_wp2_with fail
              go_meet
              case rel => exact ⟨by rw [HB1.out], hk2⟩
        case rest =>
          obtain ⟨rfl, hbc⟩ := hcut
          have HBc : Hid (Below w6.heap.size w6 wc) := hbc
          have hszc := hbc.size
          have HXc : Hid (RdX wc g bv ((q + sn : Nat) : Int) n ov) := HX6.out.under hbc
          have HBtc : Hid (Bt wc w.heap.size 0 false (.slice none 0 0) ⟨#[]⟩ 0 (.slice none 0 0)) := HBt6'.out.under hbc
          have HSc : Hid (BxS wc w1.heap.size s) := HS6.out.under hbc
          have HGc : Hid (Grw g w wc) := HG6.out.more hbc
          have HTc : Hid (Bt wc w5.heap.size t.kind t.neg (.slice pl t.limbs.length cl) t.str t.num (.slice pk t.kids.length ck)) := HBT6.out.under hbc
          have HB5c : Hid (Below w5.heap.size w5 wc) := HB56.out.trans (hbc.mono (by omega))
          obtain ⟨a0, a1, a2, a3, a4, a5⟩ := HBtc.out.cells
          obtain ⟨f0, f1, f2, f3, f4, f5⟩ := HBtc.out.froz
          obtain ⟨t0, t1, t2, t3, t4, t5⟩ := HSc.out.cells
          obtain ⟨b0, b1, b2, b3, b4, b5⟩ := HTc.out.cells
          obtain ⟨⟨d0, d1, d2, d3⟩, e0, e1, e2, e3⟩ := HXc.out.facts
          clear hbc HX6 HBt6' HS6 HG6 HBT6 HB56 HW6 HB46
          cases BB with
          | true =>
            have hbb := HBB.out.symm
            rw [Bool.and_eq_true, decide_eq_true_eq, Bool.not_eq_true', decide_eq_false_iff_not] at hbb
            have HE : Hid (R = Bg.bad 4) := by unfold Hid; rw [← HE3.out, if_pos hbb]
            clear hbb
            go_wp2_with fail
            refine bodyPost_ret (results_bt3 rfl _ _ w.heap.size 0 false (.slice none 0 0) ⟨#[]⟩ 0 (.slice none 0 0) rfl (HBtc.out.set 0 false (.slice none 0 0) ⟨#[]⟩ 0 (.slice none 0 0) ⟨_, _, _, rfl⟩ ⟨_, _, _, rfl⟩)) rfl ?_
            rw [HE.out]
            exact bg_bad (by decide) HGc.out
          | false =>
            have HE4 : Hid (R = ⟨0, t, if s.tag = 108 then c + 1 else if s.tag = 104 then c else 0, q + sn, if s.tag = 108 then n + c else n + 1⟩) := by
              unfold Hid
              rw [← HE3.out, if_neg]
              rintro ⟨h1, h2⟩
              have hbb := HBB.out
              rw [decide_eq_true h1, decide_eq_false h2] at hbb
              cases hbb
            have hni : (n : Int) < 2000 := by have := HN1.out; omega
            by_cases h108 : s.tag = 108
            · have q1 : ((s.tag : Int) == 108) = true := by simp [h108]
              have HE : Hid (R = ⟨0, t, c + 1, q + sn, n + c⟩) := by unfold Hid; rw [HE4.out, if_pos h108, if_pos h108]
              clear h108
              go_wp2_with fail
              refine bodyPost_ret (results_bt3 rfl _ _ w.heap.size t.kind t.neg (.slice pl t.limbs.length cl) t.str t.num (.slice pk t.kids.length ck) rfl (Bt.set (HBtc.out.other ((But.refl g wc).setCell 2 (.int .i64 ((n : Int) + (c : Int)))) (by omega)) t.kind t.neg (.slice pl t.limbs.length cl) t.str t.num (.slice pk t.kids.length ck) ⟨_, _, _, rfl⟩ ⟨_, _, _, rfl⟩)) rfl ?_
              rw [HE.out]
              exact bg_end HI5.out (by omega) (by omega) HB5c.out HGc.out HXc.out hgl (by omega)
            · have q1 : ((s.tag : Int) == 108) = false := by rw [beq_eq_false_iff_ne]; omega
              by_cases h104 : s.tag = 104
              · have q2 : ((s.tag : Int) == 104) = true := by simp [h104]
                have HE : Hid (R = ⟨0, t, c, q + sn, n + 1⟩) := by unfold Hid; rw [HE4.out, if_neg h108, if_neg h108, if_pos h104]
                clear h108 h104
                go_wp2_with fail
                refine bodyPost_ret (results_bt3 rfl _ _ w.heap.size t.kind t.neg (.slice pl t.limbs.length cl) t.str t.num (.slice pk t.kids.length ck) rfl (Bt.set (HBtc.out.other ((But.refl g wc).setCell 2 (.int .i64 ((n : Int) + 1))) (by omega)) t.kind t.neg (.slice pl t.limbs.length cl) t.str t.num (.slice pk t.kids.length ck) ⟨_, _, _, rfl⟩ ⟨_, _, _, rfl⟩)) rfl ?_
                rw [HE.out]
                exact bg_end HI5.out (by omega) (by omega) HB5c.out HGc.out HXc.out hgl (by omega)
              · have q2 : ((s.tag : Int) == 104) = false := by rw [beq_eq_false_iff_ne]; omega
                have HE : Hid (R = ⟨0, t, 0, q + sn, n + 1⟩) := by unfold Hid; rw [HE4.out, if_neg h108, if_neg h108, if_neg h104]
                clear h108 h104
                go_wp2_with fail
                refine bodyPost_ret (results_bt3 rfl _ _ w.heap.size t.kind t.neg (.slice pl t.limbs.length cl) t.str t.num (.slice pk t.kids.length ck) rfl (Bt.set (HBtc.out.other ((But.refl g wc).setCell 2 (.int .i64 ((n : Int) + 1))) (by omega)) t.kind t.neg (.slice pl t.limbs.length cl) t.str t.num (.slice pk t.kids.length ck) ⟨_, _, _, rfl⟩ ⟨_, _, _, rfl⟩)) rfl ?_
                rw [HE.out]
                exact bg_end HI5.out (by omega) (by omega) HB5c.out HGc.out HXc.out hgl (by omega)
      · have HE : Hid (R = Bg.bad 3) := by unfold Hid; rw [← HE2.out]; unfold bgn.bgnD; rw [if_pos hqm]
        rw [hse]
        clear hse hqm
        go_wp2_with fail
        refine bodyPost_ret (results_bt3 rfl _ _ w.heap.size 0 false (.slice none 0 0) ⟨#[]⟩ 0 (.slice none 0 0) rfl (HBt4.out.set 0 false (.slice none 0 0) ⟨#[]⟩ 0 (.slice none 0 0) ⟨_, _, _, rfl⟩ ⟨_, _, _, rfl⟩)) rfl ?_
        rw [HE.out]
        exact bg_bad (by decide) HG4.out
    · have hki : ((k2 : Int) != 0) = true := by rw [bne_iff_ne]; omega
      have HE : Hid (R = Bg.bad k2) := by unfold Hid; rw [← HE1.out, if_pos hk2]
      have HK2 : Hid (k2 ≠ 0) := hk2
      clear hk2
      go_wp2_with fail
      refine bodyPost_ret (results_bt3 rfl _ _ w.heap.size 0 false (.slice none 0 0) ⟨#[]⟩ 0 (.slice none 0 0) rfl (HBt3.out.set 0 false (.slice none 0 0) ⟨#[]⟩ 0 (.slice none 0 0) ⟨_, _, _, rfl⟩ ⟨_, _, _, rfl⟩)) rfl ?_
      rw [HE.out]
      exact bg_bad HK2.out HG3.out
  · have hki : ((k1 : Int) != 0) = true := by rw [bne_iff_ne]; omega
    have HE : Hid (R = Bg.bad k1) := by unfold Hid; rw [← HR.out]; unfold bgn; rw [HF.out, if_pos hk1]
    have HK1 : Hid (k1 ≠ 0) := hk1
    clear hk1
    go_wp2_with fail
    refine bodyPost_ret (results_bt3 rfl _ _ w.heap.size 0 false (.slice none 0 0) ⟨#[]⟩ 0 (.slice none 0 0) rfl (HBt2.out.set 0 false (.slice none 0 0) ⟨#[]⟩ 0 (.slice none 0 0) ⟨_, _, _, rfl⟩ ⟨_, _, _, rfl⟩)) rfl ?_
    rw [HE.out]
    exact bg_bad HK1.out HG2.out
end Go.Proofs.YtbmondbicnfcpaaDoor
