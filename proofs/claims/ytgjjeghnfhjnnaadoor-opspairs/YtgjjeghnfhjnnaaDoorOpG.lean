
/-
  ops: Fits, Throws.
-/
import Derived.Test.YtgjjeghnfhjnnaaDoorOpF
namespace Go.Proofs.YtgjjeghnfhjnnaaDoor
open Go.RowKit
set_option linter.unusedVariables false
set_option linter.unusedSimpArgs false

def letA (op : Int) (k : Nat) : Int := (((sigS op).getD k 0).toNat : Int)
/-- Whether an instruction is by its letters. -/
def fitsI (op : Int) (K : List Ag) : Bool := decide (1 ≤ op ∧ op ≤ 51) && decide (K.length = (sigS op).length) && (List.range K.length).all (fun k => fitA (letA op k) (K.getD k zA))
theorem sig_len (op : Int) : (sigS op).length ≤ 6 := by
  unfold sigS
  split
  · rename_i h
    obtain ⟨h1, h2⟩ := h
    have h3 : (op - 1).toNat < 51 := by omega
    generalize (op - 1).toNat = k at *
    have : ∀ k < 51, (sigT.getD k []).length ≤ 6 := by decide
    exact this k h3
  · simp
/-- An instruction's box. -/
def BxI (w : World) (g : Nat) (op : Int) (sl : Value) : Prop := w.heap[g]? = some (.cells #[.int .i64 op, sl] 43 (0, 0))
theorem BxI.new (w : World) (op : Int) (sl : Value) : BxI (w.alloc (.cells #[.int .i64 op, sl] 43)) w.heap.size op sl := heap_alloc_new w _
theorem BxI.facts {w : World} {g : Nat} {op : Int} {sl : Value} (h : BxI w g op sl) : w.cell? ⟨g, 0, none⟩ = some (.int .i64 op) ∧ w.cell? ⟨g, 1, none⟩ = some sl ∧ g < w.heap.size := by
  unfold BxI at h
  refine ⟨?_, ?_, (Array.getElem?_eq_some_iff.1 h).1⟩ <;> simp [World.cell?, h]
theorem BxI.under {w w' : World} {g : Nat} {op : Int} {sl : Value} (h : BxI w g op sl) (hb : Below w.heap.size w w') : BxI w' g op sl := by
  unfold BxI at h ⊢
  rw [hb.block g (Array.getElem?_eq_some_iff.1 h).1]
  exact h
theorem str_index (L : List UInt8) (k : Nat) (hk : k < L.length) (wx : World) : (Instr.index 9 (.string ⟨L.toArray⟩) (.int .i64 (k : Int))).run Tryd.prog wx = .ok (.int .u8 (((L.getD k 0).toNat : Nat) : Int)) wx := by
  have hs : (⟨L.toArray⟩ : ByteArray).size = L.length := by simp [ByteArray.size]
  rw [run_index_string _ _ _ _ _ Tryd.underlying9]
  rw [dif_pos (by omega)]
  have : (⟨L.toArray⟩ : ByteArray)[(k : Int).toNat]'(by omega) = L.getD k 0 := by
    rw [List.getD_eq_getElem?_getD, List.getElem?_eq_getElem hk]
    simp [ByteArray.getElem_eq_getElem_data]
  rw [this]

set_option maxRecDepth 100000 in
set_option maxHeartbeats 4000000 in
theorem Fits_any (op : Int) (K : List Ag) (v : Value) (w : World) (h : Gs w v K) : Calls Tryd.prog 22 #[.agg #[.int .i64 op, v]] w (RBool (fitsI op K) w) := by
  obtain ⟨p, cap, rfl, hc1, hc2, hc3⟩ := h.shape
  have HG : Hid (Gs w (.slice p K.length cap) K) := h
  clear h
  obtain ⟨r, hr⟩ : ∃ r, fitsI op K = r := ⟨_, rfl⟩
  have HR : Hid (fitsI op K = r) := hr
  rw [hr]; clear hr
  have HSG : Hid (∀ W, Calls Tryd.prog 43 #[.int .i64 op] W fun e w' => e = .returned (strV (sigS op)) ∧ w' = W) := fun W => sig_any op W
  have HOP : Hid (∀ W, Calls Tryd.prog 44 #[.int .i64 op] W fun e w' => e = .returned (.bool (decide (1 ≤ op ∧ op ≤ 51))) ∧ w' = W) := fun W => isOp_any op W
  have HB : Hid (Below w.heap.size w (w.alloc (.cells #[.int .i64 op, .slice p K.length cap] 43))) := box_below _ _ _
  have HX : Hid (BxI (w.alloc (.cells #[.int .i64 op, .slice p K.length cap] 43)) w.heap.size op (.slice p K.length cap)) := BxI.new w op _
  have hsl := sig_len op
  obtain ⟨M, hM⟩ : ∃ M, M = (sigS op).length := ⟨_, rfl⟩
  rw [← hM] at hsl
  have hs : (⟨(sigS op).toArray⟩ : ByteArray).size = M := by rw [hM]; simp [ByteArray.size]
  have HIX : Hid (∀ k, k < M → ∀ wx, (Instr.index 9 (.string ⟨(sigS op).toArray⟩) (.int .i64 (k : Int))).run Tryd.prog wx = .ok (.int .u8 (letA op k)) wx) := fun k hk wx => str_index (sigS op) k (by omega) wx
  have HF : Hid (r = (decide (1 ≤ op ∧ op ≤ 51) && decide (K.length = M) && (List.range K.length).all (fun k => fitA (letA op k) (K.getD k zA)))) := by
    unfold Hid
    rw [← HR.out, hM]
    rfl
  unfold strV at HSG
  generalize (⟨(sigS op).toArray⟩ : ByteArray) = s at *
  have hsi : (s.size : Int) = (M : Int) := by omega
  clear HR hM
  obtain ⟨q, hq⟩ : ∃ q, decide (1 ≤ op ∧ op ≤ 51) = q := ⟨_, rfl⟩
  rw [hq] at HOP HF
  clear hq
  cases q
  · have HF' : Hid (r = false) := by unfold Hid; rw [HF.out]; simp
    clear HF HIX hc1 hc3
    go_enter Tryd.func22, Tryd.ntmps22
    go_wp2_with fail
    refine (HSG.out _).mono ?_
    rintro e w2 ⟨rfl, rfl⟩
    go_wp2_with fail
    refine (HOP.out _).mono ?_
    rintro e w2 ⟨rfl, rfl⟩
    go_wp2_with fail
    go_ret
    exact ⟨by rw [HF'.out]; rfl, HB.out⟩
  by_cases hl : K.length = M
  case neg =>
    have HF' : Hid (r = false) := by unfold Hid; rw [HF.out]; simp [hl]
    have hne : ((K.length : Int) != (s.size : Int)) = true := by simp; omega
    clear HF HIX hc1 hc3 hsi
    go_enter Tryd.func22, Tryd.ntmps22
    go_wp2_with fail
    refine (HSG.out _).mono ?_
    rintro e w2 ⟨rfl, rfl⟩
    go_wp2_with fail
    refine (HOP.out _).mono ?_
    rintro e w2 ⟨rfl, rfl⟩
    go_wp2_with fail
    go_ret
    exact ⟨by rw [HF'.out]; rfl, HB.out⟩
  case pos =>
  have hne : ((K.length : Int) != (s.size : Int)) = false := by simp; omega
  have HF2 : Hid (r = (List.range K.length).all (fun k => fitA (letA op k) (K.getD k zA))) := by unfold Hid; rw [HF.out]; simp [hl]
  have HLM : Hid (K.length = M) := hl
  clear HF hl hsi hs
  go_enter Tryd.func22, Tryd.ntmps22
  go_wp2_with fail
  refine (HSG.out _).mono ?_
  rintro e w2 ⟨rfl, rfl⟩
  go_wp2_with fail
  refine (HOP.out _).mono ?_
  rintro e w2 ⟨rfl, rfl⟩
  go_wp2_with fail
  generalize w.alloc (.cells #[.int .i64 op, .slice p K.length cap] 43) = w1 at *
  clear HSG HOP hne
  go_loopg [24] K.length (fun gk s24 wr => ∃ k : Nat, k + gk = K.length ∧ s24 = .int .i64 (k : Int) ∧ Hid (Below w1.heap.size w1 wr) ∧ Hid (∀ j, j < k → fitA (letA op j) (K.getD j zA) = true))
  case atStart => exact ⟨0, by omega, rfl, Below.refl _ _, fun j hj => absurd hj (by omega)⟩
  case round =>
    obtain ⟨k, hk, rfl, HBI, HA⟩ := hrel
    have HBR : Hid (Below w.heap.size w wr) := HB.out.trans (HBI.out.mono HB.out.size)
    cases gk with
    | zero =>
      obtain rfl : k = K.length := by omega
      have HT : Hid (r = true) := by
        unfold Hid
        rw [HF2.out, List.all_eq_true]
        intro j hj
        exact HA.out j (List.mem_range.1 hj)
      clear HA HF2
      go_wp2_with fail
      go_ret
      exact ⟨by rw [HT.out]; rfl, HBR.out⟩
    | succ g =>
      have hkl : k < K.length := by omega
      have hkm : k < M := by have := HLM.out; omega
      have hki : (k : Int) < (K.length : Int) := by omega
      have hkc : (k : Int) < (cap : Int) := by omega
      obtain ⟨b, off, ⟨xt, xn, xa, xm, xc⟩, rfl, hlt, ⟨a0, a1, a2⟩, hft, hx⟩ := (HG.out.under HBR.out).at k hkl
      unfold El.sl at a2
      dsimp only at a0 a1 a2
      have hgk : K.getD k zA = K[k] := by rw [List.getD_eq_getElem?_getD, List.getElem?_eq_getElem hkl]; rfl
      have hidx := HIX.out k hkm
      have hl0 : 0 ≤ letA op k := by unfold letA; omega
      have hl1 : letA op k ≤ 255 := by unfold letA; have := ((sigS op).getD k 0).toNat_lt; omega
      have HBA : Hid (Below w1.heap.size w1 (wr.alloc (.cells #[.int .i64 xt, .int .i64 xn, .slice xa xm xc] 25))) := HBI.out.alloc HBI.out.size _
      have HXA : Hid (BxA (wr.alloc (.cells #[.int .i64 xt, .int .i64 xn, .slice xa xm xc] 25)) wr.heap.size xt xn (.slice xa xm xc)) := BxA.new wr xt xn _
      have hxx := hx.under (box_below wr #[.int .i64 xt, .int .i64 xn, .slice xa xm xc] 25)
      have HC : Hid (∀ W, Below (wr.alloc (.cells #[.int .i64 xt, .int .i64 xn, .slice xa xm xc] 25)).heap.size (wr.alloc (.cells #[.int .i64 xt, .int .i64 xn, .slice xa xm xc] 25)) W → Calls Tryd.prog 45 #[.int .u8 (letA op k), .agg #[.int .i64 xt, .int .i64 xn, .slice xa xm xc]] W (RBool (fitA (letA op k) (K.getD k zA)) W)) := by
        intro W hW
        rw [hgk]
        exact fits_any _ hl0 hl1 K[k] _ W (hxx.under hW)
      obtain ⟨q, hq⟩ : ∃ q, fitA (letA op k) (K.getD k zA) = q := ⟨_, rfl⟩
      rw [hq] at HC
      have HQ : Hid (fitA (letA op k) (K.getD k zA) = q) := hq
      generalize letA op k = c at hidx hl0 hl1 HC
      clear hq hx hft hxx hgk HBI
      go_wp2_with fail
      generalize wr.alloc (.cells #[.int .i64 xt, .int .i64 xn, .slice xa xm xc] 25) = wa at *
      generalize wr.heap.size = ga at *
      obtain ⟨x0, x1, x2, -⟩ := HXA.out.facts
      clear a0 a1 a2
      go_region_law (first
        | (go_simp; go_at_call 45; refine (HC.out _ ((Below.refl _ _).drew)).mono ?_; rintro e x1 ⟨rfl, bb1⟩; have hq1 : Below wa.heap.size wa x1 := ((Below.refl _ _).drew).trans (bb1.mono (Nat.le_refl _))))
      all_goals
        have HB2 : Hid (Below w1.heap.size w1 x1) := HBA.out.trans (hq1.mono HBA.out.size)
        clear hq1 bb1
        cases q
        · have HF' : Hid (r = false) := by
            unfold Hid
            rw [HF2.out]
            cases hr : (List.range K.length).all (fun k => fitA (letA op k) (K.getD k zA))
            · rfl
            · have := List.all_eq_true.1 hr k (List.mem_range.2 hkl)
              rw [HQ.out] at this
              cases this
          have HBF : Hid (Below w.heap.size w x1) := HB.out.trans (HB2.out.mono HB.out.size)
          clear HF2 HA HQ HC
          go_wp2_with fail
          go_ret
          exact ⟨by rw [HF'.out]; rfl, HBF.out⟩
        · have HA2 : Hid (∀ j, j < k + 1 → fitA (letA op j) (K.getD j zA) = true) := by
            intro j hj
            rcases Nat.lt_or_ge j k with h | h
            · exact HA.out j h
            · obtain rfl : j = k := by omega
              exact HQ.out
          clear HF2 HA HQ HC
          go_wp2_with fail
          go_roundg g
          case measure => omega
          case rel => exact ⟨k + 1, by omega, by go_num, HB2.out, HA2⟩

def thrL (op : Int) : Bool := decide (op = 2 ∨ op = 6 ∨ op = 9 ∨ op = 10 ∨ op = 17 ∨ op = 18 ∨ op = 43 ∨ op = 44 ∨ op = 48 ∨ op = 49 ∨ op = 50 ∨ op = 51)
/-- Whether an instruction may raise. -/
def thrI (op : Int) (K : List Ag) : Bool := fitsI op K && (if op = 35 ∨ op = 36 ∨ op = 37 then decide ((K.getD 0 zA).n = 0) else thrL op)
theorem fits_len {op : Int} {K : List Ag} (h : fitsI op K = true) : K.length = (sigS op).length := by
  unfold fitsI at h
  simp only [Bool.and_eq_true, decide_eq_true_eq] at h
  exact h.1.2
end Go.Proofs.YtgjjeghnfhjnnaaDoor
