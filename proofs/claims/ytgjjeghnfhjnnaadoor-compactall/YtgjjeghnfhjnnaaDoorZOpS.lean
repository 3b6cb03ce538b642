import Derived.Test.YtgjjeghnfhjnnaaDoorZAgR
import Derived.Test.YtgjjeghnfhjnnaaDoorZOpI
import Derived.Deep.AppendLies
import Derived.Test.YtgjjeghnfhjnnaaDoorZAo
/-
  relictlaw00.Arg; FewArgs, telling.
-/
namespace Go.Proofs.YtgjjeghnfhjnnaaDoor
open Go.RowKit
set_option linter.unusedVariables false
set_option linter.unusedSimpArgs false

def setBxR (w : World) (g : Nat) (t n : Int) (sl : Value) : World := ((w.setCell ⟨g, 0, none⟩ (.int .i64 t)).setCell ⟨g, 1, none⟩ (.int .i64 n)).setCell ⟨g, 2, none⟩ sl
theorem BxA.setRc {w : World} {g : Nat} {t' n' : Int} {sl' : Value} (h : BxA w g t' n' sl') (t n : Int) (sl : Value) : BxA (setBxR w g t n sl) g t n sl := by
  unfold BxA at h ⊢
  simp [setBxR, World.setCell, Array.getElem?_modify, h]
theorem setBxR_block (w : World) (g : Nat) (t n : Int) (sl : Value) (b : Nat) (h : b ≠ g) : (setBxR w g t n sl).heap[b]? = w.heap[b]? := by
  simp only [setBxR, World.setCell, Array.getElem?_modify]
  rw [if_neg (fun e => h e.symm), if_neg (fun e => h e.symm), if_neg (fun e => h e.symm)]
theorem setBxR_size (w : World) (g : Nat) (t n : Int) (sl : Value) : (setBxR w g t n sl).heap.size = w.heap.size := by simp [setBxR, World.setCell]
theorem setBxR_below {B : Nat} {a w : World} (h : Below B a w) {g : Nat} (hp : B ≤ g) (t n : Int) (sl : Value) : Below B a (setBxR w g t n sl) := ((h.setCell (by exact hp) _).setCell (by exact hp) _).setCell (by exact hp) _

theorem arg_shut {w W x1 : World} {t n : Int} {p p' : Option Addr} {m cap c' : Nat} {K : List Ag} {L : List El} (hbw : Below w.heap.size w W) (hW : W.heap.size = w.heap.size + 2) (hst : CpSt W.drew K (.slice p' L.length c') L x1) (hlen : L.length = K.length) (hq : Below W.heap.size W x1)
    (hf : El.fit ⟨t, n, p, m, cap⟩) (hc1 : L.length ≤ c') (hc2 : (c' : Int) ≤ 9223372036854775807) : ArgPost w ⟨t, n, K⟩ (.returned (agV t n (.slice p' K.length c'))) (setBxR x1 (w.heap.size + 1) t n (.slice p' K.length c')) := by
  obtain ⟨h1, h2, h3, h4, h5⟩ := hst
  have hds : W.drew.heap.size = w.heap.size + 2 := hW
  rw [hlen] at h1
  have hrow := World.ownsRow.lt (by unfold AOwn at h1; rw [hlen] at h1; exact h1)
  rw [hds] at hrow
  have hr : Rw3 x1 (.slice p' K.length c') L := h1.rw3 h3
  have hfx : El.fit ⟨t, n, p', K.length, c'⟩ := ⟨hf.1, hf.2.1, hf.2.2.1, hf.2.2.2.1, by show K.length ≤ c'; omega, hc2⟩
  have hpx : ∀ x, p' = some x → w.heap.size + 2 ≤ x.block ∧ x.block < x1.heap.size := fun x hx => by
    subst hx
    exact hrow x.block rfl
  refine ⟨⟨t, n, p', K.length, c'⟩, rfl, hfx, ?_, setBxR_below (hbw.trans (hq.mono (by omega))) (by omega) _ _ _⟩
  refine (isGP_mk ..).2 ⟨p', c', L, rfl, hfx, hlen, ?_, fun x hx => ⟨by have := (hpx x hx).1; omega, by rw [setBxR_size]; exact (hpx x hx).2⟩, fun i hi hi' => ?_⟩
  · exact hr.move (by rw [setBxR_size]; exact Nat.le_refl _) (fun x hx hlt => setBxR_block _ _ _ _ _ _ (by have := (hpx x hx).1; omega))
  · refine (h4 i hi hi').move (by rw [setBxR_size]; exact Nat.le_refl _) (fun b hP hlt => setBxR_block _ _ _ _ _ _ (by have := hP.1; omega)) (fun b hP hlt => by have := hP.1; omega)

set_option maxRecDepth 100000 in
set_option maxHeartbeats 4000000 in
theorem arg_of_args (a : Ag) (H : CpyArgs a.kids) : CpyArg a := by
  intro w v h hall
  obtain ⟨p, cap, rfl, hf, hg⟩ := h.open
  obtain ⟨t, n, K⟩ := a
  dsimp only at *
  rw [fewAll_mk, Bool.and_eq_true, decide_eq_true_eq] at hall
  unfold agV
  obtain ⟨m, hm⟩ : ∃ m, m = K.length := ⟨_, rfl⟩
  rw [← hm] at hg hf ⊢
  have HM : Hid (m = K.length) := hm
  obtain ⟨W, hW⟩ : ∃ W, W = (w.alloc (.cells #[.int .i64 t, .int .i64 n, .slice p m cap] 25)).alloc (.cells #[.int .i64 0, .int .i64 0, .slice none 0 0] 25) := ⟨_, rfl⟩
  have b0 := box_bel w #[.int .i64 t, .int .i64 n, .slice p m cap] 25
  have hsz : (w.alloc (.cells #[.int .i64 t, .int .i64 n, .slice p m cap] 25)).heap.size = w.heap.size + 1 := by simp
  have b1 := box_bel (w.alloc (.cells #[.int .i64 t, .int .i64 n, .slice p m cap] 25)) #[.int .i64 0, .int .i64 0, .slice none 0 0] 25
  have x0 := (BxA.new w t n (.slice p m cap)).under b1
  have x1 := BxA.new (w.alloc (.cells #[.int .i64 t, .int .i64 n, .slice p m cap] 25)) 0 0 (.slice none 0 0)
  have bw := b0.trans (b1.mono (by omega))
  rw [hsz] at x1
  rw [← hW] at x0 x1 bw
  have hW2 : W.heap.size = w.heap.size + 2 := by rw [hW]; simp
  have HX0 : Hid (BxA W w.heap.size t n (.slice p m cap)) := x0
  have HX1 : Hid (BxA W (w.heap.size + 1) 0 0 (.slice none 0 0)) := x1
  have HBW : Hid (Below w.heap.size w W) := bw
  have HWW : Hid (W = (w.alloc (.cells #[.int .i64 t, .int .i64 n, .slice p m cap] 25)).alloc (.cells #[.int .i64 0, .int .i64 0, .slice none 0 0] 25)) := hW
  have HCC : Hid (∀ X, Below W.heap.size W X → Calls Tryd.prog 35 #[.slice p m cap] X (ArgsPost X K)) := fun X hX => H X _ (hg.under (bw.trans (hX.mono bw.size))) hall.1 hall.2
  have hfit1 := hf
  have HFIT : Hid (El.fit ⟨t, n, p, m, cap⟩) := hf
  clear H hg hall hf hfit1 hm x0 x1 bw b0 b1 hsz h hW
  go_enter Tryd.func11, Tryd.ntmps11
  go_wp2_with fail
  rw [← HWW.out]
  obtain ⟨c0, c1, c2, f0, f1, f2⟩ := HX0.out.facts
  have tok : Hid True := trivial
  go_region_law (first
    | (go_simp; have := tok; go_at_call 35; refine (HCC.out _ ((Below.refl _ _).drew)).mono ?_; rintro e x1 ⟨v', L, rfl, hst, hlen⟩; clear tok; have hq1 : Below W.heap.size W x1 := ((Below.refl _ _).drew).trans (hst.2.2.2.2.mono (Nat.le_refl _)); have hst' : CpSt W.drew K v' L x1 := hst; obtain ⟨u0, u1, u2, -⟩ := (HX0.out.under hq1).facts; obtain ⟨y0, y1, y2, z0, z1, z2⟩ := (HX1.out.under hq1).facts; obtain ⟨p', c', rfl, hc1, hc2⟩ := own_shape hst.1))
  all_goals
    have HFIN : Hid (ArgPost w ⟨t, n, K⟩ (.returned (agV t n (.slice p' K.length c'))) (setBxR x1 (w.heap.size + 1) t n (.slice p' K.length c'))) := arg_shut HBW.out hW2 hst' hlen hq1 HFIT.out hc1 hc2
    have HX5 : Hid (BxA (setBxR x1 (w.heap.size + 1) t n (.slice p' K.length c')) (w.heap.size + 1) t n (.slice p' K.length c')) := (HX1.out.under hq1).setRc t n _
    clear hst hst' hq1 u0 u1 u2 y0 y1 y2 z0 z1 z2
    go_wp2_with fail
    refine bodyPost_ret (results_arg rfl _ _ (w.heap.size + 1) t n (.slice p' K.length c') rfl HX5.out) rfl ?_
    exact HFIN.out
theorem arg_copy : ∀ a : Ag, CpyArg a := Ag.ind (P := CpyArg) (fun t n K ih => arg_of_args _ (args_of_arg K ih))
/-- Operands anew. -/
theorem args_copy (K : List Ag) : CpyArgs K := args_of_arg K (fun a _ => arg_copy a)

def FewT (w : World) (K : List Ag) (e : Ending) (w' : World) : Prop := ∃ q, e = .returned (.bool q) ∧ w' = w ∧ (q = true → K.length ≤ 60 ∧ K.all fewAll = true)
set_option maxRecDepth 100000 in
set_option maxHeartbeats 2000000 in
/-- What FewArgs says yes to. -/
theorem few_tell : ∀ (a : Ag) (w : World) (v : Value) (deep : Int), Gs w v a.kids → -1 ≤ deep → deep ≤ 1000 → Calls Tryd.prog 8 #[v, .int .i64 deep] w (FewT w a.kids) := by
  refine Ag.ind (P := fun a => ∀ (w : World) (v : Value) (deep : Int), Gs w v a.kids → -1 ≤ deep → deep ≤ 1000 → Calls Tryd.prog 8 #[v, .int .i64 deep] w (FewT w a.kids)) ?_
  intro t n K ih w v deep h hd1 hd2
  dsimp only at h ⊢
  obtain ⟨p, cap, rfl, hc1, hc2, hc3⟩ := h.shape
  have HG : Hid (Gs w (.slice p K.length cap) K) := h
  have HIH : Hid (∀ a, a ∈ K → ∀ (w : World) (v : Value) (deep : Int), Gs w v a.kids → -1 ≤ deep → deep ≤ 1000 → Calls Tryd.prog 8 #[v, .int .i64 deep] w (FewT w a.kids)) := ih
  clear h ih
  by_cases h60 : (60 : Int) < (K.length : Int)
  · go_enter Tryd.func8, Tryd.ntmps8
    go_wp2_with fail
    go_ret
    exact ⟨false, rfl, rfl, fun h => by cases h⟩
  by_cases hdn : deep < 0
  · go_enter Tryd.func8, Tryd.ntmps8
    go_wp2_with fail
    go_ret
    exact ⟨false, rfl, rfl, fun h => by cases h⟩
  go_enter Tryd.func8, Tryd.ntmps8
  go_wp2_with fail
  go_loopg [5] K.length (fun gk s5 wr => ∃ k : Nat, k + gk = K.length ∧ s5 = .int .i64 (k : Int) ∧ w = wr ∧ Hid (∀ j (hj : j < K.length), j < k → fewAll K[j] = true))
  case atStart => exact ⟨0, by omega, rfl, rfl, fun j _ hj => absurd hj (by omega)⟩
  case round =>
    obtain ⟨k, hk, rfl, rfl, HA⟩ := hrel
    cases gk with
    | zero =>
      obtain rfl : k = K.length := by omega
      have HT : Hid (K.length ≤ 60 ∧ K.all fewAll = true) := by
        refine ⟨by omega, List.all_eq_true.2 (fun x hx => ?_)⟩
        obtain ⟨j, hj, rfl⟩ := List.getElem_of_mem hx
        exact HA.out j hj hj
      clear HA
      go_wp2_with fail
      go_ret
      exact ⟨true, rfl, rfl, fun _ => HT.out⟩
    | succ g =>
      have hkl : k < K.length := by omega
      have hki : (k : Int) < (K.length : Int) := by omega
      have hkc : (k : Int) < (cap : Int) := by omega
      obtain ⟨b, off, x, rfl, hlt, ⟨a0, a1, a2⟩, hft, hx⟩ := HG.out.at k hkl
      obtain ⟨e1, e2, e3, hgk⟩ := hx.el
      have HC : Hid (Calls Tryd.prog 8 #[x.sl, .int .i64 (deep - 1)] w (FewT w (K[k]).kids)) := HIH.out _ (List.getElem_mem hkl) w x.sl (deep - 1) hgk (by omega) (by omega)
      obtain ⟨A, hA⟩ : ∃ A, K[k] = A := ⟨_, rfl⟩
      have HKA : Hid (K[k] = A) := hA
      rw [hA] at HC e3
      obtain ⟨at', an, aK⟩ := A
      dsimp only at HC e3
      have HNX : Hid (aK.length ≤ 60 ∧ aK.all fewAll = true → ∀ j (hj : j < K.length), j < k + 1 → fewAll K[j] = true) := by
        intro hq j hj hjk
        rcases Nat.lt_or_ge j k with h | h
        · exact HA.out j hj h
        · obtain rfl : j = k := by omega
          rw [hA, fewAll_mk, Bool.and_eq_true, decide_eq_true_eq]
          exact hq
      obtain ⟨xt, xn, xa, xm, xc⟩ := x
      unfold El.sl at a2 HC
      dsimp only at a0 a1 a2 HC e3
      clear e1 e2 hgk hx hft hA HA HKA
      by_cases hm : (0 : Int) < (xm : Int)
      · clear e3
        go_wp2_with fail
        refine HC.out.mono ?_
        rintro e w2 ⟨q, rfl, rfl, hq⟩
        have HQ : Hid (q = true → aK.length ≤ 60 ∧ aK.all fewAll = true) := hq
        clear hq
        cases q
        · go_wp2_with fail
          go_ret
          exact ⟨false, rfl, rfl, fun h => by cases h⟩
        · have HN2 : Hid (∀ j (hj : j < K.length), j < k + 1 → fewAll K[j] = true) := HNX.out (HQ.out rfl)
          clear HQ HNX
          go_wp2_with fail
          go_roundg g
          case measure => omega
          case rel => exact ⟨k + 1, by omega, by go_num, rfl, HN2⟩
      · have hm0 : xm = 0 := by omega
        have HN2 : Hid (∀ j (hj : j < K.length), j < k + 1 → fewAll K[j] = true) := HNX.out (by
          obtain rfl : aK = [] := List.eq_nil_of_length_eq_zero (by omega)
          exact ⟨by simp, rfl⟩)
        subst hm0
        clear HNX e3 HC
        go_wp2_with fail
        go_roundg g
        case measure => omega
        case rel => exact ⟨k + 1, by omega, by go_num, rfl, HN2⟩
end Go.Proofs.YtgjjeghnfhjnnaaDoor


/-
  An instruction's copy, spoilt.
-/
namespace Go.Proofs.YtgjjeghnfhjnnaaDoor
open Go.RowKit
set_option linter.unusedVariables false
set_option linter.unusedSimpArgs false

theorem fits_len_no {op : Int} {K K' : List Ag} (h : fitsI op K = true) (hl : K'.length ≠ K.length) : fitsI op K' = false := by
  have := fits_len h
  cases h' : fitsI op K'
  · rfl
  · have := fits_len h'
    omega
theorem ht_8 (c n : Int) : htB c 8 n = false := by unfold htB; simp
theorem fits_set_no {op : Int} {K : List Ag} {i : Nat} (hi : i < K.length) : fitsI op (K.set i ⟨8, 0, []⟩) = false := by
  cases h' : fitsI op (K.set i ⟨8, 0, []⟩)
  · rfl
  · unfold fitsI at h'
    rw [Bool.and_eq_true, List.all_eq_true] at h'
    have := h'.2 i (List.mem_range.2 (by rw [List.length_set]; exact hi))
    have e : (K.set i ⟨8, 0, []⟩).getD i zA = ⟨8, 0, []⟩ := by
      rw [List.getD_eq_getElem?_getD, List.getElem?_set_self hi]; rfl
    rw [e] at this
    unfold fitA at this
    rw [if_neg (by decide)] at this
    dsimp only at this
    rw [ht_8, Bool.and_false] at this
    cases this
theorem thr_no {op : Int} {K : List Ag} (h : fitsI op K = false) : thrI op K = false := by unfold thrI; rw [h, Bool.false_and]

/-- An instruction's copy: its box g, its operands' row v. -/
def SpSt (w1 : World) (K : List Ag) (op : Int) (g : Nat) (v : Value) (L : List El) (wc : World) : Prop :=
  BxI wc g op v ∧ w1.heap.size ≤ g ∧ AOwn wc w1.heap.size v L ∧ L.length = K.length ∧ (∀ x ∈ L, El.fit x) ∧ v.ownBlock ≠ some g ∧
    (∀ i (h : i < K.length) (h' : i < L.length), IsGP wc (fun b => w1.heap.size ≤ b ∧ v.ownBlock ≠ some b ∧ b ≠ g) K[i] (L[i].v)) ∧ Below w1.heap.size w1 wc
theorem BxI.lt {w : World} {g : Nat} {op : Int} {sl : Value} (h : BxI w g op sl) : g < w.heap.size := (Array.getElem?_eq_some_iff.1 h).1
theorem SpSt.under {w1 wc W : World} {K : List Ag} {op : Int} {g : Nat} {v : Value} {L : List El} (h : SpSt w1 K op g v L wc) (hb : Below wc.heap.size wc W) : SpSt w1 K op g v L W := by
  obtain ⟨h1, h2, h3, h4, h5, h6, h7, h8⟩ := h
  exact ⟨h1.under hb, h2, own_same h3 (fun b _ hlt => hb.block b hlt), h4, h5, h6, fun i a b => (h7 i a b).move hb.size (fun x _ hlt => hb.block x hlt) (fun x hx _ => hx), h8.trans (hb.mono h8.size)⟩
theorem SpSt.gs {w1 wc : World} {K : List Ag} {op : Int} {g : Nat} {v : Value} {L : List El} (h : SpSt w1 K op g v L wc) : Gs wc v K := by
  obtain ⟨h1, h2, h3, h4, h5, h6, h7, h8⟩ := h
  have hr := h3.rw3 h5
  obtain ⟨p, c, rfl, -⟩ := own_shape h3
  exact ⟨p, c, L, by rw [h4], h4, hr, fun i a b => (h7 i a b).isG⟩
theorem sp_a {w1 W x1 : World} {K : List Ag} {op : Int} {v : Value} {L : List El} (hst : CpSt W K v L x1) (hW : W.heap.size = w1.heap.size + 1) (hl : L.length = K.length) (hx : BxI x1 w1.heap.size 0 (.slice none 0 0)) (hb : Below w1.heap.size w1 x1) : SpSt w1 K op w1.heap.size v L (setBxI x1 w1.heap.size op v) := by
  obtain ⟨h1, h2, h3, h4, h5⟩ := hst
  have hrow := World.ownsRow.lt h1
  rw [hW] at hrow
  have hsz : (setBxI x1 w1.heap.size op v).heap.size = x1.heap.size := by simp [setBxI, World.setCell]
  refine ⟨hx.set op v, Nat.le_refl _, ?_, hl, h3, fun e => by have := (hrow _ e).1; omega, fun i a b => ?_, setI_below hb (Nat.le_refl _) _ _⟩
  · obtain ⟨e1, e2⟩ := h1
    refine ⟨e1, ?_⟩
    rcases e2 with e2 | ⟨g, cap, cur, e3, e4, e5, e6⟩
    · exact .inl e2
    · exact .inr ⟨g, cap, cur, e3, by omega, by rw [setI_block _ _ _ _ _ (by omega)]; exact e5, e6⟩
  · exact (h4 i a b).move (by rw [hsz]; exact Nat.le_refl _) (fun x hx _ => setI_block _ _ _ _ _ (by have := hx.1; omega)) (fun x hx _ => ⟨by have := hx.1; omega, hx.2, by have := hx.1; omega⟩)
theorem sp_b {w1 W x1 : World} {K : List Ag} {op : Int} {v : Value} {L : List El} (hst : CpSt W K v L x1) (hW : W.heap.size = w1.heap.size) (hl : L.length = K.length) (hb : Below w1.heap.size w1 x1) : SpSt w1 K op x1.heap.size v L (x1.alloc (.cells #[.int .i64 op, v] 43)) := by
  obtain ⟨h1, h2, h3, h4, h5⟩ := hst
  have hrow := World.ownsRow.lt h1
  rw [hW] at hrow
  have ba := box_below x1 #[.int .i64 op, v] 43
  refine ⟨BxI.new _ _ _, hb.size, ?_, hl, h3, fun e => by have := (hrow _ e).2; omega, fun i a b => ?_, hb.trans (ba.mono hb.size)⟩
  · have := own_same (w' := x1.alloc (.cells #[.int .i64 op, v] 43)) h1 (fun b _ hlt => ba.block b hlt)
    rw [hW] at this
    exact this
  · exact (h4 i a b).move ba.size (fun x _ hlt => ba.block x hlt) (fun x hx hlt => ⟨by have := hx.1; omega, hx.2, by omega⟩)
/-- What the box holds, the operands, and that all old memory is as it was. -/
def SpEnd (w1 : World) (op : Int) (g : Nat) (v : Value) (K : List Ag) (wz : World) : Prop := BxI wz g op v ∧ Gs wz v K ∧ Below w1.heap.size w1 wz
theorem SpEnd.drew {w1 wz : World} {op : Int} {g : Nat} {v : Value} {K : List Ag} (h : SpEnd w1 op g v K wz) : SpEnd w1 op g v K wz.drew :=
  ⟨h.1.under ((Below.refl _ _).drew), h.2.1.under ((Below.refl _ _).drew), h.2.2.drew⟩
theorem sp_push {w1 wc wu w5 : World} {K : List Ag} {op : Int} {g : Nat} {v v5 : Value} {L : List El} {lit : Obj} (h : SpSt w1 K op g v L wc) (hb : Below wc.heap.size wc wu)
    (hown : w5.ownsRow w1.heap.size 25 3 v5 (L.length + 1) (cl3 L ++ [.int .i64 0, .int .i64 0, .slice none 0 0])) (hgr : (wu.alloc lit).grownBy w5 v.ownBlock) (hloc : v5.ownBlock = v.ownBlock ∨ v5.ownBlock = some (wu.alloc lit).heap.size) :
    SpEnd w1 op g v5 (K ++ [⟨0, 0, []⟩]) (w5.setCell ⟨g, 1, none⟩ v5) := by
  obtain ⟨h1, h2, h3, h4, h5, h6, h7, h8⟩ := h.under (hb.trans (((Below.refl _ _).alloc (Nat.le_refl _) lit).mono hb.size))
  have hrow := World.ownsRow.lt h3
  have hgs : (wu.alloc lit).heap.size ≤ w5.heap.size := hgr.size
  have hkeep : ∀ b, b < (wu.alloc lit).heap.size → v.ownBlock ≠ some b → w5.heap[b]? = (wu.alloc lit).heap[b]? := fun b hlt hne => hgr.block b hlt (fun e => hne e.symm)
  have hg5 : BxI w5 g op v := by
    unfold BxI at h1 ⊢
    rw [hkeep g (Array.getElem?_eq_some_iff.1 h1).1 h6]
    exact h1
  have hset : ∀ b, b ≠ g → (w5.setCell ⟨g, 1, none⟩ v5).heap[b]? = w5.heap[b]? := fun b hb => by
    simp only [World.setCell, Array.getElem?_modify]
    rw [if_neg (fun e => hb e.symm)]
  have hss : (w5.setCell ⟨g, 1, none⟩ v5).heap.size = w5.heap.size := by simp [World.setCell]
  have hv5 : v5.ownBlock ≠ some g := by
    rcases hloc with e | e
    · rw [e]; exact h6
    · rw [e]; intro e2; injection e2 with e2; have := h1.lt; omega
  have hrow5 : AOwn (w5.setCell ⟨g, 1, none⟩ v5) w1.heap.size v5 (L ++ [⟨0, 0, none, 0, 0⟩]) := by
    unfold AOwn
    rw [cl3_app, List.length_append]
    obtain ⟨e1, e2⟩ := hown
    refine ⟨by simpa [cl3] using e1, ?_⟩
    rcases e2 with e2 | ⟨gr, cap, cur, e3, e4, e5, e6⟩
    · exact .inl e2
    · have hne : gr ≠ g := fun e => hv5 (by rw [e3, e]; rfl)
      exact .inr ⟨gr, cap, cur, e3, e4, by rw [hset _ hne]; exact e5, by simpa [cl3, El.sl] using e6⟩
  have hfit : ∀ x ∈ L ++ [(⟨0, 0, none, 0, 0⟩ : El)], El.fit x := by
    intro x hx
    rcases List.mem_append.1 hx with hx | hx
    · exact h5 x hx
    · simp only [List.mem_singleton] at hx
      subst hx
      exact ⟨by decide, by decide, by decide, by decide, by decide, by decide⟩
  have hr := hrow5.rw3 hfit
  obtain ⟨p, c, rfl, -⟩ := own_shape hown
  refine ⟨?_, ?_, ?_⟩
  · unfold BxI at hg5 ⊢
    simp [World.setCell, Array.getElem?_modify, hg5]
  · refine ⟨p, c, L ++ [⟨0, 0, none, 0, 0⟩], by rw [List.length_append, h4]; rfl, by simp [h4], hr, fun i hi hi' => ?_⟩
    by_cases hL : i < L.length
    · have hK : i < K.length := by omega
      rw [List.getElem_append_left hL, List.getElem_append_left hK]
      refine ((h7 i hK hL).move (Q := fun _ => True) (w' := w5.setCell ⟨g, 1, none⟩ (.slice p (L.length + 1) c)) (by have := hss; omega) (fun b hP hlt => ?_) (fun _ _ _ => trivial)).isG
      rw [hset b hP.2.2, hkeep b hlt hP.2.1]
    · have hiL : i = L.length := by simp at hi'; omega
      subst hiL
      rw [List.getElem_append_right (Nat.le_refl _), List.getElem_append_right (by omega)]
      simp only [Nat.sub_self, h4, List.getElem_cons_zero]
      exact isG_single _ (0, 0) (elS_fit (by decide) (by decide))
  · exact (h8.grown hgr h8.size (fun j hj => (hrow j hj).1)).setCell (by exact h2) _
theorem sp_cut {w1 wc : World} {K : List Ag} {op : Int} {g n : Nat} {p : Option Addr} {c : Nat} {L : List El} (h : SpSt w1 K op g (.slice p (n + 1) c) L wc) (hn : K.length = n + 1) : SpEnd w1 op g (.slice p n c) (K.take n) (wc.setCell ⟨g, 1, none⟩ (.slice p n c)) := by
  obtain ⟨h1, h2, h3, h4, h5, h6, h7, h8⟩ := h
  have hset : ∀ b, b ≠ g → (wc.setCell ⟨g, 1, none⟩ (.slice p n c)).heap[b]? = wc.heap[b]? := fun b hb => by
    simp only [World.setCell, Array.getElem?_modify]
    rw [if_neg (fun e => hb e.symm)]
  have hss : (wc.setCell ⟨g, 1, none⟩ (.slice p n c)).heap.size = wc.heap.size := by simp [World.setCell]
  have hr := h3.rw3 h5
  have hr2 : Rw3 (wc.setCell ⟨g, 1, none⟩ (.slice p n c)) (.slice p (n + 1) c) L := hr.move (by rw [hss]; exact Nat.le_refl _) (fun x hx _ => hset _ (fun e => h6 (by rw [hx]; show some x.block = some g; rw [e])))
  have hln : L.length = n + 1 := by omega
  have hr3 : Rw3 (wc.setCell ⟨g, 1, none⟩ (.slice p n c)) (.slice p n c) (L.take n) := by
    obtain ⟨a, cap, he, q1, q2, q3, q4, q5⟩ := hr2
    injection he with e1 e2 e3
    subst e1; subst e3
    have ht : (L.take n).length = n := by rw [List.length_take]; omega
    refine ⟨p, c, by rw [ht], by omega, q2, q3, fun x hx => q4 x (List.mem_of_mem_take hx), fun h0 => ?_⟩
    obtain ⟨b, off, r1, r2, r3⟩ := q5 (by omega)
    refine ⟨b, off, r1, r2, fun i hi => ?_⟩
    rw [List.getElem_take]
    exact r3 i (by omega)
  refine ⟨?_, ⟨p, c, L.take n, ?_, ?_, hr3, fun i hi hi' => ?_⟩, h8.setCell (by exact h2) _⟩
  · unfold BxI at h1 ⊢
    simp [World.setCell, Array.getElem?_modify, h1]
  · rw [List.length_take, hn]; congr 1; omega
  · rw [List.length_take, List.length_take]; omega
  · have hi2 : i < n := by rw [List.length_take] at hi; omega
    rw [List.getElem_take, List.getElem_take]
    refine ((h7 i (by omega) (by omega)).move (Q := fun _ => True) (by rw [hss]; exact Nat.le_refl _) (fun b hP hlt => hset b hP.2.2) (fun _ _ _ => trivial)).isG
theorem step_append_at {P : Program} {ops : Array Oper} {o : Oper} {a : Act} {w : World} {K : Act → World → Prop} {Q : Exit → Act → World → Prop} {E : Prop}
    (hg : o.guard = none) (s x : Operand) (t : TypeId) (hop : o.op = Op.call { callee := Callee.builtin Builtin.append, args := #[s, x], argTypes := #[t, t] })
    (base : Nat) (e : TypeId) (i : TypeInfo) (z : Value) (size bytes : Nat) (h1 : P.underlying t = some (.slice e)) (h2 : P.info? e = some i) (h3 : i.zero = some z) (h4 : i.size = size) (h5 : i.bytes = bytes) (h6 : z.cells.size = size) (h7 : 0 < size)
    (v : Value) (n : Nat) (xs : List Value) (hs : a.eval s = v) (hown : w.ownsRow base e size v n xs)
    (ad : Addr) (m c : Nat) (news : List Value) (hx : a.eval x = .slice (some ad) m c) (hn : news.length = m * size) (hc : ∀ j u, news[j]? = some u → w.cell? (ad.add j) = some u) (h1c : ∀ u ∈ news, u.oneCell' = true)
    (b1 : n + m ≤ maxLen) (b2 : (n + m) * bytes ≤ 140737488355328) (hb : base ≤ w.heap.size)
    (hK : ∀ v' w', w'.ownsRow base e size v' (n + m) (xs ++ news) → w.grownBy w' v.ownBlock → (v'.ownBlock = v.ownBlock ∨ v'.ownBlock = some w.heap.size) → K (a.put o.dst v') w') :
    if Region.wanted o (yielded ops a.tmps) = true then Oper.wp P o a w K Q else E := by
  have hw : Region.wanted o (yielded ops a.tmps) = true := by simp [Region.wanted, hg]
  rw [if_pos hw]
  obtain ⟨v', w', hrun, r1, r2, _, r3⟩ := run_append_own_at (P := P) w base t o.type e i z size bytes h1 h2 h3 h4 h5 h6 h7 v n xs hown ad m c news hn hc h1c b1 b2 hb
  unfold Oper.wp
  simp [execOp, hop, resolve, invoke, builtin, hs, hx, hrun, Result.andThen]
  exact hK v' w' r1 r2 r3
theorem sp_box {w1 wc wu w5 : World} {K : List Ag} {op : Int} {g : Nat} {v : Value} {L : List El} {lit : Obj} (h : SpSt w1 K op g v L wc) (hb : Below wc.heap.size wc wu) (hgr : (wu.alloc lit).grownBy w5 v.ownBlock) : BxI w5 g op v := by
  obtain ⟨h1, h2, h3, h4, h5, h6, h7, h8⟩ := h.under (hb.trans (((Below.refl _ _).alloc (Nat.le_refl _) lit).mono hb.size))
  unfold BxI at h1 ⊢
  rw [hgr.block g (Array.getElem?_eq_some_iff.1 h1).1 (fun e => h6 e.symm)]
  exact h1
/-- An element of a row, set. -/
def setEl (w : World) (g i : Nat) (t n : Int) (sl : Value) : World := ((w.setCell ⟨g, i * 3, none⟩ (.int .i64 t)).setCell ⟨g, i * 3 + 1, none⟩ (.int .i64 n)).setCell ⟨g, i * 3 + 2, none⟩ sl
theorem setEl_block (w : World) (g i : Nat) (t n : Int) (sl : Value) (b : Nat) (h : b ≠ g) : (setEl w g i t n sl).heap[b]? = w.heap[b]? := by
  simp only [setEl, World.setCell, Array.getElem?_modify]
  rw [if_neg (fun e => h e.symm), if_neg (fun e => h e.symm), if_neg (fun e => h e.symm)]
theorem setEl_size (w : World) (g i : Nat) (t n : Int) (sl : Value) : (setEl w g i t n sl).heap.size = w.heap.size := by simp [setEl, World.setCell]
theorem sp_row {w1 wc : World} {K : List Ag} {op : Int} {g : Nat} {v : Value} {L : List El} (h : SpSt w1 K op g v L wc) (h0 : 0 < K.length) : ∃ gr c cur, v = .slice (some ⟨gr, 0, none⟩) K.length c ∧ w1.heap.size ≤ gr ∧ gr ≠ g ∧ wc.heap[gr]? = some (.cells cur 25 (0, 0)) ∧ K.length * 3 ≤ cur.size ∧ K.length ≤ c ∧ (c : Int) ≤ 9223372036854775807 := by
  obtain ⟨h1, h2, h3, h4, h5, h6, h7, h8⟩ := h
  unfold AOwn at h3
  rw [h4] at h3
  obtain ⟨e1, ⟨rfl, hn⟩ | ⟨gr, c, cur, rfl, e4, e5, e6, e7, e8, e9⟩⟩ := h3
  · omega
  · exact ⟨gr, c, cur, rfl, e4, fun e => h6 (by rw [e]; rfl), e5, by rw [e8]; exact Nat.mul_le_mul_right 3 e6, e6, by simp only [maxLen] at e7; omega⟩
theorem sp_set {w1 wc : World} {K : List Ag} {op : Int} {g gr c i : Nat} {L : List El} (h : SpSt w1 K op g (.slice (some ⟨gr, 0, none⟩) K.length c) L wc) (hi : i < K.length) : SpEnd w1 op g (.slice (some ⟨gr, 0, none⟩) K.length c) (K.set i ⟨8, 0, []⟩) (setEl wc gr i 8 0 (.slice none 0 0)) := by
  obtain ⟨gr', c', cur, he, hb, hne, hcur, hcs, -, -⟩ := sp_row h (by omega)
  injection he with he1 _ he3
  injection he1 with he1
  injection he1 with he1 _ _
  subst he1
  subst he3
  obtain ⟨h1, h2, h3, h4, h5, h6, h7, h8⟩ := h
  have hset : ∀ b, b ≠ gr → (setEl wc gr i 8 0 (.slice none 0 0)).heap[b]? = wc.heap[b]? := fun b hb => setEl_block _ _ _ _ _ _ _ hb
  have hr := h3.rw3 h5
  have hfz : El.fit ⟨8, 0, none, 0, 0⟩ := ⟨by decide, by decide, by decide, by decide, by decide, by decide⟩
  have hnew : (setEl wc gr i 8 0 (.slice none 0 0)).heap[gr]? = some (.cells (((cur.setIfInBounds (i * 3) (.int .i64 8)).setIfInBounds (i * 3 + 1) (.int .i64 0)).setIfInBounds (i * 3 + 2) (.slice none 0 0)) 25 (0, 0)) := by
    simp [setEl, World.setCell, Array.getElem?_modify, hcur]
  have hcell : ∀ o, (setEl wc gr i 8 0 (.slice none 0 0)).cell? ⟨gr, o, none⟩ = (((cur.setIfInBounds (i * 3) (.int .i64 8)).setIfInBounds (i * 3 + 1) (.int .i64 0)).setIfInBounds (i * 3 + 2) (.slice none 0 0))[o]? := fun o => by
    unfold World.cell?
    simp only [hnew]
    rfl
  have hold : ∀ o, wc.cell? ⟨gr, o, none⟩ = cur[o]? := fun o => by
    unfold World.cell?
    simp only [hcur]
    rfl
  have hr2 : Rw3 (setEl wc gr i 8 0 (.slice none 0 0)) (.slice (some ⟨gr, 0, none⟩) K.length c) (L.set i ⟨8, 0, none, 0, 0⟩) := by
    obtain ⟨a, cap, he, q1, q2, q3, q4, q5⟩ := hr
    injection he with e1 e2 e3
    subst e1; subst e3
    refine ⟨_, c, by rw [List.length_set, h4], by rw [List.length_set]; omega, q2, fun e => (by cases e), fun x hx => ?_, fun h0 => ?_⟩
    · rcases List.mem_or_eq_of_mem_set hx with hx | rfl
      · exact q4 x hx
      · exact hfz
    · rw [List.length_set] at h0
      obtain ⟨b, off, r1, r2, r3⟩ := q5 h0
      injection r1 with r1
      injection r1 with r1 r1' _
      subst r1; subst r1'
      refine ⟨gr, 0, rfl, by rw [setEl_size]; exact r2, fun j hj => ?_⟩
      rw [List.length_set] at hj
      obtain ⟨c0, c1, c2⟩ := r3 j hj
      rw [hold] at c0 c1 c2
      rw [Nat.zero_add] at c0 c1 c2
      have hjc : j * 3 + 2 < cur.size := by omega
      unfold At3
      rw [hcell, hcell, hcell, Nat.zero_add]
      by_cases hji : j = i
      · subst hji
        simp only [List.getElem_set_self]
        refine ⟨?_, ?_, ?_⟩
        · simp [Array.getElem?_setIfInBounds]; omega
        · simp [Array.getElem?_setIfInBounds]; omega
        · simp [Array.getElem?_setIfInBounds, El.sl]; omega
      · rw [List.getElem_set_ne (by omega)]
        refine ⟨?_, ?_, ?_⟩
        · simp [Array.getElem?_setIfInBounds, show ¬ i * 3 = j * 3 by omega, show ¬ i * 3 + 1 = j * 3 by omega, show ¬ i * 3 + 2 = j * 3 by omega]; exact c0
        · simp [Array.getElem?_setIfInBounds, show ¬ i * 3 = j * 3 + 1 by omega, show ¬ i * 3 = j * 3 by omega, show ¬ i * 3 + 2 = j * 3 + 1 by omega]; exact c1
        · simp [Array.getElem?_setIfInBounds, show ¬ i * 3 = j * 3 + 2 by omega, show ¬ i * 3 + 1 = j * 3 + 2 by omega, show ¬ i * 3 = j * 3 + 1 by omega, show ¬ i * 3 = j * 3 by omega]; exact c2
  refine ⟨?_, ⟨some ⟨gr, 0, none⟩, c, L.set i ⟨8, 0, none, 0, 0⟩, by rw [List.length_set], by rw [List.length_set, List.length_set, h4], hr2, fun j hj hj' => ?_⟩, ?_⟩
  · unfold BxI at h1 ⊢
    rw [hset g (fun e => hne e.symm)]
    exact h1
  · rw [List.length_set] at hj hj'
    by_cases hji : j = i
    · subst hji
      simp only [List.getElem_set_self]
      exact isG_single _ (8, 0) (elS_fit (by decide) (by decide))
    · rw [List.getElem_set_ne (by omega), List.getElem_set_ne (by omega)]
      exact ((h7 j hj hj').move (Q := fun _ => True) (by rw [setEl_size]; exact Nat.le_refl _) (fun b hP hlt => hset b (fun e => hP.2.1 (by rw [e]; rfl))) (fun _ _ _ => trivial)).isG
  · exact ((h8.setCell (by exact hb) _).setCell (by exact hb) _).setCell (by exact hb) _
end Go.Proofs.YtgjjeghnfhjnnaaDoor


/-
  A list of pairs in a box: made, put more, cut, set.
-/
namespace Go.Proofs.YtgjjeghnfhjnnaaDoor
open Go.RowKit
set_option linter.unusedVariables false
set_option linter.unusedSimpArgs false

/-- Operands in new memory, as a slice. -/
theorem gs_new (w : World) (L : List El) (K : List Ag) (hlk : L.length = K.length) (hf : ∀ x ∈ L, El.fit x) (hk : ∀ i (h : i < K.length) (h' : i < L.length), IsG w K[i] (L[i].v)) (hl : L.length ≤ 1000000) : Gs (w.alloc (.cells (cl3 L).toArray 25)) (.slice (some ⟨w.heap.size, 0, none⟩) K.length K.length) K := by
  have ho : AOwn (w.alloc (.cells (cl3 L).toArray 25)) 0 (.slice (some ⟨w.heap.size, 0, none⟩) L.length L.length) L := by
    refine ⟨cl3_len _, .inr ⟨w.heap.size, L.length, _, rfl, Nat.zero_le _, heap_alloc_new w _, Nat.le_refl _, ?_, ?_, ?_⟩⟩
    · simp only [maxLen]; omega
    · simp [cl3_len]
    · simp only [List.toList_toArray]; rw [List.take_of_length_le (by rw [cl3_len]; exact Nat.le_refl _)]
  have hr := ho.rw3 hf
  rw [hlk] at hr
  exact ⟨some ⟨w.heap.size, 0, none⟩, K.length, L, rfl, hlk, hr, fun i h1 h2 => (hk i h1 h2).under (box_below _ _ _)⟩
theorem getD_appL {α : Type} (a b : List α) (i : Nat) (d : α) (h : i < a.length) : (a ++ b).getD i d = a.getD i d := by
  rw [List.getD_eq_getElem?_getD, List.getD_eq_getElem?_getD, List.getElem?_append_left h]
theorem getD_appR {α : Type} (a b : List α) (i : Nat) (d : α) (h : a.length ≤ i) : (a ++ b).getD i d = b.getD (i - a.length) d := by
  rw [List.getD_eq_getElem?_getD, List.getD_eq_getElem?_getD, List.getElem?_append_right h]
/-- Pairs, each a number by its place, and a label. -/
def psOk (ps : List (Int × Int)) (k : Nat) : Prop := ps.length = 2 * k ∧ ∀ j, j < k → ps.getD (2 * j) (0, 0) = (1, (j : Int)) ∧ ∃ f : Int, 1 ≤ f ∧ f ≤ 100 ∧ ps.getD (2 * j + 1) (0, 0) = (5, f)
theorem psOk.nil : psOk [] 0 := ⟨rfl, fun j h => absurd h (by omega)⟩
theorem psOk.push {ps : List (Int × Int)} {k : Nat} {f : Int} (h : psOk ps k) (h1 : 1 ≤ f) (h2 : f ≤ 100) : psOk (ps ++ [(1, (k : Int)), (5, f)]) (k + 1) := by
  obtain ⟨hl, hj⟩ := h
  refine ⟨by simp [hl]; omega, fun j hjk => ?_⟩
  by_cases hlt : j < k
  · obtain ⟨e1, g, g1, g2, e2⟩ := hj j hlt
    rw [getD_appL _ _ _ _ (by omega), getD_appL _ _ _ _ (by omega)]
    exact ⟨e1, g, g1, g2, e2⟩
  · obtain rfl : j = k := by omega
    rw [getD_appR _ _ _ _ (by omega), getD_appR _ _ _ _ (by omega), hl]
    refine ⟨by simp, f, h1, h2, ?_⟩
    rw [show 2 * j + 1 - 2 * j = 1 by omega]
    rfl
theorem map_getD (ps : List (Int × Int)) (i : Nat) : (ps.map agS).getD i zA = agS (ps.getD i (0, 0)) := by
  rw [List.getD_eq_getElem?_getD, List.getD_eq_getElem?_getD, List.getElem?_map]
  cases ps[i]? <;> rfl
theorem fits33 (K : List Ag) : fitsI 33 [agS (3, 0), agS (5, 1), ⟨7, 0, K⟩] = (decide (K.length ≤ 40) && pairsB K) := by
  have e0 : fitA (letA 33 0) (agS (3, 0)) = true := by decide +kernel
  have e1 : fitA (letA 33 1) (agS (5, 1)) = true := by decide +kernel
  have e2 : fitA (letA 33 2) ⟨7, 0, K⟩ = (decide (K.length ≤ 40) && pairsB K) := by
    rw [show letA 33 2 = 80 from rfl]
    unfold fitA
    rw [if_pos rfl, if_neg (by decide), if_pos rfl]
    simp
  unfold fitsI
  rw [sg33]
  simp only [List.length_cons, List.length_nil, Nat.zero_add, Nat.reduceAdd]
  rw [show List.range 3 = [0, 1, 2] from rfl]
  simp only [List.all_cons, List.all_nil, Bool.and_true, List.getD_cons_zero, List.getD_cons_succ, e0, e1, e2, Bool.true_and]
  simp
theorem pr_good {ps : List (Int × Int)} {k : Nat} (h : psOk ps k) (hk : k ≤ 15) {j : Nat} (hjk : j < k) : prB (ps.map agS) j = true := by
  obtain ⟨hl, hj⟩ := h
  obtain ⟨e1, f, f1, f2, e2⟩ := hj j hjk
  unfold prB
  rw [map_getD, map_getD, e1, e2]
  have c1 : coA (agS (1, (j : Int))) = true := by simp [coA, agS]
  have c2 : mbA (agS (1, (j : Int))) = true := by
    unfold mbA agS loT hiT
    simp
    omega
  have c3 : fit1 108 (agS (5, f)) = true := by
    unfold fit1 mbA agS loT hiT htB
    simp
    omega
  rw [c1, c2, c3, Bool.true_and, Bool.true_and, Bool.true_and, List.all_eq_true]
  intro e he
  have hej := List.mem_range.1 he
  obtain ⟨e3, -⟩ := hj e (by omega)
  rw [map_getD, e3]
  unfold sameTN agS
  simp
  omega
theorem pairs_good {ps : List (Int × Int)} {k : Nat} (h : psOk ps k) (hk : k ≤ 15) : pairsB (ps.map agS) = true :=
  pairs_yes (by rw [List.length_map, h.1]; omega) (fun j hjk => pr_good h hk (by rw [List.length_map, h.1] at hjk; omega))
theorem pairs_twice {ps : List (Int × Int)} {k : Nat} (h : psOk ps k) (hk : 0 < k) : pairsB ((ps ++ [(1, 0), (5, 9)]).map agS) = false := by
  obtain ⟨hl, hj⟩ := h
  refine pairs_no (j := k) (by rw [List.length_map]; simp [hl]) ?_
  unfold prB
  rw [Bool.and_eq_false_iff]
  right
  cases hr : (List.range k).all (fun e => !sameTN (((ps ++ [(1, 0), (5, 9)]).map agS).getD (2 * e) zA) (((ps ++ [(1, 0), (5, 9)]).map agS).getD (2 * k) zA))
  · rfl
  · have := List.all_eq_true.1 hr 0 (List.mem_range.2 hk)
    rw [map_getD, map_getD, getD_appL _ _ _ _ (by omega), getD_appR _ _ _ _ (by omega), hl, (hj 0 hk).1] at this
    simp [sameTN, agS] at this
theorem pairs_odd {K : List Ag} (h : K.length % 2 = 1) : pairsB K = false := by
  unfold pairsB
  simp [h]
theorem pairs_lab {K : List Ag} (h : 1 < K.length) : pairsB (K.set 1 (agS (5, 0))) = false := by
  refine pairs_no (j := 0) (by rw [List.length_set]; omega) ?_
  unfold prB
  have e : (K.set 1 (agS (5, 0))).getD (2 * 0 + 1) zA = agS (5, 0) := by
    rw [List.getD_eq_getElem?_getD, Nat.mul_zero, Nat.zero_add, List.getElem?_set_self h]; rfl
  rw [e, show fit1 108 (agS (5, 0)) = false by decide +kernel]
  simp
theorem pairs_reg {K : List Ag} (h : 1 < K.length) : pairsB (K.set 0 (agS (3, 1))) = false := by
  refine pairs_no (j := 0) (by rw [List.length_set]; omega) ?_
  unfold prB
  have e : (K.set 0 (agS (3, 1))).getD (2 * 0) zA = agS (3, 1) := by
    rw [List.getD_eq_getElem?_getD, Nat.mul_zero, List.getElem?_set_self (by omega)]; rfl
  rw [e, show coA (agS (3, 1)) = false by decide +kernel]
  simp

/-- The list in its box g, its row v. -/
def PSt (w0 : World) (g : Nat) (v : Value) (ps : List (Int × Int)) (wr : World) : Prop :=
  BxA wr g 7 0 v ∧ w0.heap.size ≤ g ∧ AOwn wr w0.heap.size v (ps.map elS) ∧ (∀ p ∈ ps, El.fit (elS p)) ∧ v.ownBlock ≠ some g ∧ Below w0.heap.size w0 wr
def PEnd (w0 : World) (g : Nat) (v : Value) (K : List Ag) (wz : World) : Prop := BxA wz g 7 0 v ∧ Gs wz v K ∧ Below w0.heap.size w0 wz
theorem PSt.under {w0 wr W : World} {g : Nat} {v : Value} {ps : List (Int × Int)} (h : PSt w0 g v ps wr) (hb : Below wr.heap.size wr W) : PSt w0 g v ps W := by
  obtain ⟨h1, h2, h3, h4, h5, h6⟩ := h
  exact ⟨h1.under hb, h2, own_same h3 (fun b _ hlt => hb.block b hlt), h4, h5, h6.trans (hb.mono h6.size)⟩
theorem gs_row {w : World} {base : Nat} {v : Value} {ps : List (Int × Int)} (h : AOwn w base v (ps.map elS)) (hf : ∀ p ∈ ps, El.fit (elS p)) : Gs w v (ps.map agS) := by
  have hr := h.rw3 (fun x hx => by obtain ⟨p, hp, rfl⟩ := List.mem_map.1 hx; exact hf p hp)
  obtain ⟨p, c, rfl, -⟩ := own_shape h
  refine ⟨p, c, ps.map elS, by rw [List.length_map, List.length_map], by rw [List.length_map, List.length_map], hr, fun i h1 h2 => ?_⟩
  simp only [List.getElem_map]
  exact isG_single _ _ (hf _ (List.getElem_mem _))
theorem PSt.fin {w0 wr : World} {g : Nat} {v : Value} {ps : List (Int × Int)} (h : PSt w0 g v ps wr) : PEnd w0 g v (ps.map agS) wr := ⟨h.1, gs_row h.2.2.1 h.2.2.2.1, h.2.2.2.2.2⟩
theorem PEnd.under {w0 wr W : World} {g : Nat} {v : Value} {K : List Ag} (h : PEnd w0 g v K wr) (hb : Below wr.heap.size wr W) : PEnd w0 g v K W := ⟨h.1.under hb, h.2.1.under hb, h.2.2.trans (hb.mono h.2.2.size)⟩
theorem p_box {w0 wr wu w5 : World} {g : Nat} {v : Value} {ps : List (Int × Int)} {lit : Obj} (h : PSt w0 g v ps wr) (hb : Below wr.heap.size wr wu) (hgr : (wu.alloc lit).grownBy w5 v.ownBlock) : BxA w5 g 7 0 v := by
  obtain ⟨h1, h2, h3, h4, h5, h6⟩ := h.under (hb.trans (((Below.refl _ _).alloc (Nat.le_refl _) lit).mono hb.size))
  unfold BxA at h1 ⊢
  rw [hgr.block g (Array.getElem?_eq_some_iff.1 h1).1 (fun e => h5 e.symm)]
  exact h1
theorem p_push {w0 wr wu w5 : World} {g : Nat} {v v5 : Value} {ps : List (Int × Int)} {a b : Int × Int} {lit : Obj} (h : PSt w0 g v ps wr) (hb : Below wr.heap.size wr wu) (fa : El.fit (elS a)) (fb : El.fit (elS b))
    (hown : w5.ownsRow w0.heap.size 25 3 v5 (ps.length + 2) (cl3 (ps.map elS) ++ [.int .i64 a.1, .int .i64 a.2, .slice none 0 0, .int .i64 b.1, .int .i64 b.2, .slice none 0 0])) (hgr : (wu.alloc lit).grownBy w5 v.ownBlock) (hloc : v5.ownBlock = v.ownBlock ∨ v5.ownBlock = some (wu.alloc lit).heap.size) :
    PSt w0 g v5 (ps ++ [a, b]) (w5.setCell ⟨g, 2, none⟩ v5) := by
  have hbx5 := p_box h hb hgr
  obtain ⟨h1, h2, h3, h4, h5, h6⟩ := h.under (hb.trans (((Below.refl _ _).alloc (Nat.le_refl _) lit).mono hb.size))
  have hrow := World.ownsRow.lt h3
  have hset : ∀ b, b ≠ g → (w5.setCell ⟨g, 2, none⟩ v5).heap[b]? = w5.heap[b]? := fun b hb => by
    simp only [World.setCell, Array.getElem?_modify]
    rw [if_neg (fun e => hb e.symm)]
  have hv5 : v5.ownBlock ≠ some g := by
    rcases hloc with e | e
    · rw [e]; exact h5
    · rw [e]; intro e2; injection e2 with e2; have := h1.lt; omega
  refine ⟨?_, h2, ?_, ?_, hv5, (h6.grown hgr h6.size (fun j hj => (hrow j hj).1)).setCell (by exact h2) _⟩
  · unfold BxA at hbx5 ⊢
    simp [World.setCell, Array.getElem?_modify, hbx5]
  · unfold AOwn
    rw [List.map_append, cl3_app, List.length_append, List.length_map]
    obtain ⟨e1, e2⟩ := hown
    refine ⟨by simpa [cl3, elS, El.sl] using e1, ?_⟩
    rcases e2 with e2 | ⟨gr, cap, cur, e3, e4, e5, e6⟩
    · exact .inl e2
    · have hne : gr ≠ g := fun e => hv5 (by rw [e3, e]; rfl)
      exact .inr ⟨gr, cap, cur, e3, e4, by rw [hset _ hne]; exact e5, by simpa [cl3, elS, El.sl] using e6⟩
  · intro p hp
    rcases List.mem_append.1 hp with hp | hp
    · exact h4 p hp
    · simp only [List.mem_cons, List.not_mem_nil, or_false] at hp
      rcases hp with rfl | rfl
      · exact fa
      · exact fb
theorem p_cut {w0 wr : World} {g n : Nat} {p : Option Addr} {c : Nat} {ps : List (Int × Int)} (h : PSt w0 g (.slice p (n + 1) c) ps wr) (hn : ps.length = n + 1) : PEnd w0 g (.slice p n c) ((ps.take n).map agS) (wr.setCell ⟨g, 2, none⟩ (.slice p n c)) := by
  obtain ⟨h1, h2, h3, h4, h5, h6⟩ := h
  have hset : ∀ b, b ≠ g → (wr.setCell ⟨g, 2, none⟩ (.slice p n c)).heap[b]? = wr.heap[b]? := fun b hb => by
    simp only [World.setCell, Array.getElem?_modify]
    rw [if_neg (fun e => hb e.symm)]
  have ht : (ps.take n).length = n := by rw [List.length_take]; omega
  have ho : AOwn (wr.setCell ⟨g, 2, none⟩ (.slice p n c)) w0.heap.size (.slice p n c) ((ps.take n).map elS) := by
    unfold AOwn at h3 ⊢
    rw [List.length_map] at h3 ⊢
    rw [ht]
    rw [hn] at h3
    obtain ⟨e1, ⟨e2, e2'⟩ | ⟨gr, cap, cur, e3, e4, e5, e6, e7, e8, e9⟩⟩ := h3
    · omega
    · injection e3 with e31 _ e33
      subst e31; subst e33
      have hne : gr ≠ g := fun e => h5 (by rw [e]; rfl)
      refine ⟨by rw [cl3_len, List.length_map, ht], .inr ⟨gr, c, cur, rfl, e4, by rw [hset _ hne]; exact e5, by omega, e7, e8, ?_⟩⟩
      have : ps = ps.take n ++ ps.drop n := (List.take_append_drop n ps).symm
      rw [this, List.map_append, cl3_app] at e9
      have hl : (cl3 ((ps.take n).map elS)).length = n * 3 := by rw [cl3_len, List.length_map, ht]
      have h2 := congrArg (List.take (n * 3)) e9
      rw [List.take_take, List.take_append_of_le_length (by omega), Nat.min_eq_left (by omega)] at h2
      rw [h2, List.take_of_length_le (by omega)]
  have hf : ∀ p ∈ ps.take n, El.fit (elS p) := fun p hp => h4 p (List.mem_of_mem_take hp)
  refine ⟨?_, gs_row ho hf, h6.setCell (by exact h2) _⟩
  unfold BxA at h1 ⊢
  simp [World.setCell, Array.getElem?_modify, h1]
theorem cl3_set : ∀ (L : List El) (i : Nat) (x : El), i < L.length → cl3 (L.set i x) = (((cl3 L).set (i * 3) (.int .i64 x.t)).set (i * 3 + 1) (.int .i64 x.n)).set (i * 3 + 2) x.sl
  | [], i, x, h => by simp at h
  | y :: t, 0, x, h => by simp [cl3]
  | y :: t, i + 1, x, h => by
    rw [show (i + 1) * 3 = i * 3 + 1 + 1 + 1 by omega]
    simp only [List.set_cons_succ, cl3]
    rw [cl3_set t i x (by simpa using h)]
theorem p_row {w0 wr : World} {g : Nat} {v : Value} {ps : List (Int × Int)} (h : PSt w0 g v ps wr) (h0 : 0 < ps.length) : ∃ gr c cur, v = .slice (some ⟨gr, 0, none⟩) ps.length c ∧ w0.heap.size ≤ gr ∧ gr ≠ g ∧ wr.heap[gr]? = some (.cells cur 25 (0, 0)) ∧ ps.length * 3 ≤ cur.size ∧ ps.length ≤ c ∧ (c : Int) ≤ 9223372036854775807 := by
  obtain ⟨h1, h2, h3, h4, h5, h6⟩ := h
  unfold AOwn at h3
  rw [List.length_map] at h3
  obtain ⟨e1, ⟨rfl, hn⟩ | ⟨gr, c, cur, rfl, e4, e5, e6, e7, e8, e9⟩⟩ := h3
  · omega
  · exact ⟨gr, c, cur, rfl, e4, fun e => h5 (by rw [e]; rfl), e5, by rw [e8]; exact Nat.mul_le_mul_right 3 e6, e6, by simp only [maxLen] at e7; omega⟩
theorem p_set {w0 wr : World} {g gr c i : Nat} {ps : List (Int × Int)} {q : Int × Int} (h : PSt w0 g (.slice (some ⟨gr, 0, none⟩) ps.length c) ps wr) (hi : i < ps.length) (hq : El.fit (elS q)) : PEnd w0 g (.slice (some ⟨gr, 0, none⟩) ps.length c) ((ps.map agS).set i (agS q)) (setEl wr gr i q.1 q.2 (.slice none 0 0)) := by
  obtain ⟨gr', c', cur0, he, hb, hne, -, -, -, -⟩ := p_row h (by omega)
  injection he with he1 _ he3
  injection he1 with he1
  injection he1 with he1 _ _
  subst he1
  subst he3
  obtain ⟨h1, h2, h3, h4, h5, h6⟩ := h
  have hset : ∀ b, b ≠ gr → (setEl wr gr i q.1 q.2 (.slice none 0 0)).heap[b]? = wr.heap[b]? := fun b hb => setEl_block _ _ _ _ _ _ _ hb
  have hl : (ps.set i q).length = ps.length := List.length_set ..
  have ho : AOwn (setEl wr gr i q.1 q.2 (.slice none 0 0)) w0.heap.size (.slice (some ⟨gr, 0, none⟩) ps.length c) ((ps.set i q).map elS) := by
    unfold AOwn at h3 ⊢
    rw [List.length_map] at h3 ⊢
    rw [hl]
    obtain ⟨e1, ⟨e2, e2'⟩ | ⟨gr', cap, cur, e3, e4, e5, e6, e7, e8, e9⟩⟩ := h3
    · cases e2
    · injection e3 with e31 _ e33
      injection e31 with e31
      injection e31 with e31 _ _
      subst e31; subst e33
      refine ⟨by rw [cl3_len, List.length_map, hl], .inr ⟨gr, c, ((cur.setIfInBounds (i * 3) (.int .i64 q.1)).setIfInBounds (i * 3 + 1) (.int .i64 q.2)).setIfInBounds (i * 3 + 2) (.slice none 0 0), rfl, e4, ?_, e6, e7, by simpa using e8, ?_⟩⟩
      · simp [setEl, World.setCell, Array.getElem?_modify, e5]
      · rw [List.map_set, cl3_set _ _ _ (by rw [List.length_map]; exact hi), ← e9]
        simp only [Array.toList_setIfInBounds, List.take_set]
        rfl
  have hf : ∀ p ∈ ps.set i q, El.fit (elS p) := fun p hp => by
    rcases List.mem_or_eq_of_mem_set hp with hp | rfl
    · exact h4 p hp
    · exact hq
  refine ⟨?_, ?_, ((h6.setCell (by exact hb) _).setCell (by exact hb) _).setCell (by exact hb) _⟩
  · unfold BxA at h1 ⊢
    rw [hset g (fun e => hne e.symm)]
    exact h1
  · rw [← List.map_set]
    exact gs_row ho hf
set_option maxRecDepth 100000 in
set_option maxHeartbeats 1000000 in
theorem S_nil (w : World) : Calls Tryd.prog 18 #[.slice none 0 0] w (Mk1 7 0 w) := by
  obtain ⟨i0, hi, hz0, hz1, hz2⟩ := info_parts Tryd.infoArg
  have HB : Hid (∀ c, Below w.heap.size w (w.alloc (.cells c 25))) := fun c => box_below _ _ _
  go_enter Tryd.func18, Tryd.ntmps18
  go_wp2_with (first | (at_builtin; refine wpList_append_own_none rfl _ _ 23 rfl w.heap.size 25 i0 3 Tryd.underlying23 hi (.slice none 0 0) 0 [] rfl (World.ownsRow_nil _ _ _ _) rfl ?_) | fail)
  refine bodyPost_ret (results_arg rfl _ _ w.heap.size 7 0 (.slice none 0 0) rfl (BxA.new w _ _ _)) rfl ?_
  exact ⟨rfl, HB.out _⟩
/-- Numbers that came in, to be read. -/
def LRow (w : World) (a : Option Addr) (len cap : Nat) (zs : List Int) : Prop :=
  len ≤ cap ∧ (cap : Int) ≤ 9223372036854775807 ∧ (a = none → cap = 0) ∧ ∀ i, i < len → ∃ b off, a = some ⟨b, off, none⟩ ∧ b < w.heap.size ∧ w.cell? ⟨b, off + i, none⟩ = some (.int .i64 (zs.getD i 0)) ∧ -9223372036854775808 ≤ zs.getD i 0 ∧ zs.getD i 0 ≤ 9223372036854775807
theorem lrow_of {w : World} {a : Option Addr} {len cap : Nat} {zs : List Int}
    (h : (a = none ∧ len = 0 ∧ cap = 0 ∧ zs = []) ∨
      ∃ x, a = some x ∧ len ≤ cap ∧ cap ≤ maxLen ∧ zs.length = cap ∧ (∀ i, i < zs.length → w.cell? (x.add i) = some (.int .i64 (zs.getD i 0))) ∧ ∀ n ∈ zs, (Lit.int .i64 n).wf = true) :
    LRow w a len cap zs := by
  rcases h with ⟨rfl, rfl, rfl, rfl⟩ | ⟨x, rfl, hl, hm, hz, hc, hw⟩
  · exact ⟨Nat.le_refl _, by decide, fun _ => rfl, fun i hi => absurd hi (by omega)⟩
  · refine ⟨hl, by simp only [maxLen] at hm; omega, fun e => (by cases e), fun i hi => ?_⟩
    obtain ⟨b, off, spot⟩ := x
    have h0 := hc 0 (by omega)
    have h1 := hc i (by omega)
    have hspot : spot = none := by simpa [Addr.add] using World.cell?_spot h0
    subst hspot
    rw [show (⟨b, off, none⟩ : Addr).add i = ⟨b, off + i, none⟩ by unfold Addr.add; split <;> simp_all] at h1
    have hin : zs.getD i 0 ∈ zs := by
      rw [List.getD_eq_getElem?_getD, List.getElem?_eq_getElem (show i < zs.length by omega)]
      exact List.getElem_mem _
    exact ⟨b, off, rfl, World.block_lt_of_cell? w _ h1, h1, (bdI (hw _ hin)).1, (bdI (hw _ hin)).2⟩
end Go.Proofs.YtgjjeghnfhjnnaaDoor
