import Derived.Test.YtfjibcldghnjcaaDoorLbC
import Derived.Test.YtfjibcldghnjcaaDoorZOpI

/-
  code.Labels: where each label stands.
-/
namespace Go.Proofs.YtfjibcldghnjcaaDoor
open Go.RowKit Go.Maps
set_option linter.unusedVariables false
set_option linter.unusedSimpArgs false

/-- What Labels answers. -/
def LabPost (w : World) (L : List In) (e : Ending) (w' : World) : Prop :=
  (labS L = none ∧ e = .returned (.tuple #[.map none, .int .i64 11]) ∧ Below w.heap.size w w') ∨
  ∃ P b, labS L = some P ∧ e = .returned (.tuple #[.map (some b), .int .i64 0]) ∧ Pm w' b P ∧ w.heap.size ≤ b ∧ Below w.heap.size w w'

theorem Pm.put {w' : World} {b k : Nat} {P : List (Int × Nat)} {D : DataW Unit} {n : Int} (htd : Tidy D) (hD : ∀ n, Maps.has D (.int .i64 n) = hasP P n) (hA : ∀ n k, (n, k) ∈ P → D.atKey (.int .i64 n) (.lit (.int .i64 0)) = .lit (.int .i64 (k : Int))) (hS : Maps.size D = P.length) (hn : hasP P n = false)
    (h : w'.ownsMap Tryd.prog 3 (plainElem Tryd.prog 3) b (P.length + 1) (D.put (.int .i64 n) (.lit (.int .i64 (k : Int))))) : Pm w' b (P ++ [(n, k)]) := by
  refine ⟨_, by rw [List.length_append]; exact h, fun m => ?_, fun m j hm => ?_, ?_⟩
  · rw [hasP_app]
    by_cases e : n = m
    · subst e
      rw [has_put_same htd.isMap (by exact trivial)]
      simp
    · rw [has_put_other (by intro x; injection x with _ x; exact e x.symm), hD m, show (n == m) = false from beq_eq_false_iff_ne.2 e, Bool.or_false]
  · rcases List.mem_append.1 hm with hm | hm
    · have hne : m ≠ n := fun e => by
        have : hasP P n = true := by
          unfold hasP
          exact List.any_eq_true.2 ⟨(m, j), hm, by simp [e]⟩
        rw [hn] at this; cases this
      rw [atKey_put_other (by intro x; injection x with _ x; exact hne x)]
      exact hA m j hm
    · simp only [List.mem_singleton, Prod.mk.injEq] at hm
      obtain ⟨rfl, rfl⟩ := hm
      exact atKey_put_same htd.isMap (by exact trivial) _ _
  · rw [size_put htd, hD n, hn]
    simp [hS]
theorem numL_bd {w : World} {Q : Nat → Prop} {v : Value} {op : Int} {K : List Ag} (h : GsQ w Q v K) : -9223372036854775808 ≤ numL ⟨op, K⟩ ∧ numL ⟨op, K⟩ ≤ 9223372036854775807 := by
  cases K with
  | nil =>
    show (-9223372036854775808 : Int) ≤ 0 ∧ (0 : Int) ≤ 9223372036854775807
    decide
  | cons a t =>
    obtain ⟨p, cap, rfl, -⟩ := h.gs.shape
    obtain ⟨b, off, x, -, -, -, -, hf, hx⟩ := h.at 0 (by simp)
    obtain ⟨-, e2, -⟩ := hx.el
    have e2 : x.n = a.n := e2
    show -9223372036854775808 ≤ a.n ∧ a.n ≤ 9223372036854775807
    rw [← e2]
    obtain ⟨-, -, h1, h2, -⟩ := hf
    exact ⟨h1, h2⟩

set_option maxRecDepth 100000 in
set_option maxHeartbeats 4000000 in
theorem labels_any (w : World) (v : Value) (L : List In) (hI : IsP w v L) (hsz : wtO (L.map In.K) ≤ 1000000000) :
    Calls Tryd.prog 7 #[v] w fun e w' => LabPost w L e w' := by
  obtain ⟨av, cap, rfl, hc1, hc2, hc3⟩ := hI.shape
  have HI : Hid (IsP w (.slice av L.length cap) L) := hI
  have HSZ : Hid (wtO (L.map In.K) ≤ 1000000000) := hsz
  have hLl : L.length ≤ 1000000000 := by have := wtO_len (L.map In.K); simp at this; omega
  have hmm := @run_makeMap Tryd.prog
  have HP0 : Hid (Pm (w.alloc (.map #[] 0)) w.heap.size []) := Pm.made w
  have HB0 : Hid (Below w.heap.size w (w.alloc (.map #[] 0))) := (Below.refl _ _).alloc (Nat.le_refl _) _
  clear hI hsz
  go_enter Tryd.func7, Tryd.ntmps7
  go_wp2_with fail
  go_loopg [13] L.length (fun gk s13 wr => ∃ (k : Nat) (P : List (Int × Nat)), k + gk = L.length ∧ s13 = .int .i64 (k : Int) ∧ Hid (labF (L.drop k) k P = labF L 0 []) ∧ Hid (Pm wr w.heap.size P) ∧ Hid (P.length ≤ k) ∧ Hid (Below w.heap.size w wr))
  case atStart => exact ⟨0, [], by omega, rfl, rfl, HP0.out, Nat.le_refl _, HB0.out⟩
  case round =>
    obtain ⟨k, P, hk, rfl, HF, HP, HPL, HB⟩ := hrel
    clear HP0 HB0
    cases gk with
    | zero =>
      obtain rfl : k = L.length := by omega
      have hkl : ¬ ((L.length : Nat) : Int) < (L.length : Int) := by omega
      have HF2 : Hid (labF L 0 [] = some P) := by have := HF.out; rw [List.drop_length] at this; exact this.symm
      have HAT : Hid (Calls Tryd.prog 14 #[.map (some w.heap.size), .slice av L.length cap] wr fun e w' => e = .returned (.bool (thereS P L)) ∧ Below wr.heap.size wr w') :=
        areThere_any wr w.heap.size P _ L HP.out (HI.out.under HB.out) HSZ.out
      have HLS : Hid (labS L = if thereS P L = true then some P else none) := by show _ = _; unfold labS; rw [HF2.out]
      obtain ⟨q, hq⟩ : ∃ q, q = thereS P L := ⟨_, rfl⟩
      rw [← hq] at HAT HLS
      clear HF hk hq
      go_wp2_with fail
      refine HAT.out.mono ?_
      rintro e w1 ⟨rfl, hb1⟩
      have HB1 : Hid (Below w.heap.size w w1) := HB.out.trans (hb1.mono HB.out.size)
      have HP1 : Hid (Pm w1 w.heap.size P) := HP.out.under hb1
      clear hb1
      cases q
      · go_wp2_with fail
        go_ret2
        exact .inl ⟨by rw [HLS.out]; rfl, rfl, HB1.out⟩
      · go_wp2_with fail
        go_ret2
        exact .inr ⟨P, w.heap.size, by rw [HLS.out]; rfl, rfl, HP1.out, Nat.le_refl _, HB1.out⟩
    | succ gko =>
      have hkl : (k : Int) < (L.length : Int) := by omega
      obtain ⟨b, off, p, m, c, rfl, hlt, ⟨c0, c1⟩, hg⟩ := (HI.out).at k (by omega)
      have HG : Hid (GsQ w (PlainA w) (.slice p m c) L[k].K) := hg
      have hlr : b < wr.heap.size := Nat.lt_of_lt_of_le hlt HB.out.size
      have d0 : wr.cell? ⟨b, off + k * 2, none⟩ = some (.int .i64 L[k].op) := by rw [HB.out.cell (p := ⟨b, off + k * 2, none⟩) hlt]; exact c0
      have d1 : wr.cell? ⟨b, off + k * 2 + 1, none⟩ = some (.slice p m c) := by rw [HB.out.cell (p := ⟨b, off + k * 2 + 1, none⟩) hlt]; exact c1
      have HDR : Hid (L.drop k = L[k] :: L.drop (k + 1)) := List.drop_eq_getElem_cons (by omega)
      have HKK : Hid (k + (gko + 1) = L.length) := hk
      obtain ⟨I, hI⟩ : ∃ I, L[k] = I := ⟨_, rfl⟩
      rw [hI] at d0 HG HDR
      clear hI hg c0 c1 hk
      obtain ⟨op, K⟩ := I
      dsimp only at d0 HG
      have HFS : Hid (labF (⟨op, K⟩ :: L.drop (k + 1)) k P = labF L 0 []) := by have := HF.out; rwa [HDR.out] at this
      by_cases ho : op = 1
      · subst ho
        have HNB : Hid (Below wr.heap.size wr (wr.alloc (.cells #[.int .i64 1, .slice p m c] 27))) := (Below.refl _ _).alloc (Nat.le_refl _) _
        have HNL : Hid (Calls Tryd.prog 13 #[.agg #[.int .i64 1, .slice p m c]] (wr.alloc (.cells #[.int .i64 1, .slice p m c] 27)) fun e w' => e = .returned (.int .i64 (numL ⟨1, K⟩)) ∧ Below (wr.alloc (.cells #[.int .i64 1, .slice p m c] 27)).heap.size (wr.alloc (.cells #[.int .i64 1, .slice p m c] 27)) w') :=
          labelNumber_any 1 _ K _ ((HG.out.gs.under HB.out).under HNB.out)
        have hnb := numL_bd (op := 1) HG.out
        have HFT : Hid (labF (⟨1, K⟩ :: L.drop (k + 1)) k P = if hasP P (numL ⟨1, K⟩) = true ∨ numL ⟨1, K⟩ < 1 ∨ 200 < numL ⟨1, K⟩ then none else labF (L.drop (k + 1)) (k + 1) (P ++ [(numL ⟨1, K⟩, k)])) := rfl
        obtain ⟨n, hn⟩ : ∃ n, n = numL ⟨1, K⟩ := ⟨_, rfl⟩
        rw [← hn] at HNL HFT hnb
        clear hn
        have hkey : keyOf Tryd.prog 3 (.int .i64 n) = some (.int .i64 n) := keyOf_int_mk Tryd.underlying3 (by simp [Lit.wf, IntKind.min, IntKind.max, IntKind.signed, IntKind.bits]; omega)
        obtain ⟨D, hown, hD, hA, hS⟩ := HP.out
        have HD : Hid (∀ n, Maps.has D (.int .i64 n) = hasP P n) := hD
        have HA : Hid (∀ n k, (n, k) ∈ P → D.atKey (.int .i64 n) (.lit (.int .i64 0)) = .lit (.int .i64 (k : Int))) := hA
        have HZ : Hid (Maps.size D = P.length) := hS
        have HTD : Hid (Tidy D) := hown.tidy lawI
        have HOW : Hid (∀ W, Below wr.heap.size wr W → W.ownsMap Tryd.prog 3 (plainElem Tryd.prog 3) w.heap.size P.length D) := fun W hW => by
          have hlt := hown.lt
          obtain ⟨es, clock, hh, hrest⟩ := hown
          exact ⟨es, clock, by rw [hW.block _ hlt]; exact hh, hrest⟩
        have hhas := hD n
        have hPl : P.length ≤ 1000000000 := by have := HPL.out; omega
        obtain ⟨hq, hhq⟩ : ∃ hq, hq = hasP P n := ⟨_, rfl⟩
        rw [← hhq] at hhas HFT
        have HHQ : Hid (hq = hasP P n) := hhq
        clear hD hA hS hown hhq HF
        go_wp2_with fail
        refine HNL.out.mono ?_
        rintro e w1 ⟨rfl, hb1⟩
        have HB1 : Hid (Below wr.heap.size wr w1) := HNB.out.trans (hb1.mono HNB.out.size)
        have HOW1 : Hid (w1.ownsMap Tryd.prog 3 (plainElem Tryd.prog 3) w.heap.size P.length D) := HOW.out w1 HB1.out
        have HBW : Hid (Below w.heap.size w w1) := HB.out.trans (HB1.out.mono HB.out.size)
        clear hb1 HNL d0 d1
        rcases (show hq = true ∨ (hq = false ∧ n < 1) ∨ (hq = false ∧ ¬ n < 1 ∧ 200 < n) ∨ (hq = false ∧ ¬ n < 1 ∧ ¬ 200 < n) by cases hq <;> simp <;> omega) with h1 | ⟨h1, h2⟩ | ⟨h1, h2, h3⟩ | ⟨h1, h2, h3⟩
        · subst h1
          have HNO : Hid (labS L = none) := by show _ = _; unfold labS; rw [← HFS.out, HFT.out, if_pos (by simp)]
          go_wp2_with (first | (at_lookup; refine wpList_lookup_own_ok_int _ rfl _ _ 32 rfl 3 3 .i64 lawI Tryd.underlying32 Tryd.underlying3 (zeroI _) w.heap.size P.length D rfl HOW1.out _ _ rfl hkey ?_; intro cc hcc hwc; rw [hhas]; clear hcc hwc) | fail)
          go_ret2
          exact .inl ⟨HNO.out, rfl, HBW.out⟩
        · subst h1
          have HNO : Hid (labS L = none) := by show _ = _; unfold labS; rw [← HFS.out, HFT.out, if_pos (.inr (.inl h2))]
          go_wp2_with (first | (at_lookup; refine wpList_lookup_own_ok_int _ rfl _ _ 32 rfl 3 3 .i64 lawI Tryd.underlying32 Tryd.underlying3 (zeroI _) w.heap.size P.length D rfl HOW1.out _ _ rfl hkey ?_; intro cc hcc hwc; rw [hhas]; clear hcc hwc) | fail)
          go_ret2
          exact .inl ⟨HNO.out, rfl, HBW.out⟩
        · subst h1
          have HNO : Hid (labS L = none) := by show _ = _; unfold labS; rw [← HFS.out, HFT.out, if_pos (.inr (.inr h3))]
          go_wp2_with (first | (at_lookup; refine wpList_lookup_own_ok_int _ rfl _ _ 32 rfl 3 3 .i64 lawI Tryd.underlying32 Tryd.underlying3 (zeroI _) w.heap.size P.length D rfl HOW1.out _ _ rfl hkey ?_; intro cc hcc hwc; rw [hhas]; clear hcc hwc) | fail)
          go_ret2
          exact .inl ⟨HNO.out, rfl, HBW.out⟩
        · subst h1
          have HGO : Hid (labF (L.drop (k + 1)) (k + 1) (P ++ [(n, k)]) = labF L 0 []) := by show _ = _; rw [← HFS.out, HFT.out, if_neg (by simp; omega)]
          have hkb : (k : Int) ≤ 1000000000 := by omega
          go_wp2_with (first
            | (at_lookup; refine wpList_lookup_own_ok_int _ rfl _ _ 32 rfl 3 3 .i64 lawI Tryd.underlying32 Tryd.underlying3 (zeroI _) w.heap.size P.length D rfl HOW1.out _ _ rfl hkey ?_; intro cc hcc hwc; rw [hhas]; clear hcc hwc)
            | (at_mapUpdate; go_loud (refine wpList_mapUpdate_own _ rfl _ _ _ 32 rfl 3 3 lawI Tryd.underlying32 (plainElem (H := Unit) Tryd.prog 3) w.heap.size P.length D rfl HOW1.out (by unfold maxLen; omega) _ _ _ rfl rfl hkey (.lit (.int .i64 (k : Int))) [] (plainElem_int Tryd.underlying3 (by simp [Lit.wf, IntKind.min, IntKind.max, IntKind.signed, IntKind.bits]; omega)) ?_; intro w2 hown2 hgrow2))
            | fail)
          have HP2 : Hid (Pm w2 w.heap.size (P ++ [(n, k)])) := Pm.put HTD.out HD.out HA.out HZ.out HHQ.out.symm hown2
          have HB2 : Hid (Below w.heap.size w w2) := HBW.out.grown hgrow2 HBW.out.size (fun j hj => by injection hj with hj; omega)
          go_roundg gko
          case measure => omega
          case rel => exact ⟨k + 1, P ++ [(n, k)], by have := HKK.out; omega, by go_num, HGO.out, HP2.out, by have := HPL.out; show _ ≤ _; simp; omega, HB2.out⟩
      · have hob : (op != 1) = true := by simp [ho]
        have HGO : Hid (labF (L.drop (k + 1)) (k + 1) P = labF L 0 []) := by
          have h1 := HFS.out
          show _ = _
          rw [← h1]
          show _ = (if op = 1 then _ else _)
          rw [if_neg ho]
        have HP2 : Hid (Pm (wr.alloc (.cells #[.int .i64 op, .slice p m c] 27)) w.heap.size P) := HP.out.under ((Below.refl _ _).alloc (Nat.le_refl _) _)
        have HB2 : Hid (Below w.heap.size w (wr.alloc (.cells #[.int .i64 op, .slice p m c] 27))) := HB.out.alloc HB.out.size _
        clear HF HFS HP HB
        go_wp2_with fail
        go_roundg gko
        case measure => omega
        case rel => exact ⟨k + 1, P, by have := HKK.out; omega, by go_num, HGO.out, HP2.out, by have := HPL.out; show _ ≤ _; omega, HB2.out⟩
end Go.Proofs.YtfjibcldghnjcaaDoor


/-
  relictlaw00.Op and S in plain memory; a row of instructions of the call's own, in plain memory (CqSt).
-/
namespace Go.Proofs.YtfjibcldghnjcaaDoor
open Go.RowKit
set_option linter.unusedVariables false
set_option linter.unusedSimpArgs false

/-- An instruction, a list, answered: its operands' rows are plain. -/
def MkQ (op : Int) (K : List Ag) (w : World) (e : Ending) (w' : World) : Prop := ∃ p c, e = .returned (.agg #[.int .i64 op, .slice p K.length c]) ∧ GsQ w' (PlainA w') (.slice p K.length c) K ∧ Below w.heap.size w w'
def MkL (K : List Ag) (w : World) (e : Ending) (w' : World) : Prop := ∃ p c, e = .returned (.agg #[.int .i64 7, .int .i64 0, .slice p K.length c]) ∧ K.length ≤ c ∧ (c : Int) ≤ 9223372036854775807 ∧ GsQ w' (PlainA w') (.slice p K.length c) K ∧ Below w.heap.size w w'
theorem gsQ_nil (w : World) (Q : Nat → Prop) (p : Option Addr) (c : Nat) (h : Gs w (.slice p 0 c) []) : GsQ w Q (.slice p 0 c) [] := by
  obtain ⟨p', c', L, he, hl, hr, -⟩ := h
  injection he with e1 e2 e3
  subst e1; subst e3
  exact ⟨p, c, L, rfl, hl, hr, fun h => absurd h (by simp), fun i h => absurd h (by simp)⟩
theorem OpQ_nil (op : Int) (w : World) : Calls Tryd.prog 5 #[.int .i64 op, .slice none 0 0] w (MkQ op [] w) :=
  (Op_nil op w).mono fun e w' h => by
    obtain ⟨p, c, rfl, hg, hb⟩ := h
    exact ⟨p, c, rfl, gsQ_nil _ _ _ _ hg, hb⟩
theorem row_plain {w : World} {base m : Nat} {p : Option Addr} {c : Nat} {L : List El} (h : w.ownsRow base 30 3 (.slice p m c) m (cl3 L)) : ∀ x, p = some x → PlainA w x.block := by
  intro x hx
  subst hx
  obtain ⟨-, ⟨he, -⟩ | ⟨g, cap, cur, he, -, hg, -⟩⟩ := h
  · cases he
  · injection he with e1 _ _
    injection e1 with e1
    rw [e1]
    exact ⟨cur, hg⟩

set_option maxRecDepth 100000 in
set_option maxHeartbeats 2000000 in
theorem OpQ_any (op : Int) (K : List Ag) (x : Addr) (cap : Nat) (w : World) (h : GsQ w (PlainA w) (.slice (some x) K.length cap) K) (hk : K.length ≤ 1000000) : Calls Tryd.prog 5 #[.int .i64 op, .slice (some x) K.length cap] w (MkQ op K w) := by
  obtain ⟨i0, hi, hz0, hz1, hz2⟩ := info_parts Tryd.infoArg
  obtain ⟨p', cap', L, he, hl, hr, hpp, hkid⟩ := h
  injection he with e1 e2 e3
  subst e1; subst e3
  have hb := box_below w #[.int .i64 0, .slice none 0 0] 27
  have hr1 := hr.under hb
  have hnews := hr1.news
  have hfit : ∀ y ∈ L, El.fit y := by obtain ⟨_, _, _, _, _, _, hf, _⟩ := hr; exact hf
  obtain ⟨m, hm⟩ : ∃ m, m = K.length := ⟨_, rfl⟩
  have HHM : Hid (m = K.length) := hm
  have HKD : Hid (∀ (i : Nat) (h : i < K.length) (h' : i < L.length), IsGQ w (PlainA w) K[i] (L[i]).v) := hkid
  have HBB : Hid (Below w.heap.size w (w.alloc (.cells #[.int .i64 0, .slice none 0 0] 27))) := hb
  have HFT : Hid (∀ y ∈ L, El.fit y) := hfit
  have HXI : Hid (BxI (w.alloc (.cells #[.int .i64 0, .slice none 0 0] 27)) w.heap.size 0 (.slice none 0 0)) := BxI.new _ _ _
  rw [← hm] at hl hk ⊢
  clear hkid hr hr1 hfit hb hm e2 hpp
  go_enter Tryd.func5, Tryd.ntmps5
  go_wp2_with (first | (at_builtin; refine wpList_append_own _ rfl _ _ 25 rfl (w.heap.size + 1) 30 i0 (.agg #[.int .i64 0, .int .i64 0, .slice none 0 0]) 3 40 Tryd.underlying25 hi hz0 hz1 hz2 rfl (by decide) (.slice none 0 0) 0 [] rfl (World.ownsRow_nil _ _ _ _) x m cap (cl3 L) rfl (by rw [cl3_len, hl]) hnews (cl3_one L) (by simp only [maxLen]; omega) (by omega) (by simp) ?_; intro v' w1 hown1 hgr1 _; simp only [Nat.zero_add, List.nil_append] at hown1; obtain ⟨p5, c5, rfl, hc5, hc6⟩ := own_shape hown1; obtain ⟨f0, f1, f2, f3⟩ := (HXI.out.under (below_new hgr1)).stor; have HO : Hid (w1.ownsRow (w.heap.size + 1) 30 3 (.slice p5 m c5) m (cl3 L)) := hown1; have HBN : Hid (Below w.heap.size w w1) := HBB.out.trans ((below_new hgr1).mono HBB.out.size); have HXN : Hid (BxI w1 w.heap.size 0 (.slice none 0 0)) := HXI.out.under (below_new hgr1); clear hown1 hgr1) | fail)
  refine bodyPost_ret (results_ins rfl _ _ w.heap.size op (.slice p5 m c5) rfl (HXN.out.set op _)) rfl ?_
  have ho : (setBxI w1 w.heap.size op (.slice p5 m c5)).ownsRow (w.heap.size + 1) 30 3 (.slice p5 m c5) m (cl3 L) := own_same HO.out (fun b hb _ => setI_block _ _ _ _ _ (by omega))
  have hbf : Below w.heap.size w (setBxI w1 w.heap.size op (.slice p5 m c5)) := setI_below HBN.out (Nat.le_refl _) _ _
  have hrp := row_plain ho
  rw [← hl] at ho
  have hr := AOwn.rw3 ho HFT.out
  unfold MkQ
  rw [← HHM.out]
  refine ⟨p5, c5, rfl, ⟨p5, c5, L, ?_, ?_, ?_, fun _ => hrp, fun i h1 h2 => (HKD.out i h1 h2).move hbf.size (fun b hb hlt => hbf.block b hlt) (fun b hb hlt => hb.same (hbf.block b hlt))⟩, hbf⟩
  · rw [← HHM.out]
  · rw [hl]; exact HHM.out
  · rw [← hl]; exact hr

set_option maxRecDepth 100000 in
set_option maxHeartbeats 2000000 in
theorem SQ_any (K : List Ag) (x : Addr) (cap : Nat) (w : World) (h : GsQ w (PlainA w) (.slice (some x) K.length cap) K) (hk : K.length ≤ 1000000) : Calls Tryd.prog 11 #[.slice (some x) K.length cap] w (MkL K w) := by
  obtain ⟨i0, hi, hz0, hz1, hz2⟩ := info_parts Tryd.infoArg
  obtain ⟨p', cap', L, he, hl, hr, hpp, hkid⟩ := h
  injection he with e1 e2 e3
  subst e1; subst e3
  have hb := box_below w #[.int .i64 0, .int .i64 0, .slice none 0 0] 30
  have hr1 := hr.under hb
  have hnews := hr1.news
  have hfit : ∀ y ∈ L, El.fit y := by obtain ⟨_, _, _, _, _, _, hf, _⟩ := hr; exact hf
  obtain ⟨m, hm⟩ : ∃ m, m = K.length := ⟨_, rfl⟩
  have HHM : Hid (m = K.length) := hm
  have HKD : Hid (∀ (i : Nat) (h : i < K.length) (h' : i < L.length), IsGQ w (PlainA w) K[i] (L[i]).v) := hkid
  have HBB : Hid (Below w.heap.size w (w.alloc (.cells #[.int .i64 0, .int .i64 0, .slice none 0 0] 30))) := hb
  have HFT : Hid (∀ y ∈ L, El.fit y) := hfit
  have HXI : Hid (BxA (w.alloc (.cells #[.int .i64 0, .int .i64 0, .slice none 0 0] 30)) w.heap.size 0 0 (.slice none 0 0)) := BxA.new _ _ _ _
  rw [← hm] at hl hk ⊢
  clear hkid hr hr1 hfit hb hm e2 hpp
  go_enter Tryd.func11, Tryd.ntmps11
  go_wp2_with (first | (at_builtin; refine wpList_append_own _ rfl _ _ 25 rfl (w.heap.size + 1) 30 i0 (.agg #[.int .i64 0, .int .i64 0, .slice none 0 0]) 3 40 Tryd.underlying25 hi hz0 hz1 hz2 rfl (by decide) (.slice none 0 0) 0 [] rfl (World.ownsRow_nil _ _ _ _) x m cap (cl3 L) rfl (by rw [cl3_len, hl]) hnews (cl3_one L) (by simp only [maxLen]; omega) (by omega) (by simp) ?_; intro v' w1 hown1 hgr1 _; simp only [Nat.zero_add, List.nil_append] at hown1; obtain ⟨p5, c5, rfl, hc5, hc6⟩ := own_shape hown1; obtain ⟨f0, f1, f2, f3, f4, f5⟩ := (HXI.out.under (below_new hgr1)).facts; have HO : Hid (w1.ownsRow (w.heap.size + 1) 30 3 (.slice p5 m c5) m (cl3 L)) := hown1; have HBN : Hid (Below w.heap.size w w1) := HBB.out.trans ((below_new hgr1).mono HBB.out.size); have HXN : Hid (BxA w1 w.heap.size 0 0 (.slice none 0 0)) := HXI.out.under (below_new hgr1); have HC5 : Hid (m ≤ c5 ∧ (c5 : Int) ≤ 9223372036854775807) := ⟨hc5, hc6⟩; clear hown1 hgr1) | fail)
  have hbx : BxA (((w1.setCell ⟨w.heap.size, 0, none⟩ (.int .i64 7)).setCell ⟨w.heap.size, 1, none⟩ (.int .i64 0)).setCell ⟨w.heap.size, 2, none⟩ (.slice p5 m c5)) w.heap.size 7 0 (.slice p5 m c5) := by
    have := HXN.out
    unfold BxA at this ⊢
    simp [World.setCell, Array.getElem?_modify, this]
  refine bodyPost_ret (results_arg rfl _ _ w.heap.size 7 0 (.slice p5 m c5) rfl hbx) rfl ?_
  have hbk : ∀ b, b ≠ w.heap.size → (((w1.setCell ⟨w.heap.size, 0, none⟩ (.int .i64 7)).setCell ⟨w.heap.size, 1, none⟩ (.int .i64 0)).setCell ⟨w.heap.size, 2, none⟩ (.slice p5 m c5)).heap[b]? = w1.heap[b]? := fun b hb => by
    simp only [World.setCell, Array.getElem?_modify]
    rw [if_neg (fun e => hb e.symm), if_neg (fun e => hb e.symm), if_neg (fun e => hb e.symm)]
  have ho : (((w1.setCell ⟨w.heap.size, 0, none⟩ (.int .i64 7)).setCell ⟨w.heap.size, 1, none⟩ (.int .i64 0)).setCell ⟨w.heap.size, 2, none⟩ (.slice p5 m c5)).ownsRow (w.heap.size + 1) 30 3 (.slice p5 m c5) m (cl3 L) := own_same HO.out (fun b hb _ => hbk b (by omega))
  have hbf : Below w.heap.size w (((w1.setCell ⟨w.heap.size, 0, none⟩ (.int .i64 7)).setCell ⟨w.heap.size, 1, none⟩ (.int .i64 0)).setCell ⟨w.heap.size, 2, none⟩ (.slice p5 m c5)) := ((HBN.out.setCell (by exact Nat.le_refl _) _).setCell (by exact Nat.le_refl _) _).setCell (by exact Nat.le_refl _) _
  have hrp := row_plain ho
  rw [← hl] at ho
  have hr := AOwn.rw3 ho HFT.out
  unfold MkL
  rw [← HHM.out]
  refine ⟨p5, c5, rfl, HC5.out.1, HC5.out.2, ⟨p5, c5, L, ?_, ?_, ?_, fun _ => hrp, fun i h1 h2 => (HKD.out i h1 h2).move hbf.size (fun b hb hlt => hbf.block b hlt) (fun b hb hlt => hb.same (hbf.block b hlt))⟩, hbf⟩
  · rw [← HHM.out]
  · rw [hl]; exact HHM.out
  · rw [← hl]; exact hr

/-- Operands in new memory, as a slice. -/
theorem gsQ_lits (w : World) (X : List El) (K : List Ag) (hl : X.length = K.length) (hX : ∀ i (h : i < K.length) (h' : i < X.length), El.fit X[i] ∧ IsGQ w (PlainA w) K[i] X[i].v) (hm : X.length ≤ 1000000) :
    GsQ (w.alloc (.cells (cl3 X).toArray 30)) (PlainA (w.alloc (.cells (cl3 X).toArray 30))) (.slice (some ⟨w.heap.size, 0, none⟩) X.length X.length) K := by
  have hb := box_below w (cl3 X).toArray 30
  have ho : AOwn (w.alloc (.cells (cl3 X).toArray 30)) 0 (.slice (some ⟨w.heap.size, 0, none⟩) X.length X.length) X := by
    refine ⟨cl3_len _, .inr ⟨w.heap.size, X.length, _, rfl, Nat.zero_le _, heap_alloc_new w _, Nat.le_refl _, ?_, ?_, ?_⟩⟩
    · simp only [maxLen]; omega
    · simp [cl3_len]
    · simp only [List.toList_toArray]; rw [List.take_of_length_le (by rw [cl3_len]; exact Nat.le_refl _)]
  have hr := ho.rw3 (fun x hx => by
    obtain ⟨i, hi, rfl⟩ := List.mem_iff_getElem.1 hx
    exact (hX i (by omega) hi).1)
  refine ⟨some ⟨w.heap.size, 0, none⟩, X.length, X, by rw [hl], hl, hr, fun _ x hx => ?_, fun i h1 h2 => ?_⟩
  · injection hx with hx
    rw [← hx]
    exact ⟨_, heap_alloc_new w _⟩
  · exact (hX i h1 h2).2.move hb.size (fun b _ hlt => hb.block b hlt) (fun b hb' hlt => hb'.same (hb.block b hlt))
theorem isGQ_single (w : World) (Q : Nat → Prop) (p : Int × Int) (hf : El.fit (elS p)) : IsGQ w Q (agS p) (elS p).v :=
  (isGQ_mk ..).2 ⟨none, 0, [], rfl, hf, rfl, Rw3.nil w, fun h => absurd h (by simp), fun i h => absurd h (by simp)⟩
theorem isGQ_list {w : World} {K : List Ag} {p : Option Addr} {c : Nat} (h : GsQ w (PlainA w) (.slice p K.length c) K) (hc : K.length ≤ c) (hc2 : (c : Int) ≤ 9223372036854775807) : El.fit ⟨7, 0, p, K.length, c⟩ ∧ IsGQ w (PlainA w) ⟨7, 0, K⟩ (El.v ⟨7, 0, p, K.length, c⟩) := by
  have hf : El.fit ⟨7, 0, p, K.length, c⟩ := ⟨show (-9223372036854775808 : Int) ≤ 7 by decide, show (7 : Int) ≤ 9223372036854775807 by decide, show (-9223372036854775808 : Int) ≤ 0 by decide, show (0 : Int) ≤ 9223372036854775807 by decide, hc, hc2⟩
  obtain ⟨p', c', L, he, hl, hr, hp, hk⟩ := h
  injection he with e1 e2 e3
  subst e1; subst e3
  exact ⟨hf, (isGQ_mk ..).2 ⟨p, c, L, rfl, hf, hl, hr, hp, hk⟩⟩

/-- Instructions that are being made, in plain memory. -/
def CqSt (w : World) (base : Nat) (v : Value) (L : List In) : Prop :=
  ∃ E : List Ei, IOwn w base v E ∧ E.length = L.length ∧ ∀ i (h : i < L.length) (h' : i < E.length), E[i].op = L[i].op ∧ GsQ w (PlainA w) E[i].sl L[i].K
theorem CqSt.nil (w : World) (base : Nat) : CqSt w base (.slice none 0 0) [] := ⟨[], IOwn.nil _ _, rfl, fun i h => absurd h (by simp)⟩
theorem CqSt.under {w w' : World} {base : Nat} {v : Value} {L : List In} (h : CqSt w base v L) (hb : Below w.heap.size w w') : CqSt w' base v L := by
  obtain ⟨E, h1, h2, h3⟩ := h
  exact ⟨E, own_same h1 (fun b _ hlt => hb.block b hlt), h2, fun i a b => ⟨(h3 i a b).1, (h3 i a b).2.plainB hb⟩⟩
theorem CqSt.shape {w : World} {base : Nat} {v : Value} {L : List In} (h : CqSt w base v L) : ∃ p c, v = .slice p L.length c ∧ L.length ≤ c ∧ (c : Int) ≤ 9223372036854775807 := by
  obtain ⟨E, h1, h2, h3⟩ := h
  obtain ⟨p, c, rfl, hc1, hc2⟩ := own_shape h1
  exact ⟨p, c, by rw [h2], by omega, hc2⟩
theorem CqSt.is {w : World} {base : Nat} {v : Value} {L : List In} (h : CqSt w base v L) : IsP w v L := by
  obtain ⟨E, h1, h2, h3⟩ := h
  obtain ⟨hl, ⟨rfl, hn⟩ | ⟨g, cap, cur, rfl, hbg, hg, hn, hcap, hsz, ht⟩⟩ := h1
  · have : L = [] := List.eq_nil_of_length_eq_zero (by omega)
    subst this
    exact ⟨none, 0, [], rfl, rfl, Nat.le_refl _, by decide, fun _ => rfl, fun h => absurd h (by simp), fun i h => absurd h (by simp)⟩
  · refine ⟨some ⟨g, 0, none⟩, cap, E, by rw [h2], h2, by omega, by simp only [maxLen] at hcap; omega, fun e => (by cases e), fun h0 => ⟨g, 0, rfl, (Array.getElem?_eq_some_iff.1 hg).1, fun i hi => ?_⟩, fun i a b => h3 i a b⟩
    obtain ⟨g0, g1⟩ := cl2_get E i hi
    have key : ∀ j u, (cl2 E)[j]? = some u → w.cell? ⟨g, 0 + j, none⟩ = some u := by
      intro j u hu
      have hj := (List.getElem?_eq_some_iff.1 hu).1
      rw [cl2_len] at hj
      rw [← ht] at hu
      rw [List.getElem?_take_of_lt (by omega)] at hu
      rw [Nat.zero_add]
      unfold World.cell?
      simp only [hg]
      simpa using hu
    exact ⟨key _ _ g0, by have := key _ _ g1; rw [Nat.add_assoc]; exact this⟩
theorem plain_ne_row {w : World} {base b n : Nat} {v : Value} {xs : List Value} (h : w.ownsRow base 27 2 v n xs) (hb : PlainA w b) : v.ownBlock ≠ some b := by
  obtain ⟨cs, hb⟩ := hb
  obtain ⟨-, ⟨rfl, -⟩ | ⟨g, cap, cur, rfl, -, hg, -⟩⟩ := h
  · simp [Value.ownBlock]
  · intro e
    simp [Value.ownBlock] at e
    subst e
    rw [hg] at hb
    injection hb with hb
    injection hb with _ e2 _
    exact absurd e2 (by decide)
theorem cl2_one (L : List Ei) : ∀ u ∈ cl2 L, u.oneCell' = true := by
  induction L with
  | nil => intro u h; simp [cl2] at h
  | cons x t ih =>
    intro u h
    simp only [cl2, List.mem_cons] at h
    rcases h with rfl | rfl | h
    · rfl
    · rfl
    · exact ih u h
/-- Instructions put behind the row, by append. -/
theorem cq_push {w w5 : World} {base : Nat} {v v5 : Value} {L I : List In} {X : List Ei} (h : CqSt w base v L) (hl : X.length = I.length) (hX : ∀ i (h : i < I.length) (h' : i < X.length), X[i].op = I[i].op ∧ GsQ w (PlainA w) X[i].sl I[i].K) {n : Nat} (hn : n = L.length)
    (hown : ∀ E : List Ei, IOwn w base v E → E.length = L.length → w5.ownsRow base 27 2 v5 (n + X.length) (cl2 E ++ cl2 X)) (hgr : w.grownBy w5 v.ownBlock) : CqSt w5 base v5 (L ++ I) := by
  obtain ⟨E, h1, h2, h3⟩ := h
  have hrow : ∀ b, PlainA w b → w5.heap[b]? = w.heap[b]? := fun b hb => hgr.block b hb.lt (fun e => plain_ne_row h1 hb e.symm)
  refine ⟨E ++ X, ?_, by simp [h2, hl], fun i a b => ?_⟩
  · unfold IOwn
    rw [cl2_app, List.length_append, h2, ← hn]
    exact hown E h1 h2
  · by_cases hi : i < E.length
    · rw [List.getElem_append_left hi, List.getElem_append_left (by omega)]
      obtain ⟨e1, e2⟩ := h3 i (by omega) hi
      exact ⟨e1, e2.plain hgr.size hrow⟩
    · rw [List.getElem_append_right (by omega), List.getElem_append_right (by omega)]
      simp only [h2]
      have hb : i - L.length < X.length := by simp at b; omega
      obtain ⟨e1, e2⟩ := hX (i - L.length) (by omega) hb
      exact ⟨e1, e2.plain hgr.size hrow⟩
/-- The first instruction, put in place of another one. -/
theorem cq_first {w : World} {base : Nat} {v : Value} {L : List In} {i : In} {x : Ei} (h : CqSt w base v L) (h0 : 0 < L.length) (ho : x.op = i.op) (hx : GsQ w (PlainA w) x.sl i.K) :
    ∃ g c, v = .slice (some ⟨g, 0, none⟩) L.length c ∧ base ≤ g ∧ g < w.heap.size ∧ (∃ u0 u1, w.cell? ⟨g, 0, none⟩ = some u0 ∧ w.cell? ⟨g, 1, none⟩ = some u1) ∧ w.frozen? ⟨g, 0, none⟩ = false ∧ w.frozen? ⟨g, 1, none⟩ = false ∧ CqSt ((w.setCell ⟨g, 0, none⟩ (.int .i64 x.op)).setCell ⟨g, 1, none⟩ x.sl) base v (L.set 0 i) := by
  obtain ⟨E, h1, h2, h3⟩ := h
  have h1' := h1
  obtain ⟨hl, ⟨rfl, hn⟩ | ⟨g, cap, cur, rfl, hbg, hg, hn, hcap, hsz, ht⟩⟩ := h1
  · omega
  · have hc : 2 ≤ cur.size := by omega
    cases E with
    | nil => simp at h2; omega
    | cons e0 E =>
    have hkeep : ∀ b, b ≠ g → ((w.setCell ⟨g, 0, none⟩ (.int .i64 x.op)).setCell ⟨g, 1, none⟩ x.sl).heap[b]? = w.heap[b]? := fun b hb => by
      simp only [World.setCell, Array.getElem?_modify]
      rw [if_neg (fun e => hb e.symm), if_neg (fun e => hb e.symm)]
    have hrow : ∀ b, PlainA w b → ((w.setCell ⟨g, 0, none⟩ (.int .i64 x.op)).setCell ⟨g, 1, none⟩ x.sl).heap[b]? = w.heap[b]? := fun b hb => hkeep b (fun e => plain_ne_row h1' hb (by rw [e]; rfl))
    refine ⟨g, cap, by rw [h2], hbg, (Array.getElem?_eq_some_iff.1 hg).1, ⟨cur[0], cur[1], by simp [World.cell?, hg], by simp [World.cell?, hg]⟩, by simp [World.frozen?, hg], by simp [World.frozen?, hg], x :: E, ?_, by simpa using h2, fun k a b => ?_⟩
    · refine ⟨cl2_len _, .inr ⟨g, cap, (cur.set! 0 (.int .i64 x.op)).set! 1 x.sl, rfl, hbg, ?_, hn, hcap, by simpa using hsz, ?_⟩⟩
      · simp [World.setCell, Array.getElem?_modify, hg, Array.set!_eq_setIfInBounds]
      · have e := ht
        simp only [cl2, List.length_cons] at e ⊢
        rw [Array.set!_eq_setIfInBounds, Array.set!_eq_setIfInBounds, Array.toList_setIfInBounds, Array.toList_setIfInBounds, List.take_set, List.take_set, e]
        simp
    · cases k with
      | zero =>
        simp only [List.getElem_cons_zero, List.getElem_set_self]
        exact ⟨ho, hx.plain (by simp [World.setCell]) hrow⟩
      | succ k =>
        have hk1 : k + 1 < L.length := by simpa using a
        obtain ⟨e1, e2⟩ := h3 (k + 1) hk1 (by simpa using b)
        rw [List.getElem_set_ne (by omega)]
        simp only [List.getElem_cons_succ] at e1 e2 ⊢
        exact ⟨e1, e2.plain (by simp [World.setCell]) hrow⟩
end Go.Proofs.YtfjibcldghnjcaaDoor


/-
  code.Labels, plain: what comes of instructions put behind others; of a label twice, of one that may not be.
-/
namespace Go.Proofs.YtfjibcldghnjcaaDoor
open Go.RowKit
set_option linter.unusedVariables false
set_option linter.unusedSimpArgs false

theorem labF_cons (i : In) (L : List In) (k : Nat) (P : List (Int × Nat)) : labF (i :: L) k P = if i.op = 1 then (if hasP P (numL i) = true ∨ numL i < 1 ∨ 200 < numL i then none else labF L (k + 1) (P ++ [(numL i, k)])) else labF L (k + 1) P := rfl
theorem labF_app : ∀ (A B : List In) (k : Nat) (P : List (Int × Nat)), labF (A ++ B) k P = (labF A k P).bind fun Q => labF B (k + A.length) Q
  | [], B, k, P => rfl
  | i :: A, B, k, P => by
    rw [List.cons_append, labF_cons, labF_cons]
    split
    · split
      · rfl
      · rw [labF_app A B (k + 1)]
        simp only [List.length_cons]
        rw [show k + 1 + A.length = k + (A.length + 1) by omega]
    · rw [labF_app A B (k + 1)]
      simp only [List.length_cons]
      rw [show k + 1 + A.length = k + (A.length + 1) by omega]
/-- What is told is so. -/
theorem labF_spec : ∀ (L : List In) (k : Nat) (P Q : List (Int × Nat)), labF L k P = some Q → ∀ n j, (n, j) ∈ Q → (n, j) ∈ P ∨ (k ≤ j ∧ ∃ h : j - k < L.length, L[j - k].op = 1 ∧ numL L[j - k] = n ∧ 1 ≤ n)
  | [], k, P, Q, h, n, j, hm => by
    injection h with h
    subst h
    exact .inl hm
  | i :: L, k, P, Q, h, n, j, hm => by
    rw [labF_cons] at h
    have up : (k + 1 ≤ j ∧ ∃ h : j - (k + 1) < L.length, L[j - (k + 1)].op = 1 ∧ numL L[j - (k + 1)] = n ∧ 1 ≤ n) → (k ≤ j ∧ ∃ h : j - k < (i :: L).length, (i :: L)[j - k].op = 1 ∧ numL (i :: L)[j - k] = n ∧ 1 ≤ n) := by
      rintro ⟨h1, h2, h3⟩
      refine ⟨by omega, by simp only [List.length_cons]; omega, ?_⟩
      have e : j - k = (j - (k + 1)) + 1 := by omega
      simp only [e, List.getElem_cons_succ]
      exact h3
    split at h
    · rename_i h1
      split at h
      · cases h
      · rename_i h2
        rcases labF_spec L (k + 1) _ Q h n j hm with h3 | h3
        · rcases List.mem_append.1 h3 with h3 | h3
          · exact .inl h3
          · simp only [List.mem_singleton, Prod.mk.injEq] at h3
            obtain ⟨rfl, rfl⟩ := h3
            refine .inr ⟨Nat.le_refl _, by simp, ?_⟩
            simp only [Nat.sub_self, List.getElem_cons_zero, true_and]
            exact ⟨h1, by omega⟩
        · exact .inr (up h3)
    · rcases labF_spec L (k + 1) P Q h n j hm with h3 | h3
      · exact .inl h3
      · exact .inr (up h3)
theorem hasP_mem {P : List (Int × Nat)} {n : Int} : hasP P n = true ↔ ∃ j, (n, j) ∈ P := by
  unfold hasP
  rw [List.any_eq_true]
  constructor
  · rintro ⟨⟨m, j⟩, h1, h2⟩
    simp at h2
    exact ⟨j, h2 ▸ h1⟩
  · rintro ⟨j, h⟩
    exact ⟨(n, j), h, by simp⟩
/-- A number that is told already is told again: none. -/
theorem labF_has : ∀ (L : List In) (k : Nat) (P : List (Int × Nat)) (i : In), i ∈ L → i.op = 1 → hasP P (numL i) = true → labF L k P = none
  | x :: L, k, P, i, hm, ho, hp => by
    rw [labF_cons]
    rcases List.mem_cons.1 hm with rfl | hm
    · rw [if_pos ho, if_pos (.inl hp)]
    · split
      · split
        · rfl
        · exact labF_has L (k + 1) _ i hm ho (by rw [hasP_app, hp]; rfl)
      · exact labF_has L (k + 1) P i hm ho hp
/-- One label twice. -/
theorem labF_twice {A B : List In} {i j : In} (hi : i ∈ A) (hj : j ∈ B) (oi : i.op = 1) (oj : j.op = 1) (hn : numL i = numL j) (k : Nat) (P : List (Int × Nat)) : labF (A ++ B) k P = none := by
  rw [labF_app]
  cases hq : labF A k P with
  | none => rfl
  | some Q =>
    have : ∀ (A : List In) (k : Nat) (P Q : List (Int × Nat)), labF A k P = some Q → (∀ n, hasP P n = true → hasP Q n = true) ∧ ∀ i, i ∈ A → i.op = 1 → hasP Q (numL i) = true := by
      intro A
      induction A with
      | nil =>
        intro k P Q h
        injection h with h
        subst h
        exact ⟨fun n h => h, fun i h => by cases h⟩
      | cons x A ih =>
        intro k P Q h
        rw [labF_cons] at h
        split at h
        · rename_i h1
          split at h
          · cases h
          · obtain ⟨a1, a2⟩ := ih _ _ _ h
            refine ⟨fun n hn => a1 n (by rw [hasP_app, hn]; rfl), fun i hi ho => ?_⟩
            rcases List.mem_cons.1 hi with rfl | hi
            · exact a1 _ (by rw [hasP_app]; simp)
            · exact a2 i hi ho
        · rename_i h1
          obtain ⟨a1, a2⟩ := ih _ _ _ h
          refine ⟨a1, fun i hi ho => ?_⟩
          rcases List.mem_cons.1 hi with rfl | hi
          · exact absurd ho h1
          · exact a2 i hi ho
    exact labF_has B _ Q j hj oj (by rw [← hn]; exact (this A k P Q hq).2 i hi oi)
/-- A label that may not be. -/
theorem labF_bad {A B : List In} {j : In} (hj : j ∈ B) (oj : j.op = 1) (hn : numL j < 1) (k : Nat) (P : List (Int × Nat)) : labF (A ++ B) k P = none := by
  rw [labF_app]
  cases hq : labF A k P with
  | none => rfl
  | some Q =>
    show labF B (k + A.length) Q = none
    clear hq
    generalize k + A.length = m
    induction B generalizing m Q with
    | nil => cases hj
    | cons x B ih =>
      rw [labF_cons]
      rcases List.mem_cons.1 hj with rfl | hj
      · rw [if_pos oj, if_pos (.inr (.inl hn))]
      · split
        · split
          · rfl
          · exact ih hj _ _
        · exact ih hj _ _

/-! ## The instructions of the law -/
/-- A label's, a plain one. -/
def inN : In := ⟨11, []⟩
def inL (n : Int) : In := ⟨1, [agS (0, n)]⟩
def inF (n : Int) : In := ⟨5, [agS (5, n)]⟩
def inE : In := ⟨3, []⟩
/-- So many instructions ahead of label j + 1. -/
def cZ (zs : List Int) (j : Nat) : Nat := (zs.getD j 0 % 3).toNat
def codeL (zs : List Int) : Nat → List In
  | 0 => []
  | m + 1 => codeL zs m ++ (List.replicate (cZ zs m) inN ++ [inL ((m : Int) + 1)])
def posL (zs : List Int) : Nat → List (Int × Nat)
  | 0 => []
  | m + 1 => posL zs m ++ [((m : Int) + 1, (codeL zs m).length + cZ zs m)]
theorem posL_len (zs : List Int) (m : Nat) : (posL zs m).length = m := by
  induction m with
  | zero => rfl
  | succ m ih => show (posL zs m ++ [_]).length = _; simp [ih]
theorem posL_has (zs : List Int) (m : Nat) (n : Int) : hasP (posL zs m) n = true ↔ 1 ≤ n ∧ n ≤ (m : Int) := by
  induction m with
  | zero => show hasP [] n = true ↔ _; simp [hasP]; omega
  | succ m ih =>
    show hasP (posL zs m ++ [((m : Int) + 1, _)]) n = true ↔ _
    rw [hasP_app, Bool.or_eq_true, ih]
    simp only [beq_iff_eq]
    omega
theorem labF_plain (c : Nat) (B : List In) (k : Nat) (P : List (Int × Nat)) : labF (List.replicate c inN ++ B) k P = labF B (k + c) P := by
  induction c generalizing k with
  | zero => rfl
  | succ c ih =>
    rw [List.replicate_succ, List.cons_append, labF_cons, if_neg (by decide), ih, show k + 1 + c = k + (c + 1) by omega]
theorem numL_inL (n : Int) : numL (inL n) = n := rfl
theorem labF_code (zs : List Int) (m : Nat) (hm : m ≤ 30) : labF (codeL zs m) 0 [] = some (posL zs m) := by
  induction m with
  | zero => rfl
  | succ m ih =>
    show labF (codeL zs m ++ _) 0 [] = some (posL zs m ++ [((m : Int) + 1, (codeL zs m).length + cZ zs m)])
    rw [labF_app, ih (by omega)]
    show labF (List.replicate (cZ zs m) inN ++ [inL ((m : Int) + 1)]) (0 + (codeL zs m).length) (posL zs m) = _
    rw [labF_plain, labF_cons, if_pos (show (inL ((m : Int) + 1)).op = 1 from rfl), numL_inL, if_neg (by rw [posL_has]; omega), Nat.zero_add]
    rfl
theorem labF_other (A : List In) (i : In) (h : i.op ≠ 1) (k : Nat) (P : List (Int × Nat)) : labF (A ++ [i]) k P = labF A k P := by
  rw [labF_app]
  cases labF A k P with
  | none => rfl
  | some Q =>
    show labF [i] _ Q = _
    rw [labF_cons, if_neg h]; rfl
theorem okF_single (P : List (Int × Nat)) (t n : Int) : okF P (agS (t, n)) = !badF P t n := by
  unfold agS
  rw [okF_mk]; simp
theorem thereS_app (P : List (Int × Nat)) (A B : List In) : thereS P (A ++ B) = (thereS P A && thereS P B) := by unfold thereS; rw [List.all_append]
theorem there_code (zs : List Int) (P : List (Int × Nat)) (m : Nat) : thereS P (codeL zs m) = true := by
  induction m with
  | zero => rfl
  | succ m ih =>
    show thereS P (codeL zs m ++ _) = true
    rw [thereS_app, ih, thereS_app]
    have h1 : thereS P (List.replicate (cZ zs m) inN) = true := by
      unfold thereS
      rw [List.all_eq_true]
      intro i hi
      rw [List.eq_of_mem_replicate hi]
      rfl
    rw [h1]
    show thereS P [inL _] = true
    unfold thereS inL
    simp only [List.all_cons, List.all_nil, Bool.and_true]
    rw [okF_single]
    simp [badF]
/-- The instructions that are first looked at. -/
def codeQ (zs : List Int) (m : Nat) (q : Int) : List In := codeL zs m ++ [inF q, inE]
theorem lab_code (zs : List Int) (m : Nat) (q : Int) (hm : m ≤ 30) : labF (codeQ zs m q) 0 [] = some (posL zs m) := by
  unfold codeQ
  rw [show [inF q, inE] = [inF q] ++ [inE] from rfl, ← List.append_assoc, labF_other _ _ (by decide), labF_other _ _ (by show (5 : Int) ≠ 1; decide), labF_code zs m hm]
theorem there_F (P : List (Int × Nat)) (q : Int) : thereS P [inF q] = !badF P 5 q := by
  unfold thereS inF
  simp only [List.all_cons, List.all_nil, Bool.and_true]
  exact okF_single P 5 q
theorem there_codeQ (zs : List Int) (m : Nat) (q : Int) : thereS (posL zs m) (codeQ zs m q) = !badF (posL zs m) 5 q := by
  unfold codeQ
  rw [show [inF q, inE] = [inF q] ++ [inE] from rfl, ← List.append_assoc, thereS_app, thereS_app, there_code, there_F]
  show (true && _ && true) = _
  simp
theorem bad_yes (zs : List Int) (m : Nat) (q : Int) (h : 1 ≤ q ∧ q ≤ (m : Int)) : badF (posL zs m) 5 q = false := by
  unfold badF
  rw [(posL_has zs m q).2 h]
  simp
theorem bad_no (zs : List Int) (m : Nat) : badF (posL zs m) 5 ((m : Int) + 1) = true := by
  have : hasP (posL zs m) ((m : Int) + 1) = false := by
    cases h : hasP (posL zs m) ((m : Int) + 1) with
    | false => rfl
    | true => rw [posL_has] at h; omega
  unfold badF
  rw [this]
  simp; omega
theorem labS_code (zs : List Int) (m : Nat) (q : Int) (hm : m ≤ 30) (h : 1 ≤ q ∧ q ≤ (m : Int)) : labS (codeQ zs m q) = some (posL zs m) := by
  unfold labS
  rw [lab_code zs m q hm]
  show (if _ then _ else _) = _
  rw [there_codeQ, bad_yes zs m q h]
  rfl
/-- A label named that is not there, behind. -/
theorem labS_not (zs : List Int) (m : Nat) (q : Int) (i : In) (hm : m ≤ 30) (ho : i.op ≠ 1) (hb : thereS (posL zs m) [i] = false) : labS (codeQ zs m q ++ [i]) = none := by
  unfold labS
  rw [labF_other _ _ ho, lab_code zs m q hm]
  show (if _ then _ else _) = _
  rw [thereS_app, hb, Bool.and_false, if_neg (by simp)]
theorem labS_none {L : List In} (h : labF L 0 [] = none) : labS L = none := by unfold labS; rw [h]
/-- The last one: a list in an operand. -/
def inP (m : Int) : In := ⟨33, [agS (3, 0), agS (5, 1), ⟨7, 0, [agS (1, 1), agS (5, m)]⟩]⟩
theorem there_P (zs : List Int) (m : Nat) : thereS (posL zs m) [inP ((m : Int) + 1)] = false := by
  unfold thereS inP
  simp only [List.all_cons, List.all_nil, Bool.and_true, okF_mk, okF_single, bad_no]
  simp
theorem codeL_mem (zs : List Int) (m : Nat) (n : Nat) (h : n < m) : inL ((n : Int) + 1) ∈ codeL zs m := by
  induction m with
  | zero => omega
  | succ m ih =>
    show _ ∈ codeL zs m ++ _
    by_cases e : n = m
    · subst e
      simp
    · exact List.mem_append_left _ (ih (by omega))
theorem codeL_len (zs : List Int) (m : Nat) : m ≤ (codeL zs m).length ∧ (codeL zs m).length ≤ 3 * m := by
  induction m with
  | zero => exact ⟨Nat.le_refl _, Nat.le_refl _⟩
  | succ m ih =>
    have hc : cZ zs m < 3 := by unfold cZ; omega
    have : (codeL zs (m + 1)).length = (codeL zs m).length + (cZ zs m + 1) := by show (codeL zs m ++ _).length = _; simp
    omega
theorem codeQ_len (zs : List Int) (m : Nat) (q : Int) : (codeQ zs m q).length = (codeL zs m).length + 2 := by unfold codeQ; simp
/-- How many there are to look at. -/
theorem wt_small (L : List In) (hL : L.length ≤ 1000) (hk : ∀ i ∈ L, szK i.K ≤ 100) : wtO (L.map In.K) ≤ 1000000000 := by
  have : wtO (L.map In.K) ≤ 101 * L.length := by
    unfold wtO
    clear hL
    induction L with
    | nil => exact Nat.le_refl _
    | cons i L ih =>
      simp only [List.map_cons, List.sum_cons, List.length_cons]
      have h1 := hk i (by simp)
      have h2 := ih (fun j hj => hk j (by simp [hj]))
      omega
  omega
theorem codeL_szK (zs : List Int) (m : Nat) : ∀ i ∈ codeL zs m, szK i.K ≤ 100 := by
  induction m with
  | zero => intro i hi; cases hi
  | succ m ih =>
    intro i hi
    have hi : i ∈ codeL zs m ++ (List.replicate (cZ zs m) inN ++ [inL ((m : Int) + 1)]) := hi
    rcases List.mem_append.1 hi with hi | hi
    · exact ih i hi
    · rcases List.mem_append.1 hi with hi | hi
      · rw [List.eq_of_mem_replicate hi]; decide
      · simp only [List.mem_singleton] at hi
        subst hi
        show szK [agS (0, _)] ≤ 100
        rw [szK_cons, szT_eq]
        exact (by decide : 1 + szK ([] : List Ag) + szK [] ≤ 100)
end Go.Proofs.YtfjibcldghnjcaaDoor


/-
  Instructions put behind a row by append, at the operation; what stands in a row.
-/
namespace Go.Proofs.YtfjibcldghnjcaaDoor
open Go.RowKit Go.Maps
set_option linter.unusedVariables false
set_option linter.unusedSimpArgs false

theorem wpList_append_cq {w : World} {ops : Array Oper} {rest : List Oper} {o : Oper} {a : Act} {Q : Exit → Act → World → Prop} (hgd : o.guard = none) (s x : Operand)
    (ho : o.op = .call { callee := .builtin .append, args := #[s, x], argTypes := #[23, 23] }) (base : Nat) (v : Value) (L I : List In) (X : List Ei) (hs : a.eval s = v) (h : CqSt w base v L) (hl : X.length = I.length)
    (hX : ∀ i (h : i < I.length) (h' : i < X.length), X[i].op = I[i].op ∧ GsQ w (PlainA w) X[i].sl I[i].K) (ad : Addr) (c : Nat) (hx : a.eval x = .slice (some ad) X.length c) (hnews : ∀ j u, (cl2 X)[j]? = some u → w.cell? (ad.add j) = some u)
    (hb : base ≤ w.heap.size) (hL : L.length ≤ 100000) (hXl : X.length ≤ 100000)
    (hK : ∀ v' w', CqSt w' base v' (L ++ I) → (∀ W, W.heap.size ≤ base → Below W.heap.size W w → Below W.heap.size W w') → wpList Tryd.prog ops Q rest (a.put o.dst v') w') : wpList Tryd.prog ops Q (o :: rest) a w := by
  obtain ⟨i0, hi, hz0, hz1, hz2⟩ := info_parts Tryd.infoIns
  have h0 := h
  obtain ⟨E, h1, h2, h3⟩ := h
  refine wpList_append_own _ hgd s x 23 ho base 27 i0 (.agg #[.int .i64 0, .slice none 0 0]) 2 32 Tryd.underlying23 hi hz0 hz1 hz2 rfl (by decide) v E.length (cl2 E) hs h1 ad X.length c (cl2 X) hx (cl2_len _) hnews (cl2_one X) (by simp only [maxLen]; omega) (by omega) hb ?_
  intro v' w' ho' hg' _
  have hrow := World.ownsRow.lt h1
  refine hK v' w' ?_ (fun W hW hB => hB.grown hg' hB.size (fun j hj => Nat.le_trans hW (hrow j hj).1))
  have hplain : ∀ b, PlainA w b → w'.heap[b]? = w.heap[b]? := fun b hb => hg'.block b hb.lt (fun e => plain_ne_row h1 hb e.symm)
  refine ⟨E ++ X, ?_, by simp [h2, hl], fun i a b => ?_⟩
  · unfold IOwn
    rw [cl2_app, List.length_append]
    exact ho'
  · by_cases hi : i < E.length
    · rw [List.getElem_append_left hi, List.getElem_append_left (by omega)]
      obtain ⟨e1, e2⟩ := h3 i (by omega) hi
      exact ⟨e1, e2.plain hg'.size hplain⟩
    · rw [List.getElem_append_right (by omega), List.getElem_append_right (by omega)]
      simp only [h2]
      have hb : i - L.length < X.length := by simp at b; omega
      obtain ⟨e1, e2⟩ := hX (i - L.length) (by omega) hb
      exact ⟨e1, e2.plain hg'.size hplain⟩
/-- Instructions in new memory. -/
theorem cq_lit (w : World) (base : Nat) (X : List Ei) (I : List In) (hb : base ≤ w.heap.size) (hl : X.length = I.length) (hX : ∀ i (h : i < I.length) (h' : i < X.length), X[i].op = I[i].op ∧ GsQ w (PlainA w) X[i].sl I[i].K) (hm : X.length ≤ 100000) :
    CqSt (w.alloc (.cells (cl2 X).toArray 27)) base (.slice (some ⟨w.heap.size, 0, none⟩) X.length X.length) I := by
  refine ⟨X, ⟨cl2_len _, .inr ⟨w.heap.size, X.length, _, rfl, hb, heap_alloc_new w _, Nat.le_refl _, by simp only [maxLen]; omega, by simp [cl2_len], ?_⟩⟩, hl, fun i a b => ⟨(hX i a b).1, (hX i a b).2.plainB (box_below _ _ _)⟩⟩
  simp only [List.toList_toArray]
  rw [List.take_of_length_le (by rw [cl2_len]; exact Nat.le_refl _)]
/-- What stands in a row: a label's own operand. -/
theorem IsP.label {w : World} {a : Option Addr} {n cap : Nat} {L : List In} (h : IsP w (.slice a n cap) L) (k : Nat) (hk : k < L.length) (m : Int) (ho : L[k].op = 1) (hn : numL L[k] = m) (hm : 1 ≤ m) :
    ∃ b off b2 off2 mm c, a = some ⟨b, off, none⟩ ∧ w.cell? ⟨b, off + k * 2, none⟩ = some (.int .i64 1) ∧ w.cell? ⟨b, off + k * 2 + 1, none⟩ = some (.slice (some ⟨b2, off2, none⟩) (mm + 1) c) ∧ w.cell? ⟨b2, off2 + 1, none⟩ = some (.int .i64 m) := by
  obtain ⟨b, off, p, m', c, rfl, hlt, ⟨c0, c1⟩, hg⟩ := h.at k hk
  rw [ho] at c0
  cases hK : L[k].K with
  | nil =>
    unfold numL at hn
    rw [hK] at hn
    dsimp only at hn
    omega
  | cons x t =>
    unfold numL at hn
    rw [hK] at hn hg
    dsimp only at hn
    obtain ⟨p', cap', he, -⟩ := hg.gs.shape
    injection he with e1 e2 e3
    subst e1; subst e2
    obtain ⟨b2, off2, y, rfl, -, -, ⟨-, d1, -⟩, -, hx⟩ := hg.at 0 (by simp)
    obtain ⟨-, e5, -⟩ := hx.el
    have e5 : y.n = x.n := e5
    refine ⟨b, off, b2, off2, t.length, c, rfl, c0, by simpa using c1, ?_⟩
    rw [e5, hn] at d1
    simpa using d1
end Go.Proofs.YtfjibcldghnjcaaDoor
