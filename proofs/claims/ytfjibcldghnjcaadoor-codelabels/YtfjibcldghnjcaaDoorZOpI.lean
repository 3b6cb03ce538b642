import Derived.Test.YtfjibcldghnjcaaDoorZOpD
import Derived.Test.YtfjibcldghnjcaaDoorZAgR

/-
  relictlaw00: operands by number (I, X, U, F), Op.
-/
namespace Go.Proofs.YtfjibcldghnjcaaDoor
open Go.RowKit
set_option linter.unusedVariables false
set_option linter.unusedSimpArgs false

/-- A single operand, answered. -/
def Mk1 (t n : Int) (w : World) (e : Ending) (w' : World) : Prop := e = .returned (.agg #[.int .i64 t, .int .i64 n, .slice none 0 0]) ∧ Below w.heap.size w w'
set_option maxRecDepth 100000 in
set_option maxHeartbeats 1000000 in
theorem X_any (n : Int) (w : World) : Calls Tryd.prog 10 #[.int .i64 n] w (Mk1 3 n w) := by
  have HB : Hid (∀ c, Below w.heap.size w (w.alloc (.cells c 30))) := fun c => box_below _ _ _
  go_enter Tryd.func10, Tryd.ntmps10
  go_wp2_with fail
  refine bodyPost_ret (results_arg rfl _ _ w.heap.size 3 n (.slice none 0 0) rfl (BxA.new w _ _ _)) rfl ?_
  exact ⟨rfl, HB.out _⟩
set_option maxRecDepth 100000 in
set_option maxHeartbeats 1000000 in
theorem U_any (n : Int) (w : World) : Calls Tryd.prog 6 #[.int .i64 n] w (Mk1 0 n w) := by
  have HB : Hid (∀ c, Below w.heap.size w (w.alloc (.cells c 30))) := fun c => box_below _ _ _
  go_enter Tryd.func6, Tryd.ntmps6
  go_wp2_with fail
  refine bodyPost_ret (results_arg rfl _ _ w.heap.size 0 n (.slice none 0 0) rfl (BxA.new w _ _ _)) rfl ?_
  exact ⟨rfl, HB.out _⟩
set_option maxRecDepth 100000 in
set_option maxHeartbeats 1000000 in
theorem I_any (n : Int) (w : World) : Calls Tryd.prog 12 #[.int .i64 n] w (Mk1 1 n w) := by
  have HB : Hid (∀ c, Below w.heap.size w (w.alloc (.cells c 30))) := fun c => box_below _ _ _
  go_enter Tryd.func12, Tryd.ntmps12
  go_wp2_with fail
  refine bodyPost_ret (results_arg rfl _ _ w.heap.size 1 n (.slice none 0 0) rfl (BxA.new w _ _ _)) rfl ?_
  exact ⟨rfl, HB.out _⟩
set_option maxRecDepth 100000 in
set_option maxHeartbeats 1000000 in
theorem F_any (n : Int) (w : World) : Calls Tryd.prog 9 #[.int .i64 n] w (Mk1 5 n w) := by
  have HB : Hid (∀ c, Below w.heap.size w (w.alloc (.cells c 30))) := fun c => box_below _ _ _
  go_enter Tryd.func9, Tryd.ntmps9
  go_wp2_with fail
  refine bodyPost_ret (results_arg rfl _ _ w.heap.size 5 n (.slice none 0 0) rfl (BxA.new w _ _ _)) rfl ?_
  exact ⟨rfl, HB.out _⟩
theorem BxI.stor {w : World} {g : Nat} {op : Int} {sl : Value} (h : BxI w g op sl) : w.cell? ⟨g, 0, none⟩ = some (.int .i64 op) ∧ w.cell? ⟨g, 1, none⟩ = some sl ∧ w.frozen? ⟨g, 0, none⟩ = false ∧ w.frozen? ⟨g, 1, none⟩ = false := by
  unfold BxI at h
  refine ⟨?_, ?_, ?_, ?_⟩ <;> simp [World.cell?, World.frozen?, h]
def setBxI (w : World) (g : Nat) (op : Int) (sl : Value) : World := (w.setCell ⟨g, 0, none⟩ (.int .i64 op)).setCell ⟨g, 1, none⟩ sl
theorem BxI.set {w : World} {g : Nat} {op' : Int} {sl' : Value} (h : BxI w g op' sl') (op : Int) (sl : Value) : BxI (setBxI w g op sl) g op sl := by
  unfold BxI at h ⊢
  simp [setBxI, World.setCell, Array.getElem?_modify, h]
theorem setI_block (w : World) (g : Nat) (op : Int) (sl : Value) (b : Nat) (h : b ≠ g) : (setBxI w g op sl).heap[b]? = w.heap[b]? := by
  simp only [setBxI, World.setCell, Array.getElem?_modify]
  rw [if_neg (fun e => h e.symm), if_neg (fun e => h e.symm)]
theorem setI_below {B : Nat} {a w : World} (h : Below B a w) {g : Nat} (hp : B ≤ g) (op : Int) (sl : Value) : Below B a (setBxI w g op sl) := (h.setCell (by exact hp) _).setCell (by exact hp) _
theorem ins_load {w : World} {g : Nat} {op : Int} {sl : Value} (h : BxI w g op sl) : (loadVar 27 ⟨g, 0, none⟩).run Tryd.prog w = .ok (.agg #[.int .i64 op, sl]) w := by
  obtain ⟨c0, c1, -⟩ := h.facts
  simp [loadVar, go_sem, c0, c1]
theorem results_ins {fn : Func} {q : Tmp} (h : fn.results = #[.cell q 27]) (tmps : Array Value) (w : World) (g : Nat) (op : Int) (sl : Value) (hq : tmps.getD q undef = .pointer (some ⟨g, 0, none⟩)) (hb : BxI w g op sl) :
    (results fn tmps).run Tryd.prog w = .ok (.agg #[.int .i64 op, sl]) w := by
  have hl := ins_load hb
  simp only [Array.getD_eq_getD_getElem?] at hq
  simp only [results, h]
  simp [hq, asAddr, hl]
/-- An instruction, answered: its operands in new memory. -/
def MkI (op : Int) (K : List Ag) (w : World) (e : Ending) (w' : World) : Prop := ∃ p c, e = .returned (.agg #[.int .i64 op, .slice p K.length c]) ∧ Gs w' (.slice p K.length c) K ∧ Below w.heap.size w w'
set_option maxRecDepth 100000 in
set_option maxHeartbeats 2000000 in
theorem Op_nil (op : Int) (w : World) : Calls Tryd.prog 5 #[.int .i64 op, .slice none 0 0] w (MkI op [] w) := by
  obtain ⟨i0, hi, hz0, hz1, hz2⟩ := info_parts Tryd.infoArg
  go_enter Tryd.func5, Tryd.ntmps5
  go_wp2_with (first | (at_builtin; refine wpList_append_own_none rfl _ _ 25 rfl w.heap.size 30 i0 3 Tryd.underlying25 hi (.slice none 0 0) 0 [] rfl (World.ownsRow_nil _ _ _ _) rfl ?_) | fail)
  refine bodyPost_ret (results_ins rfl _ _ w.heap.size op (.slice none 0 0) rfl (BxI.new w _ _)) rfl ?_
  exact ⟨_, _, rfl, ⟨none, 0, [], rfl, rfl, Rw3.nil _, fun i h => absurd h (by simp)⟩, (Below.refl _ _).alloc (Nat.le_refl _) _⟩
set_option maxRecDepth 100000 in
set_option maxHeartbeats 2000000 in
theorem Op_any (op : Int) (K : List Ag) (x : Addr) (cap : Nat) (w : World) (h : Gs w (.slice (some x) K.length cap) K) (hk : K.length ≤ 1000000) : Calls Tryd.prog 5 #[.int .i64 op, .slice (some x) K.length cap] w (MkI op K w) := by
  obtain ⟨i0, hi, hz0, hz1, hz2⟩ := info_parts Tryd.infoArg
  obtain ⟨p', cap', L, he, hl, hr, hkid⟩ := h
  injection he with e1 e2 e3
  subst e1; subst e3
  have hb := box_below w #[.int .i64 0, .slice none 0 0] 27
  have hr1 := hr.under hb
  have hnews := hr1.news
  have hfit : ∀ y ∈ L, El.fit y := by obtain ⟨_, _, _, _, _, _, hf, _⟩ := hr; exact hf
  obtain ⟨m, hm⟩ : ∃ m, m = K.length := ⟨_, rfl⟩
  have HHM : Hid (m = K.length) := hm
  have HKD : Hid (∀ (i : Nat) (h : i < K.length) (h' : i < L.length), IsG w K[i] (L[i]).v) := hkid
  have HBB : Hid (Below w.heap.size w (w.alloc (.cells #[.int .i64 0, .slice none 0 0] 27))) := hb
  have HFT : Hid (∀ y ∈ L, El.fit y) := hfit
  have HXI : Hid (BxI (w.alloc (.cells #[.int .i64 0, .slice none 0 0] 27)) w.heap.size 0 (.slice none 0 0)) := BxI.new _ _ _
  rw [← hm] at hl hk ⊢
  clear hkid hr hr1 hfit hb hm e2
  go_enter Tryd.func5, Tryd.ntmps5
  go_wp2_with (first | (at_builtin; refine wpList_append_own _ rfl _ _ 25 rfl (w.heap.size + 1) 30 i0 (.agg #[.int .i64 0, .int .i64 0, .slice none 0 0]) 3 40 Tryd.underlying25 hi hz0 hz1 hz2 rfl (by decide) (.slice none 0 0) 0 [] rfl (World.ownsRow_nil _ _ _ _) x m cap (cl3 L) rfl (by rw [cl3_len, hl]) hnews (cl3_one L) (by simp only [maxLen]; omega) (by omega) (by simp) ?_; intro v' w1 hown1 hgr1 _; simp only [Nat.zero_add, List.nil_append] at hown1; obtain ⟨p5, c5, rfl, hc5, hc6⟩ := own_shape hown1; obtain ⟨f0, f1, f2, f3⟩ := (HXI.out.under (below_new hgr1)).stor; have HO : Hid (w1.ownsRow (w.heap.size + 1) 30 3 (.slice p5 m c5) m (cl3 L)) := hown1; have HBN : Hid (Below w.heap.size w w1) := HBB.out.trans ((below_new hgr1).mono HBB.out.size); have HXN : Hid (BxI w1 w.heap.size 0 (.slice none 0 0)) := HXI.out.under (below_new hgr1); clear hown1 hgr1) | fail)
  refine bodyPost_ret (results_ins rfl _ _ w.heap.size op (.slice p5 m c5) rfl (HXN.out.set op _)) rfl ?_
  have ho : (setBxI w1 w.heap.size op (.slice p5 m c5)).ownsRow (w.heap.size + 1) 30 3 (.slice p5 m c5) m (cl3 L) := own_same HO.out (fun b hb _ => setI_block _ _ _ _ _ (by omega))
  have hbf : Below w.heap.size w (setBxI w1 w.heap.size op (.slice p5 m c5)) := setI_below HBN.out (Nat.le_refl _) _ _
  rw [← hl] at ho
  have hr := AOwn.rw3 ho HFT.out
  unfold MkI
  rw [← HHM.out]
  refine ⟨p5, c5, rfl, ⟨p5, c5, L, ?_, ?_, ?_, fun i h1 h2 => (HKD.out i h1 h2).under hbf⟩, hbf⟩
  · rw [← HHM.out]
  · rw [hl]; exact HHM.out
  · rw [← hl]; exact hr
end Go.Proofs.YtfjibcldghnjcaaDoor


/-
  Operands by literal; relictlaw07.awake.
-/
namespace Go.Proofs.YtfjibcldghnjcaaDoor
open Go.RowKit
set_option linter.unusedVariables false
set_option linter.unusedSimpArgs false

/-- A single operand as it stands in memory, and as a tree. -/
def elS (p : Int × Int) : El := ⟨p.1, p.2, none, 0, 0⟩
def agS (p : Int × Int) : Ag := ⟨p.1, p.2, []⟩
theorem elS_fit {p : Int × Int} (h1 : -9223372036854775808 ≤ p.1 ∧ p.1 ≤ 9223372036854775807) (h2 : -9223372036854775808 ≤ p.2 ∧ p.2 ≤ 9223372036854775807) : El.fit (elS p) := by
  refine ⟨h1.1, h1.2, h2.1, h2.2, Nat.le_refl _, ?_⟩
  simp [elS]
theorem isG_single (w : World) (p : Int × Int) (hf : El.fit (elS p)) : IsG w (agS p) (elS p).v :=
  (isG_mk ..).2 ⟨none, 0, [], rfl, hf, rfl, Rw3.nil w, fun i h => absurd h (by simp)⟩
/-- Singles in new memory, as a slice. -/
theorem gs_lit (w : World) (l : List (Int × Int)) (hf : ∀ p ∈ l, El.fit (elS p)) (hl : l.length ≤ 1000000) : Gs (w.alloc (.cells (cl3 (l.map elS)).toArray 30)) (.slice (some ⟨w.heap.size, 0, none⟩) l.length l.length) (l.map agS) := by
  have hm : (l.map elS).length = l.length := List.length_map ..
  have ho : AOwn (w.alloc (.cells (cl3 (l.map elS)).toArray 30)) 0 (.slice (some ⟨w.heap.size, 0, none⟩) l.length l.length) (l.map elS) := by
    refine ⟨cl3_len _, .inr ⟨w.heap.size, l.length, _, ?_, Nat.zero_le _, heap_alloc_new w _, ?_, ?_, ?_, ?_⟩⟩
    · rw [hm]
    · rw [hm]; exact Nat.le_refl _
    · simp only [maxLen]; omega
    · simp [cl3_len]
    · rw [hm]; simp only [List.toList_toArray]; rw [List.take_of_length_le (by rw [cl3_len, hm]; exact Nat.le_refl _)]
  have hr := ho.rw3 (fun x hx => by obtain ⟨p, hp, rfl⟩ := List.mem_map.1 hx; exact hf p hp)
  refine ⟨some ⟨w.heap.size, 0, none⟩, l.length, l.map elS, ?_, ?_, hr, fun i h1 h2 => ?_⟩
  · rw [List.length_map]
  · rw [hm, List.length_map]
  · simp only [List.getElem_map]
    exact isG_single _ _ (hf _ (List.getElem_mem _))

theorem fits_mv : fitsI 4 [agS (1, 1), agS (3, 0)] = true := by decide +kernel
theorem fits_mv0 : fitsI 4 [] = false := by decide +kernel
end Go.Proofs.YtfjibcldghnjcaaDoor
