
/-
  An instruction's copy, spoilt.
-/
import Derived.Test.YtgjjeghnfhjnnaaDoorOpJ
import Derived.Test.YtgjjeghnfhjnnaaDoorAgCopyB
import Derived.Deep.AppendLies
namespace Go.Proofs.YtgjjeghnfhjnnaaDoor
open Go.RowKit
set_option linter.unusedVariables false
set_option linter.unusedSimpArgs false

theorem fits_len_no {op : Int} {K K' : List Ag} (h : fitsI op K = true) (hl : K'.length ≠ K.length) : fitsI op K' = false := by
  have := fits_len h
  cases h' : fitsI op K'
  · rfl
  · have := fits_len h'
    omega
theorem ht_8 (c n : Int) : htB c 8 n = false := by unfold htB; simp
theorem fits_set_no {op : Int} {K : List Ag} {i : Nat} (hi : i < K.length) : fitsI op (K.set i ⟨8, 0, []⟩) = false := by
  cases h' : fitsI op (K.set i ⟨8, 0, []⟩)
  · rfl
  · unfold fitsI at h'
    rw [Bool.and_eq_true, List.all_eq_true] at h'
    have := h'.2 i (List.mem_range.2 (by rw [List.length_set]; exact hi))
    have e : (K.set i ⟨8, 0, []⟩).getD i zA = ⟨8, 0, []⟩ := by
      rw [List.getD_eq_getElem?_getD, List.getElem?_set_self hi]; rfl
    rw [e] at this
    unfold fitA at this
    rw [if_neg (by decide)] at this
    dsimp only at this
    rw [ht_8, Bool.and_false] at this
    cases this
theorem thr_no {op : Int} {K : List Ag} (h : fitsI op K = false) : thrI op K = false := by unfold thrI; rw [h, Bool.false_and]

/-- An instruction's copy: its box g, its operands' row v. -/
def SpSt (w1 : World) (K : List Ag) (op : Int) (g : Nat) (v : Value) (L : List El) (wc : World) : Prop :=
  BxI wc g op v ∧ w1.heap.size ≤ g ∧ AOwn wc w1.heap.size v L ∧ L.length = K.length ∧ (∀ x ∈ L, El.fit x) ∧ v.ownBlock ≠ some g ∧
    (∀ i (h : i < K.length) (h' : i < L.length), IsGP wc (fun b => w1.heap.size ≤ b ∧ v.ownBlock ≠ some b ∧ b ≠ g) K[i] (L[i].v)) ∧ Below w1.heap.size w1 wc
theorem BxI.lt {w : World} {g : Nat} {op : Int} {sl : Value} (h : BxI w g op sl) : g < w.heap.size := (Array.getElem?_eq_some_iff.1 h).1
theorem SpSt.under {w1 wc W : World} {K : List Ag} {op : Int} {g : Nat} {v : Value} {L : List El} (h : SpSt w1 K op g v L wc) (hb : Below wc.heap.size wc W) : SpSt w1 K op g v L W := by
  obtain ⟨h1, h2, h3, h4, h5, h6, h7, h8⟩ := h
  exact ⟨h1.under hb, h2, own_same h3 (fun b _ hlt => hb.block b hlt), h4, h5, h6, fun i a b => (h7 i a b).move hb.size (fun x _ hlt => hb.block x hlt) (fun x hx _ => hx), h8.trans (hb.mono h8.size)⟩
theorem SpSt.gs {w1 wc : World} {K : List Ag} {op : Int} {g : Nat} {v : Value} {L : List El} (h : SpSt w1 K op g v L wc) : Gs wc v K := by
  obtain ⟨h1, h2, h3, h4, h5, h6, h7, h8⟩ := h
  have hr := h3.rw3 h5
  obtain ⟨p, c, rfl, -⟩ := own_shape h3
  exact ⟨p, c, L, by rw [h4], h4, hr, fun i a b => (h7 i a b).isG⟩
theorem sp_a {w1 W x1 : World} {K : List Ag} {op : Int} {v : Value} {L : List El} (hst : CpSt W K v L x1) (hW : W.heap.size = w1.heap.size + 1) (hl : L.length = K.length) (hx : BxI x1 w1.heap.size 0 (.slice none 0 0)) (hb : Below w1.heap.size w1 x1) : SpSt w1 K op w1.heap.size v L (setBxI x1 w1.heap.size op v) := by
  obtain ⟨h1, h2, h3, h4, h5⟩ := hst
  have hrow := World.ownsRow.lt h1
  rw [hW] at hrow
  have hsz : (setBxI x1 w1.heap.size op v).heap.size = x1.heap.size := by simp [setBxI, World.setCell]
  refine ⟨hx.set op v, Nat.le_refl _, ?_, hl, h3, fun e => by have := (hrow _ e).1; omega, fun i a b => ?_, setI_below hb (Nat.le_refl _) _ _⟩
  · obtain ⟨e1, e2⟩ := h1
    refine ⟨e1, ?_⟩
    rcases e2 with e2 | ⟨g, cap, cur, e3, e4, e5, e6⟩
    · exact .inl e2
    · exact .inr ⟨g, cap, cur, e3, by omega, by rw [setI_block _ _ _ _ _ (by omega)]; exact e5, e6⟩
  · exact (h4 i a b).move (by rw [hsz]; exact Nat.le_refl _) (fun x hx _ => setI_block _ _ _ _ _ (by have := hx.1; omega)) (fun x hx _ => ⟨by have := hx.1; omega, hx.2, by have := hx.1; omega⟩)
theorem sp_b {w1 W x1 : World} {K : List Ag} {op : Int} {v : Value} {L : List El} (hst : CpSt W K v L x1) (hW : W.heap.size = w1.heap.size) (hl : L.length = K.length) (hb : Below w1.heap.size w1 x1) : SpSt w1 K op x1.heap.size v L (x1.alloc (.cells #[.int .i64 op, v] 43)) := by
  obtain ⟨h1, h2, h3, h4, h5⟩ := hst
  have hrow := World.ownsRow.lt h1
  rw [hW] at hrow
  have ba := box_below x1 #[.int .i64 op, v] 43
  refine ⟨BxI.new _ _ _, hb.size, ?_, hl, h3, fun e => by have := (hrow _ e).2; omega, fun i a b => ?_, hb.trans (ba.mono hb.size)⟩
  · have := own_same (w' := x1.alloc (.cells #[.int .i64 op, v] 43)) h1 (fun b _ hlt => ba.block b hlt)
    rw [hW] at this
    exact this
  · exact (h4 i a b).move ba.size (fun x _ hlt => ba.block x hlt) (fun x hx hlt => ⟨by have := hx.1; omega, hx.2, by omega⟩)
/-- What the box holds, the operands, and that all old memory is as it was. -/
def SpEnd (w1 : World) (op : Int) (g : Nat) (v : Value) (K : List Ag) (wz : World) : Prop := BxI wz g op v ∧ Gs wz v K ∧ Below w1.heap.size w1 wz
theorem SpEnd.drew {w1 wz : World} {op : Int} {g : Nat} {v : Value} {K : List Ag} (h : SpEnd w1 op g v K wz) : SpEnd w1 op g v K wz.drew :=
  ⟨h.1.under ((Below.refl _ _).drew), h.2.1.under ((Below.refl _ _).drew), h.2.2.drew⟩
theorem sp_push {w1 wc wu w5 : World} {K : List Ag} {op : Int} {g : Nat} {v v5 : Value} {L : List El} {lit : Obj} (h : SpSt w1 K op g v L wc) (hb : Below wc.heap.size wc wu)
    (hown : w5.ownsRow w1.heap.size 25 3 v5 (L.length + 1) (cl3 L ++ [.int .i64 0, .int .i64 0, .slice none 0 0])) (hgr : (wu.alloc lit).grownBy w5 v.ownBlock) (hloc : v5.ownBlock = v.ownBlock ∨ v5.ownBlock = some (wu.alloc lit).heap.size) :
    SpEnd w1 op g v5 (K ++ [⟨0, 0, []⟩]) (w5.setCell ⟨g, 1, none⟩ v5) := by
  obtain ⟨h1, h2, h3, h4, h5, h6, h7, h8⟩ := h.under (hb.trans (((Below.refl _ _).alloc (Nat.le_refl _) lit).mono hb.size))
  have hrow := World.ownsRow.lt h3
  have hgs : (wu.alloc lit).heap.size ≤ w5.heap.size := hgr.size
  have hkeep : ∀ b, b < (wu.alloc lit).heap.size → v.ownBlock ≠ some b → w5.heap[b]? = (wu.alloc lit).heap[b]? := fun b hlt hne => hgr.block b hlt (fun e => hne e.symm)
  have hg5 : BxI w5 g op v := by
    unfold BxI at h1 ⊢
    rw [hkeep g (Array.getElem?_eq_some_iff.1 h1).1 h6]
    exact h1
  have hset : ∀ b, b ≠ g → (w5.setCell ⟨g, 1, none⟩ v5).heap[b]? = w5.heap[b]? := fun b hb => by
    simp only [World.setCell, Array.getElem?_modify]
    rw [if_neg (fun e => hb e.symm)]
  have hss : (w5.setCell ⟨g, 1, none⟩ v5).heap.size = w5.heap.size := by simp [World.setCell]
  have hv5 : v5.ownBlock ≠ some g := by
    rcases hloc with e | e
    · rw [e]; exact h6
    · rw [e]; intro e2; injection e2 with e2; have := h1.lt; omega
  have hrow5 : AOwn (w5.setCell ⟨g, 1, none⟩ v5) w1.heap.size v5 (L ++ [⟨0, 0, none, 0, 0⟩]) := by
    unfold AOwn
    rw [cl3_app, List.length_append]
    obtain ⟨e1, e2⟩ := hown
    refine ⟨by simpa [cl3] using e1, ?_⟩
    rcases e2 with e2 | ⟨gr, cap, cur, e3, e4, e5, e6⟩
    · exact .inl e2
    · have hne : gr ≠ g := fun e => hv5 (by rw [e3, e]; rfl)
      exact .inr ⟨gr, cap, cur, e3, e4, by rw [hset _ hne]; exact e5, by simpa [cl3, El.sl] using e6⟩
  have hfit : ∀ x ∈ L ++ [(⟨0, 0, none, 0, 0⟩ : El)], El.fit x := by
    intro x hx
    rcases List.mem_append.1 hx with hx | hx
    · exact h5 x hx
    · simp only [List.mem_singleton] at hx
      subst hx
      exact ⟨by decide, by decide, by decide, by decide, by decide, by decide⟩
  have hr := hrow5.rw3 hfit
  obtain ⟨p, c, rfl, -⟩ := own_shape hown
  refine ⟨?_, ?_, ?_⟩
  · unfold BxI at hg5 ⊢
    simp [World.setCell, Array.getElem?_modify, hg5]
  · refine ⟨p, c, L ++ [⟨0, 0, none, 0, 0⟩], by rw [List.length_append, h4]; rfl, by simp [h4], hr, fun i hi hi' => ?_⟩
    by_cases hL : i < L.length
    · have hK : i < K.length := by omega
      rw [List.getElem_append_left hL, List.getElem_append_left hK]
      refine ((h7 i hK hL).move (Q := fun _ => True) (w' := w5.setCell ⟨g, 1, none⟩ (.slice p (L.length + 1) c)) (by have := hss; omega) (fun b hP hlt => ?_) (fun _ _ _ => trivial)).isG
      rw [hset b hP.2.2, hkeep b hlt hP.2.1]
    · have hiL : i = L.length := by simp at hi'; omega
      subst hiL
      rw [List.getElem_append_right (Nat.le_refl _), List.getElem_append_right (by omega)]
      simp only [Nat.sub_self, h4, List.getElem_cons_zero]
      exact isG_single _ (0, 0) (elS_fit (by decide) (by decide))
  · exact (h8.grown hgr h8.size (fun j hj => (hrow j hj).1)).setCell (by exact h2) _
theorem sp_cut {w1 wc : World} {K : List Ag} {op : Int} {g n : Nat} {p : Option Addr} {c : Nat} {L : List El} (h : SpSt w1 K op g (.slice p (n + 1) c) L wc) (hn : K.length = n + 1) : SpEnd w1 op g (.slice p n c) (K.take n) (wc.setCell ⟨g, 1, none⟩ (.slice p n c)) := by
  obtain ⟨h1, h2, h3, h4, h5, h6, h7, h8⟩ := h
  have hset : ∀ b, b ≠ g → (wc.setCell ⟨g, 1, none⟩ (.slice p n c)).heap[b]? = wc.heap[b]? := fun b hb => by
    simp only [World.setCell, Array.getElem?_modify]
    rw [if_neg (fun e => hb e.symm)]
  have hss : (wc.setCell ⟨g, 1, none⟩ (.slice p n c)).heap.size = wc.heap.size := by simp [World.setCell]
  have hr := h3.rw3 h5
  have hr2 : Rw3 (wc.setCell ⟨g, 1, none⟩ (.slice p n c)) (.slice p (n + 1) c) L := hr.move (by rw [hss]; exact Nat.le_refl _) (fun x hx _ => hset _ (fun e => h6 (by rw [hx]; show some x.block = some g; rw [e])))
  have hln : L.length = n + 1 := by omega
  have hr3 : Rw3 (wc.setCell ⟨g, 1, none⟩ (.slice p n c)) (.slice p n c) (L.take n) := by
    obtain ⟨a, cap, he, q1, q2, q3, q4, q5⟩ := hr2
    injection he with e1 e2 e3
    subst e1; subst e3
    have ht : (L.take n).length = n := by rw [List.length_take]; omega
    refine ⟨p, c, by rw [ht], by omega, q2, q3, fun x hx => q4 x (List.mem_of_mem_take hx), fun h0 => ?_⟩
    obtain ⟨b, off, r1, r2, r3⟩ := q5 (by omega)
    refine ⟨b, off, r1, r2, fun i hi => ?_⟩
    rw [List.getElem_take]
    exact r3 i (by omega)
  refine ⟨?_, ⟨p, c, L.take n, ?_, ?_, hr3, fun i hi hi' => ?_⟩, h8.setCell (by exact h2) _⟩
  · unfold BxI at h1 ⊢
    simp [World.setCell, Array.getElem?_modify, h1]
  · rw [List.length_take, hn]; congr 1; omega
  · rw [List.length_take, List.length_take]; omega
  · have hi2 : i < n := by rw [List.length_take] at hi; omega
    rw [List.getElem_take, List.getElem_take]
    refine ((h7 i (by omega) (by omega)).move (Q := fun _ => True) (by rw [hss]; exact Nat.le_refl _) (fun b hP hlt => hset b hP.2.2) (fun _ _ _ => trivial)).isG
theorem step_append_at {P : Program} {ops : Array Oper} {o : Oper} {a : Act} {w : World} {K : Act → World → Prop} {Q : Exit → Act → World → Prop} {E : Prop}
    (hg : o.guard = none) (s x : Operand) (t : TypeId) (hop : o.op = Op.call { callee := Callee.builtin Builtin.append, args := #[s, x], argTypes := #[t, t] })
    (base : Nat) (e : TypeId) (i : TypeInfo) (z : Value) (size bytes : Nat) (h1 : P.underlying t = some (.slice e)) (h2 : P.info? e = some i) (h3 : i.zero = some z) (h4 : i.size = size) (h5 : i.bytes = bytes) (h6 : z.cells.size = size) (h7 : 0 < size)
    (v : Value) (n : Nat) (xs : List Value) (hs : a.eval s = v) (hown : w.ownsRow base e size v n xs)
    (ad : Addr) (m c : Nat) (news : List Value) (hx : a.eval x = .slice (some ad) m c) (hn : news.length = m * size) (hc : ∀ j u, news[j]? = some u → w.cell? (ad.add j) = some u) (h1c : ∀ u ∈ news, u.oneCell' = true)
    (b1 : n + m ≤ maxLen) (b2 : (n + m) * bytes ≤ 140737488355328) (hb : base ≤ w.heap.size)
    (hK : ∀ v' w', w'.ownsRow base e size v' (n + m) (xs ++ news) → w.grownBy w' v.ownBlock → (v'.ownBlock = v.ownBlock ∨ v'.ownBlock = some w.heap.size) → K (a.put o.dst v') w') :
    if Region.wanted o (yielded ops a.tmps) = true then Oper.wp P o a w K Q else E := by
  have hw : Region.wanted o (yielded ops a.tmps) = true := by simp [Region.wanted, hg]
  rw [if_pos hw]
  obtain ⟨v', w', hrun, r1, r2, _, r3⟩ := run_append_own_at (P := P) w base t o.type e i z size bytes h1 h2 h3 h4 h5 h6 h7 v n xs hown ad m c news hn hc h1c b1 b2 hb
  unfold Oper.wp
  simp [execOp, hop, resolve, invoke, builtin, hs, hx, hrun, Result.andThen]
  exact hK v' w' r1 r2 r3
theorem sp_box {w1 wc wu w5 : World} {K : List Ag} {op : Int} {g : Nat} {v : Value} {L : List El} {lit : Obj} (h : SpSt w1 K op g v L wc) (hb : Below wc.heap.size wc wu) (hgr : (wu.alloc lit).grownBy w5 v.ownBlock) : BxI w5 g op v := by
  obtain ⟨h1, h2, h3, h4, h5, h6, h7, h8⟩ := h.under (hb.trans (((Below.refl _ _).alloc (Nat.le_refl _) lit).mono hb.size))
  unfold BxI at h1 ⊢
  rw [hgr.block g (Array.getElem?_eq_some_iff.1 h1).1 (fun e => h6 e.symm)]
  exact h1
/-- An element of a row, set. -/
def setEl (w : World) (g i : Nat) (t n : Int) (sl : Value) : World := ((w.setCell ⟨g, i * 3, none⟩ (.int .i64 t)).setCell ⟨g, i * 3 + 1, none⟩ (.int .i64 n)).setCell ⟨g, i * 3 + 2, none⟩ sl
theorem setEl_block (w : World) (g i : Nat) (t n : Int) (sl : Value) (b : Nat) (h : b ≠ g) : (setEl w g i t n sl).heap[b]? = w.heap[b]? := by
  simp only [setEl, World.setCell, Array.getElem?_modify]
  rw [if_neg (fun e => h e.symm), if_neg (fun e => h e.symm), if_neg (fun e => h e.symm)]
theorem setEl_size (w : World) (g i : Nat) (t n : Int) (sl : Value) : (setEl w g i t n sl).heap.size = w.heap.size := by simp [setEl, World.setCell]
theorem sp_row {w1 wc : World} {K : List Ag} {op : Int} {g : Nat} {v : Value} {L : List El} (h : SpSt w1 K op g v L wc) (h0 : 0 < K.length) : ∃ gr c cur, v = .slice (some ⟨gr, 0, none⟩) K.length c ∧ w1.heap.size ≤ gr ∧ gr ≠ g ∧ wc.heap[gr]? = some (.cells cur 25 (0, 0)) ∧ K.length * 3 ≤ cur.size ∧ K.length ≤ c ∧ (c : Int) ≤ 9223372036854775807 := by
  obtain ⟨h1, h2, h3, h4, h5, h6, h7, h8⟩ := h
  unfold AOwn at h3
  rw [h4] at h3
  obtain ⟨e1, ⟨rfl, hn⟩ | ⟨gr, c, cur, rfl, e4, e5, e6, e7, e8, e9⟩⟩ := h3
  · omega
  · exact ⟨gr, c, cur, rfl, e4, fun e => h6 (by rw [e]; rfl), e5, by rw [e8]; exact Nat.mul_le_mul_right 3 e6, e6, by simp only [maxLen] at e7; omega⟩
theorem sp_set {w1 wc : World} {K : List Ag} {op : Int} {g gr c i : Nat} {L : List El} (h : SpSt w1 K op g (.slice (some ⟨gr, 0, none⟩) K.length c) L wc) (hi : i < K.length) : SpEnd w1 op g (.slice (some ⟨gr, 0, none⟩) K.length c) (K.set i ⟨8, 0, []⟩) (setEl wc gr i 8 0 (.slice none 0 0)) := by
  obtain ⟨gr', c', cur, he, hb, hne, hcur, hcs, -, -⟩ := sp_row h (by omega)
  injection he with he1 _ he3
  injection he1 with he1
  injection he1 with he1 _ _
  subst he1
  subst he3
  obtain ⟨h1, h2, h3, h4, h5, h6, h7, h8⟩ := h
  have hset : ∀ b, b ≠ gr → (setEl wc gr i 8 0 (.slice none 0 0)).heap[b]? = wc.heap[b]? := fun b hb => setEl_block _ _ _ _ _ _ _ hb
  have hr := h3.rw3 h5
  have hfz : El.fit ⟨8, 0, none, 0, 0⟩ := ⟨by decide, by decide, by decide, by decide, by decide, by decide⟩
  have hnew : (setEl wc gr i 8 0 (.slice none 0 0)).heap[gr]? = some (.cells (((cur.setIfInBounds (i * 3) (.int .i64 8)).setIfInBounds (i * 3 + 1) (.int .i64 0)).setIfInBounds (i * 3 + 2) (.slice none 0 0)) 25 (0, 0)) := by
    simp [setEl, World.setCell, Array.getElem?_modify, hcur]
  have hcell : ∀ o, (setEl wc gr i 8 0 (.slice none 0 0)).cell? ⟨gr, o, none⟩ = (((cur.setIfInBounds (i * 3) (.int .i64 8)).setIfInBounds (i * 3 + 1) (.int .i64 0)).setIfInBounds (i * 3 + 2) (.slice none 0 0))[o]? := fun o => by
    unfold World.cell?
    simp only [hnew]
    rfl
  have hold : ∀ o, wc.cell? ⟨gr, o, none⟩ = cur[o]? := fun o => by
    unfold World.cell?
    simp only [hcur]
    rfl
  have hr2 : Rw3 (setEl wc gr i 8 0 (.slice none 0 0)) (.slice (some ⟨gr, 0, none⟩) K.length c) (L.set i ⟨8, 0, none, 0, 0⟩) := by
    obtain ⟨a, cap, he, q1, q2, q3, q4, q5⟩ := hr
    injection he with e1 e2 e3
    subst e1; subst e3
    refine ⟨_, c, by rw [List.length_set, h4], by rw [List.length_set]; omega, q2, fun e => (by cases e), fun x hx => ?_, fun h0 => ?_⟩
    · rcases List.mem_or_eq_of_mem_set hx with hx | rfl
      · exact q4 x hx
      · exact hfz
    · rw [List.length_set] at h0
      obtain ⟨b, off, r1, r2, r3⟩ := q5 h0
      injection r1 with r1
      injection r1 with r1 r1' _
      subst r1; subst r1'
      refine ⟨gr, 0, rfl, by rw [setEl_size]; exact r2, fun j hj => ?_⟩
      rw [List.length_set] at hj
      obtain ⟨c0, c1, c2⟩ := r3 j hj
      rw [hold] at c0 c1 c2
      rw [Nat.zero_add] at c0 c1 c2
      have hjc : j * 3 + 2 < cur.size := by omega
      unfold At3
      rw [hcell, hcell, hcell, Nat.zero_add]
      by_cases hji : j = i
      · subst hji
        simp only [List.getElem_set_self]
        refine ⟨?_, ?_, ?_⟩
        · simp [Array.getElem?_setIfInBounds]; omega
        · simp [Array.getElem?_setIfInBounds]; omega
        · simp [Array.getElem?_setIfInBounds, El.sl]; omega
      · rw [List.getElem_set_ne (by omega)]
        refine ⟨?_, ?_, ?_⟩
        · simp [Array.getElem?_setIfInBounds, show ¬ i * 3 = j * 3 by omega, show ¬ i * 3 + 1 = j * 3 by omega, show ¬ i * 3 + 2 = j * 3 by omega]; exact c0
        · simp [Array.getElem?_setIfInBounds, show ¬ i * 3 = j * 3 + 1 by omega, show ¬ i * 3 = j * 3 by omega, show ¬ i * 3 + 2 = j * 3 + 1 by omega]; exact c1
        · simp [Array.getElem?_setIfInBounds, show ¬ i * 3 = j * 3 + 2 by omega, show ¬ i * 3 + 1 = j * 3 + 2 by omega, show ¬ i * 3 = j * 3 + 1 by omega, show ¬ i * 3 = j * 3 by omega]; exact c2
  refine ⟨?_, ⟨some ⟨gr, 0, none⟩, c, L.set i ⟨8, 0, none, 0, 0⟩, by rw [List.length_set], by rw [List.length_set, List.length_set, h4], hr2, fun j hj hj' => ?_⟩, ?_⟩
  · unfold BxI at h1 ⊢
    rw [hset g (fun e => hne e.symm)]
    exact h1
  · rw [List.length_set] at hj hj'
    by_cases hji : j = i
    · subst hji
      simp only [List.getElem_set_self]
      exact isG_single _ (8, 0) (elS_fit (by decide) (by decide))
    · rw [List.getElem_set_ne (by omega), List.getElem_set_ne (by omega)]
      exact ((h7 j hj hj').move (Q := fun _ => True) (by rw [setEl_size]; exact Nat.le_refl _) (fun b hP hlt => hset b (fun e => hP.2.1 (by rw [e]; rfl))) (fun _ _ _ => trivial)).isG
  · exact ((h8.setCell (by exact hb) _).setCell (by exact hb) _).setCell (by exact hb) _
end Go.Proofs.YtgjjeghnfhjnnaaDoor
