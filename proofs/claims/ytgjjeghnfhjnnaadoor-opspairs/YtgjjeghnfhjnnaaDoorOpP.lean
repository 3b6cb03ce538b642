
/-
  A list of pairs in a box: made, put more, cut, set.
-/
import Derived.Test.YtgjjeghnfhjnnaaDoorOpSp
import Derived.Test.YtgjjeghnfhjnnaaDoorBdI
namespace Go.Proofs.YtgjjeghnfhjnnaaDoor
open Go.RowKit
set_option linter.unusedVariables false
set_option linter.unusedSimpArgs false

/-- Operands in new memory, as a slice. -/
theorem gs_new (w : World) (L : List El) (K : List Ag) (hlk : L.length = K.length) (hf : ∀ x ∈ L, El.fit x) (hk : ∀ i (h : i < K.length) (h' : i < L.length), IsG w K[i] (L[i].v)) (hl : L.length ≤ 1000000) : Gs (w.alloc (.cells (cl3 L).toArray 25)) (.slice (some ⟨w.heap.size, 0, none⟩) K.length K.length) K := by
  have ho : AOwn (w.alloc (.cells (cl3 L).toArray 25)) 0 (.slice (some ⟨w.heap.size, 0, none⟩) L.length L.length) L := by
    refine ⟨cl3_len _, .inr ⟨w.heap.size, L.length, _, rfl, Nat.zero_le _, heap_alloc_new w _, Nat.le_refl _, ?_, ?_, ?_⟩⟩
    · simp only [maxLen]; omega
    · simp [cl3_len]
    · simp only [List.toList_toArray]; rw [List.take_of_length_le (by rw [cl3_len]; exact Nat.le_refl _)]
  have hr := ho.rw3 hf
  rw [hlk] at hr
  exact ⟨some ⟨w.heap.size, 0, none⟩, K.length, L, rfl, hlk, hr, fun i h1 h2 => (hk i h1 h2).under (box_below _ _ _)⟩
theorem getD_appL {α : Type} (a b : List α) (i : Nat) (d : α) (h : i < a.length) : (a ++ b).getD i d = a.getD i d := by
  rw [List.getD_eq_getElem?_getD, List.getD_eq_getElem?_getD, List.getElem?_append_left h]
theorem getD_appR {α : Type} (a b : List α) (i : Nat) (d : α) (h : a.length ≤ i) : (a ++ b).getD i d = b.getD (i - a.length) d := by
  rw [List.getD_eq_getElem?_getD, List.getD_eq_getElem?_getD, List.getElem?_append_right h]
/-- Pairs, each a number by its place, and a label. -/
def psOk (ps : List (Int × Int)) (k : Nat) : Prop := ps.length = 2 * k ∧ ∀ j, j < k → ps.getD (2 * j) (0, 0) = (1, (j : Int)) ∧ ∃ f : Int, 1 ≤ f ∧ f ≤ 100 ∧ ps.getD (2 * j + 1) (0, 0) = (5, f)
theorem psOk.nil : psOk [] 0 := ⟨rfl, fun j h => absurd h (by omega)⟩
theorem psOk.push {ps : List (Int × Int)} {k : Nat} {f : Int} (h : psOk ps k) (h1 : 1 ≤ f) (h2 : f ≤ 100) : psOk (ps ++ [(1, (k : Int)), (5, f)]) (k + 1) := by
  obtain ⟨hl, hj⟩ := h
  refine ⟨by simp [hl]; omega, fun j hjk => ?_⟩
  by_cases hlt : j < k
  · obtain ⟨e1, g, g1, g2, e2⟩ := hj j hlt
    rw [getD_appL _ _ _ _ (by omega), getD_appL _ _ _ _ (by omega)]
    exact ⟨e1, g, g1, g2, e2⟩
  · obtain rfl : j = k := by omega
    rw [getD_appR _ _ _ _ (by omega), getD_appR _ _ _ _ (by omega), hl]
    refine ⟨by simp, f, h1, h2, ?_⟩
    rw [show 2 * j + 1 - 2 * j = 1 by omega]
    rfl
theorem map_getD (ps : List (Int × Int)) (i : Nat) : (ps.map agS).getD i zA = agS (ps.getD i (0, 0)) := by
  rw [List.getD_eq_getElem?_getD, List.getD_eq_getElem?_getD, List.getElem?_map]
  cases ps[i]? <;> rfl
theorem fits33 (K : List Ag) : fitsI 33 [agS (3, 0), agS (5, 1), ⟨7, 0, K⟩] = (decide (K.length ≤ 40) && pairsB K) := by
  have e0 : fitA (letA 33 0) (agS (3, 0)) = true := by decide +kernel
  have e1 : fitA (letA 33 1) (agS (5, 1)) = true := by decide +kernel
  have e2 : fitA (letA 33 2) ⟨7, 0, K⟩ = (decide (K.length ≤ 40) && pairsB K) := by
    rw [show letA 33 2 = 80 from rfl]
    unfold fitA
    rw [if_pos rfl, if_neg (by decide), if_pos rfl]
    simp
  unfold fitsI
  rw [sg33]
  simp only [List.length_cons, List.length_nil, Nat.zero_add, Nat.reduceAdd]
  rw [show List.range 3 = [0, 1, 2] from rfl]
  simp only [List.all_cons, List.all_nil, Bool.and_true, List.getD_cons_zero, List.getD_cons_succ, e0, e1, e2, Bool.true_and]
  simp
theorem pr_good {ps : List (Int × Int)} {k : Nat} (h : psOk ps k) (hk : k ≤ 15) {j : Nat} (hjk : j < k) : prB (ps.map agS) j = true := by
  obtain ⟨hl, hj⟩ := h
  obtain ⟨e1, f, f1, f2, e2⟩ := hj j hjk
  unfold prB
  rw [map_getD, map_getD, e1, e2]
  have c1 : coA (agS (1, (j : Int))) = true := by simp [coA, agS]
  have c2 : mbA (agS (1, (j : Int))) = true := by
    unfold mbA agS loT hiT
    simp
    omega
  have c3 : fit1 108 (agS (5, f)) = true := by
    unfold fit1 mbA agS loT hiT htB
    simp
    omega
  rw [c1, c2, c3, Bool.true_and, Bool.true_and, Bool.true_and, List.all_eq_true]
  intro e he
  have hej := List.mem_range.1 he
  obtain ⟨e3, -⟩ := hj e (by omega)
  rw [map_getD, e3]
  unfold sameTN agS
  simp
  omega
theorem pairs_good {ps : List (Int × Int)} {k : Nat} (h : psOk ps k) (hk : k ≤ 15) : pairsB (ps.map agS) = true :=
  pairs_yes (by rw [List.length_map, h.1]; omega) (fun j hjk => pr_good h hk (by rw [List.length_map, h.1] at hjk; omega))
theorem pairs_twice {ps : List (Int × Int)} {k : Nat} (h : psOk ps k) (hk : 0 < k) : pairsB ((ps ++ [(1, 0), (5, 9)]).map agS) = false := by
  obtain ⟨hl, hj⟩ := h
  refine pairs_no (j := k) (by rw [List.length_map]; simp [hl]) ?_
  unfold prB
  rw [Bool.and_eq_false_iff]
  right
  cases hr : (List.range k).all (fun e => !sameTN (((ps ++ [(1, 0), (5, 9)]).map agS).getD (2 * e) zA) (((ps ++ [(1, 0), (5, 9)]).map agS).getD (2 * k) zA))
  · rfl
  · have := List.all_eq_true.1 hr 0 (List.mem_range.2 hk)
    rw [map_getD, map_getD, getD_appL _ _ _ _ (by omega), getD_appR _ _ _ _ (by omega), hl, (hj 0 hk).1] at this
    simp [sameTN, agS] at this
theorem pairs_odd {K : List Ag} (h : K.length % 2 = 1) : pairsB K = false := by
  unfold pairsB
  simp [h]
theorem pairs_lab {K : List Ag} (h : 1 < K.length) : pairsB (K.set 1 (agS (5, 0))) = false := by
  refine pairs_no (j := 0) (by rw [List.length_set]; omega) ?_
  unfold prB
  have e : (K.set 1 (agS (5, 0))).getD (2 * 0 + 1) zA = agS (5, 0) := by
    rw [List.getD_eq_getElem?_getD, Nat.mul_zero, Nat.zero_add, List.getElem?_set_self h]; rfl
  rw [e, show fit1 108 (agS (5, 0)) = false by decide +kernel]
  simp
theorem pairs_reg {K : List Ag} (h : 1 < K.length) : pairsB (K.set 0 (agS (3, 1))) = false := by
  refine pairs_no (j := 0) (by rw [List.length_set]; omega) ?_
  unfold prB
  have e : (K.set 0 (agS (3, 1))).getD (2 * 0) zA = agS (3, 1) := by
    rw [List.getD_eq_getElem?_getD, Nat.mul_zero, List.getElem?_set_self (by omega)]; rfl
  rw [e, show coA (agS (3, 1)) = false by decide +kernel]
  simp

/-- The list in its box g, its row v. -/
def PSt (w0 : World) (g : Nat) (v : Value) (ps : List (Int × Int)) (wr : World) : Prop :=
  BxA wr g 7 0 v ∧ w0.heap.size ≤ g ∧ AOwn wr w0.heap.size v (ps.map elS) ∧ (∀ p ∈ ps, El.fit (elS p)) ∧ v.ownBlock ≠ some g ∧ Below w0.heap.size w0 wr
def PEnd (w0 : World) (g : Nat) (v : Value) (K : List Ag) (wz : World) : Prop := BxA wz g 7 0 v ∧ Gs wz v K ∧ Below w0.heap.size w0 wz
theorem PSt.under {w0 wr W : World} {g : Nat} {v : Value} {ps : List (Int × Int)} (h : PSt w0 g v ps wr) (hb : Below wr.heap.size wr W) : PSt w0 g v ps W := by
  obtain ⟨h1, h2, h3, h4, h5, h6⟩ := h
  exact ⟨h1.under hb, h2, own_same h3 (fun b _ hlt => hb.block b hlt), h4, h5, h6.trans (hb.mono h6.size)⟩
theorem gs_row {w : World} {base : Nat} {v : Value} {ps : List (Int × Int)} (h : AOwn w base v (ps.map elS)) (hf : ∀ p ∈ ps, El.fit (elS p)) : Gs w v (ps.map agS) := by
  have hr := h.rw3 (fun x hx => by obtain ⟨p, hp, rfl⟩ := List.mem_map.1 hx; exact hf p hp)
  obtain ⟨p, c, rfl, -⟩ := own_shape h
  refine ⟨p, c, ps.map elS, by rw [List.length_map, List.length_map], by rw [List.length_map, List.length_map], hr, fun i h1 h2 => ?_⟩
  simp only [List.getElem_map]
  exact isG_single _ _ (hf _ (List.getElem_mem _))
theorem PSt.fin {w0 wr : World} {g : Nat} {v : Value} {ps : List (Int × Int)} (h : PSt w0 g v ps wr) : PEnd w0 g v (ps.map agS) wr := ⟨h.1, gs_row h.2.2.1 h.2.2.2.1, h.2.2.2.2.2⟩
theorem PEnd.under {w0 wr W : World} {g : Nat} {v : Value} {K : List Ag} (h : PEnd w0 g v K wr) (hb : Below wr.heap.size wr W) : PEnd w0 g v K W := ⟨h.1.under hb, h.2.1.under hb, h.2.2.trans (hb.mono h.2.2.size)⟩
theorem p_box {w0 wr wu w5 : World} {g : Nat} {v : Value} {ps : List (Int × Int)} {lit : Obj} (h : PSt w0 g v ps wr) (hb : Below wr.heap.size wr wu) (hgr : (wu.alloc lit).grownBy w5 v.ownBlock) : BxA w5 g 7 0 v := by
  obtain ⟨h1, h2, h3, h4, h5, h6⟩ := h.under (hb.trans (((Below.refl _ _).alloc (Nat.le_refl _) lit).mono hb.size))
  unfold BxA at h1 ⊢
  rw [hgr.block g (Array.getElem?_eq_some_iff.1 h1).1 (fun e => h5 e.symm)]
  exact h1
theorem p_push {w0 wr wu w5 : World} {g : Nat} {v v5 : Value} {ps : List (Int × Int)} {a b : Int × Int} {lit : Obj} (h : PSt w0 g v ps wr) (hb : Below wr.heap.size wr wu) (fa : El.fit (elS a)) (fb : El.fit (elS b))
    (hown : w5.ownsRow w0.heap.size 25 3 v5 (ps.length + 2) (cl3 (ps.map elS) ++ [.int .i64 a.1, .int .i64 a.2, .slice none 0 0, .int .i64 b.1, .int .i64 b.2, .slice none 0 0])) (hgr : (wu.alloc lit).grownBy w5 v.ownBlock) (hloc : v5.ownBlock = v.ownBlock ∨ v5.ownBlock = some (wu.alloc lit).heap.size) :
    PSt w0 g v5 (ps ++ [a, b]) (w5.setCell ⟨g, 2, none⟩ v5) := by
  have hbx5 := p_box h hb hgr
  obtain ⟨h1, h2, h3, h4, h5, h6⟩ := h.under (hb.trans (((Below.refl _ _).alloc (Nat.le_refl _) lit).mono hb.size))
  have hrow := World.ownsRow.lt h3
  have hset : ∀ b, b ≠ g → (w5.setCell ⟨g, 2, none⟩ v5).heap[b]? = w5.heap[b]? := fun b hb => by
    simp only [World.setCell, Array.getElem?_modify]
    rw [if_neg (fun e => hb e.symm)]
  have hv5 : v5.ownBlock ≠ some g := by
    rcases hloc with e | e
    · rw [e]; exact h5
    · rw [e]; intro e2; injection e2 with e2; have := h1.lt; omega
  refine ⟨?_, h2, ?_, ?_, hv5, (h6.grown hgr h6.size (fun j hj => (hrow j hj).1)).setCell (by exact h2) _⟩
  · unfold BxA at hbx5 ⊢
    simp [World.setCell, Array.getElem?_modify, hbx5]
  · unfold AOwn
    rw [List.map_append, cl3_app, List.length_append, List.length_map]
    obtain ⟨e1, e2⟩ := hown
    refine ⟨by simpa [cl3, elS, El.sl] using e1, ?_⟩
    rcases e2 with e2 | ⟨gr, cap, cur, e3, e4, e5, e6⟩
    · exact .inl e2
    · have hne : gr ≠ g := fun e => hv5 (by rw [e3, e]; rfl)
      exact .inr ⟨gr, cap, cur, e3, e4, by rw [hset _ hne]; exact e5, by simpa [cl3, elS, El.sl] using e6⟩
  · intro p hp
    rcases List.mem_append.1 hp with hp | hp
    · exact h4 p hp
    · simp only [List.mem_cons, List.not_mem_nil, or_false] at hp
      rcases hp with rfl | rfl
      · exact fa
      · exact fb
theorem p_cut {w0 wr : World} {g n : Nat} {p : Option Addr} {c : Nat} {ps : List (Int × Int)} (h : PSt w0 g (.slice p (n + 1) c) ps wr) (hn : ps.length = n + 1) : PEnd w0 g (.slice p n c) ((ps.take n).map agS) (wr.setCell ⟨g, 2, none⟩ (.slice p n c)) := by
  obtain ⟨h1, h2, h3, h4, h5, h6⟩ := h
  have hset : ∀ b, b ≠ g → (wr.setCell ⟨g, 2, none⟩ (.slice p n c)).heap[b]? = wr.heap[b]? := fun b hb => by
    simp only [World.setCell, Array.getElem?_modify]
    rw [if_neg (fun e => hb e.symm)]
  have ht : (ps.take n).length = n := by rw [List.length_take]; omega
  have ho : AOwn (wr.setCell ⟨g, 2, none⟩ (.slice p n c)) w0.heap.size (.slice p n c) ((ps.take n).map elS) := by
    unfold AOwn at h3 ⊢
    rw [List.length_map] at h3 ⊢
    rw [ht]
    rw [hn] at h3
    obtain ⟨e1, ⟨e2, e2'⟩ | ⟨gr, cap, cur, e3, e4, e5, e6, e7, e8, e9⟩⟩ := h3
    · omega
    · injection e3 with e31 _ e33
      subst e31; subst e33
      have hne : gr ≠ g := fun e => h5 (by rw [e]; rfl)
      refine ⟨by rw [cl3_len, List.length_map, ht], .inr ⟨gr, c, cur, rfl, e4, by rw [hset _ hne]; exact e5, by omega, e7, e8, ?_⟩⟩
      have : ps = ps.take n ++ ps.drop n := (List.take_append_drop n ps).symm
      rw [this, List.map_append, cl3_app] at e9
      have hl : (cl3 ((ps.take n).map elS)).length = n * 3 := by rw [cl3_len, List.length_map, ht]
      have h2 := congrArg (List.take (n * 3)) e9
      rw [List.take_take, List.take_append_of_le_length (by omega), Nat.min_eq_left (by omega)] at h2
      rw [h2, List.take_of_length_le (by omega)]
  have hf : ∀ p ∈ ps.take n, El.fit (elS p) := fun p hp => h4 p (List.mem_of_mem_take hp)
  refine ⟨?_, gs_row ho hf, h6.setCell (by exact h2) _⟩
  unfold BxA at h1 ⊢
  simp [World.setCell, Array.getElem?_modify, h1]
theorem cl3_set : ∀ (L : List El) (i : Nat) (x : El), i < L.length → cl3 (L.set i x) = (((cl3 L).set (i * 3) (.int .i64 x.t)).set (i * 3 + 1) (.int .i64 x.n)).set (i * 3 + 2) x.sl
  | [], i, x, h => by simp at h
  | y :: t, 0, x, h => by simp [cl3]
  | y :: t, i + 1, x, h => by
    rw [show (i + 1) * 3 = i * 3 + 1 + 1 + 1 by omega]
    simp only [List.set_cons_succ, cl3]
    rw [cl3_set t i x (by simpa using h)]
theorem p_row {w0 wr : World} {g : Nat} {v : Value} {ps : List (Int × Int)} (h : PSt w0 g v ps wr) (h0 : 0 < ps.length) : ∃ gr c cur, v = .slice (some ⟨gr, 0, none⟩) ps.length c ∧ w0.heap.size ≤ gr ∧ gr ≠ g ∧ wr.heap[gr]? = some (.cells cur 25 (0, 0)) ∧ ps.length * 3 ≤ cur.size ∧ ps.length ≤ c ∧ (c : Int) ≤ 9223372036854775807 := by
  obtain ⟨h1, h2, h3, h4, h5, h6⟩ := h
  unfold AOwn at h3
  rw [List.length_map] at h3
  obtain ⟨e1, ⟨rfl, hn⟩ | ⟨gr, c, cur, rfl, e4, e5, e6, e7, e8, e9⟩⟩ := h3
  · omega
  · exact ⟨gr, c, cur, rfl, e4, fun e => h5 (by rw [e]; rfl), e5, by rw [e8]; exact Nat.mul_le_mul_right 3 e6, e6, by simp only [maxLen] at e7; omega⟩
theorem p_set {w0 wr : World} {g gr c i : Nat} {ps : List (Int × Int)} {q : Int × Int} (h : PSt w0 g (.slice (some ⟨gr, 0, none⟩) ps.length c) ps wr) (hi : i < ps.length) (hq : El.fit (elS q)) : PEnd w0 g (.slice (some ⟨gr, 0, none⟩) ps.length c) ((ps.map agS).set i (agS q)) (setEl wr gr i q.1 q.2 (.slice none 0 0)) := by
  obtain ⟨gr', c', cur0, he, hb, hne, -, -, -, -⟩ := p_row h (by omega)
  injection he with he1 _ he3
  injection he1 with he1
  injection he1 with he1 _ _
  subst he1
  subst he3
  obtain ⟨h1, h2, h3, h4, h5, h6⟩ := h
  have hset : ∀ b, b ≠ gr → (setEl wr gr i q.1 q.2 (.slice none 0 0)).heap[b]? = wr.heap[b]? := fun b hb => setEl_block _ _ _ _ _ _ _ hb
  have hl : (ps.set i q).length = ps.length := List.length_set ..
  have ho : AOwn (setEl wr gr i q.1 q.2 (.slice none 0 0)) w0.heap.size (.slice (some ⟨gr, 0, none⟩) ps.length c) ((ps.set i q).map elS) := by
    unfold AOwn at h3 ⊢
    rw [List.length_map] at h3 ⊢
    rw [hl]
    obtain ⟨e1, ⟨e2, e2'⟩ | ⟨gr', cap, cur, e3, e4, e5, e6, e7, e8, e9⟩⟩ := h3
    · cases e2
    · injection e3 with e31 _ e33
      injection e31 with e31
      injection e31 with e31 _ _
      subst e31; subst e33
      refine ⟨by rw [cl3_len, List.length_map, hl], .inr ⟨gr, c, ((cur.setIfInBounds (i * 3) (.int .i64 q.1)).setIfInBounds (i * 3 + 1) (.int .i64 q.2)).setIfInBounds (i * 3 + 2) (.slice none 0 0), rfl, e4, ?_, e6, e7, by simpa using e8, ?_⟩⟩
      · simp [setEl, World.setCell, Array.getElem?_modify, e5]
      · rw [List.map_set, cl3_set _ _ _ (by rw [List.length_map]; exact hi), ← e9]
        simp only [Array.toList_setIfInBounds, List.take_set]
        rfl
  have hf : ∀ p ∈ ps.set i q, El.fit (elS p) := fun p hp => by
    rcases List.mem_or_eq_of_mem_set hp with hp | rfl
    · exact h4 p hp
    · exact hq
  refine ⟨?_, ?_, ((h6.setCell (by exact hb) _).setCell (by exact hb) _).setCell (by exact hb) _⟩
  · unfold BxA at h1 ⊢
    rw [hset g (fun e => hne e.symm)]
    exact h1
  · rw [← List.map_set]
    exact gs_row ho hf
set_option maxRecDepth 100000 in
set_option maxHeartbeats 1000000 in
theorem S_nil (w : World) : Calls Tryd.prog 18 #[.slice none 0 0] w (Mk1 7 0 w) := by
  obtain ⟨i0, hi, hz0, hz1, hz2⟩ := info_parts Tryd.infoArg
  have HB : Hid (∀ c, Below w.heap.size w (w.alloc (.cells c 25))) := fun c => box_below _ _ _
  go_enter Tryd.func18, Tryd.ntmps18
  go_wp2_with (first | (at_builtin; refine wpList_append_own_none rfl _ _ 23 rfl w.heap.size 25 i0 3 Tryd.underlying23 hi (.slice none 0 0) 0 [] rfl (World.ownsRow_nil _ _ _ _) rfl ?_) | fail)
  refine bodyPost_ret (results_arg rfl _ _ w.heap.size 7 0 (.slice none 0 0) rfl (BxA.new w _ _ _)) rfl ?_
  exact ⟨rfl, HB.out _⟩
/-- Numbers that came in, to be read. -/
def LRow (w : World) (a : Option Addr) (len cap : Nat) (zs : List Int) : Prop :=
  len ≤ cap ∧ (cap : Int) ≤ 9223372036854775807 ∧ (a = none → cap = 0) ∧ ∀ i, i < len → ∃ b off, a = some ⟨b, off, none⟩ ∧ b < w.heap.size ∧ w.cell? ⟨b, off + i, none⟩ = some (.int .i64 (zs.getD i 0)) ∧ -9223372036854775808 ≤ zs.getD i 0 ∧ zs.getD i 0 ≤ 9223372036854775807
theorem lrow_of {w : World} {a : Option Addr} {len cap : Nat} {zs : List Int}
    (h : (a = none ∧ len = 0 ∧ cap = 0 ∧ zs = []) ∨
      ∃ x, a = some x ∧ len ≤ cap ∧ cap ≤ maxLen ∧ zs.length = cap ∧ (∀ i, i < zs.length → w.cell? (x.add i) = some (.int .i64 (zs.getD i 0))) ∧ ∀ n ∈ zs, (Lit.int .i64 n).wf = true) :
    LRow w a len cap zs := by
  rcases h with ⟨rfl, rfl, rfl, rfl⟩ | ⟨x, rfl, hl, hm, hz, hc, hw⟩
  · exact ⟨Nat.le_refl _, by decide, fun _ => rfl, fun i hi => absurd hi (by omega)⟩
  · refine ⟨hl, by simp only [maxLen] at hm; omega, fun e => (by cases e), fun i hi => ?_⟩
    obtain ⟨b, off, spot⟩ := x
    have h0 := hc 0 (by omega)
    have h1 := hc i (by omega)
    have hspot : spot = none := by simpa [Addr.add] using World.cell?_spot h0
    subst hspot
    rw [show (⟨b, off, none⟩ : Addr).add i = ⟨b, off + i, none⟩ by unfold Addr.add; split <;> simp_all] at h1
    have hin : zs.getD i 0 ∈ zs := by
      rw [List.getD_eq_getElem?_getD, List.getElem?_eq_getElem (show i < zs.length by omega)]
      exact List.getElem_mem _
    exact ⟨b, off, rfl, World.block_lt_of_cell? w _ h1, h1, (bdI (hw _ hin)).1, (bdI (hw _ hin)).2⟩
end Go.Proofs.YtgjjeghnfhjnnaaDoor
