/-
  term.List: a list out of terms and a tail.
-/
import Derived.Test.YtbmondbicnfcpaaDoorZTermC
import Derived.Test.YtbmondbicnfcpaaDoorZTermE
namespace Go.Proofs.YtbmondbicnfcpaaDoor
open Go.RowKit Go.Shelf
set_option linter.unusedVariables false
set_option linter.unusedSimpArgs false
attribute [local go_sem] Oper.semAt_some

def consT (h t : Tm) : Tm := .mk 4 false [] ⟨#[]⟩ 0 [h, t]
def listT (K : List Tm) (t : Tm) : Tm := K.foldr consT t
/-- What the rounds have made. -/
def curT {w0 : World} (t : Tm) (pre : List (El w0)) : Tm := pre.foldl (fun acc x => consT x.t acc) t
theorem curT_snoc {w0 : World} (t : Tm) (pre : List (El w0)) (x : El w0) : curT t (pre ++ [x]) = consT x.t (curT t pre) := by simp [curT]
theorem came_rev {w0 : World} {K : List Tm} {xs : List (El w0)} (h : Came K xs) (hl : xs.length = K.length) : xs.map (·.t) = K.reverse := by
  apply List.ext_getElem?
  intro j
  rw [List.getElem?_map]
  by_cases hj : j < xs.length
  · obtain ⟨h1, h2⟩ := h.2 j hj
    rw [List.getElem?_eq_getElem hj, List.getElem?_reverse (by omega), show K.length - 1 - j = xs[j].i by omega, h2]
    rfl
  · rw [List.getElem?_eq_none (by omega), List.getElem?_eq_none (by simp; omega)]
    rfl
theorem curT_all {w0 : World} {K : List Tm} {t : Tm} {xs : List (El w0)} (h : Came K xs) (hl : xs.length = K.length) : curT t xs = listT K t := by
  have e := came_rev h hl
  have : curT t xs = (xs.map (·.t)).foldl (fun acc h => consT h acc) t := by simp [curT, List.foldl_map]
  rw [this, e, listT, List.foldl_reverse]

/-- The world without the cells of two blocks. -/
def blank2 (a b : Nat) (w : World) : World := blank a (blank b w)
theorem blank2_size (a b : Nat) (w : World) : (blank2 a b w).heap.size = w.heap.size := by rw [blank2, blank_size, blank_size]
theorem blank2_other {a b k : Nat} {w : World} (h1 : k ≠ a) (h2 : k ≠ b) : (blank2 a b w).heap[k]? = w.heap[k]? := by rw [blank2, blank_other h1, blank_other h2]
theorem blank2_cell {a b : Nat} {w : World} {x : Addr} {u : Value} (ha : a < w.heap.size) (hb : b < w.heap.size) (h : (blank2 a b w).cell? x = some u) : x.block ≠ a ∧ x.block ≠ b ∧ w.cell? x = some u := by
  obtain ⟨h1, h2⟩ := blank_cell (by rw [blank_size]; exact ha) h
  obtain ⟨h3, h4⟩ := blank_cell hb h2
  exact ⟨h1, h3, h4⟩
theorem blank2_put {a b : Nat} {w : World} {x : Addr} {u : Value} (h1 : x.block ≠ a) (h2 : x.block ≠ b) (h : w.cell? x = some u) : (blank2 a b w).cell? x = some u := by
  rw [World.cell?_of_block (w := w) (w' := blank2 a b w) (blank2_other h1 h2)]
  exact h

/-- The loop's state: the tail's box at gT, the result's at gR, the iterator's cell at Bn. -/
def LsI (w : World) (t : Tm) (sv : Value) (gT gR Bn : Nat) (pre : List (El w)) (W : World) : Prop :=
  (∃ k n sl S N sk, Bt W gT k n sl S N sk ∧ IsT (blank2 gT gR W) (curT t pre) (tmV k n sl S N sk)) ∧ Bt W gR 0 false (.slice none 0 0) ⟨#[]⟩ 0 (.slice none 0 0) ∧ W.heap[Bn]? = some (.cells #[sv] 27 (0, 0)) ∧ Below w.heap.size w W ∧ Bn + 1 ≤ W.heap.size

theorem IsT.b2cells {a b : Nat} {w w' : World} {t : Tm} {v : Value} (h : IsT (blank2 a b w) t v) (ha : a < w.heap.size) (hb : b < w.heap.size) (hs : w.heap.size ≤ w'.heap.size) (hc : ∀ x u, x.block ≠ a → x.block ≠ b → w.cell? x = some u → w'.cell? x = some u) : IsT (blank2 a b w') t v := by
  refine h.cells (by rw [blank2_size, blank2_size]; exact hs) (fun x u hx => ?_)
  obtain ⟨h1, h2, h3⟩ := blank2_cell ha hb hx
  exact blank2_put h1 h2 (hc x u h1 h2 h3)
/-- What was read in the old world is read without two new blocks. -/
theorem IsT.toB2 {a b : Nat} {w w' : World} {t : Tm} {v : Value} (h : IsT w t v) (hb : Below w.heap.size w w') (h1 : w.heap.size ≤ a) (h2 : w.heap.size ≤ b) : IsT (blank2 a b w') t v := by
  refine h.cells (by rw [blank2_size]; exact hb.size) (fun x u hx => ?_)
  have hlt := World.block_lt_of_cell? w x hx
  exact blank2_put (by omega) (by omega) ((hb.cell hlt).trans hx)
theorem IsT.unB2 {a b : Nat} {w : World} {t : Tm} {v : Value} (h : IsT (blank2 a b w) t v) (ha : a < w.heap.size) (hb : b < w.heap.size) : IsT w t v :=
  h.cells (by rw [blank2_size]; exact Nat.le_refl _) (fun x u hx => (blank2_cell ha hb hx).2.2)
theorem Bt.kept {w w' : World} {row : Option Nat} {g : Nat} {k : Int} {neg : Bool} {sl : Value} {S : ByteArray} {N : Int} {sk : Value} (h : Bt w g k neg sl S N sk) (hg : w.grownBy w' row) (hr : ∀ r, row = some r → ∃ o, w.heap[r]? = some o ∧ o.isCells = false) : Bt w' g k neg sl S N sk := by
  refine ⟨?_, h.2⟩
  rw [hg.block g h.lt (fun e => ?_)]
  · exact h.1
  · obtain ⟨o, h1, h2⟩ := hr g e.symm
    rw [h.1] at h1
    cases h1
    cases h2
theorem LsI.own {w : World} {t : Tm} {sv : Value} {gT gR Bn : Nat} {pre : List (El w)} {W W' : World} {row : Option Nat} (h : LsI w t sv gT gR Bn pre W) (hg : W.grownBy W' row) (hr : ∀ r, row = some r → w.heap.size ≤ r ∧ ∃ o, W.heap[r]? = some o ∧ o.isCells = false) : LsI w t sv gT gR Bn pre W' := by
  obtain ⟨⟨k, n, sl, S, N, sk, hT, hI⟩, hR, hB, hbl, hs⟩ := h
  have hr2 : ∀ r, row = some r → ∃ o, W.heap[r]? = some o ∧ o.isCells = false := fun r e => (hr r e).2
  refine ⟨⟨k, n, sl, S, N, sk, hT.kept hg hr2, ?_⟩, hR.kept hg hr2, ?_, ?_, Nat.le_trans hs hg.size⟩
  · refine hI.b2cells hT.lt hR.lt hg.size (fun a u _ _ ha => ?_)
    have hlt := World.block_lt_of_cell? W a ha
    rw [World.cell?_of_block (w := W) (hg.block a.block hlt (fun e => ?_))]
    · exact ha
    · obtain ⟨o, h1, h2⟩ := hr2 _ e.symm
      unfold World.cell? at ha
      rw [h1] at ha
      cases o <;> simp [Obj.isCells] at h2 <;> simp at ha
  · rw [hg.block _ (Array.getElem?_eq_some_iff.1 hB).1 (fun e => ?_)]
    · exact hB
    · obtain ⟨o, h1, h2⟩ := hr2 _ e.symm
      rw [hB] at h1
      cases h1
      cases h2
  · exact ⟨hg.os.trans hbl.os, hg.tape.trans hbl.tape, hg.output.trans hbl.output, Nat.le_trans hbl.size hg.size, fun i hi => (hg.block i (Nat.lt_of_lt_of_le hi hbl.size) (fun e => by have := (hr i e.symm).1; omega)).trans (hbl.block i hi)⟩

theorem setBt_past {w : World} {b : Nat} (hb : b < w.heap.size) (o : Obj) (k : Int) (n : Bool) (sl : Value) (S : ByteArray) (N : Int) (sk : Value) : setBt (w.alloc o) b k n sl S N sk = (setBt w b k n sl S N sk).alloc o := by
  simp [setBt, World.setCell_alloc_past, hb]
/-- One round. -/
theorem LsI.step {w : World} {t : Tm} {sv : Value} {gT gR Bn : Nat} {pre : List (El w)} {W : World} (x : El w) {c0 c1 c2 c3 c4 c5 : Value} (hx : x.v = .agg #[c0, c1, c2, c3, c4, c5]) {k : Int} {n : Bool} {sl : Value} {S : ByteArray} {N : Int} {sk : Value}
    (hT : Bt W gT k n sl S N sk) (hI : IsT (blank2 gT gR W) (curT t pre) (tmV k n sl S N sk)) (hR : Bt W gR 0 false (.slice none 0 0) ⟨#[]⟩ 0 (.slice none 0 0)) (hB : W.heap[Bn]? = some (.cells #[sv] 27 (0, 0))) (hbl : Below w.heap.size w W) (hs : Bn + 1 ≤ W.heap.size) (h1 : w.heap.size ≤ gT) (h1' : w.heap.size ≤ gR) (h2 : gT ≠ gR) (h3 : gT ≠ Bn) :
    LsI w t sv gT gR Bn (pre ++ [x]) ((setBt W gT 4 false (.slice none 0 0) ⟨#[]⟩ 0 (.slice (some ⟨W.heap.size, 0, none⟩) 2 2)).alloc (.cells #[c0, c1, c2, c3, c4, c5, .int .i64 k, .bool n, sl, .string S, .int .i64 N, sk] 29)) := by
  have hlt := hT.lt
  have b1 := (Below.refl W.heap.size W).alloc (Nat.le_refl _) (.cells #[c0, c1, c2, c3, c4, c5, .int .i64 k, .bool n, sl, .string S, .int .i64 N, sk] 29)
  have bt := setBt_but (W.alloc (.cells #[c0, c1, c2, c3, c4, c5, .int .i64 k, .bool n, sl, .string S, .int .i64 N, sk] 29)) gT 4 false (.slice none 0 0) ⟨#[]⟩ 0 (.slice (some ⟨W.heap.size, 0, none⟩) 2 2)
  rw [← setBt_past hlt]
  have hbW : Below w.heap.size w (W.alloc (.cells #[c0, c1, c2, c3, c4, c5, .int .i64 k, .bool n, sl, .string S, .int .i64 N, sk] 29)) := hbl.alloc hbl.size _
  refine ⟨⟨_, _, _, _, _, _, (hT.under b1).set 4 false (.slice none 0 0) ⟨#[]⟩ 0 (.slice (some ⟨W.heap.size, 0, none⟩) 2 2) ⟨_, _, _, rfl⟩ ⟨_, _, _, rfl⟩, ?_⟩, (hR.under b1).other bt h2.symm, ?_, hbW.trans (bt.below h1), ?_⟩
  · have hRl := hR.lt
    refine IsT.b2cells (w := W.alloc (.cells #[c0, c1, c2, c3, c4, c5, .int .i64 k, .bool n, sl, .string S, .int .i64 N, sk] 29)) ?_ (by simp; omega) (by simp; omega) (Nat.le_of_eq bt.size.symm) (fun x u hx1 hx2 hx => by rw [World.cell?_of_block (w := W.alloc (.cells #[c0, c1, c2, c3, c4, c5, .int .i64 k, .bool n, sl, .string S, .int .i64 N, sk] 29)) (bt.block _ hx1)]; exact hx)
    have hh : (blank2 gT gR (W.alloc (.cells #[c0, c1, c2, c3, c4, c5, .int .i64 k, .bool n, sl, .string S, .int .i64 N, sk] 29))).heap[W.heap.size]? = some (.cells #[c0, c1, c2, c3, c4, c5, .int .i64 k, .bool n, sl, .string S, .int .i64 N, sk] 29 (0, 0)) := by
      rw [blank2_other (by omega) (by omega)]; exact heap_alloc_new W _
    have hx1 := x.h
    rw [hx] at hx1
    rw [curT_snoc]
    exact IsT.shut (by omega) (by omega) (by decide) (Sl.nil _) (Ts.lit2 hh (hx1.toB2 hbW h1 h1') (hI.b2cells hlt hRl b1.size (fun x u _ _ hx => (b1.cell (World.block_lt_of_cell? W x hx)).trans hx)))
  · rw [bt.block Bn h3.symm, b1.block Bn (by omega)]; exact hB
  · rw [bt.size]; simp; omega

theorem setBt_others (w : World) (b : Nat) (k : Int) (n : Bool) (sl : Value) (S : ByteArray) (N : Int) (sk : Value) : KeepsOthers w (setBt w b k n sl S N sk) :=
  (((((KeepsOthers.setCell _ _ _).trans (KeepsOthers.setCell _ _ _)).trans (KeepsOthers.setCell _ _ _)).trans (KeepsOthers.setCell _ _ _)).trans (KeepsOthers.setCell _ _ _)).trans (KeepsOthers.setCell _ _ _)

def ListPost (w : World) (t : Tm) (e : Ending) (w' : World) : Prop := ∃ v, e = .returned v ∧ IsT w' t v ∧ Below w.heap.size w w'

set_option maxRecDepth 100000 in
set_option maxHeartbeats 4000000 in
theorem list_any (sv tv : Value) (K : List Tm) (t : Tm) (w : World) (hS : Ts w sv K) (ht : IsT w t tv) : Calls Tryd.prog 133 #[sv, tv] w fun e w' => ListPost w (listT K t) e w' := by
  have ht0 := ht
  obtain ⟨sl, sk, rfl, hl, hk, -, -, -⟩ := ht.open
  obtain ⟨pl, cl, rfl⟩ := hl.shape
  obtain ⟨pk, ck, rfl, -⟩ := hk.shape
  obtain ⟨pv, nv, cv, rfl⟩ := hS.isS
  clear hl hk ht
  refine (callsIn_wide (n := 4)).1 ?_
  refine callsIn_of_wp_marks Tryd.func133 rfl trivial ?_ rfl
  simp only [Tryd.ntmps133, List.size_toArray, List.length_cons, List.length_nil, Nat.reduceAdd, Nat.reduceSub, Array.replicate_succ, Array.replicate_zero, List.push_toArray, List.append_toArray, List.nil_append, List.cons_append]
  simp only [tmV] at *
  gi_wp2_with fail
  refine ⟨trivial, ?_⟩
  refine (callsIn_wide.2 (back_any _ _ ⟨_, _, _, rfl⟩)).mono ?_
  rintro ed wB ⟨rfl, hwB⟩
  have hB0 : Below w.heap.size w wB := by
    rw [hwB]
    exact (((Below.refl w.heap.size w).alloc (Nat.le_refl _) _).alloc (by simp) _).alloc (by simp; omega) _
  have uT : Bt wB w.heap.size t.kind t.neg (.slice pl t.limbs.length cl) t.str t.num (.slice pk t.kids.length ck) := by
    rw [hwB]
    exact (Bt.new w t.kind t.neg (.slice pl t.limbs.length cl) t.str t.num (.slice pk t.kids.length ck) ⟨_, _, _, rfl⟩ ⟨_, _, _, rfl⟩).under (((Below.refl _ _).alloc (Nat.le_refl _) _).alloc (by simp) _)
  have uR : Bt wB (w.heap.size + 1) 0 false (.slice none 0 0) ⟨#[]⟩ 0 (.slice none 0 0) := by
    rw [hwB]
    have := (Bt.new (w.alloc (.cells #[.int .i64 t.kind, .bool t.neg, .slice pl t.limbs.length cl, .string t.str, .int .i64 t.num, .slice pk t.kids.length ck] 29)) 0 false (.slice none 0 0) ⟨#[]⟩ 0 (.slice none 0 0) ⟨_, _, _, rfl⟩ ⟨_, _, _, rfl⟩).under ((Below.refl _ _).alloc (Nat.le_refl _) (.cells #[.slice pv nv cv] 27))
    rwa [World.size_alloc] at this
  have hbn : wB.heap[w.heap.size + 1 + 1]? = some (.cells #[.slice pv nv cv] 27 (0, 0)) := by
    rw [hwB]
    have := heap_alloc_new ((w.alloc (.cells #[.int .i64 t.kind, .bool t.neg, .slice pl t.limbs.length cl, .string t.str, .int .i64 t.num, .slice pk t.kids.length ck] 29)).alloc (.cells #[.int .i64 0, .bool false, .slice none 0 0, .string ⟨#[]⟩, .int .i64 0, .slice none 0 0] 29)) (.cells #[.slice pv nv cv] 27)
    rwa [World.size_alloc, World.size_alloc] at this
  have hsB : wB.heap.size = w.heap.size + 1 + 1 + 1 := by rw [hwB]; simp
  rw [World.size_alloc, World.size_alloc]
  clear hwB
  have hst : LsI w t (.slice pv nv cv) w.heap.size (w.heap.size + 1) (w.heap.size + 1 + 1) [] wB := ⟨⟨_, _, _, _, _, _, uT, ht0.toB2 hB0 (Nat.le_refl _) (by omega)⟩, uR, hbn, hB0, by omega⟩
  clear uT uR
  gi_wp2_with fail
  refine wpIn_rangeFunc_ownH (α := El w) rfl (by omega) (gf := 119) (lb := #[.pointer (some ⟨w.heap.size + 1 + 1, 0, none⟩)]) rfl trivial (enters_of Tryd.func119 (by kernel_rfl) rfl)
    (back_stops Fence.wide 3 trivial rfl (by omega) (w.heap.size + 1 + 1) _ K w wB hS hB0 (by omega) (cell_of_row wB (w.heap.size + 1 + 1) 0 _ _ _ hbn)) KpB.trans
    (fun W l o o' hl h1 h2 h3 => ⟨belowK_b (w := wB) (by omega) W l o o' hl h1 h2 h3, World.putObj_heap_other (by omega)⟩) (Below.refl _ _) (fun _ => rfl)
    (fun pre W => LsI w t (.slice pv nv cv) w.heap.size (w.heap.size + 1) (w.heap.size + 1 + 1) pre W)
    (fun _ _ _ => False) ?hI (fun _ _ _ _ _ h _ _ => h) hst
    (fun x a' W => ∃ bt c0 c1 c2 c3 c4 c5, x.v = .agg #[c0, c1, c2, c3, c4, c5] ∧ a' = { tmps := #[.slice pv nv cv, .agg #[.int .i64 t.kind, .bool t.neg, .slice pl t.limbs.length cl, .string t.str, .int .i64 t.num, .slice pk t.kids.length ck], undef, .pointer (some ⟨w.heap.size, 0, none⟩), .pointer (some ⟨w.heap.size + 1, 0, none⟩), undef, .pointer (some ⟨bt, 0, none⟩), .slice pv nv cv, .func (.func 119) #[] #[.pointer (some ⟨w.heap.size + 1 + 1, 0, none⟩)], .int .i64 (x.i : Int), x.v, undef, undef, undef, undef, undef], defers := [] } ∧ W.heap[bt]? = some (.cells #[c0, c1, c2, c3, c4, c5] 29 (0, 0)) ∧ wB.heap.size ≤ bt)
    ?hAx ?assign ?body ?done ?stop
  case hI =>
    rintro pre W W' row hI hg hr
    exact hI.own hg (fun r e => ⟨by have := (hr r e).1; omega, (hr r e).2⟩)
  case hAx =>
    rintro x a' - W W' row ⟨bt, c0, c1, c2, c3, c4, c5, hx, ha, hbt, hle⟩ hg hr
    refine ⟨bt, c0, c1, c2, c3, c4, c5, hx, ha, ?_, hle⟩
    rw [hg.block _ (Array.getElem?_eq_some_iff.1 hbt).1 (cells_not (r := 0) (fun r e => (hr r e).2) hbt)]; exact hbt
  case assign =>
    rintro l pre ⟨i, v, u, hx⟩ W K' hI hK
    obtain ⟨sl2, sk2, rfl, hxl, hxk, -, -, -⟩ := hx.open
    obtain ⟨pl2, cl2, rfl⟩ := hxl.shape
    obtain ⟨pk2, ck2, rfl, -⟩ := hxk.shape
    have HKX : Hid _ := hK
    clear hK
    dsimp only [tmV]
    gi_wp2
    have hsz := hI.2.2.2.2
    have hws := hI.2.2.2.1.size
    refine HKX.out _ _ ((KeepsOthers.alloc _ _).from _) ⟨(Below.refl _ W).alloc (by omega) _, Below.heap_alloc _ _ _ (by omega)⟩ (hI.own (World.grownBy_alloc W _ none) (fun r e => by cases e)) ⟨W.heap.size, _, _, _, _, _, _, rfl, rfl, heap_alloc_new W _, by omega⟩
  case body =>
    rintro l pre ⟨i, v, u, hx⟩ a' W hll ⟨r, hr⟩ ⟨⟨k, n, sl, S, N, sk, hT, hI⟩, hR, hBn, hbl, hsz⟩ ⟨bt, c0, c1, c2, c3, c4, c5, hv, rfl, hbt, hle⟩ hlt
    dsimp only at hv ⊢
    subst hv
    obtain ⟨sl2, sk2, hve, hxl, hxk, -, -, -⟩ := hx.open
    obtain ⟨pl2, cl2, rfl⟩ := hxl.shape
    obtain ⟨pk2, ck2, rfl, -⟩ := hxk.shape
    simp only [tmV, Value.agg.injEq, List.toArray_inj, List.cons.injEq, and_true] at hve
    obtain ⟨rfl, rfl, rfl, rfl, rfl, rfl⟩ := hve
    clear hxl hxk
    have HS : Hid _ := LsI.step (t := t) (sv := .slice pv nv cv) (gR := w.heap.size + 1) (Bn := w.heap.size + 1 + 1) (pre := pre) ⟨i, .agg #[.int .i64 u.kind, .bool u.neg, .slice pl2 u.limbs.length cl2, .string u.str, .int .i64 u.num, .slice pk2 u.kids.length ck2], u, hx⟩ rfl hT hI hR hBn hbl hsz (Nat.le_refl _) (by omega) (by omega) (by omega)
    have HBT : Hid (Bt W w.heap.size k n sl S N sk) := hT
    obtain ⟨⟨p1, m1, q1, e1⟩, ⟨p2, m2, q2, e2⟩⟩ := hT.2
    subst e1 e2
    obtain ⟨t0, t1, t2, t3, t4, t5⟩ := hT.cells
    obtain ⟨f0, f1, f2, f3, f4, f5⟩ := hT.froz
    have hTl := hT.lt
    have uH : Bt W bt u.kind u.neg (.slice pl2 u.limbs.length cl2) u.str u.num (.slice pk2 u.kids.length ck2) := ⟨hbt, ⟨_, _, _, rfl⟩, ⟨_, _, _, rfl⟩⟩
    obtain ⟨h0, h1, h2, h3, h4, h5⟩ := uH.cells
    have hws := hbl.size
    have HNE : Hid (bt ≠ w.heap.size) := by show bt ≠ w.heap.size; omega
    clear hT hI hR hr uH hbt
    gi_wp2
    have hbu := setBt_but W w.heap.size 4 false (.slice none 0 0) ⟨#[]⟩ 0 (.slice (some ⟨W.heap.size, 0, none⟩) 2 2)
    refine ⟨((setBt_others W w.heap.size 4 false (.slice none 0 0) ⟨#[]⟩ 0 (.slice (some ⟨W.heap.size, 0, none⟩) 2 2)).trans (KeepsOthers.alloc _ _)).from _, ⟨?_, ?_⟩, HS.out⟩
    · exact (hbu.below (Nat.le_refl _)).alloc (by rw [show (setBt W w.heap.size 4 false (.slice none 0 0) ⟨#[]⟩ 0 (.slice (some ⟨W.heap.size, 0, none⟩) 2 2)).heap.size = W.heap.size from hbu.size]; omega) _
    · have hsb := hbu.size
      exact (Below.heap_alloc (setBt W w.heap.size 4 false (.slice none 0 0) ⟨#[]⟩ 0 (.slice (some ⟨W.heap.size, 0, none⟩) 2 2)) _ _ (by omega)).trans (hbu.block _ (by omega))
  case done =>
    rintro D xs W hD ⟨hcm, hxl⟩ ⟨⟨k, n, sl, S, N, sk, hT, hI⟩, hR, hBn, hbl, hsz⟩ hDD
    have HI2 : Hid (IsT (blank2 w.heap.size (w.heap.size + 1) W) (listT K t) (tmV k n sl S N sk)) := by rw [← curT_all hcm hxl]; exact hI
    obtain ⟨⟨p1, m1, q1, e1⟩, ⟨p2, m2, q2, e2⟩⟩ := hT.2
    subst e1 e2
    obtain ⟨t0, t1, t2, t3, t4, t5⟩ := hT.cells
    obtain ⟨r0, r1, r2, r3, r4, r5⟩ := hR.cells
    obtain ⟨f0, f1, f2, f3, f4, f5⟩ := hR.froz
    have hTl := hT.lt
    have hRl := hR.lt
    clear hI
    gi_wp2_with fail
    have hbu := setBt_but W (w.heap.size + 1) k n (.slice p1 m1 q1) S N (.slice p2 m2 q2)
    have hD2 := (setBt_others W (w.heap.size + 1) k n (.slice p1 m1 q1) S N (.slice p2 m2 q2)).same D _ hDD rfl
    have hB2 := hR.set k n (.slice p1 m1 q1) S N (.slice p2 m2 q2) ⟨_, _, _, rfl⟩ ⟨_, _, _, rfl⟩
    have hgp := grownBy_putObj' (setBt W (w.heap.size + 1) k n (.slice p1 m1 q1) S N (.slice p2 m2 q2)) D (.deferred none)
    have i2 : IsT (setBt W (w.heap.size + 1) k n (.slice p1 m1 q1) S N (.slice p2 m2 q2)) (listT K t) (tmV k n (.slice p1 m1 q1) S N (.slice p2 m2 q2)) :=
      (HI2.out.b2cells hTl hRl (Nat.le_of_eq hbu.size.symm) (fun x u _ h2 hx => by rw [World.cell?_of_block (w := W) (hbu.block _ h2)]; exact hx)).unB2 (by rw [hbu.size]; exact hTl) (by rw [hbu.size]; exact hRl)
    refine ⟨by simp, .inl ⟨_, _, rfl, run_takeDeferred hD2, ?_⟩⟩
    refine ⟨_, results_bt1 rfl _ _ (w.heap.size + 1) k n (.slice p1 m1 q1) S N (.slice p2 m2 q2) rfl (hB2.kept hgp (fun r e => by cases e; exact ⟨_, hD2, rfl⟩)), ?_⟩
    refine ⟨_, rfl, i2.cells hgp.size (fun x u hx => ?_), ?_⟩
    · have hlt := World.block_lt_of_cell? _ x hx
      refine (World.cell?_of_block (w := setBt W (w.heap.size + 1) k n (.slice p1 m1 q1) S N (.slice p2 m2 q2)) (hgp.block x.block hlt (fun e => ?_))).trans hx
      · injection e with e
        unfold World.cell? at hx
        rw [e, hD2] at hx
        simp at hx
    · refine (hbl.trans (hbu.below (by omega))).trans ⟨hgp.os, hgp.tape, hgp.output, hgp.size, fun i hi => hgp.block i (by rw [hbu.size]; omega) (fun e => by injection e with e; omega)⟩
  case stop =>
    rintro D c pre W _ _ h _
    exact h.elim
end Go.Proofs.YtbmondbicnfcpaaDoor
