
/-
  The law TermLists: for every slice of terms and every int it returns true.
-/
import Derived.Test.YtfcdocgjmgpmkaaDoorTermListsM
import Derived.Test.YtfcdocgjmgpmkaaDoorTermItems
import Derived.Test.YtfcdocgjmgpmkaaDoorTermCmpS
import Derived.Test.YtfcdocgjmgpmkaaDoorTermAwake
import Derived.Test.YtfcdocgjmgpmkaaDoorPlaceA
import Derived.Deep.RegionHeld3
namespace Go.Proofs.YtfcdocgjmgpmkaaDoor
open Go.RowKit
set_option linter.unusedVariables false
set_option linter.unusedSimpArgs false
attribute [local go_sem ↓] Go.wp_at_zero Go.wp_at_succ

theorem bounds_of {K : List Tm} {i : Nat} (h : lightL (K.take i)) (hn : nodesL (K.take i) ≤ 50 * i) (hi : i ≤ 60) : 0 ≤ sumN (K.take i) ∧ sumN (K.take i) ≤ 4000 ∧ 0 ≤ sumW (K.take i) ∧ sumW (K.take i) ≤ 400000 := by
  have h1 := wordsL_light _ h
  have h2 : (K.take i).length ≤ i := by simp; omega
  unfold sumN sumW
  omega
theorem nodes_step {K : List Tm} {i : Nat} (hn : nodesL (K.take i) ≤ 50 * i) (hi : i < K.length) (hx : K[i].nodes ≤ 50) : nodesL (K.take (i + 1)) ≤ 50 * (i + 1) := by
  have := take_nodesL K i hi
  omega
def C6L (w : World) (g off : Nat) (c0 c1 c2 c3 c4 c5 : Value) : Prop := w.cell? ⟨g, off, none⟩ = some c0 ∧ w.cell? ⟨g, off + 1, none⟩ = some c1 ∧ w.cell? ⟨g, off + 2, none⟩ = some c2 ∧ w.cell? ⟨g, off + 3, none⟩ = some c3 ∧ w.cell? ⟨g, off + 4, none⟩ = some c4 ∧ w.cell? ⟨g, off + 5, none⟩ = some c5
theorem C6L.under {w w' : World} {g off : Nat} {c0 c1 c2 c3 c4 c5 : Value} (h : C6L w g off c0 c1 c2 c3 c4 c5) (hb : Below w.heap.size w w') : C6L w' g off c0 c1 c2 c3 c4 c5 := by
  obtain ⟨h0, h1, h2, h3, h4, h5⟩ := h
  have hl := World.block_lt_of_cell? w _ h0
  exact ⟨(hb.cell (p := ⟨g, off, none⟩) hl).trans h0, (hb.cell (p := ⟨g, off + 1, none⟩) hl).trans h1, (hb.cell (p := ⟨g, off + 2, none⟩) hl).trans h2, (hb.cell (p := ⟨g, off + 3, none⟩) hl).trans h3, (hb.cell (p := ⟨g, off + 4, none⟩) hl).trans h4, (hb.cell (p := ⟨g, off + 5, none⟩) hl).trans h5⟩
theorem tup_is (W : World) : IsT W (tupT []) (.agg #[.int .i64 5, .bool false, .slice none 0 0, .string ⟨#[]⟩, .int .i64 0, .slice none 0 0]) :=
  IsT.shut (by omega) (by omega) (by decide) (Sl.nil W) (Ts.nil W)
theorem items_nil (K : List Tm) (v : Value) (w : World) (h : IsT w (listT K tmNil) v) (hK : K.length ≤ 60) : Calls Tryd.prog 16 #[v] w fun e w' => ∃ s, e = .returned (.tuple #[s, .bool true]) ∧ Below w.heap.size w w' ∧ Ts w' s K :=
  (items_any K tmNil v w h hK (Or.inl rfl)).mono (fun e w' ⟨s, h1, h2, h3, _⟩ => ⟨s, h1, h2, h3 rfl⟩)
theorem items_tup (K : List Tm) (v : Value) (w : World) (h : IsT w (listT K (tupT [])) v) (hK : K.length ≤ 60) : Calls Tryd.prog 16 #[v] w fun e w' => ∃ s, e = .returned (.tuple #[s, .bool false]) ∧ Below w.heap.size w w' ∧ IsS s :=
  (items_any K (tupT []) v w h hK (Or.inr rfl)).mono (fun e w' ⟨s, h1, h2, _, h4⟩ => ⟨s, h1, h2, h4⟩)
/-- The first loop's state. -/
def L1St (w : World) (K : List Tm) (q : Nat) (sn sw si : Value) (wr : World) : Prop :=
  ∃ (i : Nat) (na wa : Int), i + q = K.length ∧ sn = .int .i64 na ∧ sw = .int .i64 wa ∧ si = .int .i64 (i : Int) ∧ na = 1 + sumN (K.take i) ∧ wa = sumW (K.take i) ∧ lightL (K.take i) ∧ nodesL (K.take i) ≤ 50 * i ∧ Below w.heap.size w wr

set_option maxRecDepth 100000 in
set_option maxHeartbeats 8000000 in
theorem termLists_walk (vl : Value) (K : List Tm) (n : Int) (w : World) (hk : Ts w vl K) (hn0 : -9223372036854775808 ≤ n) (hn1 : n ≤ 9223372036854775807) :
    Calls Tryd.prog 4 #[vl, .int .i64 n] w fun e w' => e = .returned (.bool true) ∧ Below w.heap.size w w' := by
  obtain ⟨pa, ca, rfl, hca1, hca2, -⟩ := hk.shape
  by_cases hK : K.length ≤ 60
  · have hK' : ¬ ((60 : Int) < (K.length : Int)) := by omega
    have HST : Hid (L1St w K K.length (.int .i64 1) (.int .i64 0) (.int .i64 0) w) := ⟨0, 1, 0, by omega, rfl, rfl, rfl, by simp [sumN, nodesL], by simp [sumW, sumL], by simp [lightL], by simp [nodesL], Below.refl _ _⟩
    go_enter Tryd.func4, Tryd.ntmps4
    go_wp2_with fail
    have hst := HST.out
    clear HST
    go_loopg [5, 6, 7] K.length (fun q sn sw si wr => L1St w K q sn sw si wr)
    case atStart => exact hst
    case round =>
      clear hst
      obtain ⟨i, na, wa, hiq, rfl, rfl, rfl, hna, hwa, hli, hno, hB⟩ := hrel
      have HLI : Hid (lightL (K.take i)) := hli
      have HNA : Hid (na = 1 + sumN (K.take i)) := hna
      have HWA : Hid (wa = sumW (K.take i)) := hwa
      have bnd := bounds_of hli hno (by omega : i ≤ 60)
      have hna0 : 0 ≤ na ∧ na ≤ 100000 := by omega
      have hwa0 : 0 ≤ wa ∧ wa ≤ 1000000 := by omega
      clear hna hwa hli bnd
      cases gk with
      | succ q =>
        have hik : i < K.length := by omega
        have hiki : (i : Int) < (K.length : Int) := by omega
        have hkr := hk.under hB
        obtain ⟨bb, off, vx, rfl, hlt, h6, hx⟩ := hk.at i hik
        obtain ⟨slx, skx, evx, hlx, hkx, -⟩ := hx.open
        obtain ⟨px, cx, rfl⟩ := hlx.shape
        obtain ⟨pk, ck, rfl, -⟩ := hkx.shape
        rw [evx] at h6 hx
        simp only [tmV] at h6 hx
        have HX : Hid (IsT w K[i] (.agg #[.int .i64 K[i].kind, .bool K[i].neg, .slice px K[i].limbs.length cx, .string K[i].str, .int .i64 K[i].num, .slice pk K[i].kids.length ck])) := hx
        have H6 : Hid (At6 w bb (off + i * 6) (.agg #[.int .i64 K[i].kind, .bool K[i].neg, .slice px K[i].limbs.length cx, .string K[i].str, .int .i64 K[i].num, .slice pk K[i].kids.length ck])) := h6
        clear hx h6 evx hlx hkx hkr
        obtain ⟨c0, c1, c2, c3, c4, c5, hv, x0, x1, x2, x3, x4, x5⟩ := H6.out.below hB hlt
        simp only [Value.agg.injEq, List.toArray_inj, List.cons.injEq, and_true] at hv
        obtain ⟨rfl, rfl, rfl, rfl, rfl, rfl⟩ := hv
        go_wp2_with fail
        refine (lightB_any K[i] _ _ 50 (HX.out.under hB) (by omega) (by omega)).mono ?_
        rintro e w1 ⟨q1, rfl, bw1, hq1⟩
        replace hB := hB.trans (bw1.mono hB.size)
        clear x0 x1 x2 x3 x4 x5 bw1
        obtain ⟨c0, c1, c2, c3, c4, c5, hv, x0, x1, x2, x3, x4, x5⟩ := H6.out.below hB hlt
        simp only [Value.agg.injEq, List.toArray_inj, List.cons.injEq, and_true] at hv
        obtain ⟨rfl, rfl, rfl, rfl, rfl, rfl⟩ := hv
        cases q1 with
        | false =>
          go_wp2_with fail
          refine (tawake_any _).mono ?_
          rintro e x9 ⟨rfl, b9⟩
          go_wp2_with fail
          go_ret
          exact ⟨rfl, hB.trans (b9.mono hB.size)⟩
        | true =>
          obtain ⟨hl1, hl2⟩ := hq1 (by trivial)
          have hw1 := words_light _ hl1
          have HL1 : Hid (K[i].light) := hl1
          clear hl1 hq1
          go_wp2_with fail
          refine (nodes_any K[i] _ _ (HX.out.under hB) (by omega)).mono ?_
          rintro e w2 ⟨rfl, bw2⟩
          replace hB := hB.trans (bw2.mono hB.size)
          clear x0 x1 x2 x3 x4 x5 bw2
          obtain ⟨c0, c1, c2, c3, c4, c5, hv, x0, x1, x2, x3, x4, x5⟩ := H6.out.below hB hlt
          simp only [Value.agg.injEq, List.toArray_inj, List.cons.injEq, and_true] at hv
          obtain ⟨rfl, rfl, rfl, rfl, rfl, rfl⟩ := hv
          obtain ⟨wi, hwi⟩ : ∃ wi, K[i].words = wi := ⟨_, rfl⟩
          have HWI : Hid (K[i].words = wi) := hwi
          rw [hwi] at hw1
          clear hwi
          obtain ⟨ni, hni⟩ : ∃ ni : Int, (K[i].nodes : Int) = ni := ⟨_, rfl⟩
          have HNI : Hid ((K[i].nodes : Int) = ni) := hni
          have hni0 : 0 ≤ ni ∧ ni ≤ 50 := by omega
          rw [hni] at hw1 ⊢
          clear hni hl2
          go_wp2_with fail
          refine (words_any K[i] _ _ (HX.out.under hB) (by have := HNI.out; omega) (by rw [HWI.out]; omega)).mono ?_
          rw [HWI.out]
          rintro e w3 ⟨rfl, bw3⟩
          replace hB := hB.trans (bw3.mono hB.size)
          clear x0 x1 x2 x3 x4 x5 bw3
          obtain ⟨c0, c1, c2, c3, c4, c5, hv, x0, x1, x2, x3, x4, x5⟩ := H6.out.below hB hlt
          simp only [Value.agg.injEq, List.toArray_inj, List.cons.injEq, and_true] at hv
          obtain ⟨rfl, rfl, rfl, rfl, rfl, rfl⟩ := hv
          clear x0 x1 x2 x3 x4 x5
          go_wp2_with fail
          go_roundg q
          case measure => omega
          case rel => exact ⟨i + 1, na + 1 + ni, wa + 2 + wi, by omega, by go_num, by go_num, by go_num, by rw [sumN_take K i hik, HNA.out, HNI.out]; omega, by rw [sumW_take K i hik, HWA.out, HWI.out], take_light HLI.out hik HL1.out, nodes_step hno hik (by have := HNI.out; omega), hB⟩
      | zero =>
        obtain rfl : i = K.length := by omega
        obtain ⟨T, hT⟩ : ∃ T, T = listT K tmNil := ⟨_, rfl⟩
        have HT : Hid (T = listT K tmNil) := hT
        have HN : Hid ((T.nodes : Int) = na) := by
          show _ = na
          have := HNA.out
          rw [List.take_length] at this
          rw [hT, list_nodesK, this]
          have : tmNil.nodes = 1 := by simp [tmNil, Tm.nodes_mk, nodesL]
          omega
        have HW : Hid (T.words = wa) := by
          show _ = wa
          have := HWA.out
          rw [List.take_length] at this
          rw [hT, list_wordsK, this]
          have : tmNil.words = 0 := by simp [tmNil, Tm.words, Tm.sum_mk, sumL, ownW, Tm.kind]
          omega
        clear HNA HWA HLI hT hno
        go_wp2_with fail
        refine (list_any _ _ K tmNil _ (hk.under hB) (nil_is _)).mono ?_
        rintro e w1 ⟨v1, rfl, i1, bw1⟩
        rw [← HT.out] at i1
        have hB1 := hB.trans (bw1.mono hB.size)
        have I1 : Hid (IsT w1 T v1) := i1
        obtain ⟨sl1, sk1, rfl, hl1, hk1, -⟩ := i1.open
        obtain ⟨p1, c1, rfl⟩ := hl1.shape
        obtain ⟨p2, c2, rfl, -⟩ := hk1.shape
        simp only [tmV] at I1 ⊢
        clear hB bw1 i1 hl1 hk1
        go_wp2_with fail
        have uT : Bt (w1.alloc (.cells #[.int .i64 T.kind, .bool T.neg, .slice p1 T.limbs.length c1, .string T.str, .int .i64 T.num, .slice p2 T.kids.length c2] 27)) w1.heap.size T.kind T.neg (.slice p1 T.limbs.length c1) T.str T.num (.slice p2 T.kids.length c2) := Bt.new w1 T.kind T.neg (.slice p1 T.limbs.length c1) T.str T.num (.slice p2 T.kids.length c2) ⟨_, _, _, rfl⟩ ⟨_, _, _, rfl⟩
        have bA := (Below.refl w1.heap.size w1).alloc (Nat.le_refl _) (.cells #[.int .i64 T.kind, .bool T.neg, .slice p1 T.limbs.length c1, .string T.str, .int .i64 T.num, .slice p2 T.kids.length c2] 27)
        have iT := I1.out.under bA
        have hB2 := hB1.trans (bA.mono hB1.size)
        clear bA hB1 I1
        generalize w1.alloc (.cells #[.int .i64 T.kind, .bool T.neg, .slice p1 T.limbs.length c1, .string T.str, .int .i64 T.num, .slice p2 T.kids.length c2] 27) = w2 at *
        generalize w1.heap.size = gT at *
        refine (items_nil K _ _ (by rw [← HT.out]; exact iT) hK).mono ?_
        rintro e w3 ⟨s, rfl, bw3, hts⟩
        replace uT := uT.under bw3
        replace iT := iT.under bw3
        replace hB2 := hB2.trans (bw3.mono hB2.size)
        obtain ⟨pm, cm, rfl, -⟩ := hts.shape
        have HM : Hid (Ts w3 (.slice pm K.length cm) K) := hts
        clear hts bw3
        obtain ⟨t0, t1, t2, t3, t4, t5⟩ := uT.cells
        go_wp2_with fail
        refine (nodes_any T _ _ iT (by have := HN.out; omega)).mono ?_
        rw [HN.out]
        rintro e w4 ⟨rfl, bw4⟩
        replace uT := uT.under bw4
        replace iT := iT.under bw4
        replace hB2 := hB2.trans (bw4.mono hB2.size)
        have HM4 : Hid (Ts w4 (.slice pm K.length cm) K) := HM.out.under bw4
        clear HM bw4 t0 t1 t2 t3 t4 t5
        obtain ⟨t0, t1, t2, t3, t4, t5⟩ := uT.cells
        go_wp2_with fail
        refine (words_any T _ _ iT (by have := HN.out; omega) (by rw [HW.out]; omega)).mono ?_
        rw [HW.out]
        rintro e w5 ⟨rfl, bw5⟩
        replace hB2 := hB2.trans (bw5.mono hB2.size)
        have HM5 : Hid (Ts w5 (.slice pm K.length cm) K) := HM4.out.under bw5
        have HK5 : Hid (Ts w5 (.slice pa K.length ca) K) := hk.under hB2
        clear HM4 bw5 t0 t1 t2 t3 t4 t5 uT iT
        go_wp2_with fail
        have hst2 : ∃ i : Nat, i + K.length = K.length ∧ Value.int .i64 0 = .int .i64 (i : Int) ∧ Below w5.heap.size w5 w5 := ⟨0, by omega, rfl, Below.refl _ _⟩
        go_loopg [11] K.length (fun q si wr => ∃ i : Nat, i + q = K.length ∧ si = .int .i64 (i : Int) ∧ Below w5.heap.size w5 wr)
        case atStart => exact hst2
        case round =>
          clear hst2
          obtain ⟨i, hiq, rfl, hB⟩ := hrel
          cases gk with
          | zero =>
            obtain rfl : i = K.length := by omega
            have hB6 := hB2.trans (hB.mono hB2.size)
            clear hB
            go_wp2_with fail
            refine (list_any _ _ K (tupT []) _ (hk.under hB6) (tup_is _)).mono ?_
            rintro e w7 ⟨v7, rfl, i7, bw7⟩
            have hB7 := hB6.trans (bw7.mono hB6.size)
            have I7 : Hid (IsT w7 (listT K (tupT [])) v7) := i7
            obtain ⟨sl7, sk7, rfl, hl7, hk7, -⟩ := i7.open
            obtain ⟨p7, c7, rfl⟩ := hl7.shape
            obtain ⟨q7, d7, rfl, -⟩ := hk7.shape
            clear i7 hl7 hk7 bw7 hB6
            go_wp2_with fail
            refine (items_tup K _ _ I7.out hK).mono ?_
            rintro e w8 ⟨s8, rfl, bw8, hs8⟩
            have hB8 := hB7.trans (bw8.mono hB7.size)
            obtain ⟨p8, n8, c8, rfl⟩ := hs8
            clear bw8 hB7 I7
            go_wp2_with fail
            refine (place_any n 1 _ (by decide) (by decide) hn0 hn1).mono ?_
            rintro e w9 ⟨rfl, rfl⟩
            rw [show n % 1 = 0 by omega]
            have hB := hB8
            go_wp2_with fail
            refine (tawake_any _).mono ?_
            rintro e x9 ⟨rfl, b9⟩
            go_wp2_with fail
            go_ret
            exact ⟨rfl, hB.trans (b9.mono hB.size)⟩
          | succ q =>
            have hik : i < K.length := by omega
            have hiki : (i : Int) < (K.length : Int) := by omega
            obtain ⟨b1, o1, vx, rfl, hlt1, h61, hx⟩ := HM5.out.at i hik
            obtain ⟨b2, o2, vy, rfl, hlt2, h62, hy⟩ := HK5.out.at i hik
            obtain ⟨slx, skx, evx, hlx, hkx, -⟩ := hx.open
            obtain ⟨px, cx, rfl⟩ := hlx.shape
            obtain ⟨pk, ck, rfl, -⟩ := hkx.shape
            obtain ⟨sly, sky, evy, hly, hky, -⟩ := hy.open
            obtain ⟨py, cy, rfl⟩ := hly.shape
            obtain ⟨qk, dk, rfl, -⟩ := hky.shape
            rw [evx] at h61 hx
            rw [evy] at h62 hy
            simp only [tmV] at h61 hx h62 hy
            obtain ⟨e0, e1, e2, e3, e4, e5, hv, x0, x1, x2, x3, x4, x5⟩ := h61.below hB hlt1
            simp only [Value.agg.injEq, List.toArray_inj, List.cons.injEq, and_true] at hv
            obtain ⟨rfl, rfl, rfl, rfl, rfl, rfl⟩ := hv
            obtain ⟨g0, g1, g2, g3, g4, g5, hv, y0, y1, y2, y3, y4, y5⟩ := h62.below hB hlt2
            simp only [Value.agg.injEq, List.toArray_inj, List.cons.injEq, and_true] at hv
            obtain ⟨rfl, rfl, rfl, rfl, rfl, rfl⟩ := hv
            have HX : Hid (IsT w5 K[i] (.agg #[.int .i64 K[i].kind, .bool K[i].neg, .slice px K[i].limbs.length cx, .string K[i].str, .int .i64 K[i].num, .slice pk K[i].kids.length ck])) := hx
            have HY : Hid (IsT w5 K[i] (.agg #[.int .i64 K[i].kind, .bool K[i].neg, .slice py K[i].limbs.length cy, .string K[i].str, .int .i64 K[i].num, .slice qk K[i].kids.length dk])) := hy
            have hni : K[i].nodes ≤ 1000000 := by
              have h1 := mem_nodesL K i hik
              have h2 := HN.out
              rw [HT.out, list_nodesK] at h2
              unfold sumN at h2
              omega
            have C1 : Hid (C6L wr b1 (o1 + i * 6) (.int .i64 K[i].kind) (.bool K[i].neg) (.slice px K[i].limbs.length cx) (.string K[i].str) (.int .i64 K[i].num) (.slice pk K[i].kids.length ck)) := ⟨x0, x1, x2, x3, x4, x5⟩
            have C2 : Hid (C6L wr b2 (o2 + i * 6) (.int .i64 K[i].kind) (.bool K[i].neg) (.slice py K[i].limbs.length cy) (.string K[i].str) (.int .i64 K[i].num) (.slice qk K[i].kids.length dk)) := ⟨y0, y1, y2, y3, y4, y5⟩
            clear hx hy h61 h62 evx evy hlx hly hkx hky
            go_wp2_with fail
            go_region_held3 (fun w' => (w'.cell? ⟨b1, o1 + i * 6, none⟩ = some (.int .i64 K[i].kind) ∧ w'.cell? ⟨b1, o1 + i * 6 + 1, none⟩ = some (.bool K[i].neg) ∧ w'.cell? ⟨b1, o1 + i * 6 + 2, none⟩ = some (.slice px K[i].limbs.length cx) ∧ w'.cell? ⟨b1, o1 + i * 6 + 3, none⟩ = some (.string K[i].str) ∧ w'.cell? ⟨b1, o1 + i * 6 + 4, none⟩ = some (.int .i64 K[i].num) ∧ w'.cell? ⟨b1, o1 + i * 6 + 5, none⟩ = some (.slice pk K[i].kids.length ck)) ∧ (w'.cell? ⟨b2, o2 + i * 6, none⟩ = some (.int .i64 K[i].kind) ∧ w'.cell? ⟨b2, o2 + i * 6 + 1, none⟩ = some (.bool K[i].neg) ∧ w'.cell? ⟨b2, o2 + i * 6 + 2, none⟩ = some (.slice py K[i].limbs.length cy) ∧ w'.cell? ⟨b2, o2 + i * 6 + 3, none⟩ = some (.string K[i].str) ∧ w'.cell? ⟨b2, o2 + i * 6 + 4, none⟩ = some (.int .i64 K[i].num) ∧ w'.cell? ⟨b2, o2 + i * 6 + 5, none⟩ = some (.slice qk K[i].kids.length dk)))
              (first | exact ⟨C1.out.under hcur, C2.out.under hcur⟩ | exact ⟨C1.out.under (Below.refl _ _).drew, C2.out.under (Below.refl _ _).drew⟩)
              (first | (go_at_call 11; refine (tsame_any K[i] K[i] _ _ _ (HX.out.under hB.drew) (HY.out.under hB.drew) hni).mono ?_; rw [same_self]; rintro e w6 ⟨rfl, bz⟩; have hcur : Below wr.heap.size wr w6 := (Below.refl _ _).drew.trans bz; clear bz))
            all_goals
              go_wp2_with fail
              go_roundg q
              case measure => omega
              case rel => exact ⟨i + 1, by omega, by go_num, hB.trans (hcur.mono hB.size)⟩
  · have hK' : (60 : Int) < (K.length : Int) := by omega
    have hB := Below.refl w.heap.size w
    go_enter Tryd.func4, Tryd.ntmps4
    go_wp2_with fail
    refine (tawake_any _).mono ?_
    rintro e x9 ⟨rfl, b9⟩
    go_wp2_with fail
    go_ret
    exact ⟨rfl, hB.trans (b9.mono hB.size)⟩
end Go.Proofs.YtfcdocgjmgpmkaaDoor
