/-
  The law NumInts: for every two ints it returns true.
-/
import Derived.Test.YtnfkaddjikimdaaNumIntsMath
namespace Go.Proofs.Ytnfkaddjikimdaa
open Go.RowKit
set_option linter.unusedVariables false
attribute [local go_sem ↓] Go.wp_at_zero Go.wp_at_succ

/-- The array of answers, in its block: the fourth and the fifth as they come. -/
def Arr (w : World) (g : Nat) (a b u v : Int) : Prop := w.heap[g]? = some (.cells #[.int .i64 (a + b), .int .i64 (a - b), .int .i64 (a * b), .int .i64 u, .int .i64 v, .int .i64 (bitS 6 a b), .int .i64 (bitS 7 a b), .int .i64 (bitS 8 a b)] 41 (0, 0))
theorem Arr.new (w : World) (a b u v : Int) : Arr (w.alloc (.cells #[.int .i64 (a + b), .int .i64 (a - b), .int .i64 (a * b), .int .i64 u, .int .i64 v, .int .i64 (bitS 6 a b), .int .i64 (bitS 7 a b), .int .i64 (bitS 8 a b)] 41)) w.heap.size a b u v := heap_alloc_new w _
theorem Arr.below {w w' : World} {g B : Nat} {a b u v : Int} (h : Arr w g a b u v) (hb : Below B w w') (hg : g < B) : Arr w' g a b u v := by
  unfold Arr; rw [hb.block g hg]; exact h
theorem Arr.lt {w : World} {g : Nat} {a b u v : Int} (h : Arr w g a b u v) : g < w.heap.size := (Array.getElem?_eq_some_iff.1 h).1
theorem Arr.under {w w' : World} {g : Nat} {a b u v : Int} (h : Arr w g a b u v) (hb : Below w.heap.size w w') : Arr w' g a b u v := h.below hb h.lt
theorem Arr.facts {w : World} {g : Nat} {a b u v : Int} (h : Arr w g a b u v) :
    w.cell? ⟨g, 0, none⟩ = some (.int .i64 (a + b)) ∧ w.cell? ⟨g, 1, none⟩ = some (.int .i64 (a - b)) ∧ w.cell? ⟨g, 2, none⟩ = some (.int .i64 (a * b)) ∧ w.cell? ⟨g, 3, none⟩ = some (.int .i64 u) ∧ w.cell? ⟨g, 4, none⟩ = some (.int .i64 v) ∧
    w.cell? ⟨g, 5, none⟩ = some (.int .i64 (bitS 6 a b)) ∧ w.cell? ⟨g, 6, none⟩ = some (.int .i64 (bitS 7 a b)) ∧ w.cell? ⟨g, 7, none⟩ = some (.int .i64 (bitS 8 a b)) ∧ w.frozen? ⟨g, 3, none⟩ = false ∧ w.frozen? ⟨g, 4, none⟩ = false := by
  unfold Arr at h
  refine ⟨?_, ?_, ?_, ?_, ?_, ?_, ?_, ?_, ?_, ?_⟩ <;> simp [World.cell?, World.frozen?, h]
theorem Arr.set3 {w : World} {g : Nat} {a b u v : Int} (h : Arr w g a b u v) (t : Int) : Arr (w.setCell ⟨g, 3, none⟩ (.int .i64 t)) g a b t v := by
  unfold Arr at *
  simp [World.setCell, Array.getElem?_modify, h]
theorem Arr.set4 {w : World} {g : Nat} {a b u v : Int} (h : Arr w g a b u v) (t : Int) : Arr (w.setCell ⟨g, 4, none⟩ (.int .i64 t)) g a b u t := by
  unfold Arr at *
  simp [World.setCell, Array.getElem?_modify, h]

set_option maxHeartbeats 8000000 in
theorem numInts_walk (p q : Int) (w : World) (hp0 : -9223372036854775808 ≤ p) (hp1 : p ≤ 9223372036854775807) (hq0 : -9223372036854775808 ≤ q) (hq1 : q ≤ 9223372036854775807) :
    Calls Try.prog 5 #[.int .i64 p, .int .i64 q] w fun e w' => e = .returned (.bool true) ∧ Below w.heap.size w w' := by
  obtain ⟨a, ha⟩ : ∃ a, a = p % 4294967296 - 2147483648 := ⟨_, rfl⟩
  obtain ⟨b, hb⟩ : ∃ b, b = q % 4294967296 - 2147483648 := ⟨_, rfl⟩
  have wa : IntKind.i64.wrap (p % 4294967296 - 2147483648) = a := by rw [IntKind.wrap_i64]; omega
  have wb : IntKind.i64.wrap (q % 4294967296 - 2147483648) = b := by rw [IntKind.wrap_i64]; omega
  have a0 : -2147483648 ≤ a := by omega
  have a1 : a < 2147483648 := by omega
  have b0 : -2147483648 ≤ b := by omega
  have b1 : b < 2147483648 := by omega
  clear ha hb
  have w3 : IntKind.i64.wrap (a * b) = a * b := by have := mul_small a0 a1 b0 b1; rw [IntKind.wrap_i64]; omega
  have d6 : bits BinOp.and IntKind.i64 a b = bitS 6 a b := i64_and a b (by omega) (by omega) (by omega) (by omega)
  have d7 : bits BinOp.or IntKind.i64 a b = bitS 7 a b := i64_or a b (by omega) (by omega) (by omega) (by omega)
  have d8 : bits BinOp.xor IntKind.i64 a b = bitS 8 a b := i64_xor a b (by omega) (by omega) (by omega) (by omega)
  set_option maxRecDepth 20000 in
  go_enter Try.func5, Try.ntmps5
  go_wp2_with fail
  refine (place_wide p 4294967296 _ (by decide) (by decide) hp0 hp1).mono ?_
  rintro e w1 ⟨rfl, rfl⟩
  go_wp2_with fail
  refine (place_wide q 4294967296 _ (by decide) (by decide) hq0 hq1).mono ?_
  rintro e w1 ⟨rfl, rfl⟩
  go_wp2_with fail
  refine (of_any a _ (by omega) (by omega)).mono ?_
  rintro e w1 ⟨vx, rfl, ix, bx⟩
  obtain ⟨nx, px, zx, cx, rfl, tx, Gx, ex⟩ := ix.open
  go_wp2_with fail
  refine (of_any b _ (by omega) (by omega)).mono ?_
  rintro e w2 ⟨vy, rfl, iy, by_⟩
  obtain ⟨ny, py, zy, cy, rfl, ty, Gy, ey⟩ := iy.open
  have hB := bcall bx by_
  replace ix := ix.below by_
  have HVX : Hid (Sl w2 (.slice px zx.length cx) zx ∧ Good nx zx ∧ Z nx (V zx) = a) := ⟨tx.below by_, Gx, ex⟩
  have HVY : Hid (Sl w2 (.slice py zy.length cy) zy ∧ Good ny zy ∧ Z ny (V zy) = b) := ⟨ty, Gy, ey⟩
  clear bx by_ tx Gx ex ty Gy ey wa wb
  go_wp2_with fail
  obtain ⟨hB2, ux, uy⟩ := boxes2' w2 nx ny px py zx.length cx zy.length cy
  have ar := Arr.new ((w2.alloc (.cells #[.bool nx, .slice px zx.length cx] 24)).alloc (.cells #[.bool ny, .slice py zy.length cy] 24)) a b 0 0
  rw [World.size_alloc, World.size_alloc] at ar
  have bl := (Below.refl ((w2.alloc (.cells #[.bool nx, .slice px zx.length cx] 24)).alloc (.cells #[.bool ny, .slice py zy.length cy] 24)).heap.size ((w2.alloc (.cells #[.bool nx, .slice px zx.length cx] 24)).alloc (.cells #[.bool ny, .slice py zy.length cy] 24))).alloc (Nat.le_refl _) (.cells #[.int .i64 (a + b), .int .i64 (a - b), .int .i64 (a * b), .int .i64 0, .int .i64 0, .int .i64 (bitS 6 a b), .int .i64 (bitS 7 a b), .int .i64 (bitS 8 a b)] 41)
  replace ux := ux.under bl
  replace uy := uy.under bl
  have hW := hB2.trans (bl.mono hB2.size)
  clear hB2 bl w3 d6 d7 d8
  go_loopw [10] (fun s wr => ∃ (op u v : Int), 1 ≤ op ∧ op ≤ 9 ∧ s = .int .i64 op ∧ Bx wr w2.heap.size nx (.slice px zx.length cx) ∧ Bx wr (w2.heap.size + 1) ny (.slice py zy.length cy) ∧ Arr wr (w2.heap.size + 1 + 1) a b u v ∧ Below w2.heap.size w2 wr) (fun s _ => (9 - intOf s).toNat)
  case atStart => exact ⟨1, 0, 0, by omega, by omega, rfl, ux, uy, ar, hW⟩
  case round =>
    clear ux uy ar hW
    obtain ⟨op, u, v, ho1, ho9, rfl, ux, uy, ar, hW⟩ := hrel
    have hop : op = 1 ∨ op = 2 ∨ op = 3 ∨ op = 4 ∨ op = 5 ∨ op = 6 ∨ op = 7 ∨ op = 8 ∨ op = 9 := by omega
    clear ho1 ho9
    obtain ⟨x0, x1, -⟩ := ux.facts
    obtain ⟨y0, y1, -⟩ := uy.facts
    rcases hop with rfl | rfl | rfl | rfl | rfl | rfl | rfl | rfl | rfl
    · obtain ⟨h1, h2⟩ := opS_small 1 (x := a) (y := b) (Or.inl rfl) a0 a1 b0 b1
      rw [show smallS 1 a b = a + b by simp [smallS]] at h1 h2
      have H1 : Hid (opS 1 a b = some (a + b)) := h1
      have H2 : Hid (intS (a + b) = some (a + b)) := h2
      clear h1 h2
      go_wp2_with fail
      refine (op_any 1 _ _ a b _ (ix.below hW).nx (iy.below hW).nx).mono ?_
      rw [H1.out]
      rintro e w4 ⟨v4, rfl, j4, b4⟩
      have i4 : IsN w4 v4 (a + b) := j4
      clear j4
      obtain ⟨n4, p4, z4, c4, rfl, -, -, -⟩ := i4.open
      have bd := (Below.refl w4.heap.size w4).alloc (Nat.le_refl _) (.cells #[.bool n4, .slice p4 z4.length c4] 24)
      replace i4 := i4.below bd
      have b5 := b4.trans (bd.mono b4.size)
      clear b4 bd x0 x1 y0 y1
      go_wp2_with fail
      refine (int_any _ (a + b) _ i4.nx).mono ?_
      rw [H2.out]
      rintro e w6 ⟨rfl, b6⟩
      have b7 := b5.trans (b6.mono b5.size)
      replace ux := ux.under b7
      replace uy := uy.under b7
      replace ar := ar.under b7
      replace hW := hW.trans (b7.mono hW.size)
      clear b5 b6 b7 i4
      obtain ⟨f0, f1, f2, f3, f4, f5, f6, f7, g3, g4⟩ := ar.facts
      have hself : ((a + b) != (a + b)) = false := by simp
      go_wp2_with fail
      go_roundw
      case rel => exact ⟨1 + 1, u, v, by omega, by omega, rfl, ux, uy, ar, hW⟩
      case measure => simp [intOf]
    · obtain ⟨h1, h2⟩ := opS_small 2 (x := a) (y := b) (Or.inr (Or.inl rfl)) a0 a1 b0 b1
      rw [show smallS 2 a b = a - b by simp [smallS]] at h1 h2
      have H1 : Hid (opS 2 a b = some (a - b)) := h1
      have H2 : Hid (intS (a - b) = some (a - b)) := h2
      clear h1 h2
      go_wp2_with fail
      refine (op_any 2 _ _ a b _ (ix.below hW).nx (iy.below hW).nx).mono ?_
      rw [H1.out]
      rintro e w4 ⟨v4, rfl, j4, b4⟩
      have i4 : IsN w4 v4 (a - b) := j4
      clear j4
      obtain ⟨n4, p4, z4, c4, rfl, -, -, -⟩ := i4.open
      have bd := (Below.refl w4.heap.size w4).alloc (Nat.le_refl _) (.cells #[.bool n4, .slice p4 z4.length c4] 24)
      replace i4 := i4.below bd
      have b5 := b4.trans (bd.mono b4.size)
      clear b4 bd x0 x1 y0 y1
      go_wp2_with fail
      refine (int_any _ (a - b) _ i4.nx).mono ?_
      rw [H2.out]
      rintro e w6 ⟨rfl, b6⟩
      have b7 := b5.trans (b6.mono b5.size)
      replace ux := ux.under b7
      replace uy := uy.under b7
      replace ar := ar.under b7
      replace hW := hW.trans (b7.mono hW.size)
      clear b5 b6 b7 i4
      obtain ⟨f0, f1, f2, f3, f4, f5, f6, f7, g3, g4⟩ := ar.facts
      have hself : ((a - b) != (a - b)) = false := by simp
      go_wp2_with fail
      go_roundw
      case rel => exact ⟨2 + 1, u, v, by omega, by omega, rfl, ux, uy, ar, hW⟩
      case measure => simp [intOf]
    · obtain ⟨h1, h2⟩ := opS_small 3 (x := a) (y := b) (Or.inr (Or.inr (Or.inl rfl))) a0 a1 b0 b1
      rw [show smallS 3 a b = a * b by simp [smallS]] at h1 h2
      have H1 : Hid (opS 3 a b = some (a * b)) := h1
      have H2 : Hid (intS (a * b) = some (a * b)) := h2
      clear h1 h2
      go_wp2_with fail
      refine (op_any 3 _ _ a b _ (ix.below hW).nx (iy.below hW).nx).mono ?_
      rw [H1.out]
      rintro e w4 ⟨v4, rfl, j4, b4⟩
      have i4 : IsN w4 v4 (a * b) := j4
      clear j4
      obtain ⟨n4, p4, z4, c4, rfl, -, -, -⟩ := i4.open
      have bd := (Below.refl w4.heap.size w4).alloc (Nat.le_refl _) (.cells #[.bool n4, .slice p4 z4.length c4] 24)
      replace i4 := i4.below bd
      have b5 := b4.trans (bd.mono b4.size)
      clear b4 bd x0 x1 y0 y1
      go_wp2_with fail
      refine (int_any _ (a * b) _ i4.nx).mono ?_
      rw [H2.out]
      rintro e w6 ⟨rfl, b6⟩
      have b7 := b5.trans (b6.mono b5.size)
      replace ux := ux.under b7
      replace uy := uy.under b7
      replace ar := ar.under b7
      replace hW := hW.trans (b7.mono hW.size)
      clear b5 b6 b7 i4
      obtain ⟨f0, f1, f2, f3, f4, f5, f6, f7, g3, g4⟩ := ar.facts
      have hself : ((a * b) != (a * b)) = false := by simp
      go_wp2_with fail
      go_roundw
      case rel => exact ⟨3 + 1, u, v, by omega, by omega, rfl, ux, uy, ar, hW⟩
      case measure => simp [intOf]
    · by_cases hb0 : b = 0
      · have hbz : (b == 0) = true := beq_iff_eq.2 hb0
        have H1 : Hid (opS 4 a b = none) := by
          show opS 4 a b = none
          rw [opS_4]; exact if_pos hb0
        have H2 : Hid (intS 0 = some 0) := by show intS 0 = some 0; decide
        clear hb0
        go_wp2_with fail
        refine (op_any 4 _ _ a b _ (ix.below hW).nx (iy.below hW).nx).mono ?_
        rw [H1.out]
        rintro e w4 ⟨v4, rfl, j4, b4⟩
        have i4 : IsN w4 v4 0 := j4
        clear j4
        obtain ⟨n4, p4, z4, c4, rfl, -, -, -⟩ := i4.open
        have bd := (Below.refl w4.heap.size w4).alloc (Nat.le_refl _) (.cells #[.bool n4, .slice p4 z4.length c4] 24)
        replace i4 := i4.below bd
        have b5 := b4.trans (bd.mono b4.size)
        clear b4 bd x0 x1 y0 y1
        go_wp2_with fail
        refine (int_any _ 0 _ i4.nx).mono ?_
        rw [H2.out]
        rintro e w6 ⟨rfl, b6⟩
        have b7 := b5.trans (b6.mono b5.size)
        replace ux := ux.under b7
        replace uy := uy.under b7
        replace ar := ar.under b7
        replace hW := hW.trans (b7.mono hW.size)
        clear b5 b6 b7 i4
        go_wp2_with fail
        go_roundw
        case rel => exact ⟨4 + 1, u, v, by omega, by omega, rfl, ux, uy, ar, hW⟩
        case measure => simp [intOf]
      · have hbz : (b == 0) = false := beq_eq_false_iff_ne.2 hb0
        have hbw : (a.tdiv b).natAbs ≤ a.natAbs := by rw [Int.natAbs_tdiv]; exact Nat.div_le_self _ _
        have hbm : (a.tmod b).natAbs < b.natAbs := by rw [Int.natAbs_tmod]; exact Nat.mod_lt _ (by omega)
        have hwr : IntKind.i64.wrap (a.tdiv b) = a.tdiv b := by rw [IntKind.wrap_i64]; omega
        clear hbw hbm
        obtain ⟨h1, h2⟩ := opS_small 4 (x := a) (y := b) (Or.inr (Or.inr (Or.inr (Or.inr (Or.inr (Or.inr ⟨Or.inl rfl, hb0⟩)))))) a0 a1 b0 b1
        rw [show smallS 4 a b = a.tdiv b by simp [smallS]] at h1 h2
        have H1 : Hid (opS 4 a b = some (a.tdiv b)) := h1
        have H2 : Hid (intS (a.tdiv b) = some (a.tdiv b)) := h2
        clear h1 h2
        go_wp2_with fail
        refine (op_any 4 _ _ a b _ (ix.below hW).nx (iy.below hW).nx).mono ?_
        rw [H1.out]
        rintro e w4 ⟨v4, rfl, j4, b4⟩
        have i4 : IsN w4 v4 (a.tdiv b) := j4
        clear j4
        obtain ⟨n4, p4, z4, c4, rfl, -, -, -⟩ := i4.open
        have bd := (Below.refl w4.heap.size w4).alloc (Nat.le_refl _) (.cells #[.bool n4, .slice p4 z4.length c4] 24)
        replace i4 := i4.below bd
        have b5 := b4.trans (bd.mono b4.size)
        clear b4 bd x0 x1 y0 y1
        go_wp2_with fail
        refine (int_any _ (a.tdiv b) _ i4.nx).mono ?_
        rw [H2.out]
        rintro e w6 ⟨rfl, b6⟩
        have b7 := b5.trans (b6.mono b5.size)
        replace ux := ux.under b7
        replace uy := uy.under b7
        replace ar := ar.under b7
        replace hW := hW.trans (b7.mono hW.size)
        clear b5 b6 b7 i4
        obtain ⟨f0, f1, f2, f3, f4, f5, f6, f7, g3, g4⟩ := ar.facts
        have hself : ((a.tdiv b) != (a.tdiv b)) = false := by simp
        go_wp2_with fail
        have bs := (But.refl (w2.heap.size + 1 + 1) w6).setCell 3 (.int .i64 (a.tdiv b))
        replace ux := ux.other bs (by omega)
        replace uy := uy.other bs (by omega)
        replace ar := ar.set3 (a.tdiv b)
        replace hW := hW.trans (bs.below (by omega))
        go_roundw
        case rel => exact ⟨4 + 1, (a.tdiv b), v, by omega, by omega, rfl, ux, uy, ar, hW⟩
        case measure => simp [intOf]
    · by_cases hb0 : b = 0
      · have hbz : (b == 0) = true := beq_iff_eq.2 hb0
        have H1 : Hid (opS 5 a b = none) := by
          show opS 5 a b = none
          rw [opS_5]; exact if_pos hb0
        have H2 : Hid (intS 0 = some 0) := by show intS 0 = some 0; decide
        clear hb0
        go_wp2_with fail
        refine (op_any 5 _ _ a b _ (ix.below hW).nx (iy.below hW).nx).mono ?_
        rw [H1.out]
        rintro e w4 ⟨v4, rfl, j4, b4⟩
        have i4 : IsN w4 v4 0 := j4
        clear j4
        obtain ⟨n4, p4, z4, c4, rfl, -, -, -⟩ := i4.open
        have bd := (Below.refl w4.heap.size w4).alloc (Nat.le_refl _) (.cells #[.bool n4, .slice p4 z4.length c4] 24)
        replace i4 := i4.below bd
        have b5 := b4.trans (bd.mono b4.size)
        clear b4 bd x0 x1 y0 y1
        go_wp2_with fail
        refine (int_any _ 0 _ i4.nx).mono ?_
        rw [H2.out]
        rintro e w6 ⟨rfl, b6⟩
        have b7 := b5.trans (b6.mono b5.size)
        replace ux := ux.under b7
        replace uy := uy.under b7
        replace ar := ar.under b7
        replace hW := hW.trans (b7.mono hW.size)
        clear b5 b6 b7 i4
        go_wp2_with fail
        go_roundw
        case rel => exact ⟨5 + 1, u, v, by omega, by omega, rfl, ux, uy, ar, hW⟩
        case measure => simp [intOf]
      · have hbz : (b == 0) = false := beq_eq_false_iff_ne.2 hb0
        have hbw : (a.tdiv b).natAbs ≤ a.natAbs := by rw [Int.natAbs_tdiv]; exact Nat.div_le_self _ _
        have hbm : (a.tmod b).natAbs < b.natAbs := by rw [Int.natAbs_tmod]; exact Nat.mod_lt _ (by omega)
        have hwr : IntKind.i64.wrap (a.tmod b) = a.tmod b := by rw [IntKind.wrap_i64]; omega
        clear hbw hbm
        obtain ⟨h1, h2⟩ := opS_small 5 (x := a) (y := b) (Or.inr (Or.inr (Or.inr (Or.inr (Or.inr (Or.inr ⟨Or.inr rfl, hb0⟩)))))) a0 a1 b0 b1
        rw [show smallS 5 a b = a.tmod b by simp [smallS]] at h1 h2
        have H1 : Hid (opS 5 a b = some (a.tmod b)) := h1
        have H2 : Hid (intS (a.tmod b) = some (a.tmod b)) := h2
        clear h1 h2
        go_wp2_with fail
        refine (op_any 5 _ _ a b _ (ix.below hW).nx (iy.below hW).nx).mono ?_
        rw [H1.out]
        rintro e w4 ⟨v4, rfl, j4, b4⟩
        have i4 : IsN w4 v4 (a.tmod b) := j4
        clear j4
        obtain ⟨n4, p4, z4, c4, rfl, -, -, -⟩ := i4.open
        have bd := (Below.refl w4.heap.size w4).alloc (Nat.le_refl _) (.cells #[.bool n4, .slice p4 z4.length c4] 24)
        replace i4 := i4.below bd
        have b5 := b4.trans (bd.mono b4.size)
        clear b4 bd x0 x1 y0 y1
        go_wp2_with fail
        refine (int_any _ (a.tmod b) _ i4.nx).mono ?_
        rw [H2.out]
        rintro e w6 ⟨rfl, b6⟩
        have b7 := b5.trans (b6.mono b5.size)
        replace ux := ux.under b7
        replace uy := uy.under b7
        replace ar := ar.under b7
        replace hW := hW.trans (b7.mono hW.size)
        clear b5 b6 b7 i4
        obtain ⟨f0, f1, f2, f3, f4, f5, f6, f7, g3, g4⟩ := ar.facts
        have hself : ((a.tmod b) != (a.tmod b)) = false := by simp
        go_wp2_with fail
        have bs := (But.refl (w2.heap.size + 1 + 1) w6).setCell 4 (.int .i64 (a.tmod b))
        replace ux := ux.other bs (by omega)
        replace uy := uy.other bs (by omega)
        replace ar := ar.set4 (a.tmod b)
        replace hW := hW.trans (bs.below (by omega))
        go_roundw
        case rel => exact ⟨5 + 1, u, (a.tmod b), by omega, by omega, rfl, ux, uy, ar, hW⟩
        case measure => simp [intOf]
    · obtain ⟨h1, h2⟩ := opS_small 6 (x := a) (y := b) (Or.inr (Or.inr (Or.inr (Or.inl rfl)))) a0 a1 b0 b1
      rw [show smallS 6 a b = bitS 6 a b by simp [smallS]] at h1 h2
      have H1 : Hid (opS 6 a b = some (bitS 6 a b)) := h1
      have H2 : Hid (intS (bitS 6 a b) = some (bitS 6 a b)) := h2
      clear h1 h2
      go_wp2_with fail
      refine (op_any 6 _ _ a b _ (ix.below hW).nx (iy.below hW).nx).mono ?_
      rw [H1.out]
      rintro e w4 ⟨v4, rfl, j4, b4⟩
      have i4 : IsN w4 v4 (bitS 6 a b) := j4
      clear j4
      obtain ⟨n4, p4, z4, c4, rfl, -, -, -⟩ := i4.open
      have bd := (Below.refl w4.heap.size w4).alloc (Nat.le_refl _) (.cells #[.bool n4, .slice p4 z4.length c4] 24)
      replace i4 := i4.below bd
      have b5 := b4.trans (bd.mono b4.size)
      clear b4 bd x0 x1 y0 y1
      go_wp2_with fail
      refine (int_any _ (bitS 6 a b) _ i4.nx).mono ?_
      rw [H2.out]
      rintro e w6 ⟨rfl, b6⟩
      have b7 := b5.trans (b6.mono b5.size)
      replace ux := ux.under b7
      replace uy := uy.under b7
      replace ar := ar.under b7
      replace hW := hW.trans (b7.mono hW.size)
      clear b5 b6 b7 i4
      obtain ⟨f0, f1, f2, f3, f4, f5, f6, f7, g3, g4⟩ := ar.facts
      have hself : ((bitS 6 a b) != (bitS 6 a b)) = false := by simp
      go_wp2_with fail
      go_roundw
      case rel => exact ⟨6 + 1, u, v, by omega, by omega, rfl, ux, uy, ar, hW⟩
      case measure => simp [intOf]
    · obtain ⟨h1, h2⟩ := opS_small 7 (x := a) (y := b) (Or.inr (Or.inr (Or.inr (Or.inr (Or.inl rfl))))) a0 a1 b0 b1
      rw [show smallS 7 a b = bitS 7 a b by simp [smallS]] at h1 h2
      have H1 : Hid (opS 7 a b = some (bitS 7 a b)) := h1
      have H2 : Hid (intS (bitS 7 a b) = some (bitS 7 a b)) := h2
      clear h1 h2
      go_wp2_with fail
      refine (op_any 7 _ _ a b _ (ix.below hW).nx (iy.below hW).nx).mono ?_
      rw [H1.out]
      rintro e w4 ⟨v4, rfl, j4, b4⟩
      have i4 : IsN w4 v4 (bitS 7 a b) := j4
      clear j4
      obtain ⟨n4, p4, z4, c4, rfl, -, -, -⟩ := i4.open
      have bd := (Below.refl w4.heap.size w4).alloc (Nat.le_refl _) (.cells #[.bool n4, .slice p4 z4.length c4] 24)
      replace i4 := i4.below bd
      have b5 := b4.trans (bd.mono b4.size)
      clear b4 bd x0 x1 y0 y1
      go_wp2_with fail
      refine (int_any _ (bitS 7 a b) _ i4.nx).mono ?_
      rw [H2.out]
      rintro e w6 ⟨rfl, b6⟩
      have b7 := b5.trans (b6.mono b5.size)
      replace ux := ux.under b7
      replace uy := uy.under b7
      replace ar := ar.under b7
      replace hW := hW.trans (b7.mono hW.size)
      clear b5 b6 b7 i4
      obtain ⟨f0, f1, f2, f3, f4, f5, f6, f7, g3, g4⟩ := ar.facts
      have hself : ((bitS 7 a b) != (bitS 7 a b)) = false := by simp
      go_wp2_with fail
      go_roundw
      case rel => exact ⟨7 + 1, u, v, by omega, by omega, rfl, ux, uy, ar, hW⟩
      case measure => simp [intOf]
    · obtain ⟨h1, h2⟩ := opS_small 8 (x := a) (y := b) (Or.inr (Or.inr (Or.inr (Or.inr (Or.inr (Or.inl rfl)))))) a0 a1 b0 b1
      rw [show smallS 8 a b = bitS 8 a b by simp [smallS]] at h1 h2
      have H1 : Hid (opS 8 a b = some (bitS 8 a b)) := h1
      have H2 : Hid (intS (bitS 8 a b) = some (bitS 8 a b)) := h2
      clear h1 h2
      go_wp2_with fail
      refine (op_any 8 _ _ a b _ (ix.below hW).nx (iy.below hW).nx).mono ?_
      rw [H1.out]
      rintro e w4 ⟨v4, rfl, j4, b4⟩
      have i4 : IsN w4 v4 (bitS 8 a b) := j4
      clear j4
      obtain ⟨n4, p4, z4, c4, rfl, -, -, -⟩ := i4.open
      have bd := (Below.refl w4.heap.size w4).alloc (Nat.le_refl _) (.cells #[.bool n4, .slice p4 z4.length c4] 24)
      replace i4 := i4.below bd
      have b5 := b4.trans (bd.mono b4.size)
      clear b4 bd x0 x1 y0 y1
      go_wp2_with fail
      refine (int_any _ (bitS 8 a b) _ i4.nx).mono ?_
      rw [H2.out]
      rintro e w6 ⟨rfl, b6⟩
      have b7 := b5.trans (b6.mono b5.size)
      replace ux := ux.under b7
      replace uy := uy.under b7
      replace ar := ar.under b7
      replace hW := hW.trans (b7.mono hW.size)
      clear b5 b6 b7 i4
      obtain ⟨f0, f1, f2, f3, f4, f5, f6, f7, g3, g4⟩ := ar.facts
      have hself : ((bitS 8 a b) != (bitS 8 a b)) = false := by simp
      go_wp2_with fail
      go_roundw
      case rel => exact ⟨8 + 1, u, v, by omega, by omega, rfl, ux, uy, ar, hW⟩
      case measure => simp [intOf]
    · obtain ⟨k, hk⟩ : ∃ k, k = q % 30 := ⟨_, rfl⟩
      have k0 : 0 ≤ k := by omega
      have k1 : k < 30 := by omega
      have HK : Hid (k = q % 30) := hk
      have HUP : Hid (opS 9 a k = some (a * T k.toNat) ∧ intS (a * T k.toNat) = some (a * T k.toNat) ∧ -9223372036854775808 ≤ a * T k.toNat ∧ a * T k.toNat ≤ 9223372036854775807) := up_small a0 a1 k0 k1
      have HDN : Hid (opS 10 a k = some (a / T k.toNat) ∧ intS (a / T k.toNat) = some (a / T k.toNat)) := down_small a0 a1 k0 k1
      clear hk x0 x1 y0 y1 ar
      go_wp2_with fail
      refine (place_wide q 30 _ (by decide) (by decide) hq0 hq1).mono ?_
      rw [← HK.out]
      rintro e w9 ⟨rfl, rfl⟩
      obtain ⟨x0, x1, -⟩ := ux.facts
      go_wp2_with fail
      have vx : Var wr (.pointer (some ⟨w2.heap.size, 0, none⟩)) a := Var.mk' ux (HVX.out.1.below hW) HVX.out.2.1 HVX.out.2.2
      have vy : Var wr (.pointer (some ⟨w2.heap.size + 1, 0, none⟩)) b := Var.mk' uy (HVY.out.1.below hW) HVY.out.2.1 HVY.out.2.2
      replace hB := hB.trans (hW.mono hB.size)
      clear hW ux uy ix iy x0 x1 HVX HVY
      generalize w2.heap.size + 1 = gy at *
      generalize w2.heap.size = gx at *
      obtain ⟨nx, px, zx, cx, ux, ix⟩ := vx.at
      obtain ⟨ny, py, zy, cy, uy, iy⟩ := vy.at
      have ly := uy.lt
      have hwK : IntKind.i64.wrap (k) = k := by rw [IntKind.wrap_i64]; omega
      have lx := ux.lt
      obtain ⟨q0, q1, -⟩ := ux.facts
      go_cut [16, 17] from 24 (fun s q wc => q = .bool true ∧ Var wc s (a * T k.toNat) ∧ Var wc (.pointer (some ⟨gx, 0, none⟩)) a ∧ Var wc (.pointer (some ⟨gy, 0, none⟩)) b ∧ Below w.heap.size w wc)
      case first =>
        go_region_held3 (fun w' => w'.cell? ⟨gx, 0, none⟩ = some (.bool nx) ∧ w'.cell? ⟨gx, 1, none⟩ = some (.slice px zx.length cx))
          (first | exact ux.held ((Below.refl _ _).drew) | exact ux.held (((Below.refl _ _).alloc (Nat.le_refl _) _).drew) | exact ux.held hP | exact ux.held hO | exact ux.held (hP.alloc hP.size _) | exact ux.held (hO.alloc hO.size _) | exact ux.held3 hP (by omega))
          (first
            | (go_at_call 21; refine (of_any _ _ ?_ ?_).mono ?_; omega; omega; rintro e wO ⟨vO, rfl, iO, bO⟩; first | (have hO : Below wr.heap.size wr wO := (Below.refl _ _).drew.trans bO) | (have hO : Below wr.heap.size wr wO := laid_below bO; have xz := laid_box bO))
            | (go_at_call 12; refine (op_any 9 _ _ (a) (k) _ ?_ ?_).mono ?_; (first | exact (ix.below hO).nx | exact (ix.below (hO.alloc hO.size _)).nx); (first | exact iO.nx | exact (iO.below ((Below.refl _ _).alloc (Nat.le_refl _) _)).nx); rw [HUP.out.1]; rintro e wP ⟨vP, rfl, iP, bP⟩; obtain ⟨n9, p9, z9, c9, rfl, t9, g9, x9⟩ := iP.open; clear iP; have hOs := hO.size; first | (have hP : Below wr.heap.size wr wP := hO.trans (bP.mono hO.size); first | (have xzP := xz.under bP; obtain ⟨y0, y1, y2, y3, y4⟩ := xzP.facts) | skip) | (have hP : Below wr.heap.size wr wP := laid_below2 hO bP; have xzP := laid_box2 bP; obtain ⟨y0, y1, y2, y3, y4⟩ := xzP.facts)))
        all_goals
          go_wp2_with fail
          go_meet
          case rel => first | exact ⟨rfl, Var.new t9 g9 x9, vx.below (hP.alloc hP.size _), vy.below (hP.alloc hP.size _), hB.trans ((hP.alloc hP.size _).mono hB.size)⟩ | exact ⟨rfl, Var.put xzP t9 g9 x9, (vx.below hP).keep xzP (setBx_but _ _ _ _) (ptr_ne (by omega)), (vy.below hP).keep xzP (setBx_but _ _ _ _) (ptr_ne (by omega)), (hB.trans (hP.mono hB.size)).trans ((setBx_but _ _ _ _).below (by have := hB.size; omega))⟩
      case rest =>
        obtain ⟨rfl, vu, vx', vy', hB'⟩ := hcut
        obtain ⟨gu, nu, pu, zu, cu, rfl, uu, tu, ggu, hu⟩ := vu
        have vu : Var wc (.pointer (some ⟨gu, 0, none⟩)) (a * T k.toNat) := ⟨gu, nu, pu, zu, cu, rfl, uu, tu, ggu, hu⟩
        clear vx vy hB ux ix lx q0 q1 uy iy ly tu ggu hu
        have vx := vx'
        have vy := vy'
        have hB := hB'
        clear vx' vy' hB'
        generalize wc = w5 at *
        go_wp2_with fail
        obtain ⟨nx, px, zx, cx, ux, ix⟩ := vx.at
        obtain ⟨ny, py, zy, cy, uy, iy⟩ := vy.at
        have ly := uy.lt
        have lu := uu.lt
        have hwK : IntKind.i64.wrap (k) = k := by rw [IntKind.wrap_i64]; omega
        have lx := ux.lt
        obtain ⟨q0, q1, -⟩ := ux.facts
        go_cut [18, 19] from 24 (fun s q wc => q = .bool true ∧ Var wc s (a / T k.toNat) ∧ Var wc (.pointer (some ⟨gx, 0, none⟩)) a ∧ Var wc (.pointer (some ⟨gy, 0, none⟩)) b ∧ Var wc (.pointer (some ⟨gu, 0, none⟩)) (a * T k.toNat) ∧ Below w.heap.size w wc)
        case first =>
          go_region_held3 (fun w' => w'.cell? ⟨gx, 0, none⟩ = some (.bool nx) ∧ w'.cell? ⟨gx, 1, none⟩ = some (.slice px zx.length cx))
            (first | exact ux.held ((Below.refl _ _).drew) | exact ux.held (((Below.refl _ _).alloc (Nat.le_refl _) _).drew) | exact ux.held hP | exact ux.held hO | exact ux.held (hP.alloc hP.size _) | exact ux.held (hO.alloc hO.size _) | exact ux.held3 hP (by omega))
            (first
              | (go_at_call 21; refine (of_any _ _ ?_ ?_).mono ?_; omega; omega; rintro e wO ⟨vO, rfl, iO, bO⟩; first | (have hO : Below w5.heap.size w5 wO := (Below.refl _ _).drew.trans bO) | (have hO : Below w5.heap.size w5 wO := laid_below bO; have xz := laid_box bO))
              | (go_at_call 12; refine (op_any 10 _ _ (a) (k) _ ?_ ?_).mono ?_; (first | exact (ix.below hO).nx | exact (ix.below (hO.alloc hO.size _)).nx); (first | exact iO.nx | exact (iO.below ((Below.refl _ _).alloc (Nat.le_refl _) _)).nx); rw [HDN.out.1]; rintro e wP ⟨vP, rfl, iP, bP⟩; obtain ⟨n9, p9, z9, c9, rfl, t9, g9, x9⟩ := iP.open; clear iP; have hOs := hO.size; first | (have hP : Below w5.heap.size w5 wP := hO.trans (bP.mono hO.size); first | (have xzP := xz.under bP; obtain ⟨y0, y1, y2, y3, y4⟩ := xzP.facts) | skip) | (have hP : Below w5.heap.size w5 wP := laid_below2 hO bP; have xzP := laid_box2 bP; obtain ⟨y0, y1, y2, y3, y4⟩ := xzP.facts)))
          all_goals
            go_wp2_with fail
            go_meet
            case rel => first | exact ⟨rfl, Var.new t9 g9 x9, vx.below (hP.alloc hP.size _), vy.below (hP.alloc hP.size _), vu.below (hP.alloc hP.size _), hB.trans ((hP.alloc hP.size _).mono hB.size)⟩ | exact ⟨rfl, Var.put xzP t9 g9 x9, (vx.below hP).keep xzP (setBx_but _ _ _ _) (ptr_ne (by omega)), (vy.below hP).keep xzP (setBx_but _ _ _ _) (ptr_ne (by omega)), (vu.below hP).keep xzP (setBx_but _ _ _ _) (ptr_ne (by omega)), (hB.trans (hP.mono hB.size)).trans ((setBx_but _ _ _ _).below (by have := hB.size; omega))⟩
        case rest =>
          obtain ⟨rfl, vd, vx', vy', vu', hB'⟩ := hcut
          clear vx vy vu hB ux ix lx q0 q1 uy iy ly uu lu
          obtain ⟨gd, nd, pd, zd, cd, rfl, ud, td, ggd, hd⟩ := vd
          have id_ : IsN wc (.agg #[.bool nd, .slice pd zd.length cd]) (a / T k.toNat) := ⟨nd, zd, ⟨_, rfl, td⟩, ggd, hd⟩
          obtain ⟨nx, px, zx, cx, ux, ix⟩ := vx'.at
          obtain ⟨ny, py, zy, cy, uy, iy⟩ := vy'.at
          obtain ⟨nu, pu, zu, cu, uu, iu⟩ := vu'.at
          clear td ggd hd vx' vy' vu'
          obtain ⟨f0, f1, -⟩ := uu.facts
          go_wp2_with fail
          refine (int_any _ (a * T k.toNat) _ iu.nx).mono ?_
          rw [HUP.out.2.1]
          rintro e w6 ⟨rfl, b6⟩
          replace ux := ux.under b6
          replace uy := uy.under b6
          replace ud := ud.under b6
          replace ix := ix.below b6
          replace iy := iy.below b6
          have id7 := id_.below b6
          have hB := hB'.trans (b6.mono hB'.size)
          clear uu iu f0 f1 b6 hB' id_
          obtain ⟨f0, f1, -⟩ := ud.facts
          go_wp2_with fail
          refine (int_any _ (a / T k.toNat) _ id7.nx).mono ?_
          rw [HDN.out.2]
          rintro e w7 ⟨rfl, b7⟩
          replace ux := ux.under b7
          replace uy := uy.under b7
          replace ix := ix.below b7
          replace iy := iy.below b7
          replace hB := hB.trans (b7.mono hB.size)
          clear ud id7 f0 f1 b7
          obtain ⟨f0, f1, -⟩ := ux.facts
          obtain ⟨h0, h1, -⟩ := uy.facts
          have hsl : IntKind.i64.wrap (a * 2 ^ k.toNat) = a * T k.toNat := by
            have h := HUP.out.2.2
            rw [← T_pow, IntKind.wrap_i64]; omega
          have hsr : a / 2 ^ k.toNat = a / T k.toNat := by rw [← T_pow]
          go_wp2_with fail
          refine (ncmp_any _ _ a b _ ix.nx iy.nx).mono ?_
          rintro e w8 ⟨rfl, b8⟩
          replace hB := hB.trans (b8.mono hB.size)
          clear f0 f1 h0 h1 ux uy ix iy b8
          go_wp2_with fail
          refine (rof_any a _ (by omega) (by omega)).mono ?_
          rintro e w10 ⟨va, rfl, ja, b10⟩
          replace hB := hB.trans (b10.mono hB.size)
          clear b10
          go_wp2_with fail
          refine (rof_any b _ (by omega) (by omega)).mono ?_
          rintro e w11 ⟨vb, rfl, jb, b11⟩
          replace hB := hB.trans (b11.mono hB.size)
          replace ja := ja.below b11
          clear b11
          go_wp2_with fail
          refine (rncmp_any _ _ a b _ ja.nx jb.nx).mono ?_
          rintro e w12 ⟨rfl, b12⟩
          replace hB := hB.trans (b12.mono hB.size)
          have hss : (sg a b == sg a b) = true := by simp
          clear b12 ja jb
          go_wp2_with fail
          refine (awake_any _).mono ?_
          rintro e w13 ⟨rfl, b13⟩
          replace hB := hB.trans (b13.mono hB.size)
          go_wp2_with fail
          go_ret
          exact ⟨rfl, hB⟩
end Go.Proofs.Ytnfkaddjikimdaa
