/-
  num.bitwise: and, or, exclusive or of two numbers that may be.
-/
import Derived.Test.YtmhcgdigccaogaaBitLimb
namespace Go.Proofs.Ytmhcgdigccaogaa
open Go.RowKit
set_option linter.unusedVariables false

/-- Bit by bit. -/
def bitS (op x y : Int) : Int := bz (fop op) 384 x y

theorem getD_set_ne' (Z : List Int) (k j : Nat) (y : Int) (h : j ≠ k) : (Z.set k y).getD j 0 = Z.getD j 0 := by
  simp only [List.getD_eq_getElem?_getD]
  rw [List.getElem?_set_ne (by omega)]
theorem getD_set_eq' (Z : List Int) (k : Nat) (y : Int) (h : k < Z.length) : (Z.set k y).getD k 0 = y := by
  simp [List.getD, h]

/-- What the loop has done: limbs below k are put together, those above are as they were. -/
def BwRel (op : Int) (A C O : List Int) (k : Nat) : Prop := O.length = A.length ∧ Ok O ∧ (∀ j, j < k → O.getD j 0 = lb op (A.getD j 0) (C.getD j 0)) ∧ ∀ j, k ≤ j → O.getD j 0 = A.getD j 0

theorem BwRel.step {op : Int} {A C O : List Int} {k : Nat} (h : BwRel op A C O k) (hA : Ok A) (hC : Ok C) (hk : k < A.length) {z : Int} (hz : z = lb op (A.getD k 0) (C.getD k 0)) : BwRel op A C (O.set k z) (k + 1) := by
  obtain ⟨h1, h2, h3, h4⟩ := h
  have a := hA.getD k
  have c := hC.getD k
  have hb := lb_spec op _ _ a.1 a.2 c.1 c.2
  rw [← hz] at hb
  refine ⟨by simpa using h1, h2.set k hb.1 hb.2.1, fun j hj => ?_, fun j hj => ?_⟩
  · by_cases e : j = k
    · subst e; rw [getD_set_eq' _ _ _ (by omega), hz]
    · rw [getD_set_ne' _ _ _ _ e]; exact h3 j (by omega)
  · rw [getD_set_ne' _ _ _ _ (by omega)]; exact h4 j (by omega)

set_option maxHeartbeats 8000000 in
theorem bitwise_any (op : Int) (va vb : Value) (x y : Int) (w : World) (ha : IsN w va x) (hb : IsN w vb y) : Calls Try.prog 34 #[.int .i64 op, va, vb] w fun e w' => RawPost w (bitS op x y) e w' := by
  obtain ⟨n1, p1, z1, c1, rfl, t1, hg1, hx⟩ := ha.open
  obtain ⟨n2, p2, z2, c2, rfl, t2, hg2, hy⟩ := hb.open
  obtain ⟨hB, u1, u2, u3⟩ := boxes2 w n1 n2 p1 p2 z1.length c1 z2.length c2
  have l1 : z1.length ≤ 12 := hg1.1
  have l2 : z2.length ≤ 12 := hg2.1
  clear ha hb
  replace t1 := t1.below hB
  replace t2 := t2.below hB
  obtain ⟨m, hm⟩ : ∃ m : Nat, m = max z1.length z2.length := ⟨_, rfl⟩
  have hM : (if z1.length < z2.length then (z2.length : Int) else (z1.length : Int)) = (m : Int) := by split <;> omega
  have hm1 : z1.length ≤ m := by omega
  have hm2 : z2.length ≤ m := by omega
  have hm3 : m ≤ 12 := by omega
  clear hm
  go_enter Try.func34, Try.ntmps34
  go_wp2_with fail
  generalize ((w.alloc (.cells #[.bool n1, .slice p1 z1.length c1] 24)).alloc (.cells #[.bool n2, .slice p2 z2.length c2] 24)).alloc (.cells #[.bool false, .slice none 0 0] 24) = w0 at *
  go_region_held3 (fun w' => (w'.cell? ⟨w.heap.size, 0, none⟩ = some (.bool n1) ∧ w'.cell? ⟨w.heap.size, 1, none⟩ = some (.slice p1 z1.length c1)) ∧ w'.cell? ⟨w.heap.size + 1, 0, none⟩ = some (.bool n2) ∧ w'.cell? ⟨w.heap.size + 1, 1, none⟩ = some (.slice p2 z2.length c2))
    (first | exact ⟨u1.held ((Below.refl _ _).drew), u2.held ((Below.refl _ _).drew)⟩ | exact ⟨u1.held hk4, u2.held hk4⟩ | exact ⟨u1.held hk3, u2.held hk3⟩)
    (first
      | (go_at_call_of 60 (Value.slice p1 z1.length c1); refine (spread_any n1 _ z1 (m + 1) _ x _ ?_ hg1 hx ?_ ?_ ?_).mono ?_; exact t1.below ((Below.refl _ _).drew); omega; omega; omega; rintro e w3 ⟨g3, A, rfl, row3, ok3, len3, v3, b3, hg3⟩; have hk3 : Below w0.heap.size w0 w3 := (Below.refl _ _).drew.trans b3)
      | (go_at_call_of 60 (Value.slice p2 z2.length c2); refine (spread_any n2 _ z2 (m + 1) _ y _ ?_ hg2 hy ?_ ?_ ?_).mono ?_; exact t2.below hk3; omega; omega; omega; rintro e w4 ⟨g4, C, rfl, row4, ok4, len4, v4, b4, hg4⟩; have hk4 : Below w0.heap.size w0 w4 := hk3.trans (b4.mono hk3.size)))
  have b34 := row3.lt
  have b40 := u3.lt
  have hb3 := b3.size
  have hg3' : w0.heap.size ≤ g3 := hg3
  have row3' := row3.below b4 row3.lt
  have u3' := u3.under hk4
  have hBw := hB.trans (hk4.mono hB.size)
  have hx12 : Hid ((-(B m) ≤ x ∧ x < B m) ∧ (-(B m) ≤ y ∧ y < B m)) := by
    have a1 := V_lt t1.ok; have a2 := V_lt t2.ok; have a3 := B_mono hm1; have a4 := B_mono hm2
    have a5 := V_nonneg t1.ok; have a6 := V_nonneg t2.ok; have a7 := B_pos m
    show (_ ∧ _) ∧ _ ∧ _
    rw [← hx, ← hy]
    cases n1 <;> cases n2 <;> simp [Z] <;> omega
  have HB : Hid ((-(B 12) ≤ x ∧ x < B 12) ∧ (-(B 12) ≤ y ∧ y < B 12)) := by
    have a := hx12.out; have b := B_mono hm3
    exact ⟨⟨by omega, by omega⟩, by omega, by omega⟩
  have g34 : g3 < g4 := by omega
  have V3 : Hid _ := v3
  have V4 : Hid _ := v4
  clear hg1 hg2 hx hy hk3 hk4 b3 b4 row3 u1 u2 u3 t1 t2 v3 v4 hb3 hB hM
  go_wp2_with fail
  go_loopw [28] (fun i wr => ∃ (k : Nat) (O : List Int), k ≤ m + 1 ∧ i = .int .i64 k ∧ BwRel op A C O k ∧ Row wr g3 O ∧ Row wr g4 C ∧ Bx wr (w.heap.size + 1 + 1) false (.slice none 0 0) ∧ Below w.heap.size w wr) (fun i _ => m + 1 - (intOf i).toNat)
  case atStart => exact ⟨0, A, by omega, rfl, ⟨rfl, ok3, fun j hj => by omega, fun j _ => rfl⟩, row3', row4, u3', hBw⟩
  case round =>
    obtain ⟨k, O, hk, rfl, hR, hrA, hrC, hux, hbel⟩ := hrel
    by_cases hkl : k < m + 1
    · have hcA := hrA.cell k (by rw [hR.1]; omega)
      have hcC := hrC.cell k (by omega)
      have hfA := hrA.frozen k
      rw [hR.2.2.2 k (Nat.le_refl _)] at hcA
      have ba := ok3.getD k
      have bc := ok4.getD k
      have hkl' : (k : Int) < (m : Int) + 1 := by omega
      obtain ⟨z, hz⟩ : ∃ z, z = lb op (A.getD k 0) (C.getD k 0) := ⟨_, rfl⟩
      have HZ : Hid _ := hz
      obtain ⟨a, ha⟩ : ∃ a, a = A.getD k 0 := ⟨_, rfl⟩
      obtain ⟨c, hc⟩ : ∃ c, c = C.getD k 0 := ⟨_, rfl⟩
      rw [← ha] at hcA ba hz
      rw [← hc] at hcC bc hz
      have hzb := lb_spec op a c ba.1 ba.2 bc.1 bc.2
      have HLB : Hid (z = lb op a c) := hz
      rw [← hz] at hzb
      have hz0 := hzb.1
      have hz1 := hzb.2.1
      have HR : Hid (BwRel op A C O k) := hR
      have hbut := (But.refl g3 wr).setCell k (.int .u32 z)
      clear hz ha hc hzb hR
      by_cases h6 : op = 6
      · have h6' : (op == 6) = true := beq_iff_eq.2 h6
        have ho : bits BinOp.and IntKind.u32 a c = lb op a c := by unfold lb; rw [if_pos h6]
        rw [← HLB.out] at ho
        go_wp2_with fail
        go_roundw
        case rel => exact ⟨k + 1, O.set k z, by omega, by go_num, BwRel.step HR.out ok3 ok4 (by omega) HZ.out, hrA.set k z, hbut.row hrC (by omega), hux.other hbut (by omega), hbel.trans (hbut.below (by omega))⟩
        case measure => simp [intOf]; omega
      · have h6' : (op == 6) = false := beq_eq_false_iff_ne.2 h6
        by_cases h7 : op = 7
        · have h7' : (op == 7) = true := beq_iff_eq.2 h7
          have ho : bits BinOp.or IntKind.u32 a c = lb op a c := by unfold lb; rw [if_neg h6, if_pos h7]
          rw [← HLB.out] at ho
          go_wp2_with fail
          go_roundw
          case rel => exact ⟨k + 1, O.set k z, by omega, by go_num, BwRel.step HR.out ok3 ok4 (by omega) HZ.out, hrA.set k z, hbut.row hrC (by omega), hux.other hbut (by omega), hbel.trans (hbut.below (by omega))⟩
          case measure => simp [intOf]; omega
        · have h7' : (op == 7) = false := beq_eq_false_iff_ne.2 h7
          have ho : bits BinOp.xor IntKind.u32 a c = lb op a c := by unfold lb; rw [if_neg h6, if_neg h7]
          rw [← HLB.out] at ho
          go_wp2_with fail
          go_roundw
          case rel => exact ⟨k + 1, O.set k z, by omega, by go_num, BwRel.step HR.out ok3 ok4 (by omega) HZ.out, hrA.set k z, hbut.row hrC (by omega), hux.other hbut (by omega), hbel.trans (hbut.below (by omega))⟩
          case measure => simp [intOf]; omega
    · obtain rfl : k = m + 1 := by omega
      have HR : Hid (BwRel op A C O (m + 1)) := hR
      have okO := hR.2.1
      have lenO : O.length = m + 1 := by rw [hR.1]; exact len3
      have sO := hrA.all okO (by omega)
      rw [lenO] at sO
      clear hR row3' row4 hBw
      go_wp2_with fail
      refine (gather_any _ O _ sO (by omega) (by omega)).mono ?_
      rintro e w5 ⟨ng, zg, sg5, rfl, tg, mg, hzg, bg⟩
      obtain ⟨pg, cg, rfl⟩ := tg.shape
      have ux := hux.under bg
      have HF : Hid (Z ng (V zg) = bitS op x y) := by
        show Z ng (V zg) = bz (fop op) 384 x y
        rw [hzg]
        have hr := HR.out
        have hx := hx12.out
        have hb := HB.out
        refine bz_one (fop op) 384 (by rw [T384]; exact hb.1.1) (by rw [T384]; exact hb.1.2) (by rw [T384]; exact hb.2.1) (by rw [T384]; exact hb.2.2) ?_
        exact bits_gather lenO ok3 ok4 okO (by omega) (by omega) (fun i hi => hr.2.2.1 i (by omega)) V3.out V4.out hx.1.1 hx.1.2 hx.2.1 hx.2.2
      have hbw := hbel.trans (bg.mono hbel.size)
      clear hzg bg HR hux hbel sO hrA hrC
      obtain ⟨d0, d1, g0, g1, l5⟩ := ux.facts
      go_wp2_with fail
      refine bodyPost_ret (results_box1 rfl _ _ (w.heap.size + 1 + 1) _ _ rfl ux.set) rfl ?_
      exact raw_end (neg := ng) hbw ux (by omega) tg mg HF.out
end Go.Proofs.Ytmhcgdigccaogaa
