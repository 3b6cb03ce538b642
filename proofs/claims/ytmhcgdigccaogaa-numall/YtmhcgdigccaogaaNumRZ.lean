import Derived.Test.YtmhcgdigccaogaaNumRefN
import Derived.Test.YtmhcgdigccaogaaNumOp
/-
  The document's own answers of layer 2 (relictref02): Int, less, func3, bit, far.
-/
namespace Go.Proofs.Ytmhcgdigccaogaa
open Go.RowKit
set_option linter.unusedVariables false

set_option maxHeartbeats 4000000 in
theorem rint_any (v : Value) (x : Int) (w : World) (h : Nx w v x) : Calls Try.prog 11 #[v] w fun e w' => IntPost w (intS x) e w' := by
  have h0 := h
  obtain ⟨neg, zs, ⟨s, rfl, hs⟩, hv⟩ := h
  obtain ⟨p, c, rfl⟩ := hs.shape
  have hb1 := (Below.refl w.heap.size w).alloc (Nat.le_refl _) (.cells #[.bool neg, .slice p zs.length c] 24)
  have h1 := h0.below hb1
  clear h0 hv hs
  go_enter Try.func11, Try.ntmps11
  go_wp2_with fail
  refine (ris_any _ x _ h1).mono ?_
  rintro e w1 ⟨v1, rfl, i1, hb2⟩
  obtain ⟨n1, p1, z1, c1, rfl, t1, g1, e1⟩ := i1.open
  have hbw := hb1.trans (hb2.mono (by simp))
  have bd := (Below.refl w1.heap.size w1).alloc (Nat.le_refl _) (.cells #[.bool n1, .slice p1 z1.length c1] 24)
  have t2 := t1.below bd
  have hb3 := hbw.trans (bd.mono hbw.size)
  have hx : Hid (Z n1 (V z1) = x) := e1
  have hl1 : z1.length ≤ 12 := g1.1
  have hnm : Nm z1 := g1.2.1
  have hneg : z1 = [] → n1 = false := g1.2.2
  have hnn := V_nonneg t1.ok
  clear hb1 hb2 h1 i1 t1 g1 e1 hbw bd
  by_cases hlen : 2 < z1.length
  · have hV : 18446744073709551616 ≤ V z1 := by
      have h1 := V_ge t2.ok hnm (by omega)
      have h2 := B_mono (show 2 ≤ z1.length - 1 by omega)
      have h3 : B 2 = 18446744073709551616 := by decide
      omega
    have hlen' : (2 : Int) < (z1.length : Int) := by omega
    have e : Hid (intS x = none) := by
      show intS x = none
      rw [← hx.out]
      unfold intS
      rw [if_neg (by cases n1 <;> simp [Z] <;> omega)]
    clear hV hnm hneg hnn hlen
    go_wp2_with fail
    go_ret2
    exact ⟨by rw [e.out]; rfl, hb3⟩
  · have hV : V z1 < 18446744073709551616 := by
      have h1 := V_lt t2.ok
      have h2 := B_mono (show z1.length ≤ 2 by omega)
      have h3 : B 2 = 18446744073709551616 := by decide
      omega
    have hlen' : z1.length ≤ 2 := by omega
    have HV : Hid (V z1 < 18446744073709551616) := hV
    clear hV hlen
    go_wp2_with fail
    go_loop [5, 6] (fun a i => ∃ (k : Nat) (m : Int), k ≤ z1.length ∧ a = .int .u64 m ∧ i = .int .i64 ((k : Int) - 1) ∧ m = V (z1.drop k)) (fun _ i => (intOf i + 1).toNat)
    case atStart => exact ⟨z1.length, 0, by omega, rfl, rfl, by simp [V]⟩
    case round =>
      obtain ⟨k, m, hk, rfl, rfl, hm⟩ := hrel
      cases k with
      | succ q =>
        rw [show ((q + 1 : Nat) : Int) - 1 = (q : Int) by omega]
        obtain ⟨b, off, rfl, hc⟩ := t2.at q (by omega)
        have hz := t2.ok.getD q
        have hst := V_drop z1 q (by omega)
        have hm0 := V_nonneg (t2.ok.drop (q + 1))
        have hm1 : V (z1.drop (q + 1)) < 4294967296 := by
          have h1 := V_lt (t2.ok.drop (q + 1))
          have h2 := B_mono (show (z1.drop (q + 1)).length ≤ 1 by simp; omega)
          have h3 : B 1 = 4294967296 := by decide
          omega
        rw [← hm] at hm0 hm1 hst
        generalize z1.getD q 0 = d at *
        have HS : Hid (m * 4294967296 + d = V (z1.drop q)) := by
          show m * 4294967296 + d = V (z1.drop q)
          rw [hst]; omega
        clear hst hm
        go_wp2_with fail
        go_round
        case rel => exact ⟨q, _, by omega, rfl, by go_num, HS.out⟩
        case measure => simp [intOf]
      | zero =>
        rw [List.drop_zero] at hm
        have hm1 : m < 18446744073709551616 := by rw [hm]; exact HV.out
        rw [← hm] at hnn hx
        have hneg' : n1 = true → 0 < m := fun h => by
          have h1 : z1 ≠ [] := fun h' => by have := hneg h'; rw [h] at this; cases this
          have h2 : V z1 ≠ 0 := fun h' => h1 (len_zero t2.ok hnm h')
          rw [hm]; rw [hm] at hnn; omega
        clear hneg hm
        cases n1
        · by_cases hbig : m ≤ 9223372036854775807
          · have e : Hid (intS x = some m) := by
              show intS x = some m
              rw [← hx.out]
              unfold intS
              rw [if_pos (by simp [Z]; omega)]; rfl
            go_wp2_with fail
            go_ret2
            exact ⟨by rw [e.out]; rfl, hb3⟩
          · have e : Hid (intS x = none) := by
              show intS x = none
              rw [← hx.out]
              unfold intS
              rw [if_neg (by simp [Z]; omega)]
            go_wp2_with fail
            go_ret2
            exact ⟨by rw [e.out]; rfl, hb3⟩
        · have hm0 := hneg' rfl
          by_cases hbig : m ≤ 9223372036854775808
          · have e : Hid (intS x = some (-m)) := by
              show intS x = some (-m)
              rw [← hx.out]
              unfold intS
              rw [if_pos (by simp [Z]; omega)]; rfl
            obtain ⟨r, hr⟩ : ∃ r, r = 18446744073709551616 - m := ⟨_, rfl⟩
            have hw : IntKind.u64.wrap (-m) = r := by rw [IntKind.wrap_u64]; omega
            have hw2 : IntKind.i64.wrap r = -m := by rw [IntKind.wrap_i64]; omega
            have HR : Hid (r = 18446744073709551616 - m) := hr
            clear hr
            go_wp2_with fail
            go_ret2
            exact ⟨by rw [e.out]; rfl, hb3⟩
          · have e : Hid (intS x = none) := by
              show intS x = none
              rw [← hx.out]
              unfold intS
              rw [if_neg (by simp [Z]; omega)]
            go_wp2_with fail
            go_ret2
            exact ⟨by rw [e.out]; rfl, hb3⟩

/-- The limbs of less: of -1 less a number below 0; of others its own. -/
def lessV (n : Bool) (x : Int) : Int := if n = true then x - 1 else x

def LessPost (w : World) (n : Bool) (zs : List Int) (e : Ending) (w' : World) : Prop :=
  ∃ v ls, e = .returned v ∧ Sl w' v ls ∧ V ls = lessV n (V zs) ∧ ls.length ≤ zs.length ∧ Below w.heap.size w w'

set_option maxHeartbeats 2000000 in
theorem rless_any (n1 : Bool) (s : Value) (z1 : List Int) (w : World) (t1 : Sl w s z1) (g1 : Good n1 z1) :
    Calls Try.prog 71 #[.agg #[.bool n1, s]] w fun e w' => LessPost w n1 z1 e w' := by
  obtain ⟨p, c, rfl⟩ := t1.shape
  have hb1 := (Below.refl w.heap.size w).alloc (Nat.le_refl _) (.cells #[.bool n1, .slice p z1.length c] 24)
  have l1 := g1.1
  have u0 := Bx.new w n1 p z1.length c
  have t2 := t1.below hb1
  cases n1
  · go_enter Try.func71, Try.ntmps71
    go_wp2_with fail
    go_ret
    exact ⟨_, z1, rfl, t2, rfl, Nat.le_refl _, hb1⟩
  · have HV : Hid (0 < V z1) := by
      show 0 < V z1
      have h1 := V_nonneg t1.ok
      have h2 : V z1 ≠ 0 := fun h => by
        have := g1.2.2 (len_zero t1.ok g1.2.1 h)
        cases this
      omega
    clear g1
    go_enter Try.func71, Try.ntmps71
    go_wp2_with fail
    have sl := sl_lit (w.alloc (.cells #[.bool true, .slice p z1.length c] 24)) 1 (by decide) (by decide)
    rw [World.size_alloc] at sl
    have bd := (Below.refl _ (w.alloc (.cells #[.bool true, .slice p z1.length c] 24))).alloc (Nat.le_refl _) (.cells #[.int .u32 1] 53)
    refine (rsub_any _ _ z1 [1] _ (t2.below bd) sl (by omega) (by simp)).mono ?_
    rintro e w1 ⟨v1, y1, rfl, s1, m1, x1, l2, b1, -⟩
    have hB := (hb1.trans (bd.mono hb1.size))
    have hB1 := hB.trans (b1.mono hB.size)
    have X1 : Hid (V y1 = lessV true (V z1)) := by
      have := HV.out
      show V y1 = lessV true (V z1)
      rw [x1]
      simp only [V, lessV, if_true]
      rw [subV_ge (by omega)]
      omega
    clear x1 bd sl
    go_wp2_with fail
    go_ret
    exact ⟨_, y1, rfl, s1, X1.out, l2, hB1⟩

set_option maxHeartbeats 2000000 in
theorem func3_any (op : Int) (p q : Bool) (w : World) :
    Calls Try.prog 72 #[.int .i64 op, .bool p, .bool q] w fun e w' => e = .returned (.bool (fop op p q)) ∧ w' = w := by
  by_cases h6 : op = 6
  · subst h6
    cases p <;> cases q <;>
    · go_enter Try.func72, Try.ntmps72
      go_wp2_with fail
      go_ret
      exact ⟨rfl, rfl⟩
  · have h6' : (op == 6) = false := beq_eq_false_iff_ne.2 h6
    by_cases h7 : op = 7
    · subst h7
      cases p <;> cases q <;>
      · go_enter Try.func72, Try.ntmps72
        go_wp2_with fail
        go_ret
        exact ⟨rfl, rfl⟩
    · have h7' : (op == 7) = false := beq_eq_false_iff_ne.2 h7
      have e : Hid (fop op p q = (p != q)) := by
        show fop op p q = (p != q)
        unfold fop
        rw [if_neg h6, if_neg h7]
      clear h6 h7
      cases p <;> cases q <;>
      · go_enter Try.func72, Try.ntmps72
        go_wp2_with fail
        go_ret
        exact ⟨by rw [e.out]; rfl, rfl⟩

/-- A shift's number of bits, cut. -/
def farV (y : Int) : Int := if y < -10001 then -10001 else if 10001 < y then 10001 else y

set_option maxHeartbeats 2000000 in
theorem far_any (v : Value) (y : Int) (w : World) (h : IsN w v y) : Calls Try.prog 42 #[v] w fun e w' => e = .returned (.int .i64 (farV y)) ∧ Below w.heap.size w w' := by
  obtain ⟨n1, p1, z1, c1, rfl, t1, g1, e1⟩ := h.open
  have hb1 := (Below.refl w.heap.size w).alloc (Nat.le_refl _) (.cells #[.bool n1, .slice p1 z1.length c1] 24)
  have u0 := Bx.new w n1 p1 z1.length c1
  have h1 := (h.below hb1).nx
  have zp := Z_pos g1 t1.ok
  rw [e1] at zp
  clear h t1 g1 e1
  go_enter Try.func42, Try.ntmps42
  go_wp2_with fail
  refine (rint_any _ y _ h1).mono ?_
  rintro e w1 ⟨rfl, b1⟩
  have u1 := u0.under b1
  have hB := hb1.trans (b1.mono hb1.size)
  clear b1 hb1 u0 h1
  obtain ⟨c0, c1, -⟩ := u1.facts
  by_cases hy : -9223372036854775808 ≤ y ∧ y ≤ 9223372036854775807
  · have e : intS y = some y := by unfold intS; rw [if_pos hy]
    rw [e]
    simp only [Option.getD_some, Option.isSome_some]
    obtain ⟨M, hM⟩ : ∃ M, (if y < -10001 then -10001 else y) = M := ⟨_, rfl⟩
    have HM : Hid ((if 10001 < M then 10001 else M) = farV y) := by
      show (if 10001 < M then 10001 else M) = farV y
      rw [← hM]; unfold farV
      split <;> split <;> omega
    obtain ⟨F, hF⟩ : ∃ F, (if 10001 < M then 10001 else M) = F := ⟨_, rfl⟩
    rw [hF] at HM
    clear zp e
    go_wp2_with fail
    go_ret
    exact ⟨by rw [← HM.out]; rfl, hB⟩
  · have e : intS y = none := by unfold intS; rw [if_neg hy]
    rw [e]
    simp only [Option.getD_none, Option.isSome_none]
    cases n1
    · have e2 : Hid (farV y = 10001) := by
        have := zp.2 rfl
        show farV y = 10001
        unfold farV; rw [if_neg (by omega), if_pos (by omega)]
      clear zp e
      go_wp2_with fail
      go_ret
      exact ⟨by rw [e2.out]; rfl, hB⟩
    · have e2 : Hid (farV y = -10001) := by
        have := zp.1 rfl
        show farV y = -10001
        unfold farV; rw [if_pos (by omega)]
      clear zp e
      go_wp2_with fail
      go_ret
      exact ⟨by rw [e2.out]; rfl, hB⟩
end Go.Proofs.Ytmhcgdigccaogaa

/-
  The document's own answers of layer 2 (relictref02): add.
-/
namespace Go.Proofs.Ytmhcgdigccaogaa
open Go.RowKit
set_option linter.unusedVariables false
set_option linter.unusedSimpArgs false

/-- What made has answered, stored into the result's box. -/
theorem op_fin {w w4 : World} {g c4 : Nat} {n4 n0 : Bool} {s0 : Value} {p4 : Option Addr} {z4 : List Int} {r r' : Option Int} (hB : Below w.heap.size w w4) (hu : Bx w4 g n0 s0) (hg : w.heap.size ≤ g) (t : Sl w4 (.slice p4 z4.length c4) z4) (hg4 : Good n4 z4) (e : Z n4 (V z4) = r.getD 0) (hr : r = r') :
    OpPost w r' (.returned (.tuple #[.agg #[.bool n4, .slice p4 z4.length c4], .bool r.isSome])) (setBx w4 g n4 (.slice p4 z4.length c4)) := by
  subst hr
  exact ⟨_, rfl, ⟨n4, z4, ⟨_, rfl, t.box hu (setBx_but _ _ _ _)⟩, hg4, e⟩, hB.trans ((setBx_but _ _ _ _).below hg)⟩

set_option maxHeartbeats 8000000 in
theorem radd2_any (va vb : Value) (x y : Int) (w : World) (ha : IsN w va x) (hb : IsN w vb y) : Calls Try.prog 37 #[va, vb] w fun e w' => OpPost w (fitS (x + y)) e w' := by
  obtain ⟨n1, p1, z1, c1, rfl, t1, hg1, hx⟩ := ha.open
  obtain ⟨n2, p2, z2, c2, rfl, t2, hg2, hy⟩ := hb.open
  obtain ⟨hB, u1, u2, u3⟩ := boxes2 w n1 n2 p1 p2 z1.length c1 z2.length c2
  have l1 : z1.length ≤ 12 := hg1.1
  have l2 : z2.length ≤ 12 := hg2.1
  have HX : Hid (Z n1 (V z1) = x) := hx
  have HY : Hid (Z n2 (V z2) = y) := hy
  have o1 := V_nonneg t1.ok
  have o2 := V_nonneg t2.ok
  clear ha hb hx hy hg1 hg2
  replace t1 := t1.below hB
  replace t2 := t2.below hB
  cases n1 <;> cases n2
  · go_enter Try.func37, Try.ntmps37
    go_wp2_with fail
    generalize ((w.alloc (.cells #[.bool false, .slice p1 z1.length c1] 24)).alloc (.cells #[.bool false, .slice p2 z2.length c2] 24)).alloc (.cells #[.bool false, .slice none 0 0] 24) = w0 at *
    obtain ⟨i0, i1, -⟩ := u1.facts
    obtain ⟨j0, j1, -⟩ := u2.facts
    go_region_held3 (fun w' => (w'.cell? ⟨w.heap.size, 0, none⟩ = some (.bool false) ∧ w'.cell? ⟨w.heap.size, 1, none⟩ = some (.slice p1 z1.length c1)) ∧ w'.cell? ⟨w.heap.size + 1, 0, none⟩ = some (.bool false) ∧ w'.cell? ⟨w.heap.size + 1, 1, none⟩ = some (.slice p2 z2.length c2))
      (first | exact ⟨u1.held ((Below.refl _ _).drew), u2.held ((Below.refl _ _).drew)⟩ | exact ⟨u1.held (by assumption), u2.held (by assumption)⟩ | exact ⟨u1.held3 b4' (by omega), u2.held3 b4' (by omega)⟩)
      (first
        | (go_at_call 52; refine (radd_any _ _ z1 z2 _ ?_ ?_ ?_ ?_).mono ?_; exact t1.below ((Below.refl _ _).drew); exact t2.below ((Below.refl _ _).drew); omega; omega; rintro e w3 ⟨v3, z3, rfl, s3, m3, x3, l3, b3, -⟩; have b3' : Below w0.heap.size w0 w3 := (Below.refl _ _).drew.trans b3; have X3 : Hid (V z3 = V z1 + V z2) := x3; clear x3)
        | (go_at_call 38; refine (made_any _ _ z3 _ ?_ ?_).mono ?_; exact s3; omega; rintro e w4 ⟨v4, rfl, i4, b4⟩; have b4' : Below w0.heap.size w0 w4 := b3'.trans (b4.mono b3'.size); obtain ⟨c40, c41, f40, f41, l4⟩ := (u3.under b4').facts; obtain ⟨n4, p4, z4, c4, rfl, t4, g4, e4⟩ := i4.open))
    go_wp2_with fail
    refine bodyPost_ret (results_box2 rfl _ _ (w.heap.size + 1 + 1) _ _ rfl ((u3.under b4').set)) rfl ?_
    refine op_fin (hB.trans (b4'.mono hB.size)) (u3.under b4') (by omega) t4 g4 e4 ?_
    rw [X3.out, ← HX.out, ← HY.out]
    refine congrArg fitS ?_
    simp only [Z, subV, if_true, if_neg Bool.false_ne_true] <;> first | done | omega | (split <;> omega)
  · go_enter Try.func37, Try.ntmps37
    go_wp2_with fail
    generalize ((w.alloc (.cells #[.bool false, .slice p1 z1.length c1] 24)).alloc (.cells #[.bool true, .slice p2 z2.length c2] 24)).alloc (.cells #[.bool false, .slice none 0 0] 24) = w0 at *
    obtain ⟨i0, i1, -⟩ := u1.facts
    obtain ⟨j0, j1, -⟩ := u2.facts
    refine (rcmp_any _ _ z1 z2 _ t1 t2 (by omega) (by omega)).mono ?_
    rintro e w1 ⟨rfl, hw⟩
    have hw' := hw.symm
    subst hw'
    clear hw
    by_cases hc : V z1 < V z2
    · have hs : sg (V z1) (V z2) = -1 := sg_lt hc
      rw [hs]
      go_wp2_with fail
      go_region_held3 (fun w' => (w'.cell? ⟨w.heap.size, 0, none⟩ = some (.bool false) ∧ w'.cell? ⟨w.heap.size, 1, none⟩ = some (.slice p1 z1.length c1)) ∧ w'.cell? ⟨w.heap.size + 1, 0, none⟩ = some (.bool true) ∧ w'.cell? ⟨w.heap.size + 1, 1, none⟩ = some (.slice p2 z2.length c2))
        (first | exact ⟨u1.held ((Below.refl _ _).drew), u2.held ((Below.refl _ _).drew)⟩ | exact ⟨u1.held (by assumption), u2.held (by assumption)⟩ | exact ⟨u1.held3 b4' (by omega), u2.held3 b4' (by omega)⟩)
        (first
          | (go_at_call 67; refine (rsub_any _ _ z2 z1 _ ?_ ?_ ?_ ?_).mono ?_; exact t2.below ((Below.refl _ _).drew); exact t1.below ((Below.refl _ _).drew); omega; omega; rintro e w3 ⟨v3, z3, rfl, s3, m3, x3, l3, b3, -⟩; have b3' : Below w0.heap.size w0 w3 := (Below.refl _ _).drew.trans b3; have X3 : Hid (V z3 = subV (V z2) (V z1)) := x3; clear x3)
          | (go_at_call 38; refine (made_any _ _ z3 _ ?_ ?_).mono ?_; exact s3; omega; rintro e w4 ⟨v4, rfl, i4, b4⟩; have b4' : Below w0.heap.size w0 w4 := b3'.trans (b4.mono b3'.size); obtain ⟨c40, c41, f40, f41, l4⟩ := (u3.under b4').facts; obtain ⟨n4, p4, z4, c4, rfl, t4, g4, e4⟩ := i4.open))
      go_wp2_with fail
      refine bodyPost_ret (results_box2 rfl _ _ (w.heap.size + 1 + 1) _ _ rfl ((u3.under b4').set)) rfl ?_
      refine op_fin (hB.trans (b4'.mono hB.size)) (u3.under b4') (by omega) t4 g4 e4 ?_
      rw [X3.out, ← HX.out, ← HY.out]
      refine congrArg fitS ?_
      simp only [Z, subV, if_true, if_neg Bool.false_ne_true] <;> first | done | omega | (split <;> omega)
    · have hs : (0 : Int) ≤ sg (V z1) (V z2) := by have := sg_bd (V z1) (V z2); rcases Int.lt_trichotomy (V z1) (V z2) with h | h | h; omega; rw [h, sg_self]; omega; rw [sg_gt h]; omega
      generalize sg (V z1) (V z2) = k at *
      go_wp2_with fail
      go_region_held3 (fun w' => (w'.cell? ⟨w.heap.size, 0, none⟩ = some (.bool false) ∧ w'.cell? ⟨w.heap.size, 1, none⟩ = some (.slice p1 z1.length c1)) ∧ w'.cell? ⟨w.heap.size + 1, 0, none⟩ = some (.bool true) ∧ w'.cell? ⟨w.heap.size + 1, 1, none⟩ = some (.slice p2 z2.length c2))
        (first | exact ⟨u1.held ((Below.refl _ _).drew), u2.held ((Below.refl _ _).drew)⟩ | exact ⟨u1.held (by assumption), u2.held (by assumption)⟩ | exact ⟨u1.held3 b4' (by omega), u2.held3 b4' (by omega)⟩)
        (first
          | (go_at_call 67; refine (rsub_any _ _ z1 z2 _ ?_ ?_ ?_ ?_).mono ?_; exact t1.below ((Below.refl _ _).drew); exact t2.below ((Below.refl _ _).drew); omega; omega; rintro e w3 ⟨v3, z3, rfl, s3, m3, x3, l3, b3, -⟩; have b3' : Below w0.heap.size w0 w3 := (Below.refl _ _).drew.trans b3; have X3 : Hid (V z3 = subV (V z1) (V z2)) := x3; clear x3)
          | (go_at_call 38; refine (made_any _ _ z3 _ ?_ ?_).mono ?_; exact s3; omega; rintro e w4 ⟨v4, rfl, i4, b4⟩; have b4' : Below w0.heap.size w0 w4 := b3'.trans (b4.mono b3'.size); obtain ⟨c40, c41, f40, f41, l4⟩ := (u3.under b4').facts; obtain ⟨n4, p4, z4, c4, rfl, t4, g4, e4⟩ := i4.open))
      go_wp2_with fail
      refine bodyPost_ret (results_box2 rfl _ _ (w.heap.size + 1 + 1) _ _ rfl ((u3.under b4').set)) rfl ?_
      refine op_fin (hB.trans (b4'.mono hB.size)) (u3.under b4') (by omega) t4 g4 e4 ?_
      rw [X3.out, ← HX.out, ← HY.out]
      refine congrArg fitS ?_
      simp only [Z, subV, if_true, if_neg Bool.false_ne_true] <;> first | done | omega | (split <;> omega)
  · go_enter Try.func37, Try.ntmps37
    go_wp2_with fail
    generalize ((w.alloc (.cells #[.bool true, .slice p1 z1.length c1] 24)).alloc (.cells #[.bool false, .slice p2 z2.length c2] 24)).alloc (.cells #[.bool false, .slice none 0 0] 24) = w0 at *
    obtain ⟨i0, i1, -⟩ := u1.facts
    obtain ⟨j0, j1, -⟩ := u2.facts
    refine (rcmp_any _ _ z1 z2 _ t1 t2 (by omega) (by omega)).mono ?_
    rintro e w1 ⟨rfl, hw⟩
    have hw' := hw.symm
    subst hw'
    clear hw
    by_cases hc : V z1 < V z2
    · have hs : sg (V z1) (V z2) = -1 := sg_lt hc
      rw [hs]
      go_wp2_with fail
      go_region_held3 (fun w' => (w'.cell? ⟨w.heap.size, 0, none⟩ = some (.bool true) ∧ w'.cell? ⟨w.heap.size, 1, none⟩ = some (.slice p1 z1.length c1)) ∧ w'.cell? ⟨w.heap.size + 1, 0, none⟩ = some (.bool false) ∧ w'.cell? ⟨w.heap.size + 1, 1, none⟩ = some (.slice p2 z2.length c2))
        (first | exact ⟨u1.held ((Below.refl _ _).drew), u2.held ((Below.refl _ _).drew)⟩ | exact ⟨u1.held (by assumption), u2.held (by assumption)⟩ | exact ⟨u1.held3 b4' (by omega), u2.held3 b4' (by omega)⟩)
        (first
          | (go_at_call 67; refine (rsub_any _ _ z2 z1 _ ?_ ?_ ?_ ?_).mono ?_; exact t2.below ((Below.refl _ _).drew); exact t1.below ((Below.refl _ _).drew); omega; omega; rintro e w3 ⟨v3, z3, rfl, s3, m3, x3, l3, b3, -⟩; have b3' : Below w0.heap.size w0 w3 := (Below.refl _ _).drew.trans b3; have X3 : Hid (V z3 = subV (V z2) (V z1)) := x3; clear x3)
          | (go_at_call 38; refine (made_any _ _ z3 _ ?_ ?_).mono ?_; exact s3; omega; rintro e w4 ⟨v4, rfl, i4, b4⟩; have b4' : Below w0.heap.size w0 w4 := b3'.trans (b4.mono b3'.size); obtain ⟨c40, c41, f40, f41, l4⟩ := (u3.under b4').facts; obtain ⟨n4, p4, z4, c4, rfl, t4, g4, e4⟩ := i4.open))
      go_wp2_with fail
      refine bodyPost_ret (results_box2 rfl _ _ (w.heap.size + 1 + 1) _ _ rfl ((u3.under b4').set)) rfl ?_
      refine op_fin (hB.trans (b4'.mono hB.size)) (u3.under b4') (by omega) t4 g4 e4 ?_
      rw [X3.out, ← HX.out, ← HY.out]
      refine congrArg fitS ?_
      simp only [Z, subV, if_true, if_neg Bool.false_ne_true] <;> first | done | omega | (split <;> omega)
    · have hs : (0 : Int) ≤ sg (V z1) (V z2) := by have := sg_bd (V z1) (V z2); rcases Int.lt_trichotomy (V z1) (V z2) with h | h | h; omega; rw [h, sg_self]; omega; rw [sg_gt h]; omega
      generalize sg (V z1) (V z2) = k at *
      go_wp2_with fail
      go_region_held3 (fun w' => (w'.cell? ⟨w.heap.size, 0, none⟩ = some (.bool true) ∧ w'.cell? ⟨w.heap.size, 1, none⟩ = some (.slice p1 z1.length c1)) ∧ w'.cell? ⟨w.heap.size + 1, 0, none⟩ = some (.bool false) ∧ w'.cell? ⟨w.heap.size + 1, 1, none⟩ = some (.slice p2 z2.length c2))
        (first | exact ⟨u1.held ((Below.refl _ _).drew), u2.held ((Below.refl _ _).drew)⟩ | exact ⟨u1.held (by assumption), u2.held (by assumption)⟩ | exact ⟨u1.held3 b4' (by omega), u2.held3 b4' (by omega)⟩)
        (first
          | (go_at_call 67; refine (rsub_any _ _ z1 z2 _ ?_ ?_ ?_ ?_).mono ?_; exact t1.below ((Below.refl _ _).drew); exact t2.below ((Below.refl _ _).drew); omega; omega; rintro e w3 ⟨v3, z3, rfl, s3, m3, x3, l3, b3, -⟩; have b3' : Below w0.heap.size w0 w3 := (Below.refl _ _).drew.trans b3; have X3 : Hid (V z3 = subV (V z1) (V z2)) := x3; clear x3)
          | (go_at_call 38; refine (made_any _ _ z3 _ ?_ ?_).mono ?_; exact s3; omega; rintro e w4 ⟨v4, rfl, i4, b4⟩; have b4' : Below w0.heap.size w0 w4 := b3'.trans (b4.mono b3'.size); obtain ⟨c40, c41, f40, f41, l4⟩ := (u3.under b4').facts; obtain ⟨n4, p4, z4, c4, rfl, t4, g4, e4⟩ := i4.open))
      go_wp2_with fail
      refine bodyPost_ret (results_box2 rfl _ _ (w.heap.size + 1 + 1) _ _ rfl ((u3.under b4').set)) rfl ?_
      refine op_fin (hB.trans (b4'.mono hB.size)) (u3.under b4') (by omega) t4 g4 e4 ?_
      rw [X3.out, ← HX.out, ← HY.out]
      refine congrArg fitS ?_
      simp only [Z, subV, if_true, if_neg Bool.false_ne_true] <;> first | done | omega | (split <;> omega)
  · go_enter Try.func37, Try.ntmps37
    go_wp2_with fail
    generalize ((w.alloc (.cells #[.bool true, .slice p1 z1.length c1] 24)).alloc (.cells #[.bool true, .slice p2 z2.length c2] 24)).alloc (.cells #[.bool false, .slice none 0 0] 24) = w0 at *
    obtain ⟨i0, i1, -⟩ := u1.facts
    obtain ⟨j0, j1, -⟩ := u2.facts
    go_region_held3 (fun w' => (w'.cell? ⟨w.heap.size, 0, none⟩ = some (.bool true) ∧ w'.cell? ⟨w.heap.size, 1, none⟩ = some (.slice p1 z1.length c1)) ∧ w'.cell? ⟨w.heap.size + 1, 0, none⟩ = some (.bool true) ∧ w'.cell? ⟨w.heap.size + 1, 1, none⟩ = some (.slice p2 z2.length c2))
      (first | exact ⟨u1.held ((Below.refl _ _).drew), u2.held ((Below.refl _ _).drew)⟩ | exact ⟨u1.held (by assumption), u2.held (by assumption)⟩ | exact ⟨u1.held3 b4' (by omega), u2.held3 b4' (by omega)⟩)
      (first
        | (go_at_call 52; refine (radd_any _ _ z1 z2 _ ?_ ?_ ?_ ?_).mono ?_; exact t1.below ((Below.refl _ _).drew); exact t2.below ((Below.refl _ _).drew); omega; omega; rintro e w3 ⟨v3, z3, rfl, s3, m3, x3, l3, b3, -⟩; have b3' : Below w0.heap.size w0 w3 := (Below.refl _ _).drew.trans b3; have X3 : Hid (V z3 = V z1 + V z2) := x3; clear x3)
        | (go_at_call 38; refine (made_any _ _ z3 _ ?_ ?_).mono ?_; exact s3; omega; rintro e w4 ⟨v4, rfl, i4, b4⟩; have b4' : Below w0.heap.size w0 w4 := b3'.trans (b4.mono b3'.size); obtain ⟨c40, c41, f40, f41, l4⟩ := (u3.under b4').facts; obtain ⟨n4, p4, z4, c4, rfl, t4, g4, e4⟩ := i4.open))
    go_wp2_with fail
    refine bodyPost_ret (results_box2 rfl _ _ (w.heap.size + 1 + 1) _ _ rfl ((u3.under b4').set)) rfl ?_
    refine op_fin (hB.trans (b4'.mono hB.size)) (u3.under b4') (by omega) t4 g4 e4 ?_
    rw [X3.out, ← HX.out, ← HY.out]
    refine congrArg fitS ?_
    simp only [Z, subV, if_true, if_neg Bool.false_ne_true] <;> first | done | omega | (split <;> omega)
end Go.Proofs.Ytmhcgdigccaogaa

/-
  The document's own answers of layer 2 (relictref02): bit, bits.
-/
namespace Go.Proofs.Ytmhcgdigccaogaa
open Go.RowKit
set_option linter.unusedVariables false

theorem bt_at (A : List Int) (hA : Ok A) (i q p : Nat) (hi : i = 32 * q + p) (hp : p < 32) : bt (V A) i = decide (A.getD q 0 / T p % 2 = 1) := by
  rw [hi, bt_V A hA q p hp]; rfl

set_option maxRecDepth 100000 in
set_option maxHeartbeats 4000000 in
theorem bit_any (n b : Bool) (p0 : Option Addr) (m0 c0 : Nat) (vl : Value) (ls : List Int) (i : Nat) (w : World) (hl : Sl w vl ls) (hi : i ≤ 1000000) (hll : ls.length ≤ 1000) (hb : (bt (V ls) i != n) = b) :
    Calls Try.prog 73 #[.agg #[.bool n, .slice p0 m0 c0], vl, .int .i64 i] w fun e w' => e = .returned (.bool b) ∧ Below w.heap.size w w' := by
  obtain ⟨pa, ca, rfl⟩ := hl.shape
  have hb1 := (Below.refl w.heap.size w).alloc (Nat.le_refl _) (.cells #[.bool n, .slice p0 m0 c0] 24)
  have hl1 := hl.below hb1
  obtain ⟨q, hq⟩ : ∃ q, q = i / 32 := ⟨_, rfl⟩
  obtain ⟨p, hp⟩ : ∃ p, p = i % 32 := ⟨_, rfl⟩
  have hq' : (i : Int) / 32 = (q : Int) := by omega
  have hp' : (i : Int) % 32 = (p : Int) := by omega
  have hp32 : p < 32 := by omega
  rw [bt_at ls hl.ok i q p (by omega) hp32] at hb
  have hi' : (i : Int) ≤ 1000000 := by omega
  clear hq hp
  by_cases hqA : q < ls.length
  · have hqA' : (q : Int) < (ls.length : Int) := by omega
    obtain ⟨bb, off, rfl, hc⟩ := hl1.at q hqA
    have hx := hl.ok.getD q
    generalize ls.getD q 0 = x at *
    have hsb := shr_bd x p hx.1 hx.2
    have hand := and_one (x / T p) hsb.1 hsb.2
    obtain ⟨r, hr⟩ : ∃ r, r = x / T p % 2 := ⟨_, rfl⟩
    rw [← hr] at hand hb
    rw [T_pow] at hand hsb
    have hr2 : r = 0 ∨ r = 1 := by omega
    have HB : Hid ((decide (r = 1) != n) = b) := hb
    clear hr hb
    rcases hr2 with rfl | rfl
    · cases n
      · go_enter Try.func73, Try.ntmps73
        go_wp2_with fail
        go_ret
        exact ⟨by rw [← HB.out]; rfl, hb1⟩
      · go_enter Try.func73, Try.ntmps73
        go_wp2_with fail
        go_ret
        exact ⟨by rw [← HB.out]; rfl, hb1⟩
    · cases n
      · go_enter Try.func73, Try.ntmps73
        go_wp2_with fail
        go_ret
        exact ⟨by rw [← HB.out]; rfl, hb1⟩
      · go_enter Try.func73, Try.ntmps73
        go_wp2_with fail
        go_ret
        exact ⟨by rw [← HB.out]; rfl, hb1⟩
  · have hqA' : ¬ (q : Int) < (ls.length : Int) := by omega
    have e0 : ls.getD q 0 = 0 := by simp [List.getD, hqA]
    rw [e0] at hb
    have HB : Hid (n = b) := by
      show n = b
      rw [← hb]
      simp
    clear hb e0 hqA
    cases n
    · go_enter Try.func73, Try.ntmps73
      go_wp2_with fail
      go_ret
      exact ⟨by rw [← HB.out]; rfl, hb1⟩
    · go_enter Try.func73, Try.ntmps73
      go_wp2_with fail
      go_ret
      exact ⟨by rw [← HB.out]; rfl, hb1⟩

theorem or_top (p : Nat) (hp : p < 32) (y : Int) (hy0 : 0 ≤ y) (hy1 : y < T p) : bits .or .u32 y (2 ^ p) = y + T p ∧ y + T p < 4294967296 := by
  obtain ⟨Y, rfl⟩ := Int.eq_ofNat_of_zero_le hy0
  rw [T_nat] at hy1 ⊢
  have hp2 : (2 : Nat) ^ p < 2 ^ 32 := Nat.pow_lt_pow_right (by decide) hp
  have hp3 : (2 : Nat) ^ 32 = 4294967296 := by decide
  have hp4 : (2 : Nat) ^ (p + 1) ≤ 2 ^ 32 := Nat.pow_le_pow_right (by decide) hp
  have hp5 : (2 : Nat) ^ (p + 1) = 2 ^ p * 2 := Nat.pow_succ ..
  have hy2 : Y < 2 ^ p := by omega
  have e1 : ((2 : Int) ^ p) = ((2 ^ p : Nat) : Int) := by simp
  have hor := or_nat p 1 Y hy2
  rw [Nat.mul_one] at hor
  refine ⟨?_, by omega⟩
  rw [e1, u32_or_nat _ _ (by omega) (by omega), Nat.or_comm, hor]
  simp
  omega

/-- Bit by bit: what the loop has laid behind i rounds. -/
def BRel (f : Nat → Bool) (L : List Int) (i : Nat) : Prop := V L < T i ∧ ∀ j, j < i → bt (V L) j = f j

theorem bt_high {v : Int} {i : Nat} (h0 : 0 ≤ v) (h1 : v < T i) : bt v i = false := by
  unfold bt
  rw [Int.ediv_eq_zero_of_lt h0 h1]; rfl
theorem bt_add_low {v : Int} {i j : Nat} (hj : j < i) : bt (v + T i) j = bt v j := by
  unfold bt
  have e : T i = T j * (2 * T (i - j - 1)) := by
    rw [show i = j + (1 + (i - j - 1)) by omega, T_add, T_add]
    congr 1
    rw [show j + (1 + (i - j - 1)) - j - 1 = i - j - 1 by omega]
    congr 1
  rw [e, Int.add_mul_ediv_left _ _ (by have := T_pos j; omega), Int.add_mul_emod_self_left]
theorem bt_add_top {v : Int} {i : Nat} (h0 : 0 ≤ v) (h1 : v < T i) : bt (v + T i) i = true := by
  unfold bt
  have := T_pos i
  have e : (v + T i) / T i = 1 := by
    rw [show v + T i = v + T i * 1 by omega, Int.add_mul_ediv_left _ _ (by omega), Int.ediv_eq_zero_of_lt h0 h1]; rfl
  rw [e]; rfl
theorem T_double (i : Nat) : T (i + 1) = T i + T i := by
  rw [T_add]; have : T 1 = 2 := by decide
  rw [this]; omega

theorem BRel.off {f : Nat → Bool} {L : List Int} {i : Nat} (h : BRel f L i) (hL : Ok L) (hf : f i = false) : BRel f L (i + 1) := by
  refine ⟨?_, fun j hj => ?_⟩
  · have := T_double i; have := T_pos i; have := h.1; omega
  · by_cases e : j = i
    · subst e; rw [hf]; exact bt_high (V_nonneg hL) h.1
    · exact h.2 j (by omega)
theorem BRel.on {f : Nat → Bool} {L : List Int} {i q p : Nat} {y : Int} (h : BRel f L i) (hL : Ok L) (hf : f i = true) (hi : i = 32 * q + p) (hq : q < L.length) (hy : y = L.getD q 0) : BRel f (L.set q (y + T p)) (i + 1) := by
  have e : V (L.set q (y + T p)) = V L + T i := by
    rw [V_set L q _ hq, ← hy, show y + T p - y = T p by omega, ← T_32, ← T_add, ← hi]
  refine ⟨?_, fun j hj => ?_⟩
  · rw [e, T_double]; have := h.1; omega
  · rw [e]
    by_cases e2 : j = i
    · subst e2; rw [hf]; exact bt_add_top (V_nonneg hL) h.1
    · rw [bt_add_low (by omega)]; exact h.2 j (by omega)
/-- The limb where the next bit stands is below that bit. -/
theorem limb_low {L : List Int} {q p : Nat} (hL : Ok L) (h : V L < T (32 * q + p)) : L.getD q 0 < T p := by
  by_cases hq : q < L.length
  · have h1 := V_take_succ L q hq
    have h2 := V_split L (q + 1) (by omega)
    have h3 := V_nonneg (hL.drop (q + 1))
    have h4 := V_nonneg (hL.take q)
    have h5 := Int.mul_nonneg (Int.le_of_lt (B_pos (q + 1))) h3
    rw [T_add, T_32] at h
    have h6 : B q * L.getD q 0 < B q * T p := by omega
    exact Int.lt_of_mul_lt_mul_left h6 (Int.le_of_lt (B_pos q))
  · simp [List.getD, hq]; exact T_pos p

theorem less_bt (n : Bool) {x v z : Int} (hx : Z n z = x) (hv : v = lessV n z) (i : Nat) : (bt v i != n) = bt x i := by
  cases n
  · simp only [Z, lessV, if_neg Bool.false_ne_true] at hx hv
    rw [hv, hx]; simp
  · simp only [Z, lessV, if_true] at hx hv
    have : x = -1 - v := by omega
    rw [this, bt_not]; simp

/-- The end: bits as op has them, with the sign that they have above. -/
theorem bits_end {op x y : Int} {n1 n2 : Bool} {N : Nat} {L : List Int} (hL : Ok L) (hn1 : n1 = decide (x < 0)) (hn2 : n2 = decide (y < 0))
    (hx : -(T (32 * N)) ≤ x ∧ x < T (32 * N)) (hy : -(T (32 * N)) ≤ y ∧ y < T (32 * N)) (hx4 : -(T 384) ≤ x ∧ x < T 384) (hy4 : -(T 384) ≤ y ∧ y < T 384)
    (h : BRel (fun j => fop op (bt x j) (bt y j) != fop op n1 n2) L (32 * (N + 1))) : Z (fop op n1 n2) (if fop op n1 n2 = true then V L + 1 else V L) = bitS op x y := by
  have h0 := V_nonneg hL
  have all : ∀ j, bt (V L) j = (fop op (bt x j) (bt y j) != fop op n1 n2) := by
    intro j
    by_cases hj : j < 32 * (N + 1)
    · exact h.2 j hj
    · rw [bt_sign (32 * N) x hx.1 hx.2 j (by omega), bt_sign (32 * N) y hy.1 hy.2 j (by omega), ← hn1, ← hn2]
      have : T (32 * (N + 1)) ≤ T j := T_mono (by omega)
      rw [bt_high h0 (by have := h.1; omega)]
      simp
  unfold bitS
  refine bz_one (fop op) 384 hx4.1 hx4.2 hy4.1 hy4.2 fun i => ?_
  have e := all i
  generalize fop op n1 n2 = s at *
  cases s
  · simp only [Z, if_neg Bool.false_ne_true]
    rw [e]; simp
  · simp only [Z, if_true]
    rw [show -(V L + 1) = -1 - V L by omega, bt_not, e]; simp
end Go.Proofs.Ytmhcgdigccaogaa

/-
  The document's own answers of layer 2 (relictref02): bits.
-/
namespace Go.Proofs.Ytmhcgdigccaogaa
open Go.RowKit
set_option linter.unusedVariables false

theorem Sl.but0 {g : Nat} {w w' : World} {v : Value} {zs : List Int} (h : Sl w v zs) (hb : But g w w') (ho : 0 < zs.length → ∃ k, v.ownBlock = some k ∧ k < g) : Sl w' v zs := by
  by_cases h0 : 0 < zs.length
  · obtain ⟨k, e, hk⟩ := ho h0
    exact h.but hb (by rw [e]; intro e'; injection e' with e'; omega)
  · obtain ⟨hok, a, n, cap, rfl, hl, hc, hm, hn, hp⟩ := h
    exact ⟨hok, a, n, cap, rfl, hl, hc, hm, hn, fun hh => absurd (by omega) h0⟩

theorem func3_is (op : Int) (p q r : Bool) (w : World) (h : fop op p q = r) :
    Calls Try.prog 72 #[.int .i64 op, .bool p, .bool q] w fun e w' => e = .returned (.bool r) ∧ w' = w := by
  subst h; exact func3_any op p q w

set_option maxRecDepth 100000 in
set_option maxHeartbeats 8000000 in
theorem rbitw_any (op : Int) (va vb : Value) (x y : Int) (w : World) (ha : IsN w va x) (hb : IsN w vb y) : Calls Try.prog 41 #[.int .i64 op, va, vb] w fun e w' => OpPost w (fitS (bitS op x y)) e w' := by
  obtain ⟨n1, p1, z1, c1, rfl, t1, hg1, hx⟩ := ha.open
  obtain ⟨n2, p2, z2, c2, rfl, t2, hg2, hy⟩ := hb.open
  obtain ⟨hB, u1, u2, u3⟩ := boxes2 w n1 n2 p1 p2 z1.length c1 z2.length c2
  have l1 : z1.length ≤ 12 := hg1.1
  have l2 : z2.length ≤ 12 := hg2.1
  have q1 := Z_pos hg1 t1.ok
  have q2 := Z_pos hg2 t2.ok
  rw [hx] at q1
  rw [hy] at q2
  have HN1 : Hid (n1 = decide (x < 0)) := by
    show n1 = decide (x < 0)
    cases n1
    · have := q1.2 rfl; simp; omega
    · have := q1.1 rfl; simp; omega
  have HN2 : Hid (n2 = decide (y < 0)) := by
    show n2 = decide (y < 0)
    cases n2
    · have := q2.2 rfl; simp; omega
    · have := q2.1 rfl; simp; omega
  have HX : Hid (Z n1 (V z1) = x) := hx
  have HY : Hid (Z n2 (V z2) = y) := hy
  have o1 := V_nonneg t1.ok
  have o2 := V_nonneg t2.ok
  have k1 := V_lt t1.ok
  have k2 := V_lt t2.ok
  have K1 : Hid (0 ≤ V z1 ∧ V z1 < B z1.length) := ⟨o1, k1⟩
  have K2 : Hid (0 ≤ V z2 ∧ V z2 < B z2.length) := ⟨o2, k2⟩
  obtain ⟨jn, hjn⟩ : ∃ jn, fop op n1 n2 = jn := ⟨_, rfl⟩
  have HJ : Hid (fop op n1 n2 = jn) := hjn
  clear ha hb hx hy q1 q2 o1 o2 k1 k2 hjn
  replace t1 := t1.below hB
  replace t2 := t2.below hB
  go_enter Try.func41, Try.ntmps41
  go_wp2_with fail
  generalize ((w.alloc (.cells #[.bool n1, .slice p1 z1.length c1] 24)).alloc (.cells #[.bool n2, .slice p2 z2.length c2] 24)).alloc (.cells #[.bool false, .slice none 0 0] 24) = w0 at *
  have notok : Tok 0 := trivial
  go_region_held3 (fun w' => (w'.cell? ⟨w.heap.size, 0, none⟩ = some (.bool n1) ∧ w'.cell? ⟨w.heap.size, 1, none⟩ = some (.slice p1 z1.length c1)) ∧ (w'.cell? ⟨w.heap.size + 1, 0, none⟩ = some (.bool n2) ∧ w'.cell? ⟨w.heap.size + 1, 1, none⟩ = some (.slice p2 z2.length c2)))
    (first | exact two_held u1 u2 ((Below.refl _ _).drew) | exact two_held u1 u2 hk2 | exact two_held u1 u2 hk1)
    (first
      | ((have := notok; go_at_call 71; refine (rless_any n1 _ z1 _ (t1.below ((Below.refl _ _).drew)) hg1).mono ?_; rintro e x1 ⟨vx, lx, rfl, sx, ex, kx, b1⟩; clear notok; have tok1 : Tok 1 := trivial; have hk1 : Below w0.heap.size w0 x1 := bcall ((Below.refl _ _).drew) b1; have EX : Hid (V lx = lessV n1 (V z1)) := ex; clear ex))
      | ((have := tok1; go_at_call 71; refine (rless_any n2 _ z2 _ (t2.below hk1) hg2).mono ?_; rintro e x2 ⟨vy, ly, rfl, sy, ey, ky, b2⟩; clear tok1; have hk2 : Below w0.heap.size w0 x2 := bcall hk1 b2; have EY : Hid (V ly = lessV n2 (V z2)) := ey; clear ey; replace sx := sx.below b2)))
  obtain ⟨px, cx, rfl⟩ := sx.shape
  obtain ⟨py, cy, rfl⟩ := sy.shape
  replace u1 := u1.under hk2
  replace u2 := u2.under hk2
  replace u3 := u3.under hk2
  replace hB := hB.trans (hk2.mono hB.size)
  clear hk1 hk2 b1 b2 t1 t2 hg1 hg2
  obtain ⟨i0, i1, -⟩ := u1.facts
  obtain ⟨j0, j1, -⟩ := u2.facts
  obtain ⟨m, hm⟩ : ∃ m : Nat, m = max lx.length ly.length := ⟨_, rfl⟩
  have hM : (if lx.length < ly.length then (ly.length : Int) else (lx.length : Int)) = (m : Int) := by split <;> omega
  have hm1 : lx.length ≤ m := by omega
  have hm2 : ly.length ≤ m := by omega
  have hm3 : m ≤ 12 := by omega
  clear hm
  go_wp2_with fail
  refine (func3_is op n1 n2 jn _ HJ.out).mono ?_
  rintro e w' ⟨rfl, hw⟩
  have hw' := hw.symm
  subst hw'
  clear hw
  have hlx : lx.length ≤ 12 := by omega
  have hly : ly.length ≤ 12 := by omega
  have hdiv : (32 * ((m : Int) + 1)) / 32 = (m : Int) + 1 := by omega
  go_wp2_with (first | (at_make; refine wpList_make_u32 rfl _ _ rfl _ _ (m + 1) rfl rfl (by omega) (by omega) (by omega) ?_; intro w3 hrow3 hbel3) | fail)
  have HOX : Hid (0 < lx.length → ∃ k, (Value.slice px lx.length cx).ownBlock = some k ∧ k < x2.heap.size) := fun h => sx.block h
  have HOY : Hid (0 < ly.length → ∃ k, (Value.slice py ly.length cy).ownBlock = some k ∧ k < x2.heap.size) := fun h => sy.block h
  have HU : Hid (w.heap.size + 1 + 1 < x2.heap.size) := u3.lt
  replace u1 := u1.under hbel3
  replace u2 := u2.under hbel3
  replace u3 := u3.under hbel3
  replace sx := sx.below hbel3
  replace sy := sy.below hbel3
  replace hB := hB.trans (hbel3.mono hB.size)
  have hgs : w.heap.size ≤ x2.heap.size := by have := HU.out; omega
  obtain ⟨G, hG⟩ : ∃ G, G = x2.heap.size := ⟨_, rfl⟩
  rw [← hG] at hrow3 hgs HOX HOY HU
  rw [← hG]
  clear hbel3 hG i0 i1 j0 j1
  go_loopw [13] (fun s wr => ∃ (k : Nat) (L : List Int), k ≤ 32 * (m + 1) ∧ s = .int .i64 k ∧ L.length = m + 1 ∧ Ok L ∧ Row wr G L ∧ Bx wr w.heap.size n1 (.slice p1 z1.length c1) ∧ Bx wr (w.heap.size + 1) n2 (.slice p2 z2.length c2) ∧ Bx wr (w.heap.size + 1 + 1) false (.slice none 0 0) ∧ Sl wr (.slice px lx.length cx) lx ∧ Sl wr (.slice py ly.length cy) ly ∧ Below w.heap.size w wr ∧ Hid (BRel (fun j => fop op (bt x j) (bt y j) != jn) L k)) (fun s _ => 32 * (m + 1) - (intOf s).toNat)
  case atStart => exact ⟨0, zer (m + 1), by omega, rfl, zer_len _, zer_ok _, hrow3, u1, u2, u3, sx, sy, hB, ⟨by rw [zer_V]; exact T_pos 0, fun j hj => by omega⟩⟩
  case round =>
    obtain ⟨k, L, hk, rfl, hLl, hLok, hrow, v1, v2, v3, rx, ry, hbel, HR⟩ := hrel
    clear hrow3 u1 u2 u3 sx sy hB
    obtain ⟨i0, i1, -⟩ := v1.facts
    obtain ⟨j0, j1, -⟩ := v2.facts
    by_cases hkl : k < 32 * (m + 1)
    · have hkl' : (k : Int) < 32 * ((m : Int) + 1) := by omega
      obtain ⟨b1, hb1⟩ : ∃ b, bt x k = b := ⟨_, rfl⟩
      obtain ⟨b2, hb2⟩ : ∃ b, bt y k = b := ⟨_, rfl⟩
      obtain ⟨r, hr⟩ : ∃ r, fop op b1 b2 = r := ⟨_, rfl⟩
      have HB1 : Hid ((bt (V lx) k != n1) = b1) := (less_bt n1 HX.out EX.out k).trans hb1
      have HB2 : Hid ((bt (V ly) k != n2) = b2) := (less_bt n2 HY.out EY.out k).trans hb2
      have HF : Hid ((fop op (bt x k) (bt y k) != jn) = (r != jn)) := by
        show (fop op (bt x k) (bt y k) != jn) = (r != jn)
        rw [hb1, hb2, hr]
      have HRR : Hid (fop op b1 b2 = r) := hr
      clear hb1 hb2 hr
      obtain ⟨q, hq⟩ : ∃ q, q = k / 32 := ⟨_, rfl⟩
      obtain ⟨p, hp⟩ : ∃ p, p = k % 32 := ⟨_, rfl⟩
      have hq' : (k : Int) / 32 = (q : Int) := by omega
      have hp' : (k : Int) % 32 = (p : Int) := by omega
      have hp32 : p < 32 := by omega
      have HM : Hid (k = 32 * q + p) := by show k = 32 * q + p; omega
      have hqL : q < m + 1 := by omega
      have hqL' : (q : Int) < (m : Int) + 1 := by omega
      clear hq hp
      have notok : Tok 0 := trivial
      go_wp2_with fail
      go_region_held3 (fun w' => (w'.cell? ⟨w.heap.size, 0, none⟩ = some (.bool n1) ∧ w'.cell? ⟨w.heap.size, 1, none⟩ = some (.slice p1 z1.length c1)) ∧ (w'.cell? ⟨w.heap.size + 1, 0, none⟩ = some (.bool n2) ∧ w'.cell? ⟨w.heap.size + 1, 1, none⟩ = some (.slice p2 z2.length c2)))
        (first | exact two_held v1 v2 ((Below.refl _ _).drew) | exact two_held v1 v2 hk2 | exact two_held v1 v2 hk1)
        (first
          | ((have := notok; go_at_call 73; refine (bit_any n1 b1 _ _ _ _ lx k _ (rx.below ((Below.refl _ _).drew)) (by omega) (by omega) HB1.out).mono ?_; rintro e y1 ⟨rfl, d1⟩; clear notok; have tok1 : Tok 1 := trivial; have hk1 : Below wr.heap.size wr y1 := bcall ((Below.refl _ _).drew) d1))
          | ((have := tok1; go_at_call 73; refine (bit_any n2 b2 _ _ _ _ ly k _ (ry.below hk1) (by omega) (by omega) HB2.out).mono ?_; rintro e y2 ⟨rfl, d2⟩; clear tok1; have hk2 : Below wr.heap.size wr y2 := bcall hk1 d2))
          | ((go_at_call 72; refine (func3_is op b1 b2 r _ HRR.out).mono ?_; rintro e y3 ⟨rfl, hy3⟩; have hy3' := hy3.symm; subst hy3'; clear hy3)))
      have hrow' := hrow.below hk2 hrow.lt
      have v1' := v1.under hk2
      have v2' := v2.under hk2
      have v3' := v3.under hk2
      have rx' := rx.below hk2
      have ry' := ry.below hk2
      have hbel' := hbel.trans (hk2.mono hbel.size)
      clear hrow v1 v2 v3 rx ry hbel hk1 hk2 d1 d2 i0 i1 j0 j1
      have hc := hrow'.cell q (by omega)
      have hf := hrow'.frozen q
      obtain ⟨yv, hye⟩ : ∃ yv, yv = L.getD q 0 := ⟨_, rfl⟩
      have hyl := hLok.getD q
      rw [← hye] at hyl hc
      have hyT : yv < T p := by rw [hye]; exact limb_low hLok (by rw [← HM.out]; exact HR.out.1)
      obtain ⟨hor, hyb⟩ := or_top p hp32 yv hyl.1 hyT
      have hpm : (2 : Int) ^ p % 4294967296 = 2 ^ p := by
        rw [← T_pow]
        have h1 := T_mono (show p ≤ 31 by omega)
        have h2 : T 31 = 2147483648 := by decide
        exact Int.emod_eq_of_lt (Int.le_of_lt (T_pos p)) (by omega)
      rw [← hpm] at hor
      have hTp := T_pos p
      have HYE : Hid (yv = L.getD q 0) := hye
      have HL := HU.out
      clear hye hpm hyT
      have hbut := (But.refl G y2).setCell q (.int .u32 (yv + T p))
      cases r <;> cases jn
      · have HN := BRel.off HR.out hLok (HF.out.trans rfl)
        have HN' : Hid _ := HN
        clear HN
        go_wp2_with fail
        go_roundw
        case rel => exact ⟨k + 1, L, by omega, by go_num, hLl, hLok, hrow', v1', v2', v3', rx', ry', hbel', HN'.out⟩
        case measure => simp [intOf]; omega
      · have HN := BRel.on HR.out hLok (HF.out.trans rfl) HM.out (by omega) HYE.out
        have HN' : Hid _ := HN
        clear HN
        go_wp2_with fail
        go_roundw
        case rel => exact ⟨k + 1, L.set q (yv + T p), by omega, by go_num, by simpa using hLl, hLok.set q (by omega) hyb, hrow'.set q _, v1'.other hbut (by omega), v2'.other hbut (by omega), v3'.other hbut (by omega), rx'.but0 hbut HOX.out, ry'.but0 hbut HOY.out, hbel'.trans (hbut.below hgs), HN'.out⟩
        case measure => simp [intOf]; omega
      · have HN := BRel.on HR.out hLok (HF.out.trans rfl) HM.out (by omega) HYE.out
        have HN' : Hid _ := HN
        clear HN
        go_wp2_with fail
        go_roundw
        case rel => exact ⟨k + 1, L.set q (yv + T p), by omega, by go_num, by simpa using hLl, hLok.set q (by omega) hyb, hrow'.set q _, v1'.other hbut (by omega), v2'.other hbut (by omega), v3'.other hbut (by omega), rx'.but0 hbut HOX.out, ry'.but0 hbut HOY.out, hbel'.trans (hbut.below hgs), HN'.out⟩
        case measure => simp [intOf]; omega
      · have HN := BRel.off HR.out hLok (HF.out.trans rfl)
        have HN' : Hid _ := HN
        clear HN
        go_wp2_with fail
        go_roundw
        case rel => exact ⟨k + 1, L, by omega, by go_num, hLl, hLok, hrow', v1', v2', v3', rx', ry', hbel', HN'.out⟩
        case measure => simp [intOf]; omega
    · obtain rfl : k = 32 * (m + 1) := by omega
      have HE : Hid (Z jn (if jn = true then V L + 1 else V L) = bitS op x y) := by
        have a := K1.out
        have b := K2.out
        have r1 := V_lt rx.ok
        have r2 := V_lt ry.ok
        have s1 := V_nonneg rx.ok
        have s2 := V_nonneg ry.ok
        have e1 := EX.out
        have e2 := EY.out
        have m1 := B_mono hm1
        have m2 := B_mono hm2
        have m3 := B_mono l1
        have m4 := B_mono l2
        have hr : BRel (fun j => fop op (bt x j) (bt y j) != fop op n1 n2) L (32 * (m + 1)) := by rw [HJ.out]; exact HR.out
        show Z jn (if jn = true then V L + 1 else V L) = bitS op x y
        rw [← HJ.out]
        refine bits_end (N := m) hLok HN1.out HN2.out ?_ ?_ ?_ ?_ hr
        · rw [T_32, ← HX.out]
          cases n1 <;> simp [Z, lessV] at e1 ⊢ <;> omega
        · rw [T_32, ← HY.out]
          cases n2 <;> simp [Z, lessV] at e2 ⊢ <;> omega
        · rw [T384, ← HX.out]
          cases n1 <;> simp [Z] <;> omega
        · rw [T384, ← HY.out]
          cases n2 <;> simp [Z] <;> omega
      have hsl := hrow.all hLok (by omega)
      rw [hLl] at hsl
      have hkl' : ¬ (32 * ((m : Int) + 1) < 32 * ((m : Int) + 1)) := by omega
      clear HR HJ HN1 HN2 K1 K2 EX EY
      cases jn
      · have HF : Hid (fitS (Z false (V L)) = fitS (bitS op x y)) := by
          show fitS (Z false (V L)) = _
          rw [← HE.out]; simp
        go_wp2_with fail
        refine (made_any false _ L _ hsl (by omega)).mono ?_
        rw [HF.out]
        rintro e w4 ⟨v4, rfl, i4, b4⟩
        obtain ⟨n4, p4, z4, c4, rfl, t4, g4, e4⟩ := i4.open
        have u4 := v3.under b4
        obtain ⟨d0, d1, f0, f1, l4⟩ := u4.facts
        have hb4 := hbel.trans (b4.mono hbel.size)
        clear hsl b4 i4 hrow v1 v2 v3 rx ry hbel i0 i1 j0 j1
        go_wp2_with fail
        refine bodyPost_ret (results_box2 rfl _ _ (w.heap.size + 1 + 1) _ _ rfl u4.set) rfl ?_
        exact op_fin hb4 u4 (by omega) t4 g4 e4 rfl
      · have sl := sl_lit wr 1 (by decide) (by decide)
        have bd := (Below.refl wr.heap.size wr).alloc (Nat.le_refl _) (.cells #[.int .u32 1] 53)
        go_wp2_with fail
        refine (radd_any _ _ L [1] _ (hsl.below bd) sl (by omega) (by simp)).mono ?_
        rintro e w3 ⟨y3, z3, rfl, s3, m3, x3, k3, b3, -⟩
        have HF : Hid (fitS (Z true (V z3)) = fitS (bitS op x y)) := by
          show fitS (Z true (V z3)) = _
          rw [← HE.out, x3]; simp [V]
        have u3 := (v3.under bd).under b3
        have hb3 := bcall (bcall hbel bd) b3
        obtain ⟨p3, c3, rfl⟩ := s3.shape
        have hl3 : z3.length ≤ 1000000 := by simp at k3; omega
        clear hsl sl bd b3 hrow v1 v2 v3 rx ry hbel i0 i1 j0 j1 x3
        go_wp2_with fail
        refine (made_any true _ z3 _ s3 hl3).mono ?_
        rw [HF.out]
        rintro e w4 ⟨v4, rfl, i4, b4⟩
        obtain ⟨n4, p4, z4, c4, rfl, t4, g4, e4⟩ := i4.open
        have u4 := u3.under b4
        obtain ⟨d0, d1, f0, f1, l4⟩ := u4.facts
        have hb4 := hb3.trans (b4.mono hb3.size)
        clear b4 i4 u3 s3 hb3
        go_wp2_with fail
        refine bodyPost_ret (results_box2 rfl _ _ (w.heap.size + 1 + 1) _ _ rfl u4.set) rfl ?_
        exact op_fin hb4 u4 (by omega) t4 g4 e4 rfl
end Go.Proofs.Ytmhcgdigccaogaa

/-
  The document's own answers of layer 2 (relictref02): shift.
-/
namespace Go.Proofs.Ytmhcgdigccaogaa
open Go.RowKit
set_option linter.unusedVariables false

/-- shift's answer: up or down by n bits (n from 0 on). -/
def shrS (x : Int) (n : Nat) (up : Bool) : Option Int := if up = true then fitS (x * T n) else fitS (x / T n)

theorem fit_over {n : Bool} {v t : Int} (hv : 0 ≤ v) (h : B 12 ≤ v * t) : fitS (Z n v * t) = none := by
  have hB := B_pos 12
  unfold fitS
  have e : Z n v * t = Z n (v * t) := by cases n <;> simp [Z, Int.neg_mul]
  rw [e, if_neg]
  cases n <;> simp [Z] <;> omega
theorem Z_mul (n : Bool) (v t : Int) : Z n v * t = Z n (v * t) := by cases n <;> simp [Z, Int.neg_mul]

set_option maxRecDepth 100000 in
set_option maxHeartbeats 8000000 in
theorem rshift_up (va : Value) (x : Int) (n : Nat) (N : Int) (w : World) (hN : N = (n : Int)) (hn : n ≤ 10001) (ha : IsN w va x) :
    Calls Try.prog 43 #[va, .int .i64 N, .bool true] w fun e w' => OpPost w (fitS (x * T n)) e w' := by
  subst hN
  obtain ⟨n1, p1, z1, c1, rfl, t1, hg1, hx⟩ := ha.open
  obtain ⟨hB, u1, u2⟩ := boxes1 w n1 p1 z1.length c1
  have l1 : z1.length ≤ 12 := hg1.1
  have hnm : Nm z1 := hg1.2.1
  have o1 := V_nonneg t1.ok
  have HO : Hid (0 ≤ V z1) := o1
  have HX : Hid (Z n1 (V z1) = x) := hx
  have HG : Hid (Good n1 z1) := hg1
  clear ha hx hg1 o1
  replace t1 := t1.below hB
  by_cases hbig : n > 10000 ∧ 0 < z1.length
  · obtain ⟨hb1, hb2⟩ := hbig
    have hb1' : (10000 : Int) < (n : Int) := by omega
    have hb2' : (0 : Int) < (z1.length : Int) := by omega
    have HF : Hid (fitS (x * T n) = none) := by
      show fitS (x * T n) = none
      rw [← HX.out]
      refine fit_over HO.out ?_
      have h1 := V_ge t1.ok hnm hb2
      have h2 := B_pos (z1.length - 1)
      have h3 := T_mono (show 384 ≤ n by omega)
      rw [T384] at h3
      have h4 := Int.mul_le_mul (show 1 ≤ V z1 by omega) h3 (Int.le_of_lt (B_pos 12)) HO.out
      omega
    clear HX HG HO hnm
    go_enter Try.func43, Try.ntmps43
    go_wp2_with fail
    refine bodyPost_ret (results_box2 rfl _ _ (w.heap.size + 1) false (.slice none 0 0) rfl u2) rfl ?_
    rw [HF.out]
    exact ⟨_, rfl, IsN.zero _, hB⟩
  · have hbig' : (n ≤ 10000) ∨ (10000 < n ∧ z1.length = 0) := by omega
    clear hbig
    rcases hbig' with hnb | ⟨hnb, hz0⟩
    · have hnb' : ¬ ((10000 : Int) < (n : Int)) := by omega
      have HMN : Hid ((n = n ∨ z1.length = 0) ∧ n ≤ 10000) := ⟨.inl rfl, hnb⟩
      have start : Hid ((0 < (n : Int) ∧ ((0 : Nat) : Int) + (n : Int) = (n : Int)) ∨ ((n : Int) ≤ 0 ∧ 0 = n)) := by
        show _ ∨ _
        omega
      go_enter Try.func43, Try.ntmps43
      go_wp2_with fail
      generalize (w.alloc (.cells #[.bool n1, .slice p1 z1.length c1] 24)).alloc (.cells #[.bool false, .slice none 0 0] 24) = w0 at *
      go_loopw [8, 9] (fun l s wr => ∃ (kk : Int) (d : Nat) (ls : List Int), s = .int .i64 kk ∧ Hid ((0 < kk ∧ (d : Int) + kk = (n : Int)) ∨ (kk ≤ 0 ∧ d = n)) ∧ kk ≤ 10000 ∧ -32 ≤ kk ∧ Sl wr l ls ∧ Hid (V ls = V z1 * T d) ∧ Nm ls ∧ ls.length ≤ 12 ∧ Bx wr w.heap.size n1 (.slice p1 z1.length c1) ∧ Bx wr (w.heap.size + 1) false (.slice none 0 0) ∧ Below w.heap.size w wr) (fun _ s _ => (intOf s).toNat)
      case atStart => exact ⟨(n : Int), 0, z1, rfl, start, by omega, by omega, t1, by show _ = _; simp [T], hnm, l1, u1, u2, hB⟩
      case round =>
        obtain ⟨kk, d, ls, rfl, HK, hk1, hk2, sl, HV, hnl, hll, v1, v2, hbel⟩ := hrel
        clear t1 u1 u2 hB start
        obtain ⟨p5, c5, rfl⟩ := sl.shape
        obtain ⟨i0, i1, -⟩ := v1.facts
        by_cases hkp : 0 < kk
        · obtain ⟨j, hj⟩ : ∃ j : Nat, (if 32 < kk then 32 else kk) = (j : Int) := by
            split
            · exact ⟨32, rfl⟩
            · exact ⟨kk.toNat, by omega⟩
          have HJ : Hid ((j : Int) ≤ kk ∧ j ≤ 32 ∧ 0 < j ∧ (kk - 32 > 0 → j = 32) ∧ (kk - 32 ≤ 0 → (j : Int) = kk)) := by
            show _ ∧ _
            split at hj <;> omega
          go_wp2_with fail
          refine (rshl_any _ ls (j : Int) _ sl (by omega)).mono ?_
          rintro e w5 ⟨v5, z5, rfl, s5, m5, x5, k5, b5, -⟩
          obtain ⟨p6, c6, rfl⟩ := s5.shape
          have HV5 : Hid (V z5 = V z1 * T (d + j)) := by
            have := HJ.out
            show V z5 = V z1 * T (d + j)
            rw [x5, upN_nat (by omega), HV.out, T_add, Int.mul_assoc]
          have hk5 : z5.length ≤ 200 := by omega
          have v1' := v1.under b5
          have v2' := v2.under b5
          have hbel' := hbel.trans (b5.mono hbel.size)
          clear x5 sl v1 v2 hbel b5 i0 i1 hj
          obtain ⟨d0, d1, f0, f1, lt1⟩ := v2'.facts
          by_cases hz : z5.length ≤ 12
          · have hz' : ¬ ((12 : Int) < (z5.length : Int)) := by omega
            go_wp2_with fail
            go_roundw
            case rel => exact ⟨kk - 32, d + j, z5, by go_num, by have h1 := HK.out; have h2 := HJ.out; show _ ∨ _; omega, by omega, by omega, s5, HV5, m5, hz, v1', v2', hbel'⟩
            case measure => simp [intOf]; omega
          · have hz' : (12 : Int) < (z5.length : Int) := by omega
            have HF : Hid (fitS (x * T n) = none) := by
              show fitS (x * T n) = none
              rw [← HX.out]
              refine fit_over HO.out ?_
              have h0 := HJ.out
              have h1 := HK.out
              have h2 := HMN.out
              have h3 : ¬ V z5 < B 12 := fun h => hz ((room_len s5.ok m5).2 h)
              have h4 := HV5.out
              have h5 : z1.length ≠ 0 := fun h => by
                rw [List.eq_nil_of_length_eq_zero h] at h4
                simp only [V, Int.zero_mul] at h4
                have := B_pos 12
                omega
              have h6 := T_mono (show d + j ≤ n by omega)
              have h7 := Int.mul_le_mul_of_nonneg_left h6 HO.out
              omega
            clear HK HMN HV5 HV
            go_wp2_with fail
            refine bodyPost_ret (results_box2 rfl _ _ (w.heap.size + 1) false (.slice none 0 0) rfl v2'.set) rfl ?_
            rw [HF.out]
            exact ⟨_, rfl, IsN.zero _, hbel'.trans ((setBx_but _ (w.heap.size + 1) false _).below (by omega))⟩
        · have HF : Hid (fitS (Z n1 (V ls)) = fitS (x * T n)) := by
            show fitS (Z n1 (V ls)) = fitS (x * T n)
            have h1 := HK.out
            have h2 := HMN.out
            rw [← HX.out, Z_mul, HV.out]
            rcases h2.1 with h | h
            · rw [show d = n by omega]
            · rw [List.eq_nil_of_length_eq_zero h]; simp [V]
          clear HK HMN HV
          go_wp2_with fail
          refine (made_any n1 _ ls _ sl (by omega)).mono ?_
          rw [HF.out]
          rintro e w4 ⟨v4, rfl, i4, b4⟩
          obtain ⟨n4, p4, z4, c4, rfl, t4, g4, e4⟩ := i4.open
          have u4 := v2.under b4
          obtain ⟨d0, d1, f0, f1, l4⟩ := u4.facts
          have hb4 := hbel.trans (b4.mono hbel.size)
          clear b4 i4 sl v1 v2 hbel i0 i1
          go_wp2_with fail
          refine bodyPost_ret (results_box2 rfl _ _ (w.heap.size + 1) _ _ rfl u4.set) rfl ?_
          exact op_fin hb4 u4 (by omega) t4 g4 e4 rfl
    · have hnb' : (10000 : Int) < (n : Int) := by omega
      have hz0' : ¬ ((0 : Int) < (z1.length : Int)) := by omega
      have HMN : Hid ((10000 = n ∨ z1.length = 0) ∧ 10000 ≤ 10000) := ⟨.inr hz0, Nat.le_refl _⟩
      clear hz0
      have start : Hid ((0 < (10000 : Int) ∧ ((0 : Nat) : Int) + (10000 : Int) = (10000 : Int)) ∨ ((10000 : Int) ≤ 0 ∧ 0 = 10000)) := by
        show _ ∨ _
        omega
      go_enter Try.func43, Try.ntmps43
      go_wp2_with fail
      generalize (w.alloc (.cells #[.bool n1, .slice p1 z1.length c1] 24)).alloc (.cells #[.bool false, .slice none 0 0] 24) = w0 at *
      go_loopw [8, 9] (fun l s wr => ∃ (kk : Int) (d : Nat) (ls : List Int), s = .int .i64 kk ∧ Hid ((0 < kk ∧ (d : Int) + kk = (10000 : Int)) ∨ (kk ≤ 0 ∧ d = 10000)) ∧ kk ≤ 10000 ∧ -32 ≤ kk ∧ Sl wr l ls ∧ Hid (V ls = V z1 * T d) ∧ Nm ls ∧ ls.length ≤ 12 ∧ Bx wr w.heap.size n1 (.slice p1 z1.length c1) ∧ Bx wr (w.heap.size + 1) false (.slice none 0 0) ∧ Below w.heap.size w wr) (fun _ s _ => (intOf s).toNat)
      case atStart => exact ⟨(10000 : Int), 0, z1, rfl, start, by omega, by omega, t1, by show _ = _; simp [T], hnm, l1, u1, u2, hB⟩
      case round =>
        obtain ⟨kk, d, ls, rfl, HK, hk1, hk2, sl, HV, hnl, hll, v1, v2, hbel⟩ := hrel
        clear t1 u1 u2 hB start
        obtain ⟨p5, c5, rfl⟩ := sl.shape
        obtain ⟨i0, i1, -⟩ := v1.facts
        by_cases hkp : 0 < kk
        · obtain ⟨j, hj⟩ : ∃ j : Nat, (if 32 < kk then 32 else kk) = (j : Int) := by
            split
            · exact ⟨32, rfl⟩
            · exact ⟨kk.toNat, by omega⟩
          have HJ : Hid ((j : Int) ≤ kk ∧ j ≤ 32 ∧ 0 < j ∧ (kk - 32 > 0 → j = 32) ∧ (kk - 32 ≤ 0 → (j : Int) = kk)) := by
            show _ ∧ _
            split at hj <;> omega
          go_wp2_with fail
          refine (rshl_any _ ls (j : Int) _ sl (by omega)).mono ?_
          rintro e w5 ⟨v5, z5, rfl, s5, m5, x5, k5, b5, -⟩
          obtain ⟨p6, c6, rfl⟩ := s5.shape
          have HV5 : Hid (V z5 = V z1 * T (d + j)) := by
            have := HJ.out
            show V z5 = V z1 * T (d + j)
            rw [x5, upN_nat (by omega), HV.out, T_add, Int.mul_assoc]
          have hk5 : z5.length ≤ 200 := by omega
          have v1' := v1.under b5
          have v2' := v2.under b5
          have hbel' := hbel.trans (b5.mono hbel.size)
          clear x5 sl v1 v2 hbel b5 i0 i1 hj
          obtain ⟨d0, d1, f0, f1, lt1⟩ := v2'.facts
          by_cases hz : z5.length ≤ 12
          · have hz' : ¬ ((12 : Int) < (z5.length : Int)) := by omega
            go_wp2_with fail
            go_roundw
            case rel => exact ⟨kk - 32, d + j, z5, by go_num, by have h1 := HK.out; have h2 := HJ.out; show _ ∨ _; omega, by omega, by omega, s5, HV5, m5, hz, v1', v2', hbel'⟩
            case measure => simp [intOf]; omega
          · have hz' : (12 : Int) < (z5.length : Int) := by omega
            have HF : Hid (fitS (x * T n) = none) := by
              show fitS (x * T n) = none
              rw [← HX.out]
              refine fit_over HO.out ?_
              have h0 := HJ.out
              have h1 := HK.out
              have h2 := HMN.out
              have h3 : ¬ V z5 < B 12 := fun h => hz ((room_len s5.ok m5).2 h)
              have h4 := HV5.out
              have h5 : z1.length ≠ 0 := fun h => by
                rw [List.eq_nil_of_length_eq_zero h] at h4
                simp only [V, Int.zero_mul] at h4
                have := B_pos 12
                omega
              have h6 := T_mono (show d + j ≤ n by omega)
              have h7 := Int.mul_le_mul_of_nonneg_left h6 HO.out
              omega
            clear HK HMN HV5 HV
            go_wp2_with fail
            refine bodyPost_ret (results_box2 rfl _ _ (w.heap.size + 1) false (.slice none 0 0) rfl v2'.set) rfl ?_
            rw [HF.out]
            exact ⟨_, rfl, IsN.zero _, hbel'.trans ((setBx_but _ (w.heap.size + 1) false _).below (by omega))⟩
        · have HF : Hid (fitS (Z n1 (V ls)) = fitS (x * T n)) := by
            show fitS (Z n1 (V ls)) = fitS (x * T n)
            have h1 := HK.out
            have h2 := HMN.out
            rw [← HX.out, Z_mul, HV.out]
            rcases h2.1 with h | h
            · rw [show d = n by omega]
            · rw [List.eq_nil_of_length_eq_zero h]; simp [V]
          clear HK HMN HV
          go_wp2_with fail
          refine (made_any n1 _ ls _ sl (by omega)).mono ?_
          rw [HF.out]
          rintro e w4 ⟨v4, rfl, i4, b4⟩
          obtain ⟨n4, p4, z4, c4, rfl, t4, g4, e4⟩ := i4.open
          have u4 := v2.under b4
          obtain ⟨d0, d1, f0, f1, l4⟩ := u4.facts
          have hb4 := hbel.trans (b4.mono hbel.size)
          clear b4 i4 sl v1 v2 hbel i0 i1
          go_wp2_with fail
          refine bodyPost_ret (results_box2 rfl _ _ (w.heap.size + 1) _ _ rfl u4.set) rfl ?_
          exact op_fin hb4 u4 (by omega) t4 g4 e4 rfl

set_option maxRecDepth 100000 in
set_option maxHeartbeats 8000000 in
theorem rshift_down (va : Value) (x : Int) (n : Nat) (N : Int) (w : World) (hN : N = (n : Int)) (hn : n ≤ 10001) (ha : IsN w va x) :
    Calls Try.prog 43 #[va, .int .i64 N, .bool false] w fun e w' => OpPost w (fitS (x / T (min n 10000))) e w' := by
  subst hN
  obtain ⟨n1, p1, z1, c1, rfl, t1, hg1, hx⟩ := ha.open
  obtain ⟨hB, u1, u2⟩ := boxes1 w n1 p1 z1.length c1
  have l1 : z1.length ≤ 12 := hg1.1
  have HX : Hid (Z n1 (V z1) = x) := hx
  have HG : Hid (Good n1 z1) := hg1
  clear ha hx hg1
  replace t1 := t1.below hB
  obtain ⟨M, hM⟩ : ∃ M : Nat, M = min n 10000 := ⟨_, rfl⟩
  have hbig : (10000 < n ∧ M = 10000) ∨ (n ≤ 10000 ∧ M = n) := by omega
  rw [← hM]
  have hM1 : M ≤ 10000 := by omega
  have HT := T_pos M
  have HT' : Hid (0 < T M) := HT
  clear hM HT
  rcases hbig with ⟨hnb, rfl⟩ | ⟨hnb, rfl⟩
  · have hnb' : (10000 : Int) < (n : Int) := by omega
    cases n1
    · go_enter Try.func43, Try.ntmps43
      go_wp2_with fail
      generalize (w.alloc (.cells #[.bool false, .slice p1 z1.length c1] 24)).alloc (.cells #[.bool false, .slice none 0 0] 24) = w0 at *
      refine (rshr_any _ z1 _ _ t1 (by omega) (by omega)).mono ?_
      rintro e w3 ⟨v3, z3, rfl, s3, m3, x3, k3, b3, -⟩
      obtain ⟨p3, c3, rfl⟩ := s3.shape
      have HF : Hid (fitS (Z false (V z3)) = fitS (x / T 10000)) := by
        show fitS (Z false (V z3)) = fitS (x / T 10000)
        rw [x3, ← HX.out]
        rfl
      have u3 := u2.under b3
      have hb3 := bcall hB b3
      have hl3 : z3.length ≤ 1000000 := by omega
      clear t1 u1 u2 hB b3 x3 HX HG
      go_wp2_with fail
      refine (made_any false _ z3 _ s3 hl3).mono ?_
      rw [HF.out]
      rintro e w4 ⟨v4, rfl, i4, b4⟩
      obtain ⟨n4, p4, z4, c4, rfl, t4, g4, e4⟩ := i4.open
      have u4 := u3.under b4
      obtain ⟨d0, d1, f0, f1, l4⟩ := u4.facts
      have hb4 := hb3.trans (b4.mono hb3.size)
      clear b4 i4 u3 s3 hb3
      go_wp2_with fail
      refine bodyPost_ret (results_box2 rfl _ _ (w.heap.size + 1) _ _ rfl u4.set) rfl ?_
      exact op_fin hb4 u4 (by omega) t4 g4 e4 rfl
    · go_enter Try.func43, Try.ntmps43
      go_wp2_with fail
      generalize (w.alloc (.cells #[.bool true, .slice p1 z1.length c1] 24)).alloc (.cells #[.bool false, .slice none 0 0] 24) = w0 at *
      refine (rless_any true _ z1 _ t1 HG.out).mono ?_
      rintro e w2 ⟨v2, ls, rfl, s2, x2, k2, b2⟩
      obtain ⟨p2, c2, rfl⟩ := s2.shape
      have X2 : Hid (V ls = V z1 - 1) := x2
      have y2 := u2.under b2
      have hb2 := bcall hB b2
      clear t1 u1 u2 hB b2 x2 HG
      go_wp2_with fail
      refine (rshr_any _ ls _ _ s2 (by omega) (by omega)).mono ?_
      rintro e w3 ⟨v3, z3, rfl, s3, m3, x3, k3, b3, -⟩
      obtain ⟨p3, c3, rfl⟩ := s3.shape
      have X3 : Hid (V z3 = V ls / T 10000) := x3
      have y3 := y2.under b3
      have hb3 := bcall hb2 b3
      have sl := sl_lit w3 1 (by decide) (by decide)
      have bd := (Below.refl w3.heap.size w3).alloc (Nat.le_refl _) (.cells #[.int .u32 1] 53)
      have s4 := s3.below bd
      have y4 := y3.under bd
      have hb4 := bcall hb3 bd
      clear x3 s2 s3 y2 y3 hb2 hb3 bd b3
      go_wp2_with fail
      refine (radd_any _ _ z3 [1] _ s4 sl (by omega) (by simp)).mono ?_
      rintro e w5 ⟨v5, z5, rfl, s5, m5, x5, k5, b5, -⟩
      obtain ⟨p5, c5, rfl⟩ := s5.shape
      have HF : Hid (fitS (Z true (V z5)) = fitS (x / T 10000)) := by
        show fitS (Z true (V z5)) = fitS (x / T 10000)
        rw [x5, X3.out, X2.out, ← HX.out]
        refine congrArg fitS ?_
        have := floor_neg (A := V z1) HT'.out
        simp only [Z, if_true, V]
        rw [← this]
        simp
      have y5 := y4.under b5
      have hb5 := bcall hb4 b5
      have hl5 : z5.length ≤ 1000000 := by simp at k5; omega
      clear s4 sl y4 hb4 b5 x5 HX X2 X3
      go_wp2_with fail
      refine (made_any true _ z5 _ s5 hl5).mono ?_
      rw [HF.out]
      rintro e w6 ⟨v6, rfl, i6, b6⟩
      obtain ⟨n6, p6, z6, c6, rfl, t6, g6, e6⟩ := i6.open
      have u6 := y5.under b6
      obtain ⟨d0, d1, f0, f1, l4⟩ := u6.facts
      have hb6 := hb5.trans (b6.mono hb5.size)
      clear b6 i6 y5 s5 hb5
      go_wp2_with fail
      refine bodyPost_ret (results_box2 rfl _ _ (w.heap.size + 1) _ _ rfl u6.set) rfl ?_
      exact op_fin hb6 u6 (by omega) t6 g6 e6 rfl
  · have hnb' : ¬ ((10000 : Int) < (M : Int)) := by omega
    cases n1
    · go_enter Try.func43, Try.ntmps43
      go_wp2_with fail
      generalize (w.alloc (.cells #[.bool false, .slice p1 z1.length c1] 24)).alloc (.cells #[.bool false, .slice none 0 0] 24) = w0 at *
      refine (rshr_any _ z1 _ _ t1 (by omega) (by omega)).mono ?_
      rintro e w3 ⟨v3, z3, rfl, s3, m3, x3, k3, b3, -⟩
      obtain ⟨p3, c3, rfl⟩ := s3.shape
      have HF : Hid (fitS (Z false (V z3)) = fitS (x / T M)) := by
        show fitS (Z false (V z3)) = fitS (x / T M)
        rw [x3, downN_nat, ← HX.out]
        rfl
      have u3 := u2.under b3
      have hb3 := bcall hB b3
      have hl3 : z3.length ≤ 1000000 := by omega
      clear t1 u1 u2 hB b3 x3 HX HG
      go_wp2_with fail
      refine (made_any false _ z3 _ s3 hl3).mono ?_
      rw [HF.out]
      rintro e w4 ⟨v4, rfl, i4, b4⟩
      obtain ⟨n4, p4, z4, c4, rfl, t4, g4, e4⟩ := i4.open
      have u4 := u3.under b4
      obtain ⟨d0, d1, f0, f1, l4⟩ := u4.facts
      have hb4 := hb3.trans (b4.mono hb3.size)
      clear b4 i4 u3 s3 hb3
      go_wp2_with fail
      refine bodyPost_ret (results_box2 rfl _ _ (w.heap.size + 1) _ _ rfl u4.set) rfl ?_
      exact op_fin hb4 u4 (by omega) t4 g4 e4 rfl
    · go_enter Try.func43, Try.ntmps43
      go_wp2_with fail
      generalize (w.alloc (.cells #[.bool true, .slice p1 z1.length c1] 24)).alloc (.cells #[.bool false, .slice none 0 0] 24) = w0 at *
      refine (rless_any true _ z1 _ t1 HG.out).mono ?_
      rintro e w2 ⟨v2, ls, rfl, s2, x2, k2, b2⟩
      obtain ⟨p2, c2, rfl⟩ := s2.shape
      have X2 : Hid (V ls = V z1 - 1) := x2
      have y2 := u2.under b2
      have hb2 := bcall hB b2
      clear t1 u1 u2 hB b2 x2 HG
      go_wp2_with fail
      refine (rshr_any _ ls _ _ s2 (by omega) (by omega)).mono ?_
      rintro e w3 ⟨v3, z3, rfl, s3, m3, x3, k3, b3, -⟩
      obtain ⟨p3, c3, rfl⟩ := s3.shape
      have X3 : Hid (V z3 = V ls / T M) := by show V z3 = V ls / T M; rw [x3, downN_nat]
      have y3 := y2.under b3
      have hb3 := bcall hb2 b3
      have sl := sl_lit w3 1 (by decide) (by decide)
      have bd := (Below.refl w3.heap.size w3).alloc (Nat.le_refl _) (.cells #[.int .u32 1] 53)
      have s4 := s3.below bd
      have y4 := y3.under bd
      have hb4 := bcall hb3 bd
      clear x3 s2 s3 y2 y3 hb2 hb3 bd b3
      go_wp2_with fail
      refine (radd_any _ _ z3 [1] _ s4 sl (by omega) (by simp)).mono ?_
      rintro e w5 ⟨v5, z5, rfl, s5, m5, x5, k5, b5, -⟩
      obtain ⟨p5, c5, rfl⟩ := s5.shape
      have HF : Hid (fitS (Z true (V z5)) = fitS (x / T M)) := by
        show fitS (Z true (V z5)) = fitS (x / T M)
        rw [x5, X3.out, X2.out, ← HX.out]
        refine congrArg fitS ?_
        have := floor_neg (A := V z1) HT'.out
        simp only [Z, if_true, V]
        rw [← this]
        simp
      have y5 := y4.under b5
      have hb5 := bcall hb4 b5
      have hl5 : z5.length ≤ 1000000 := by simp at k5; omega
      clear s4 sl y4 hb4 b5 x5 HX X2 X3
      go_wp2_with fail
      refine (made_any true _ z5 _ s5 hl5).mono ?_
      rw [HF.out]
      rintro e w6 ⟨v6, rfl, i6, b6⟩
      obtain ⟨n6, p6, z6, c6, rfl, t6, g6, e6⟩ := i6.open
      have u6 := y5.under b6
      obtain ⟨d0, d1, f0, f1, l4⟩ := u6.facts
      have hb6 := hb5.trans (b6.mono hb5.size)
      clear b6 i6 y5 s5 hb5
      go_wp2_with fail
      refine bodyPost_ret (results_box2 rfl _ _ (w.heap.size + 1) _ _ rfl u6.set) rfl ?_
      exact op_fin hb6 u6 (by omega) t6 g6 e6 rfl
end Go.Proofs.Ytmhcgdigccaogaa
