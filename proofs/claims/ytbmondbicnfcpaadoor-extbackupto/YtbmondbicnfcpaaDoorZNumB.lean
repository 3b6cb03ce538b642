import Derived.Test.YtbmondbicnfcpaaDoorZNumA
/-
  num.sum: the sum of two numbers that may be, as a sign and limbs (it may have no room).
-/
namespace Go.Proofs.YtbmondbicnfcpaaDoor
open Go.RowKit
set_option linter.unusedVariables false
set_option linter.unusedSimpArgs false

/-- A sign and limbs without a 0 at their top are answered: z. -/
def RawPost (w : World) (z : Int) (e : Ending) (w' : World) : Prop := ∃ neg zs s, e = .returned (.agg #[.bool (neg && decide (0 < zs.length)), s]) ∧ Sl w' s zs ∧ Nm zs ∧ Z neg (V zs) = z ∧ Below w.heap.size w w'

theorem raw_end {w w4 : World} {g n c : Nat} {neg n0 : Bool} {s0 : Value} {p : Option Addr} {zs : List Int} {z : Int} (hB : Below w.heap.size w w4) (hu : Bx w4 g n0 s0) (hg : w.heap.size ≤ g) (t : Sl w4 (.slice p n c) zs) (hn : Nm zs) (hz : Z neg (V zs) = z) :
    RawPost w z (.returned (.agg #[.bool (neg && decide (0 < zs.length)), .slice p n c])) (setBx w4 g (neg && decide (0 < zs.length)) (.slice p n c)) :=
  ⟨neg, zs, _, rfl, t.box hu (setBx_but _ _ _ _), hn, hz, hB.trans ((setBx_but _ _ _ _).below hg)⟩

/-- What a walk has of an argument that may be. -/
theorem IsN.open {w : World} {v : Value} {x : Int} (h : IsN w v x) : ∃ n p zs c, v = .agg #[.bool n, .slice p (List.length zs) c] ∧ Sl w (.slice p zs.length c) zs ∧ Good n zs ∧ Z n (V zs) = x := by
  obtain ⟨n, zs, ⟨s, rfl, hs⟩, hg, hx⟩ := h
  obtain ⟨p, c, rfl⟩ := hs.shape
  exact ⟨n, p, zs, c, rfl, hs, hg, hx⟩

set_option maxHeartbeats 8000000 in
theorem sum_any (va vb : Value) (x y : Int) (w : World) (ha : IsN w va x) (hb : IsN w vb y) : Calls Tryd.prog 52 #[va, vb] w fun e w' => RawPost w (x + y) e w' := by
  obtain ⟨n1, p1, z1, c1, rfl, t1, hg1, hx⟩ := ha.open
  obtain ⟨n2, p2, z2, c2, rfl, t2, hg2, hy⟩ := hb.open
  obtain ⟨hB, u1, u2, u3⟩ := boxes2 w n1 n2 p1 p2 z1.length c1 z2.length c2
  have l1 : z1.length ≤ 12 := hg1.1
  have l2 : z2.length ≤ 12 := hg2.1
  have HX : Hid (Z n1 (V z1) = x) := hx
  have HY : Hid (Z n2 (V z2) = y) := hy
  have o1 := V_nonneg t1.ok
  have o2 := V_nonneg t2.ok
  clear ha hb hx hy hg1 hg2
  replace t1 := t1.below hB
  replace t2 := t2.below hB
  cases n1 <;> cases n2
  · go_enter Tryd.func52, Tryd.ntmps52
    go_wp2_with fail
    generalize ((w.alloc (.cells #[.bool false, .slice p1 z1.length c1] 26)).alloc (.cells #[.bool false, .slice p2 z2.length c2] 26)).alloc (.cells #[.bool false, .slice none 0 0] 26) = w0 at *
    obtain ⟨i0, i1, -⟩ := u1.facts
    obtain ⟨j0, j1, -⟩ := u2.facts
    go_region_held3 (fun w' => (w'.cell? ⟨w.heap.size, 0, none⟩ = some (.bool false) ∧ w'.cell? ⟨w.heap.size, 1, none⟩ = some (.slice p1 z1.length c1)) ∧ w'.cell? ⟨w.heap.size + 1, 0, none⟩ = some (.bool false) ∧ w'.cell? ⟨w.heap.size + 1, 1, none⟩ = some (.slice p2 z2.length c2))
      (first | exact ⟨u1.held ((Below.refl _ _).drew), u2.held ((Below.refl _ _).drew)⟩ | exact ⟨u1.held (by assumption), u2.held (by assumption)⟩ | exact ⟨u1.held3 b4' (by omega), u2.held3 b4' (by omega)⟩)
      (first
        | (go_at_call 94; refine (add_any _ _ z1 z2 _ ?_ ?_ ?_ ?_).mono ?_; exact t1.below ((Below.refl _ _).drew); exact t2.below ((Below.refl _ _).drew); omega; omega; rintro e w3 ⟨v3, z3, rfl, s3, m3, x3, l3, b3, -⟩; have b3' : Below w0.heap.size w0 w3 := (Below.refl _ _).drew.trans b3)
        | (go_at_call 53; refine (signed_any _ _ z3 _ ?_).mono ?_; exact s3; rintro e w4 ⟨s4, rfl, t4, b4⟩; have b4' : Below w0.heap.size w0 w4 := b3'.trans (b4.mono b3'.size); obtain ⟨c40, c41, f40, f41, l4⟩ := (u3.under b4').facts; obtain ⟨p4, c4, rfl⟩ := t4.shape))
    go_wp2_with fail
    refine bodyPost_ret (results_box1 rfl _ _ (w.heap.size + 1 + 1) _ _ rfl ((u3.under b4').set)) rfl ?_
    refine raw_end (neg := false) (hB.trans (b4'.mono hB.size)) (u3.under b4') (by omega) t4 m3 ?_
    rw [x3, ← HX.out, ← HY.out]
    simp only [Z, subV, if_true, if_neg Bool.false_ne_true] <;> first | omega | (split <;> omega)
  · go_enter Tryd.func52, Tryd.ntmps52
    go_wp2_with fail
    generalize ((w.alloc (.cells #[.bool false, .slice p1 z1.length c1] 26)).alloc (.cells #[.bool true, .slice p2 z2.length c2] 26)).alloc (.cells #[.bool false, .slice none 0 0] 26) = w0 at *
    obtain ⟨i0, i1, -⟩ := u1.facts
    obtain ⟨j0, j1, -⟩ := u2.facts
    refine (cmp_any _ _ z1 z2 _ t1 t2).mono ?_
    rintro e w1 ⟨rfl, hb1⟩
    replace t1 := t1.below hb1
    replace t2 := t2.below hb1
    replace u1 := u1.under hb1
    replace u2 := u2.under hb1
    replace u3 := u3.under hb1
    replace hB := hB.trans (hb1.mono hB.size)
    clear hb1 i0 i1 j0 j1
    clear w0
    rename World => w0
    obtain ⟨i0, i1, -⟩ := u1.facts
    obtain ⟨j0, j1, -⟩ := u2.facts
    by_cases hc : V z1 < V z2
    · have hs : sg (V z1) (V z2) = -1 := sg_lt hc
      rw [hs]
      go_wp2_with fail
      go_region_held3 (fun w' => (w'.cell? ⟨w.heap.size, 0, none⟩ = some (.bool false) ∧ w'.cell? ⟨w.heap.size, 1, none⟩ = some (.slice p1 z1.length c1)) ∧ w'.cell? ⟨w.heap.size + 1, 0, none⟩ = some (.bool true) ∧ w'.cell? ⟨w.heap.size + 1, 1, none⟩ = some (.slice p2 z2.length c2))
        (first | exact ⟨u1.held ((Below.refl _ _).drew), u2.held ((Below.refl _ _).drew)⟩ | exact ⟨u1.held (by assumption), u2.held (by assumption)⟩ | exact ⟨u1.held3 b4' (by omega), u2.held3 b4' (by omega)⟩)
        (first
          | (go_at_call 95; refine (sub_any _ _ z2 z1 _ ?_ ?_ ?_ ?_).mono ?_; exact t2.below ((Below.refl _ _).drew); exact t1.below ((Below.refl _ _).drew); omega; omega; rintro e w3 ⟨v3, z3, rfl, s3, m3, x3, l3, b3, -⟩; have b3' : Below w0.heap.size w0 w3 := (Below.refl _ _).drew.trans b3)
          | (go_at_call 53; refine (signed_any _ _ z3 _ ?_).mono ?_; exact s3; rintro e w4 ⟨s4, rfl, t4, b4⟩; have b4' : Below w0.heap.size w0 w4 := b3'.trans (b4.mono b3'.size); obtain ⟨c40, c41, f40, f41, l4⟩ := (u3.under b4').facts; obtain ⟨p4, c4, rfl⟩ := t4.shape))
      go_wp2_with fail
      refine bodyPost_ret (results_box1 rfl _ _ (w.heap.size + 1 + 1) _ _ rfl ((u3.under b4').set)) rfl ?_
      refine raw_end (neg := true) (hB.trans (b4'.mono hB.size)) (u3.under b4') (by omega) t4 m3 ?_
      rw [x3, ← HX.out, ← HY.out]
      simp only [Z, subV, if_true, if_neg Bool.false_ne_true] <;> first | omega | (split <;> omega)
    · have hs : (0 : Int) ≤ sg (V z1) (V z2) := by have := sg_bd (V z1) (V z2); rcases Int.lt_trichotomy (V z1) (V z2) with h | h | h; omega; rw [h, sg_self]; omega; rw [sg_gt h]; omega
      generalize sg (V z1) (V z2) = k at *
      go_wp2_with fail
      go_region_held3 (fun w' => (w'.cell? ⟨w.heap.size, 0, none⟩ = some (.bool false) ∧ w'.cell? ⟨w.heap.size, 1, none⟩ = some (.slice p1 z1.length c1)) ∧ w'.cell? ⟨w.heap.size + 1, 0, none⟩ = some (.bool true) ∧ w'.cell? ⟨w.heap.size + 1, 1, none⟩ = some (.slice p2 z2.length c2))
        (first | exact ⟨u1.held ((Below.refl _ _).drew), u2.held ((Below.refl _ _).drew)⟩ | exact ⟨u1.held (by assumption), u2.held (by assumption)⟩ | exact ⟨u1.held3 b4' (by omega), u2.held3 b4' (by omega)⟩)
        (first
          | (go_at_call 95; refine (sub_any _ _ z1 z2 _ ?_ ?_ ?_ ?_).mono ?_; exact t1.below ((Below.refl _ _).drew); exact t2.below ((Below.refl _ _).drew); omega; omega; rintro e w3 ⟨v3, z3, rfl, s3, m3, x3, l3, b3, -⟩; have b3' : Below w0.heap.size w0 w3 := (Below.refl _ _).drew.trans b3)
          | (go_at_call 53; refine (signed_any _ _ z3 _ ?_).mono ?_; exact s3; rintro e w4 ⟨s4, rfl, t4, b4⟩; have b4' : Below w0.heap.size w0 w4 := b3'.trans (b4.mono b3'.size); obtain ⟨c40, c41, f40, f41, l4⟩ := (u3.under b4').facts; obtain ⟨p4, c4, rfl⟩ := t4.shape))
      go_wp2_with fail
      refine bodyPost_ret (results_box1 rfl _ _ (w.heap.size + 1 + 1) _ _ rfl ((u3.under b4').set)) rfl ?_
      refine raw_end (neg := false) (hB.trans (b4'.mono hB.size)) (u3.under b4') (by omega) t4 m3 ?_
      rw [x3, ← HX.out, ← HY.out]
      simp only [Z, subV, if_true, if_neg Bool.false_ne_true] <;> first | omega | (split <;> omega)
  · go_enter Tryd.func52, Tryd.ntmps52
    go_wp2_with fail
    generalize ((w.alloc (.cells #[.bool true, .slice p1 z1.length c1] 26)).alloc (.cells #[.bool false, .slice p2 z2.length c2] 26)).alloc (.cells #[.bool false, .slice none 0 0] 26) = w0 at *
    obtain ⟨i0, i1, -⟩ := u1.facts
    obtain ⟨j0, j1, -⟩ := u2.facts
    refine (cmp_any _ _ z1 z2 _ t1 t2).mono ?_
    rintro e w1 ⟨rfl, hb1⟩
    replace t1 := t1.below hb1
    replace t2 := t2.below hb1
    replace u1 := u1.under hb1
    replace u2 := u2.under hb1
    replace u3 := u3.under hb1
    replace hB := hB.trans (hb1.mono hB.size)
    clear hb1 i0 i1 j0 j1
    clear w0
    rename World => w0
    obtain ⟨i0, i1, -⟩ := u1.facts
    obtain ⟨j0, j1, -⟩ := u2.facts
    by_cases hc : V z1 < V z2
    · have hs : sg (V z1) (V z2) = -1 := sg_lt hc
      rw [hs]
      go_wp2_with fail
      go_region_held3 (fun w' => (w'.cell? ⟨w.heap.size, 0, none⟩ = some (.bool true) ∧ w'.cell? ⟨w.heap.size, 1, none⟩ = some (.slice p1 z1.length c1)) ∧ w'.cell? ⟨w.heap.size + 1, 0, none⟩ = some (.bool false) ∧ w'.cell? ⟨w.heap.size + 1, 1, none⟩ = some (.slice p2 z2.length c2))
        (first | exact ⟨u1.held ((Below.refl _ _).drew), u2.held ((Below.refl _ _).drew)⟩ | exact ⟨u1.held (by assumption), u2.held (by assumption)⟩ | exact ⟨u1.held3 b4' (by omega), u2.held3 b4' (by omega)⟩)
        (first
          | (go_at_call 95; refine (sub_any _ _ z2 z1 _ ?_ ?_ ?_ ?_).mono ?_; exact t2.below ((Below.refl _ _).drew); exact t1.below ((Below.refl _ _).drew); omega; omega; rintro e w3 ⟨v3, z3, rfl, s3, m3, x3, l3, b3, -⟩; have b3' : Below w0.heap.size w0 w3 := (Below.refl _ _).drew.trans b3)
          | (go_at_call 53; refine (signed_any _ _ z3 _ ?_).mono ?_; exact s3; rintro e w4 ⟨s4, rfl, t4, b4⟩; have b4' : Below w0.heap.size w0 w4 := b3'.trans (b4.mono b3'.size); obtain ⟨c40, c41, f40, f41, l4⟩ := (u3.under b4').facts; obtain ⟨p4, c4, rfl⟩ := t4.shape))
      go_wp2_with fail
      refine bodyPost_ret (results_box1 rfl _ _ (w.heap.size + 1 + 1) _ _ rfl ((u3.under b4').set)) rfl ?_
      refine raw_end (neg := false) (hB.trans (b4'.mono hB.size)) (u3.under b4') (by omega) t4 m3 ?_
      rw [x3, ← HX.out, ← HY.out]
      simp only [Z, subV, if_true, if_neg Bool.false_ne_true] <;> first | omega | (split <;> omega)
    · have hs : (0 : Int) ≤ sg (V z1) (V z2) := by have := sg_bd (V z1) (V z2); rcases Int.lt_trichotomy (V z1) (V z2) with h | h | h; omega; rw [h, sg_self]; omega; rw [sg_gt h]; omega
      generalize sg (V z1) (V z2) = k at *
      go_wp2_with fail
      go_region_held3 (fun w' => (w'.cell? ⟨w.heap.size, 0, none⟩ = some (.bool true) ∧ w'.cell? ⟨w.heap.size, 1, none⟩ = some (.slice p1 z1.length c1)) ∧ w'.cell? ⟨w.heap.size + 1, 0, none⟩ = some (.bool false) ∧ w'.cell? ⟨w.heap.size + 1, 1, none⟩ = some (.slice p2 z2.length c2))
        (first | exact ⟨u1.held ((Below.refl _ _).drew), u2.held ((Below.refl _ _).drew)⟩ | exact ⟨u1.held (by assumption), u2.held (by assumption)⟩ | exact ⟨u1.held3 b4' (by omega), u2.held3 b4' (by omega)⟩)
        (first
          | (go_at_call 95; refine (sub_any _ _ z1 z2 _ ?_ ?_ ?_ ?_).mono ?_; exact t1.below ((Below.refl _ _).drew); exact t2.below ((Below.refl _ _).drew); omega; omega; rintro e w3 ⟨v3, z3, rfl, s3, m3, x3, l3, b3, -⟩; have b3' : Below w0.heap.size w0 w3 := (Below.refl _ _).drew.trans b3)
          | (go_at_call 53; refine (signed_any _ _ z3 _ ?_).mono ?_; exact s3; rintro e w4 ⟨s4, rfl, t4, b4⟩; have b4' : Below w0.heap.size w0 w4 := b3'.trans (b4.mono b3'.size); obtain ⟨c40, c41, f40, f41, l4⟩ := (u3.under b4').facts; obtain ⟨p4, c4, rfl⟩ := t4.shape))
      go_wp2_with fail
      refine bodyPost_ret (results_box1 rfl _ _ (w.heap.size + 1 + 1) _ _ rfl ((u3.under b4').set)) rfl ?_
      refine raw_end (neg := true) (hB.trans (b4'.mono hB.size)) (u3.under b4') (by omega) t4 m3 ?_
      rw [x3, ← HX.out, ← HY.out]
      simp only [Z, subV, if_true, if_neg Bool.false_ne_true] <;> first | omega | (split <;> omega)
  · go_enter Tryd.func52, Tryd.ntmps52
    go_wp2_with fail
    generalize ((w.alloc (.cells #[.bool true, .slice p1 z1.length c1] 26)).alloc (.cells #[.bool true, .slice p2 z2.length c2] 26)).alloc (.cells #[.bool false, .slice none 0 0] 26) = w0 at *
    obtain ⟨i0, i1, -⟩ := u1.facts
    obtain ⟨j0, j1, -⟩ := u2.facts
    go_region_held3 (fun w' => (w'.cell? ⟨w.heap.size, 0, none⟩ = some (.bool true) ∧ w'.cell? ⟨w.heap.size, 1, none⟩ = some (.slice p1 z1.length c1)) ∧ w'.cell? ⟨w.heap.size + 1, 0, none⟩ = some (.bool true) ∧ w'.cell? ⟨w.heap.size + 1, 1, none⟩ = some (.slice p2 z2.length c2))
      (first | exact ⟨u1.held ((Below.refl _ _).drew), u2.held ((Below.refl _ _).drew)⟩ | exact ⟨u1.held (by assumption), u2.held (by assumption)⟩ | exact ⟨u1.held3 b4' (by omega), u2.held3 b4' (by omega)⟩)
      (first
        | (go_at_call 94; refine (add_any _ _ z1 z2 _ ?_ ?_ ?_ ?_).mono ?_; exact t1.below ((Below.refl _ _).drew); exact t2.below ((Below.refl _ _).drew); omega; omega; rintro e w3 ⟨v3, z3, rfl, s3, m3, x3, l3, b3, -⟩; have b3' : Below w0.heap.size w0 w3 := (Below.refl _ _).drew.trans b3)
        | (go_at_call 53; refine (signed_any _ _ z3 _ ?_).mono ?_; exact s3; rintro e w4 ⟨s4, rfl, t4, b4⟩; have b4' : Below w0.heap.size w0 w4 := b3'.trans (b4.mono b3'.size); obtain ⟨c40, c41, f40, f41, l4⟩ := (u3.under b4').facts; obtain ⟨p4, c4, rfl⟩ := t4.shape))
    go_wp2_with fail
    refine bodyPost_ret (results_box1 rfl _ _ (w.heap.size + 1 + 1) _ _ rfl ((u3.under b4').set)) rfl ?_
    refine raw_end (neg := true) (hB.trans (b4'.mono hB.size)) (u3.under b4') (by omega) t4 m3 ?_
    rw [x3, ← HX.out, ← HY.out]
    simp only [Z, subV, if_true, if_neg Bool.false_ne_true] <;> first | omega | (split <;> omega)
end Go.Proofs.YtbmondbicnfcpaaDoor

/-
  num.divide: the quotient, cut towards 0, or what is left of it; 0 and false, if the divisor is 0.
-/
namespace Go.Proofs.YtbmondbicnfcpaaDoor
open Go.RowKit
set_option linter.unusedVariables false
set_option linter.unusedSimpArgs false

/-- 4: the quotient; 5: what is left. -/
def divS (op x y : Int) : Option Int := if y = 0 then none else some (if op = 5 then x.tmod y else x.tdiv y)

theorem div_parts {a d q r : Int} (hd : 0 < d) (hr : 0 ≤ r) (h : q * d + r = a) (hl : r < d) : a.tdiv d = q ∧ a.tmod d = r ∨ a < 0 := by
  by_cases ha : a < 0
  · exact .inr ha
  · left
    have h1 : a / d = q := by
      rw [← h, Int.add_comm, Int.add_mul_ediv_right _ _ (by omega), Int.ediv_eq_zero_of_lt hr hl]; omega
    have h2 : a % d = r := by
      rw [← h, Int.add_comm, Int.add_mul_emod_self_right, Int.emod_eq_of_lt hr hl]
    exact ⟨by rw [Int.tdiv_eq_ediv_of_nonneg (by omega), h1], by rw [Int.tmod_eq_emod_of_nonneg (by omega), h2]⟩

theorem divS_quo {n1 n2 : Bool} {a d q r op : Int} (hop : op ≠ 5) (ha : 0 ≤ a) (hd : 0 < d) (hr : 0 ≤ r) (h : q * d + r = a) (hl : r < d) : divS op (Z n1 a) (Z n2 d) = some (Z (n1 != n2) q) := by
  have e := (div_parts hd hr h hl).resolve_right (by omega)
  unfold divS
  rw [if_neg (by cases n2 <;> simp [Z] <;> omega), if_neg hop]
  cases n1 <;> cases n2 <;> simp [Z, Int.neg_tdiv, Int.tdiv_neg, e.1]
theorem divS_rem {n1 n2 : Bool} {a d q r : Int} (ha : 0 ≤ a) (hd : 0 < d) (hr : 0 ≤ r) (h : q * d + r = a) (hl : r < d) : divS 5 (Z n1 a) (Z n2 d) = some (Z n1 r) := by
  have e := (div_parts hd hr h hl).resolve_right (by omega)
  unfold divS
  rw [if_neg (by cases n2 <;> simp [Z] <;> omega), if_pos rfl]
  cases n1 <;> cases n2 <;> simp [Z, Int.neg_tmod, Int.tmod_neg, e.2]
theorem quo_le {a d q r : Int} (hd : 0 < d) (hq : 0 ≤ q) (hr : 0 ≤ r) (h : q * d + r = a) : q ≤ a := by
  have : q * 1 ≤ q * d := Int.mul_le_mul_of_nonneg_left (by omega) hq
  omega

theorem op_end {w w4 : World} {g n c : Nat} {neg n0 b : Bool} {s0 : Value} {p : Option Addr} {zs : List Int} {r : Option Int} (hB : Below w.heap.size w w4) (hu : Bx w4 g n0 s0) (hg : w.heap.size ≤ g) (t : Sl w4 (.slice p n c) zs) (hn : Nm zs) (hl : zs.length ≤ 12) (hz : Z neg (V zs) = r.getD 0) (hb : b = r.isSome) :
    OpPost w r (.returned (.tuple #[.agg #[.bool (neg && decide (0 < zs.length)), .slice p n c], .bool b])) (setBx w4 g (neg && decide (0 < zs.length)) (.slice p n c)) := by
  subst hb
  exact ⟨_, rfl, ⟨_, zs, ⟨_, rfl, t.box hu (setBx_but _ _ _ _)⟩, (good_signed neg hn).2 hl, (Z_signed neg zs).trans hz⟩, hB.trans ((setBx_but _ _ _ _).below hg)⟩

set_option maxHeartbeats 8000000 in
theorem ndivide_any (op : Int) (va vb : Value) (x y : Int) (w : World) (ha : IsN w va x) (hb : IsN w vb y) : Calls Tryd.prog 55 #[.int .i64 op, va, vb] w fun e w' => OpPost w (divS op x y) e w' := by
  obtain ⟨n1, p1, z1, c1, rfl, t1, hg1, hx⟩ := ha.open
  obtain ⟨n2, p2, z2, c2, rfl, t2, hg2, hy⟩ := hb.open
  obtain ⟨hB, u1, u2, u3⟩ := boxes2 w n1 n2 p1 p2 z1.length c1 z2.length c2
  have l1 : z1.length ≤ 12 := hg1.1
  have l2 : z2.length ≤ 12 := hg2.1
  have HX : Hid (Z n1 (V z1) = x) := hx
  have HY : Hid (Z n2 (V z2) = y) := hy
  have HN1 : Hid (Nm z1) := hg1.2.1
  have HN2 : Hid (Nm z2) := hg2.2.1
  clear ha hb hx hy hg1 hg2
  replace t1 := t1.below hB
  replace t2 := t2.below hB
  go_enter Tryd.func55, Tryd.ntmps55
  go_wp2_with fail
  refine (div_any _ _ z1 z2 _ t1 t2 (by omega) (by omega)).mono ?_
  rintro e w1 ⟨q3, r3, zq, zr, rfl, sq, sr, mq, mr, -, -, b1, e0, e1⟩
  replace t1 := t1.below b1
  replace t2 := t2.below b1
  replace u1 := u1.under b1
  replace u2 := u2.under b1
  replace u3 := u3.under b1
  replace hB := hB.trans (b1.mono hB.size)
  clear b1
  have o1 := V_nonneg t1.ok
  have o2 := V_nonneg t2.ok
  have oq := V_nonneg sq.ok
  have or := V_nonneg sr.ok
  have B1 := (room_len t1.ok HN1.out).1 l1
  have B2 := (room_len t2.ok HN2.out).1 l2
  by_cases h5 : op = 5
  · subst h5
    by_cases h0 : z2.length = 0
    · obtain rfl : z2 = [] := List.eq_nil_of_length_eq_zero h0
      have hy0 : y = 0 := by rw [← HY.out]; cases n2 <;> rfl
      have HD : Hid (divS 5 x y = none) := if_pos hy0
      obtain ⟨v1, v2⟩ := e0 rfl
      have HL : Hid (zr.length ≤ 12) := by rw [show zr = [] from len_zero sr.ok mr v2]; exact Nat.zero_le _
      have HV : Hid (V zr = 0) := v2
      clear e0 e1 v1 v2 h0 hy0 o1 o2 oq or B1 B2
      generalize hgw : w1 = w0 at *
      clear hgw
      obtain ⟨i0, i1, -⟩ := u1.facts
      obtain ⟨j0, j1, -⟩ := u2.facts

      go_wp2_with fail
      go_region_held3 (fun w' => (w'.cell? ⟨w.heap.size, 0, none⟩ = some (.bool n1) ∧ w'.cell? ⟨w.heap.size, 1, none⟩ = some (.slice p1 z1.length c1)) ∧ w'.cell? ⟨w.heap.size + 1, 0, none⟩ = some (.bool n2) ∧ w'.cell? ⟨w.heap.size + 1, 1, none⟩ = some (.slice p2 0 c2))
        (first | exact ⟨u1.held ((Below.refl _ _).drew), u2.held ((Below.refl _ _).drew)⟩ | exact ⟨u1.held (by assumption), u2.held (by assumption)⟩ | exact ⟨u1.held3 b4' (by omega), u2.held3 b4' (by omega)⟩)
        (first
          | (go_at_call 53; refine (signed_any _ _ zr _ ?_).mono ?_; exact sr.below ((Below.refl _ _).drew); rintro e w4 ⟨s4, rfl, t4, b4⟩; have b4' : Below w0.heap.size w0 w4 := (Below.refl _ _).drew.trans b4; obtain ⟨c40, c41, f40, f41, l4⟩ := (u3.under b4').facts; obtain ⟨p4, c4, rfl⟩ := t4.shape))
      go_wp2_with fail
      refine bodyPost_ret (results_box2 rfl _ _ (w.heap.size + 1 + 1) _ _ rfl ((u3.under b4').set)) rfl ?_
      exact op_end (neg := n1) (hB.trans (b4'.mono hB.size)) (u3.under b4') (by omega) t4 mr HL.out (by rw [HD.out, HV.out]; cases n1 <;> rfl) (by rw [HD.out]; rfl)
    · have hp : 0 < V z2 := by
        have : V z2 ≠ 0 := fun h => h0 (by rw [len_zero t2.ok HN2.out h]; rfl)
        omega
      obtain ⟨v1, v2⟩ := e1 (by omega)
      have HD : Hid (divS 5 x y = some (Z n1 (V zr))) := by
        show divS 5 x y = _
        rw [← HX.out, ← HY.out]
        exact divS_rem o1 hp or v1 v2
      have HL : Hid (zr.length ≤ 12) := (room_len sr.ok mr).2 (by omega)
      clear e0 e1 v1 v2 hp o1 o2 oq or B1 B2
      generalize hgw : w1 = w0 at *
      clear hgw
      obtain ⟨i0, i1, -⟩ := u1.facts
      obtain ⟨j0, j1, -⟩ := u2.facts
      have hp' : (0 : Int) < (z2.length : Int) := by omega
      have hp2 : 0 < z2.length := by omega
      go_wp2_with fail
      go_region_held3 (fun w' => (w'.cell? ⟨w.heap.size, 0, none⟩ = some (.bool n1) ∧ w'.cell? ⟨w.heap.size, 1, none⟩ = some (.slice p1 z1.length c1)) ∧ w'.cell? ⟨w.heap.size + 1, 0, none⟩ = some (.bool n2) ∧ w'.cell? ⟨w.heap.size + 1, 1, none⟩ = some (.slice p2 z2.length c2))
        (first | exact ⟨u1.held ((Below.refl _ _).drew), u2.held ((Below.refl _ _).drew)⟩ | exact ⟨u1.held (by assumption), u2.held (by assumption)⟩ | exact ⟨u1.held3 b4' (by omega), u2.held3 b4' (by omega)⟩)
        (first
          | (go_at_call 53; refine (signed_any _ _ zr _ ?_).mono ?_; exact sr.below ((Below.refl _ _).drew); rintro e w4 ⟨s4, rfl, t4, b4⟩; have b4' : Below w0.heap.size w0 w4 := (Below.refl _ _).drew.trans b4; obtain ⟨c40, c41, f40, f41, l4⟩ := (u3.under b4').facts; obtain ⟨p4, c4, rfl⟩ := t4.shape))
      go_wp2_with fail
      refine bodyPost_ret (results_box2 rfl _ _ (w.heap.size + 1 + 1) _ _ rfl ((u3.under b4').set)) rfl ?_
      exact op_end (neg := n1) (hB.trans (b4'.mono hB.size)) (u3.under b4') (by omega) t4 mr HL.out (by rw [HD.out]; rfl) (by rw [HD.out]; rfl)
  · have h5' : (op == 5) = false := beq_eq_false_iff_ne.2 h5
    by_cases h0 : z2.length = 0
    · obtain rfl : z2 = [] := List.eq_nil_of_length_eq_zero h0
      have hy0 : y = 0 := by rw [← HY.out]; cases n2 <;> rfl
      have HD : Hid (divS op x y = none) := if_pos hy0
      obtain ⟨v1, v2⟩ := e0 rfl
      have HL : Hid (zq.length ≤ 12) := by rw [show zq = [] from len_zero sq.ok mq v1]; exact Nat.zero_le _
      have HV : Hid (V zq = 0) := v1
      clear e0 e1 v1 v2 h0 hy0 o1 o2 oq or B1 B2
      generalize hgw : w1 = w0 at *
      clear hgw
      obtain ⟨i0, i1, -⟩ := u1.facts
      obtain ⟨j0, j1, -⟩ := u2.facts

      go_wp2_with fail
      go_region_held3 (fun w' => (w'.cell? ⟨w.heap.size, 0, none⟩ = some (.bool n1) ∧ w'.cell? ⟨w.heap.size, 1, none⟩ = some (.slice p1 z1.length c1)) ∧ w'.cell? ⟨w.heap.size + 1, 0, none⟩ = some (.bool n2) ∧ w'.cell? ⟨w.heap.size + 1, 1, none⟩ = some (.slice p2 0 c2))
        (first | exact ⟨u1.held ((Below.refl _ _).drew), u2.held ((Below.refl _ _).drew)⟩ | exact ⟨u1.held (by assumption), u2.held (by assumption)⟩ | exact ⟨u1.held3 b4' (by omega), u2.held3 b4' (by omega)⟩)
        (first
          | (go_at_call 53; refine (signed_any _ _ zq _ ?_).mono ?_; exact sq.below ((Below.refl _ _).drew); rintro e w4 ⟨s4, rfl, t4, b4⟩; have b4' : Below w0.heap.size w0 w4 := (Below.refl _ _).drew.trans b4; obtain ⟨c40, c41, f40, f41, l4⟩ := (u3.under b4').facts; obtain ⟨p4, c4, rfl⟩ := t4.shape))
      go_wp2_with fail
      refine bodyPost_ret (results_box2 rfl _ _ (w.heap.size + 1 + 1) _ _ rfl ((u3.under b4').set)) rfl ?_
      exact op_end (neg := (n1 != n2)) (hB.trans (b4'.mono hB.size)) (u3.under b4') (by omega) t4 mq HL.out (by rw [HD.out, HV.out]; cases (n1 != n2) <;> rfl) (by rw [HD.out]; rfl)
    · have hp : 0 < V z2 := by
        have : V z2 ≠ 0 := fun h => h0 (by rw [len_zero t2.ok HN2.out h]; rfl)
        omega
      obtain ⟨v1, v2⟩ := e1 (by omega)
      have HD : Hid (divS op x y = some (Z (n1 != n2) (V zq))) := by
        show divS op x y = _
        rw [← HX.out, ← HY.out]
        exact divS_quo h5 o1 hp or v1 v2
      have HL : Hid (zq.length ≤ 12) := (room_len sq.ok mq).2 (by have := quo_le hp oq or v1; omega)
      clear e0 e1 v1 v2 hp o1 o2 oq or B1 B2
      generalize hgw : w1 = w0 at *
      clear hgw
      obtain ⟨i0, i1, -⟩ := u1.facts
      obtain ⟨j0, j1, -⟩ := u2.facts
      have hp' : (0 : Int) < (z2.length : Int) := by omega
      have hp2 : 0 < z2.length := by omega
      go_wp2_with fail
      go_region_held3 (fun w' => (w'.cell? ⟨w.heap.size, 0, none⟩ = some (.bool n1) ∧ w'.cell? ⟨w.heap.size, 1, none⟩ = some (.slice p1 z1.length c1)) ∧ w'.cell? ⟨w.heap.size + 1, 0, none⟩ = some (.bool n2) ∧ w'.cell? ⟨w.heap.size + 1, 1, none⟩ = some (.slice p2 z2.length c2))
        (first | exact ⟨u1.held ((Below.refl _ _).drew), u2.held ((Below.refl _ _).drew)⟩ | exact ⟨u1.held (by assumption), u2.held (by assumption)⟩ | exact ⟨u1.held3 b4' (by omega), u2.held3 b4' (by omega)⟩)
        (first
          | (go_at_call 53; refine (signed_any _ _ zq _ ?_).mono ?_; exact sq.below ((Below.refl _ _).drew); rintro e w4 ⟨s4, rfl, t4, b4⟩; have b4' : Below w0.heap.size w0 w4 := (Below.refl _ _).drew.trans b4; obtain ⟨c40, c41, f40, f41, l4⟩ := (u3.under b4').facts; obtain ⟨p4, c4, rfl⟩ := t4.shape))
      go_wp2_with fail
      refine bodyPost_ret (results_box2 rfl _ _ (w.heap.size + 1 + 1) _ _ rfl ((u3.under b4').set)) rfl ?_
      exact op_end (neg := (n1 != n2)) (hB.trans (b4'.mono hB.size)) (u3.under b4') (by omega) t4 mq HL.out (by rw [HD.out]; rfl) (by rw [HD.out]; rfl)
end Go.Proofs.YtbmondbicnfcpaaDoor
