/-
  num.sum: the sum of two numbers that may be, as a sign and limbs (it may have no room).
-/
import Derived.Test.YtmhcgdigccaogaaNumInt
namespace Go.Proofs.Ytmhcgdigccaogaa
open Go.RowKit
set_option linter.unusedVariables false
set_option linter.unusedSimpArgs false

/-- A sign and limbs without a 0 at their top are answered: z. -/
def RawPost (w : World) (z : Int) (e : Ending) (w' : World) : Prop := ∃ neg zs s, e = .returned (.agg #[.bool (neg && decide (0 < zs.length)), s]) ∧ Sl w' s zs ∧ Nm zs ∧ Z neg (V zs) = z ∧ Below w.heap.size w w'

theorem raw_end {w w4 : World} {g n c : Nat} {neg n0 : Bool} {s0 : Value} {p : Option Addr} {zs : List Int} {z : Int} (hB : Below w.heap.size w w4) (hu : Bx w4 g n0 s0) (hg : w.heap.size ≤ g) (t : Sl w4 (.slice p n c) zs) (hn : Nm zs) (hz : Z neg (V zs) = z) :
    RawPost w z (.returned (.agg #[.bool (neg && decide (0 < zs.length)), .slice p n c])) (setBx w4 g (neg && decide (0 < zs.length)) (.slice p n c)) :=
  ⟨neg, zs, _, rfl, t.box hu (setBx_but _ _ _ _), hn, hz, hB.trans ((setBx_but _ _ _ _).below hg)⟩

/-- What a walk has of an argument that may be. -/
theorem IsN.open {w : World} {v : Value} {x : Int} (h : IsN w v x) : ∃ n p zs c, v = .agg #[.bool n, .slice p (List.length zs) c] ∧ Sl w (.slice p zs.length c) zs ∧ Good n zs ∧ Z n (V zs) = x := by
  obtain ⟨n, zs, ⟨s, rfl, hs⟩, hg, hx⟩ := h
  obtain ⟨p, c, rfl⟩ := hs.shape
  exact ⟨n, p, zs, c, rfl, hs, hg, hx⟩

set_option maxHeartbeats 8000000 in
theorem sum_any (va vb : Value) (x y : Int) (w : World) (ha : IsN w va x) (hb : IsN w vb y) : Calls Try.prog 30 #[va, vb] w fun e w' => RawPost w (x + y) e w' := by
  obtain ⟨n1, p1, z1, c1, rfl, t1, hg1, hx⟩ := ha.open
  obtain ⟨n2, p2, z2, c2, rfl, t2, hg2, hy⟩ := hb.open
  obtain ⟨hB, u1, u2, u3⟩ := boxes2 w n1 n2 p1 p2 z1.length c1 z2.length c2
  have l1 : z1.length ≤ 12 := hg1.1
  have l2 : z2.length ≤ 12 := hg2.1
  have HX : Hid (Z n1 (V z1) = x) := hx
  have HY : Hid (Z n2 (V z2) = y) := hy
  have o1 := V_nonneg t1.ok
  have o2 := V_nonneg t2.ok
  clear ha hb hx hy hg1 hg2
  replace t1 := t1.below hB
  replace t2 := t2.below hB
  cases n1 <;> cases n2
  · go_enter Try.func30, Try.ntmps30
    go_wp2_with fail
    generalize ((w.alloc (.cells #[.bool false, .slice p1 z1.length c1] 24)).alloc (.cells #[.bool false, .slice p2 z2.length c2] 24)).alloc (.cells #[.bool false, .slice none 0 0] 24) = w0 at *
    obtain ⟨i0, i1, -⟩ := u1.facts
    obtain ⟨j0, j1, -⟩ := u2.facts
    go_region_held3 (fun w' => (w'.cell? ⟨w.heap.size, 0, none⟩ = some (.bool false) ∧ w'.cell? ⟨w.heap.size, 1, none⟩ = some (.slice p1 z1.length c1)) ∧ w'.cell? ⟨w.heap.size + 1, 0, none⟩ = some (.bool false) ∧ w'.cell? ⟨w.heap.size + 1, 1, none⟩ = some (.slice p2 z2.length c2))
      (first | exact ⟨u1.held ((Below.refl _ _).drew), u2.held ((Below.refl _ _).drew)⟩ | exact ⟨u1.held (by assumption), u2.held (by assumption)⟩ | exact ⟨u1.held3 b4' (by omega), u2.held3 b4' (by omega)⟩)
      (first
        | (go_at_call 55; refine (add_any _ _ z1 z2 _ ?_ ?_ ?_ ?_).mono ?_; exact t1.below ((Below.refl _ _).drew); exact t2.below ((Below.refl _ _).drew); omega; omega; rintro e w3 ⟨v3, z3, rfl, s3, m3, x3, l3, b3, -⟩; have b3' : Below w0.heap.size w0 w3 := (Below.refl _ _).drew.trans b3)
        | (go_at_call 31; refine (signed_any _ _ z3 _ ?_).mono ?_; exact s3; rintro e w4 ⟨s4, rfl, t4, b4⟩; have b4' : Below w0.heap.size w0 w4 := b3'.trans (b4.mono b3'.size); obtain ⟨c40, c41, f40, f41, l4⟩ := (u3.under b4').facts; obtain ⟨p4, c4, rfl⟩ := t4.shape))
    go_wp2_with fail
    refine bodyPost_ret (results_box1 rfl _ _ (w.heap.size + 1 + 1) _ _ rfl ((u3.under b4').set)) rfl ?_
    refine raw_end (neg := false) (hB.trans (b4'.mono hB.size)) (u3.under b4') (by omega) t4 m3 ?_
    rw [x3, ← HX.out, ← HY.out]
    simp only [Z, subV, if_true, if_neg Bool.false_ne_true] <;> first | omega | (split <;> omega)
  · go_enter Try.func30, Try.ntmps30
    go_wp2_with fail
    generalize ((w.alloc (.cells #[.bool false, .slice p1 z1.length c1] 24)).alloc (.cells #[.bool true, .slice p2 z2.length c2] 24)).alloc (.cells #[.bool false, .slice none 0 0] 24) = w0 at *
    obtain ⟨i0, i1, -⟩ := u1.facts
    obtain ⟨j0, j1, -⟩ := u2.facts
    refine (cmp_any _ _ z1 z2 _ t1 t2).mono ?_
    rintro e w1 ⟨rfl, hb1⟩
    replace t1 := t1.below hb1
    replace t2 := t2.below hb1
    replace u1 := u1.under hb1
    replace u2 := u2.under hb1
    replace u3 := u3.under hb1
    replace hB := hB.trans (hb1.mono hB.size)
    clear hb1 i0 i1 j0 j1
    clear w0
    rename World => w0
    obtain ⟨i0, i1, -⟩ := u1.facts
    obtain ⟨j0, j1, -⟩ := u2.facts
    by_cases hc : V z1 < V z2
    · have hs : sg (V z1) (V z2) = -1 := sg_lt hc
      rw [hs]
      go_wp2_with fail
      go_region_held3 (fun w' => (w'.cell? ⟨w.heap.size, 0, none⟩ = some (.bool false) ∧ w'.cell? ⟨w.heap.size, 1, none⟩ = some (.slice p1 z1.length c1)) ∧ w'.cell? ⟨w.heap.size + 1, 0, none⟩ = some (.bool true) ∧ w'.cell? ⟨w.heap.size + 1, 1, none⟩ = some (.slice p2 z2.length c2))
        (first | exact ⟨u1.held ((Below.refl _ _).drew), u2.held ((Below.refl _ _).drew)⟩ | exact ⟨u1.held (by assumption), u2.held (by assumption)⟩ | exact ⟨u1.held3 b4' (by omega), u2.held3 b4' (by omega)⟩)
        (first
          | (go_at_call 56; refine (sub_any _ _ z2 z1 _ ?_ ?_ ?_ ?_).mono ?_; exact t2.below ((Below.refl _ _).drew); exact t1.below ((Below.refl _ _).drew); omega; omega; rintro e w3 ⟨v3, z3, rfl, s3, m3, x3, l3, b3, -⟩; have b3' : Below w0.heap.size w0 w3 := (Below.refl _ _).drew.trans b3)
          | (go_at_call 31; refine (signed_any _ _ z3 _ ?_).mono ?_; exact s3; rintro e w4 ⟨s4, rfl, t4, b4⟩; have b4' : Below w0.heap.size w0 w4 := b3'.trans (b4.mono b3'.size); obtain ⟨c40, c41, f40, f41, l4⟩ := (u3.under b4').facts; obtain ⟨p4, c4, rfl⟩ := t4.shape))
      go_wp2_with fail
      refine bodyPost_ret (results_box1 rfl _ _ (w.heap.size + 1 + 1) _ _ rfl ((u3.under b4').set)) rfl ?_
      refine raw_end (neg := true) (hB.trans (b4'.mono hB.size)) (u3.under b4') (by omega) t4 m3 ?_
      rw [x3, ← HX.out, ← HY.out]
      simp only [Z, subV, if_true, if_neg Bool.false_ne_true] <;> first | omega | (split <;> omega)
    · have hs : (0 : Int) ≤ sg (V z1) (V z2) := by have := sg_bd (V z1) (V z2); rcases Int.lt_trichotomy (V z1) (V z2) with h | h | h; omega; rw [h, sg_self]; omega; rw [sg_gt h]; omega
      generalize sg (V z1) (V z2) = k at *
      go_wp2_with fail
      go_region_held3 (fun w' => (w'.cell? ⟨w.heap.size, 0, none⟩ = some (.bool false) ∧ w'.cell? ⟨w.heap.size, 1, none⟩ = some (.slice p1 z1.length c1)) ∧ w'.cell? ⟨w.heap.size + 1, 0, none⟩ = some (.bool true) ∧ w'.cell? ⟨w.heap.size + 1, 1, none⟩ = some (.slice p2 z2.length c2))
        (first | exact ⟨u1.held ((Below.refl _ _).drew), u2.held ((Below.refl _ _).drew)⟩ | exact ⟨u1.held (by assumption), u2.held (by assumption)⟩ | exact ⟨u1.held3 b4' (by omega), u2.held3 b4' (by omega)⟩)
        (first
          | (go_at_call 56; refine (sub_any _ _ z1 z2 _ ?_ ?_ ?_ ?_).mono ?_; exact t1.below ((Below.refl _ _).drew); exact t2.below ((Below.refl _ _).drew); omega; omega; rintro e w3 ⟨v3, z3, rfl, s3, m3, x3, l3, b3, -⟩; have b3' : Below w0.heap.size w0 w3 := (Below.refl _ _).drew.trans b3)
          | (go_at_call 31; refine (signed_any _ _ z3 _ ?_).mono ?_; exact s3; rintro e w4 ⟨s4, rfl, t4, b4⟩; have b4' : Below w0.heap.size w0 w4 := b3'.trans (b4.mono b3'.size); obtain ⟨c40, c41, f40, f41, l4⟩ := (u3.under b4').facts; obtain ⟨p4, c4, rfl⟩ := t4.shape))
      go_wp2_with fail
      refine bodyPost_ret (results_box1 rfl _ _ (w.heap.size + 1 + 1) _ _ rfl ((u3.under b4').set)) rfl ?_
      refine raw_end (neg := false) (hB.trans (b4'.mono hB.size)) (u3.under b4') (by omega) t4 m3 ?_
      rw [x3, ← HX.out, ← HY.out]
      simp only [Z, subV, if_true, if_neg Bool.false_ne_true] <;> first | omega | (split <;> omega)
  · go_enter Try.func30, Try.ntmps30
    go_wp2_with fail
    generalize ((w.alloc (.cells #[.bool true, .slice p1 z1.length c1] 24)).alloc (.cells #[.bool false, .slice p2 z2.length c2] 24)).alloc (.cells #[.bool false, .slice none 0 0] 24) = w0 at *
    obtain ⟨i0, i1, -⟩ := u1.facts
    obtain ⟨j0, j1, -⟩ := u2.facts
    refine (cmp_any _ _ z1 z2 _ t1 t2).mono ?_
    rintro e w1 ⟨rfl, hb1⟩
    replace t1 := t1.below hb1
    replace t2 := t2.below hb1
    replace u1 := u1.under hb1
    replace u2 := u2.under hb1
    replace u3 := u3.under hb1
    replace hB := hB.trans (hb1.mono hB.size)
    clear hb1 i0 i1 j0 j1
    clear w0
    rename World => w0
    obtain ⟨i0, i1, -⟩ := u1.facts
    obtain ⟨j0, j1, -⟩ := u2.facts
    by_cases hc : V z1 < V z2
    · have hs : sg (V z1) (V z2) = -1 := sg_lt hc
      rw [hs]
      go_wp2_with fail
      go_region_held3 (fun w' => (w'.cell? ⟨w.heap.size, 0, none⟩ = some (.bool true) ∧ w'.cell? ⟨w.heap.size, 1, none⟩ = some (.slice p1 z1.length c1)) ∧ w'.cell? ⟨w.heap.size + 1, 0, none⟩ = some (.bool false) ∧ w'.cell? ⟨w.heap.size + 1, 1, none⟩ = some (.slice p2 z2.length c2))
        (first | exact ⟨u1.held ((Below.refl _ _).drew), u2.held ((Below.refl _ _).drew)⟩ | exact ⟨u1.held (by assumption), u2.held (by assumption)⟩ | exact ⟨u1.held3 b4' (by omega), u2.held3 b4' (by omega)⟩)
        (first
          | (go_at_call 56; refine (sub_any _ _ z2 z1 _ ?_ ?_ ?_ ?_).mono ?_; exact t2.below ((Below.refl _ _).drew); exact t1.below ((Below.refl _ _).drew); omega; omega; rintro e w3 ⟨v3, z3, rfl, s3, m3, x3, l3, b3, -⟩; have b3' : Below w0.heap.size w0 w3 := (Below.refl _ _).drew.trans b3)
          | (go_at_call 31; refine (signed_any _ _ z3 _ ?_).mono ?_; exact s3; rintro e w4 ⟨s4, rfl, t4, b4⟩; have b4' : Below w0.heap.size w0 w4 := b3'.trans (b4.mono b3'.size); obtain ⟨c40, c41, f40, f41, l4⟩ := (u3.under b4').facts; obtain ⟨p4, c4, rfl⟩ := t4.shape))
      go_wp2_with fail
      refine bodyPost_ret (results_box1 rfl _ _ (w.heap.size + 1 + 1) _ _ rfl ((u3.under b4').set)) rfl ?_
      refine raw_end (neg := false) (hB.trans (b4'.mono hB.size)) (u3.under b4') (by omega) t4 m3 ?_
      rw [x3, ← HX.out, ← HY.out]
      simp only [Z, subV, if_true, if_neg Bool.false_ne_true] <;> first | omega | (split <;> omega)
    · have hs : (0 : Int) ≤ sg (V z1) (V z2) := by have := sg_bd (V z1) (V z2); rcases Int.lt_trichotomy (V z1) (V z2) with h | h | h; omega; rw [h, sg_self]; omega; rw [sg_gt h]; omega
      generalize sg (V z1) (V z2) = k at *
      go_wp2_with fail
      go_region_held3 (fun w' => (w'.cell? ⟨w.heap.size, 0, none⟩ = some (.bool true) ∧ w'.cell? ⟨w.heap.size, 1, none⟩ = some (.slice p1 z1.length c1)) ∧ w'.cell? ⟨w.heap.size + 1, 0, none⟩ = some (.bool false) ∧ w'.cell? ⟨w.heap.size + 1, 1, none⟩ = some (.slice p2 z2.length c2))
        (first | exact ⟨u1.held ((Below.refl _ _).drew), u2.held ((Below.refl _ _).drew)⟩ | exact ⟨u1.held (by assumption), u2.held (by assumption)⟩ | exact ⟨u1.held3 b4' (by omega), u2.held3 b4' (by omega)⟩)
        (first
          | (go_at_call 56; refine (sub_any _ _ z1 z2 _ ?_ ?_ ?_ ?_).mono ?_; exact t1.below ((Below.refl _ _).drew); exact t2.below ((Below.refl _ _).drew); omega; omega; rintro e w3 ⟨v3, z3, rfl, s3, m3, x3, l3, b3, -⟩; have b3' : Below w0.heap.size w0 w3 := (Below.refl _ _).drew.trans b3)
          | (go_at_call 31; refine (signed_any _ _ z3 _ ?_).mono ?_; exact s3; rintro e w4 ⟨s4, rfl, t4, b4⟩; have b4' : Below w0.heap.size w0 w4 := b3'.trans (b4.mono b3'.size); obtain ⟨c40, c41, f40, f41, l4⟩ := (u3.under b4').facts; obtain ⟨p4, c4, rfl⟩ := t4.shape))
      go_wp2_with fail
      refine bodyPost_ret (results_box1 rfl _ _ (w.heap.size + 1 + 1) _ _ rfl ((u3.under b4').set)) rfl ?_
      refine raw_end (neg := true) (hB.trans (b4'.mono hB.size)) (u3.under b4') (by omega) t4 m3 ?_
      rw [x3, ← HX.out, ← HY.out]
      simp only [Z, subV, if_true, if_neg Bool.false_ne_true] <;> first | omega | (split <;> omega)
  · go_enter Try.func30, Try.ntmps30
    go_wp2_with fail
    generalize ((w.alloc (.cells #[.bool true, .slice p1 z1.length c1] 24)).alloc (.cells #[.bool true, .slice p2 z2.length c2] 24)).alloc (.cells #[.bool false, .slice none 0 0] 24) = w0 at *
    obtain ⟨i0, i1, -⟩ := u1.facts
    obtain ⟨j0, j1, -⟩ := u2.facts
    go_region_held3 (fun w' => (w'.cell? ⟨w.heap.size, 0, none⟩ = some (.bool true) ∧ w'.cell? ⟨w.heap.size, 1, none⟩ = some (.slice p1 z1.length c1)) ∧ w'.cell? ⟨w.heap.size + 1, 0, none⟩ = some (.bool true) ∧ w'.cell? ⟨w.heap.size + 1, 1, none⟩ = some (.slice p2 z2.length c2))
      (first | exact ⟨u1.held ((Below.refl _ _).drew), u2.held ((Below.refl _ _).drew)⟩ | exact ⟨u1.held (by assumption), u2.held (by assumption)⟩ | exact ⟨u1.held3 b4' (by omega), u2.held3 b4' (by omega)⟩)
      (first
        | (go_at_call 55; refine (add_any _ _ z1 z2 _ ?_ ?_ ?_ ?_).mono ?_; exact t1.below ((Below.refl _ _).drew); exact t2.below ((Below.refl _ _).drew); omega; omega; rintro e w3 ⟨v3, z3, rfl, s3, m3, x3, l3, b3, -⟩; have b3' : Below w0.heap.size w0 w3 := (Below.refl _ _).drew.trans b3)
        | (go_at_call 31; refine (signed_any _ _ z3 _ ?_).mono ?_; exact s3; rintro e w4 ⟨s4, rfl, t4, b4⟩; have b4' : Below w0.heap.size w0 w4 := b3'.trans (b4.mono b3'.size); obtain ⟨c40, c41, f40, f41, l4⟩ := (u3.under b4').facts; obtain ⟨p4, c4, rfl⟩ := t4.shape))
    go_wp2_with fail
    refine bodyPost_ret (results_box1 rfl _ _ (w.heap.size + 1 + 1) _ _ rfl ((u3.under b4').set)) rfl ?_
    refine raw_end (neg := true) (hB.trans (b4'.mono hB.size)) (u3.under b4') (by omega) t4 m3 ?_
    rw [x3, ← HX.out, ← HY.out]
    simp only [Z, subV, if_true, if_neg Bool.false_ne_true] <;> first | omega | (split <;> omega)
end Go.Proofs.Ytmhcgdigccaogaa
