/-
  The document's own answers of layer 2 (relictref02): Cmp.
-/
import Derived.Test.YtmhcgdigccaogaaNumRef
import Derived.Deep.Cut
namespace Go.Proofs.Ytmhcgdigccaogaa
open Go.RowKit
set_option linter.unusedVariables false
attribute [local go_sem ↓] Go.wp_at_zero Go.wp_at_succ

theorem balloc {w w' : World} (h : Below w.heap.size w w') (o : Obj) : Below w.heap.size w (w'.alloc o) := h.alloc h.size o
theorem bcall {w w' w'' : World} (h : Below w.heap.size w w') (b : Below w'.heap.size w' w'') : Below w.heap.size w w'' := h.trans (b.mono h.size)
theorem bset {w w' : World} {g : Nat} (h : Below w.heap.size w w') (hg : w.heap.size ≤ g) (n : Bool) (s : Value) : Below w.heap.size w ((w'.setCell ⟨g, 0, none⟩ (.bool n)).setCell ⟨g, 1, none⟩ s) := h.trans ((setBx_but w' g n s).below hg)
theorem bxalloc {w : World} {g : Nat} {n : Bool} {s : Value} (h : Bx w g n s) (o : Obj) : Bx (w.alloc o) g n s := h.under ((Below.refl _ _).alloc (Nat.le_refl _) o)
theorem Bx.new' {w : World} {g : Nat} {neg : Bool} {p : Option Addr} {n c : Nat} (h : g = w.heap.size) : Bx (w.alloc (.cells #[.bool neg, .slice p n c] 24)) g neg (.slice p n c) := by
  subst h; exact Bx.new w neg p n c
theorem bxdrew {w : World} {g : Nat} {n : Bool} {s : Value} (h : Bx w g n s) : Bx w.drew g n s := h
theorem two_held {w w' : World} {g h : Nat} {m n : Bool} {s t : Value} (xa : Bx w g m s) (xb : Bx w h n t) (hb : Below w.heap.size w w') :
    (w'.cell? ⟨g, 0, none⟩ = some (.bool m) ∧ w'.cell? ⟨g, 1, none⟩ = some s) ∧ (w'.cell? ⟨h, 0, none⟩ = some (.bool n) ∧ w'.cell? ⟨h, 1, none⟩ = some t) := ⟨xa.held hb, xb.held hb⟩

/-- Two variables, laid and stored into in whatever order. -/
def Pair (w : World) (x y : Int) (s q : Value) (wc : World) : Prop := Var wc s x ∧ Var wc q y ∧ Below w.heap.size w wc

section
variable {w w2 : World} {x y : Int} {n1 n2 : Bool} {p1 p2 : Option Addr} {z1 z2 : List Int} {q1 q2 gA gB : Nat}
theorem pair1 (hk : Below w.heap.size w w2) (t1 : Sl w2 (.slice p1 z1.length q1) z1) (g1 : Good n1 z1) (e1 : Z n1 (V z1) = x) (t2 : Sl w2 (.slice p2 z2.length q2) z2) (g2 : Good n2 z2) (e2 : Z n2 (V z2) = y) :
    Pair w x y (.pointer (some ⟨w2.heap.size, 0, none⟩)) (.pointer (some ⟨w2.heap.size + 1, 0, none⟩)) ((w2.alloc (.cells #[.bool n1, .slice p1 z1.length q1] 24)).alloc (.cells #[.bool n2, .slice p2 z2.length q2] 24)) := by
  have b1 := (Below.refl w2.heap.size w2).alloc (Nat.le_refl _) (.cells #[.bool n1, .slice p1 z1.length q1] 24)
  have v2 := Var.new (t2.below b1) g2 e2
  rw [World.size_alloc] at v2
  exact ⟨(Var.new t1 g1 e1).below ((Below.refl _ _).alloc (Nat.le_refl _) _), v2, balloc (balloc hk _) _⟩
theorem pair2 (hk : Below w.heap.size w w2) (t1 : Sl w2 (.slice p1 z1.length q1) z1) (g1 : Good n1 z1) (e1 : Z n1 (V z1) = x) (t2 : Sl w2 (.slice p2 z2.length q2) z2) (g2 : Good n2 z2) (e2 : Z n2 (V z2) = y) :
    Pair w x y (.pointer (some ⟨w2.heap.size + 1, 0, none⟩)) (.pointer (some ⟨w2.heap.size, 0, none⟩)) ((w2.alloc (.cells #[.bool n2, .slice p2 z2.length q2] 24)).alloc (.cells #[.bool n1, .slice p1 z1.length q1] 24)) :=
  have h := pair1 hk t2 g2 e2 t1 g1 e1
  ⟨h.2.1, h.1, h.2.2⟩
theorem setBx_size (w : World) (g : Nat) (n : Bool) (s : Value) : (setBx w g n s).heap.size = w.heap.size := by simp [setBx]
theorem pair3 (hk : Below w.heap.size w w2) (uA : Bx w2 gA false (.slice none 0 0)) (hA : w.heap.size ≤ gA) (t1 : Sl w2 (.slice p1 z1.length q1) z1) (g1 : Good n1 z1) (e1 : Z n1 (V z1) = x) (t2 : Sl w2 (.slice p2 z2.length q2) z2) (g2 : Good n2 z2) (e2 : Z n2 (V z2) = y) :
    Pair w x y (.pointer (some ⟨gA, 0, none⟩)) (.pointer (some ⟨w2.heap.size, 0, none⟩)) (((w2.setCell ⟨gA, 0, none⟩ (.bool n1)).setCell ⟨gA, 1, none⟩ (.slice p1 z1.length q1)).alloc (.cells #[.bool n2, .slice p2 z2.length q2] 24)) := by
  have bA := setBx_but w2 gA n1 (.slice p1 z1.length q1)
  have v2 := Var.new (t2.box uA bA) g2 e2
  rw [setBx_size] at v2
  exact ⟨(Var.put uA t1 g1 e1).below ((Below.refl _ _).alloc (Nat.le_refl _) _), v2, balloc (hk.trans (bA.below hA)) _⟩
theorem pair4 (hk : Below w.heap.size w w2) (uA : Bx w2 gA false (.slice none 0 0)) (hA : w.heap.size ≤ gA) (t1 : Sl w2 (.slice p1 z1.length q1) z1) (g1 : Good n1 z1) (e1 : Z n1 (V z1) = x) (t2 : Sl w2 (.slice p2 z2.length q2) z2) (g2 : Good n2 z2) (e2 : Z n2 (V z2) = y) :
    Pair w x y (.pointer (some ⟨w2.heap.size, 0, none⟩)) (.pointer (some ⟨gA, 0, none⟩)) (((w2.setCell ⟨gA, 0, none⟩ (.bool n2)).setCell ⟨gA, 1, none⟩ (.slice p2 z2.length q2)).alloc (.cells #[.bool n1, .slice p1 z1.length q1] 24)) :=
  have h := pair3 hk uA hA t2 g2 e2 t1 g1 e1
  ⟨h.2.1, h.1, h.2.2⟩
theorem pair5 (hk : Below w.heap.size w w2) (uA : Bx w2 gA false (.slice none 0 0)) (uB : Bx w2 gB false (.slice none 0 0)) (hne : gA ≠ gB) (hA : w.heap.size ≤ gA) (hB : w.heap.size ≤ gB) (t1 : Sl w2 (.slice p1 z1.length q1) z1) (g1 : Good n1 z1) (e1 : Z n1 (V z1) = x) (t2 : Sl w2 (.slice p2 z2.length q2) z2) (g2 : Good n2 z2) (e2 : Z n2 (V z2) = y) :
    Pair w x y (.pointer (some ⟨gA, 0, none⟩)) (.pointer (some ⟨gB, 0, none⟩)) ((((w2.setCell ⟨gA, 0, none⟩ (.bool n1)).setCell ⟨gA, 1, none⟩ (.slice p1 z1.length q1)).setCell ⟨gB, 0, none⟩ (.bool n2)).setCell ⟨gB, 1, none⟩ (.slice p2 z2.length q2)) := by
  have bA := setBx_but w2 gA n1 (.slice p1 z1.length q1)
  have bB := setBx_but (setBx w2 gA n1 (.slice p1 z1.length q1)) gB n2 (.slice p2 z2.length q2)
  have uB' := uB.other bA hne.symm
  exact ⟨(Var.put uA t1 g1 e1).keep uB' bB (ptr_ne hne), Var.put uB' (t2.box uA bA) g2 e2, (hk.trans (bA.below hA)).trans (bB.below hB)⟩
end

set_option maxHeartbeats 4000000 in
theorem rncmp_any (va vb : Value) (x y : Int) (w : World) (ha : Nx w va x) (hb : Nx w vb y) : Calls Try.prog 16 #[va, vb] w fun e w' => CmpPost w x y e w' := by
  have ha0 := ha
  have hb0 := hb
  obtain ⟨na, za, ⟨sa, rfl, hsa⟩, -⟩ := ha
  obtain ⟨nb, zb, ⟨sb, rfl, hsb⟩, -⟩ := hb
  obtain ⟨pa, ca, rfl⟩ := hsa.shape
  obtain ⟨pb, cb, rfl⟩ := hsb.shape
  obtain ⟨hB0, xa, xb⟩ := boxes2' w na nb pa pb za.length ca zb.length cb
  clear hsa hsb
  go_enter Try.func16, Try.ntmps16
  go_wp2_with fail
  replace ha0 := ha0.below hB0
  replace hb0 := hb0.below hB0
  generalize hw0 : (w.alloc (.cells #[.bool na, .slice pa za.length ca] 24)).alloc (.cells #[.bool nb, .slice pb zb.length cb] 24) = w0 at *
  clear hw0
  have notok : Tok 0 := trivial
  go_cut [5, 6] from 7 (fun s q wc => Pair w0 x y s q wc)
  case first =>
    go_region_held3 (fun w' => (w'.cell? ⟨w.heap.size, 0, none⟩ = some (.bool na) ∧ w'.cell? ⟨w.heap.size, 1, none⟩ = some (.slice pa za.length ca)) ∧ (w'.cell? ⟨w.heap.size + 1, 0, none⟩ = some (.bool nb) ∧ w'.cell? ⟨w.heap.size + 1, 1, none⟩ = some (.slice pb zb.length cb)))
      ((refine two_held xa xb ?_; (repeat (first | exact hk2 | exact hk1 | exact (Below.refl _ _).drew | exact Below.refl _ _ | refine Below.drew ?_ | refine balloc ?_ _ | refine bset ?_ (by omega) _ _)); done))
      (first
        | ((have := notok; go_at_call 36; refine (ris_any _ x _ (ha0.below (by first | exact (Below.refl _ _).drew | exact (balloc (Below.refl _ _) _).drew | exact (balloc (balloc (Below.refl _ _) _) _).drew))).mono ?_; rintro e x1 ⟨v1, rfl, i1, b1⟩; clear notok; have tok1 : Tok 1 := trivial; have hk1 : Below w0.heap.size w0 x1 := (by first | exact bcall (Below.refl _ _).drew b1 | exact bcall (balloc (Below.refl _ _) _).drew b1 | exact bcall (balloc (balloc (Below.refl _ _) _) _).drew b1); have s1 := hk1.size; (first | (have y1a : Bx x1 w0.heap.size false (.slice none 0 0) := (bxdrew (bxalloc (Bx.new w0 false none 0 0) (.cells #[.bool false, .slice none 0 0] 24))).under b1; have z1a : Bx x1 (w0.heap.size + 1) false (.slice none 0 0) := (bxdrew (Bx.new' (w := w0.alloc (.cells #[.bool false, .slice none 0 0] 24)) (by simp))).under b1; obtain ⟨y1a0, y1a1, y1a2, y1a3, y1a4⟩ := y1a.facts; obtain ⟨z1a0, z1a1, z1a2, z1a3, z1a4⟩ := z1a.facts) | (have y1a : Bx x1 w0.heap.size false (.slice none 0 0) := (bxdrew (Bx.new w0 false none 0 0)).under b1; obtain ⟨y1a0, y1a1, y1a2, y1a3, y1a4⟩ := y1a.facts) | skip); clear b1))
        | ((have := tok1; go_at_call 36; refine (ris_any _ y _ (hb0.below (by first | exact hk1 | exact balloc hk1 _ | exact balloc (balloc hk1 _) _))).mono ?_; rintro e x2 ⟨v2, rfl, i2, b2⟩; clear tok1; have hk12 : Below x1.heap.size x1 x2 := (by first | exact bcall (Below.refl _ _) b2 | exact bcall (balloc (Below.refl _ _) _) b2 | exact bcall (balloc (balloc (Below.refl _ _) _) _) b2); have hk2 : Below w0.heap.size w0 x2 := bcall hk1 hk12; have s2 := hk12.size; replace i1 := i1.below hk12; obtain ⟨n1, p1, z1, q1, rfl, t1, g1, e1⟩ := i1.open; obtain ⟨n2, p2, z2, q2, rfl, t2, g2, e2⟩ := i2.open; (try (have y2a := y1a.under hk12; obtain ⟨y2a0, y2a1, y2a2, y2a3, y2a4⟩ := y2a.facts)); (try (have z2a := z1a.under hk12; obtain ⟨z2a0, z2a1, z2a2, z2a3, z2a4⟩ := z2a.facts)); (first | (have y2b : Bx x2 x1.heap.size false (.slice none 0 0) := (bxalloc (Bx.new x1 false none 0 0) (.cells #[.bool false, .slice none 0 0] 24)).under b2; have z2b : Bx x2 (x1.heap.size + 1) false (.slice none 0 0) := (Bx.new' (w := x1.alloc (.cells #[.bool false, .slice none 0 0] 24)) (by simp)).under b2; obtain ⟨y2b0, y2b1, y2b2, y2b3, y2b4⟩ := y2b.facts; obtain ⟨z2b0, z2b1, z2b2, z2b3, z2b4⟩ := z2b.facts) | (have y2b : Bx x2 x1.heap.size false (.slice none 0 0) := (Bx.new x1 false none 0 0).under b2; obtain ⟨y2b0, y2b1, y2b2, y2b3, y2b4⟩ := y2b.facts) | skip); clear b2 i1 i2)))
    all_goals
      go_wp2_with fail
      go_meet
      case rel => first
        | (with_reducible refine pair1 hk2 t1 g1 e1 t2 g2 e2)
        | (with_reducible refine pair2 hk2 t1 g1 e1 t2 g2 e2)
        | ((with_reducible refine pair3 hk2 ?_ ?_ t1 g1 e1 t2 g2 e2) <;> first | assumption | omega)
        | ((with_reducible refine pair4 hk2 ?_ ?_ t1 g1 e1 t2 g2 e2) <;> first | assumption | omega)
        | ((with_reducible refine pair5 hk2 ?_ ?_ ?_ ?_ ?_ t1 g1 e1 t2 g2 e2) <;> first | assumption | omega)
  case rest =>
    obtain ⟨⟨gp, n1, p1, z1, c1, rfl, u1, t1, hg1, hx⟩, ⟨gq, n2, p2, z2, c2, rfl, u2, t2, hg2, hy⟩, hB⟩ := hcut
    replace hB := hB0.trans (hB.mono hB0.size)
    clear ha0 hb0 xa xb hB0
    obtain ⟨i0, i1, -⟩ := u1.facts
    obtain ⟨j0, j1, -⟩ := u2.facts
    have s1 := Z_pos hg1 t1.ok
    have s2 := Z_pos hg2 t2.ok
    have HX : Hid (Z n1 (V z1) = x) := hx
    have HY : Hid (Z n2 (V z2) = y) := hy
    have l1 := hg1.1
    have l2 := hg2.1
    clear hg1 hg2 hx hy
    cases n1 <;> cases n2
    · clear s1 s2
      go_wp2_with fail
      refine (rcmp_any _ _ z1 z2 _ t1 t2 (by omega) (by omega)).mono ?_
      rintro e w3 ⟨rfl, hw3⟩
      subst hw3
      go_wp2_with fail
      go_ret
      exact ⟨by rw [← HX.out, ← HY.out]; rfl, hB⟩
    · have e : Hid (sg x y = 1) := sg_gt (by have := s1.2 rfl; have := s2.1 rfl; rw [HX.out] at *; rw [HY.out] at *; omega)
      clear s1 s2
      go_wp2_with fail
      go_ret
      exact ⟨by rw [e.out]; rfl, hB⟩
    · have e : Hid (sg x y = -1) := sg_lt (by have := s1.1 rfl; have := s2.2 rfl; rw [HX.out] at *; rw [HY.out] at *; omega)
      clear s1 s2
      go_wp2_with fail
      go_ret
      exact ⟨by rw [e.out]; rfl, hB⟩
    · clear s1 s2
      go_wp2_with fail
      refine (rcmp_any _ _ z2 z1 _ t2 t1 (by omega) (by omega)).mono ?_
      rintro e w3 ⟨rfl, hw3⟩
      subst hw3
      go_wp2_with fail
      go_ret
      refine ⟨?_, hB⟩
      rw [← HX.out, ← HY.out]
      simp only [Z, if_true]
      rw [sg_neg]; rfl
end Go.Proofs.Ytmhcgdigccaogaa
