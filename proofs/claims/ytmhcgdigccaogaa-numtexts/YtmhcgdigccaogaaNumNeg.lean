/-
  num.Neg, num.Of.
-/
import Derived.Test.YtmhcgdigccaogaaNumBase
namespace Go.Proofs.Ytmhcgdigccaogaa
open Go.RowKit
set_option linter.unusedVariables false

set_option maxHeartbeats 2000000 in
theorem neg_any (v : Value) (x : Int) (w : World) (h : Nx w v x) : Calls Try.prog 19 #[v] w fun e w' => NPost w (-x) e w' := by
  have h0 := h
  obtain ⟨neg, zs, ⟨s, rfl, hs⟩, hv⟩ := h
  obtain ⟨p, c, rfl⟩ := hs.shape
  obtain ⟨hb1, x0, x1⟩ := boxes1 w neg p zs.length c
  have h1 := h0.below hb1
  clear h0
  go_enter Try.func19, Try.ntmps19
  go_wp2_with fail
  refine (taken_any _ x _ h1).mono ?_
  rintro e w1 ⟨v1, rfl, ⟨n1, z1, ⟨s1, rfl, t1⟩, hg1, hx1⟩, hb2⟩
  obtain ⟨p1, c1, rfl⟩ := t1.shape
  have y0 := x0.below hb2 (by simp; omega)
  have y1 := x1.below hb2 (by simp)
  have hbw := hb1.trans (hb2.mono (by simp; omega))
  have hx : Hid (Z n1 (V z1) = x) := hx1
  have hl1 : z1.length ≤ 12 := hg1.1
  clear hb1 hb2 x0 x1 hv hs h1 hg1 hx1
  have facts := And.intro y0.facts y1.facts
  obtain ⟨⟨a0, a1, f0, f1, l0⟩, d0, d1, g0, g1, l1⟩ := facts
  go_wp2_with fail
  rw [setBx_eq]
  have hbut := setBx_but w1 w.heap.size n1 (.slice p1 z1.length c1)
  have u0 := y0.set (neg' := n1) (p := p1) (n := z1.length) (c := c1)
  have u1 := y1.other hbut (by omega)
  replace t1 := t1.box y0 hbut
  replace hbw := hbw.trans (hbut.below (Nat.le_refl _))
  clear a0 a1 f0 f1 l0 d0 d1 g0 g1 l1 y0 y1 hbut
  generalize setBx w1 w.heap.size n1 (.slice p1 z1.length c1) = w2 at *
  go_region_held3 (fun w' => w'.cell? ⟨w.heap.size, 0, none⟩ = some (.bool n1) ∧ w'.cell? ⟨w.heap.size, 1, none⟩ = some (.slice p1 z1.length c1))
    (first | exact u0.held ((Below.refl _ _).drew) | exact u0.held (by assumption) | go_keep)
    (first
      | (go_at_call 48; refine (norm_any _ z1 _ ?_ ?_).mono ?_; exact t1.below ((Below.refl _ _).drew); omega; intro e w3 h3; obtain ⟨v3, z3, rfl, s3, m3, x3, l3, b3, -⟩ := h3.num (by omega); have b3' : Below w2.heap.size w2 w3 := (Below.refl _ _).drew.trans b3; clear h3)
      | (go_at_call 31; refine (signed_any _ _ z3 _ ?_).mono ?_; exact s3; rintro e w4 ⟨s4, rfl, t4, b4⟩; have b4' : Below w2.heap.size w2 w4 := b3'.trans (b4.mono b3'.size); obtain ⟨c40, c41, f40, f41, l4⟩ := (u1.under b4').facts; obtain ⟨p4, c4, rfl⟩ := t4.shape))
  go_wp2_with fail
  refine bodyPost_ret (results_box1 rfl _ _ (w.heap.size + 1) _ _ rfl ((u1.under b4').set)) rfl ?_
  have e := sg_end (neg := !n1) (hbw.trans (b4'.mono hbw.size)) (u1.under b4') (by omega) t4 m3 (by omega)
  rw [Z_not, x3, hx.out] at e
  exact e

theorem abs_Z (n : Bool) {zs : List Int} (h : Ok zs) : ((Z n (V zs)).natAbs : Int) = V zs := by
  have := V_nonneg h
  cases n <;> simp [Z] <;> omega

theorem row_lit2 (w : World) (y z : Int) : Row (w.alloc (.cells #[.int .u32 y, .int .u32 z] 53)) w.heap.size [y, z] := by
  unfold Row
  exact heap_alloc_new w _
theorem sl_lit2 (w : World) (y z : Int) (h0 : 0 ≤ y) (h1 : y < 4294967296) (h2 : 0 ≤ z) (h3 : z < 4294967296) : Sl (w.alloc (.cells #[.int .u32 y, .int .u32 z] 53)) (.slice (some ⟨w.heap.size, 0, none⟩) 2 2) [y, z] :=
  (row_lit2 w y z).all (by intro q hq; simp at hq; omega) (by simp)

/-- The result's box, and a list of two behind it. -/
theorem box_lit (w : World) (y : Int) : Below w.heap.size w ((w.alloc (.cells #[.bool false, .slice none 0 0] 24)).alloc (.cells #[.int .u32 (y % 4294967296), .int .u32 (y / 4294967296)] 53)) ∧
    Bx ((w.alloc (.cells #[.bool false, .slice none 0 0] 24)).alloc (.cells #[.int .u32 (y % 4294967296), .int .u32 (y / 4294967296)] 53)) w.heap.size false (.slice none 0 0) ∧ True :=
  ⟨((Below.refl w.heap.size w).alloc (Nat.le_refl _) _).alloc (by simp) _, (Bx.new w false none 0 0).below ((Below.refl _ _).alloc (Nat.le_refl _) _) (by simp), trivial⟩

set_option maxHeartbeats 2000000 in
theorem of_any (x : Int) (w : World) (h0 : -9223372036854775808 ≤ x) (h1 : x ≤ 9223372036854775807) : Calls Try.prog 17 #[.int .i64 x] w fun e w' => NPost w x e w' := by
  by_cases hn : x < 0
  · obtain ⟨y, hy⟩ : ∃ y, y = -x := ⟨_, rfl⟩
    have hw : IntKind.u64.wrap (-IntKind.u64.wrap x) = y := by rw [IntKind.wrap_u64, IntKind.wrap_u64]; omega
    have hy0 : 0 ≤ y := by omega
    have hy1 : y < 18446744073709551616 := by omega
    have HY : Hid (y = -x) := hy
    clear hy
    obtain ⟨b0, x1, q1⟩ := box_lit w y
    have sl := sl_lit2 (w.alloc (.cells #[.bool false, .slice none 0 0] 24)) (y % 4294967296) (y / 4294967296) (by omega) (by omega) (by omega) (by omega)
    rw [World.size_alloc] at sl
    go_enter Try.func17, Try.ntmps17
    go_wp2_with fail
    refine (norm_any _ [y % 4294967296, y / 4294967296] _ sl (by simp)).mono ?_
    intro e w1 h1
    obtain ⟨v1, z1, rfl, s1, m1, v1', l1, b1, -⟩ := h1.num (by simp)
    have hV : Hid (V z1 = y) := by
      show V z1 = y
      rw [v1']; simp only [V]; omega
    have l1' : z1.length ≤ 2 := l1
    have u1 := x1.under b1
    have hbw := b0.trans (b1.mono b0.size)
    clear h1 l1 v1' sl b0 x1 q1 b1
    go_wp2_with fail
    refine (signed_any _ _ z1 _ s1).mono ?_
    rintro e w2 ⟨s2, rfl, t2, b2⟩
    obtain ⟨p2, c2, rfl⟩ := t2.shape
    replace u1 := u1.under b2
    replace hbw := hbw.trans (b2.mono hbw.size)
    obtain ⟨d0, d1, g0, g1, l1⟩ := u1.facts
    go_wp2_with fail
    refine bodyPost_ret (results_box1 rfl _ _ w.heap.size _ _ rfl u1.set) rfl ?_
    have e := sg_end (neg := true) hbw u1 (Nat.le_refl _) t2 m1 (by omega)
    rw [hV.out] at e
    rw [show Z true y = x by simp only [Z]; rw [HY.out]; simp] at e
    exact e
  · have hx0 : 0 ≤ x := by omega
    obtain ⟨b0, x1, q1⟩ := box_lit w x
    have sl := sl_lit2 (w.alloc (.cells #[.bool false, .slice none 0 0] 24)) (x % 4294967296) (x / 4294967296) (by omega) (by omega) (by omega) (by omega)
    rw [World.size_alloc] at sl
    go_enter Try.func17, Try.ntmps17
    go_wp2_with fail
    refine (norm_any _ [x % 4294967296, x / 4294967296] _ sl (by simp)).mono ?_
    intro e w1 h1
    obtain ⟨v1, z1, rfl, s1, m1, v1', l1, b1, -⟩ := h1.num (by simp)
    have hV : Hid (V z1 = x) := by
      show V z1 = x
      rw [v1']; simp only [V]; omega
    have l1' : z1.length ≤ 2 := l1
    have u1 := x1.under b1
    have hbw := b0.trans (b1.mono b0.size)
    clear h1 l1 v1' sl b0 x1 q1 b1
    go_wp2_with fail
    refine (signed_any _ _ z1 _ s1).mono ?_
    rintro e w2 ⟨s2, rfl, t2, b2⟩
    obtain ⟨p2, c2, rfl⟩ := t2.shape
    replace u1 := u1.under b2
    replace hbw := hbw.trans (b2.mono hbw.size)
    obtain ⟨d0, d1, g0, g1, l1⟩ := u1.facts
    go_wp2_with fail
    refine bodyPost_ret (results_box1 rfl _ _ w.heap.size _ _ rfl u1.set) rfl ?_
    have e := sg_end (neg := false) hbw u1 (Nat.le_refl _) t2 m1 (by omega)
    rw [hV.out] at e
    exact e
end Go.Proofs.Ytmhcgdigccaogaa
