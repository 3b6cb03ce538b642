
/-
  term.sideBySide.
-/
import Derived.Test.YtfcdocgjmgpmkaaDoorTermSideA
import Derived.Test.YtfcdocgjmgpmkaaDoorZTermE
import Derived.Deep.Cut
import Derived.Deep.CutRange
import Derived.Deep.RegionHeld3
namespace Go.Proofs.YtfcdocgjmgpmkaaDoor
open Go.RowKit
set_option linter.unusedVariables false
set_option linter.unusedSimpArgs false
attribute [local go_sem ↓] Go.wp_at_zero Go.wp_at_succ

/-- Two terms in boxes of their own. -/
def TwoT (w : World) (k1 : Int) (n1 : Bool) (l1 : Value) (S1 : ByteArray) (N1 : Int) (c1 : Value) (k2 : Int) (n2 : Bool) (l2 : Value) (S2 : ByteArray) (N2 : Int) (c2 : Value) (s q : Value) (wc : World) : Prop :=
  ∃ g1 g2, s = .pointer (some ⟨g1, 0, none⟩) ∧ q = .pointer (some ⟨g2, 0, none⟩) ∧ Bt wc g1 k1 n1 l1 S1 N1 c1 ∧ Bt wc g2 k2 n2 l2 S2 N2 c2 ∧ Below w.heap.size w wc
theorem twoT_ab (w : World) (k1 : Int) (n1 : Bool) (l1 : Value) (S1 : ByteArray) (N1 : Int) (c1 : Value) (k2 : Int) (n2 : Bool) (l2 : Value) (S2 : ByteArray) (N2 : Int) (c2 : Value) (h1 : IsS l1) (h2 : IsS c1) (h3 : IsS l2) (h4 : IsS c2) :
    TwoT w k1 n1 l1 S1 N1 c1 k2 n2 l2 S2 N2 c2 (.pointer (some ⟨w.heap.size, 0, none⟩)) (.pointer (some ⟨w.heap.size + 1, 0, none⟩)) ((w.alloc (.cells #[.int .i64 k1, .bool n1, l1, .string S1, .int .i64 N1, c1] 27)).alloc (.cells #[.int .i64 k2, .bool n2, l2, .string S2, .int .i64 N2, c2] 27)).drew := by
  have u2 := Bt.new (w.alloc (.cells #[.int .i64 k1, .bool n1, l1, .string S1, .int .i64 N1, c1] 27)) k2 n2 l2 S2 N2 c2 h3 h4
  rw [World.size_alloc] at u2
  have u1 := (Bt.new w k1 n1 l1 S1 N1 c1 h1 h2).under ((Below.refl _ _).alloc (Nat.le_refl _) (.cells #[.int .i64 k2, .bool n2, l2, .string S2, .int .i64 N2, c2] 27))
  exact ⟨_, _, rfl, rfl, u1, u2, (((Below.refl w.heap.size w).alloc (Nat.le_refl _) _).alloc (by simp) _).drew⟩
theorem twoT_ba (w : World) (k1 : Int) (n1 : Bool) (l1 : Value) (S1 : ByteArray) (N1 : Int) (c1 : Value) (k2 : Int) (n2 : Bool) (l2 : Value) (S2 : ByteArray) (N2 : Int) (c2 : Value) (h1 : IsS l1) (h2 : IsS c1) (h3 : IsS l2) (h4 : IsS c2) :
    TwoT w k1 n1 l1 S1 N1 c1 k2 n2 l2 S2 N2 c2 (.pointer (some ⟨w.heap.size + 1, 0, none⟩)) (.pointer (some ⟨w.heap.size, 0, none⟩)) ((w.alloc (.cells #[.int .i64 k2, .bool n2, l2, .string S2, .int .i64 N2, c2] 27)).alloc (.cells #[.int .i64 k1, .bool n1, l1, .string S1, .int .i64 N1, c1] 27)).drew := by
  obtain ⟨a, b, h, k, u, v, hb⟩ := twoT_ab w k2 n2 l2 S2 N2 c2 k1 n1 l1 S1 N1 c1 h3 h4 h1 h2
  exact ⟨b, a, k, h, v, u, hb⟩
/-- A box of a pair. -/
def Bp (w : World) (g : Nat) (sa sb : Value) : Prop := w.heap[g]? = some (.cells #[sa, sb] 69 (0, 0))
theorem Bp.lt {w : World} {g : Nat} {sa sb : Value} (h : Bp w g sa sb) : g < w.heap.size := (Array.getElem?_eq_some_iff.1 h).1
theorem Bp.cells {w : World} {g : Nat} {sa sb : Value} (h : Bp w g sa sb) : w.cell? ⟨g, 0, none⟩ = some sa ∧ w.cell? ⟨g, 1, none⟩ = some sb := by
  unfold Bp at h
  constructor <;> simp [World.cell?, h]
theorem Bp.grown {w w' : World} {g : Nat} {sa sb : Value} {row : Option Nat} (h : Bp w g sa sb) (hb : w.grownBy w' row) (hne : some g ≠ row) : Bp w' g sa sb := by
  have := hb.block g h.lt hne
  unfold Bp at h ⊢
  rw [this]; exact h
/-- What waits behind the first wait: the rest of the two lists. -/
def RestP (w1 : World) (G : Tm → Prop) (qs : List Pr) (xs ys : List Tm) (s : Value) (wc : World) : Prop :=
  ∃ ps : List Pr, WaitP wc w1.heap.size s (ps.map Prod.fst) ∧ (∀ p ∈ ps, PrOk w1 G p) ∧ stA ps = xs ++ stA qs ∧ stB ps = ys ++ stB qs ∧ ps.length ≤ qs.length + 1
theorem restP_of {w1 w' : World} {G : Tm → Prop} {qs : List Pr} {xs ys : List Tm} {v : Value} {sa sb : Value} (hq : ∀ p ∈ qs, PrOk w1 G p) (ha : Ts w1 sa xs) (hb : Ts w1 sb ys) (hl : xs.length = ys.length) (g1 : ∀ t ∈ xs, G t) (g2 : ∀ t ∈ ys, G t)
    (h : WaitP w' w1.heap.size v (if xs.length = 0 then qs.map Prod.fst else qs.map Prod.fst ++ [(sa, sb)])) : RestP w1 G qs xs ys v w' := by
  by_cases h0 : xs.length = 0
  · rw [if_pos h0] at h
    have e1 : xs = [] := List.eq_nil_of_length_eq_zero h0
    have e2 : ys = [] := List.eq_nil_of_length_eq_zero (by omega)
    subst e1 e2
    exact ⟨qs, h, hq, rfl, rfl, by omega⟩
  · rw [if_neg h0] at h
    refine ⟨qs ++ [((sa, sb), (xs, ys))], by rw [List.map_append]; exact h, ?_, stA_snoc _ _, stB_snoc _ _, by simp⟩
    intro p hp
    rcases List.mem_append.1 hp with h1 | h1
    · exact hq p h1
    · simp only [List.mem_singleton] at h1
      subst h1
      exact ⟨ha, hb, hl, by simp only; omega, g1, g2⟩
theorem Bp.under {w w' : World} {g : Nat} {sa sb : Value} (h : Bp w g sa sb) (hb : Below w.heap.size w w') : Bp w' g sa sb := by
  have := hb.block g h.lt
  unfold Bp at h ⊢
  rw [this]; exact h


/-- A term's cells. -/
def tC (t : Tm) (pl : Option Addr) (cl : Nat) (pk : Option Addr) (ck : Nat) : Array Value := #[.int .i64 t.kind, .bool t.neg, .slice pl t.limbs.length cl, .string t.str, .int .i64 t.num, .slice pk t.kids.length ck]
def side1 (w : World) (A B : Array Value) : World := (((w.alloc (.cells A 27)).alloc (.cells B 27)).alloc (.cells A 27)).alloc (.cells B 27)
theorem side1_below (w : World) (A B : Array Value) : Below w.heap.size w (side1 w A B) :=
  ((((Below.refl w.heap.size w).alloc (Nat.le_refl _) _).alloc (by simp) _).alloc (by simp; omega) _).alloc (by simp; omega) _
theorem side1_size (w : World) (A B : Array Value) : (side1 w A B).heap.size = w.heap.size + 1 + 1 + 1 + 1 := by simp [side1]
theorem side_start (w : World) (G : Tm → Prop) (jd : Tm → Tm → Int) (pt : Tm → List Tm) (a b : Tm) (pl1 pk1 pl2 pk2 : Option Addr) (cl1 ck1 cl2 ck2 n : Nat) (ga : G a) (gb : G b)
    (ha : IsT w a (.agg (tC a pl1 cl1 pk1 ck1))) (hb : IsT w b (.agg (tC b pl2 cl2 pk2 ck2))) (hn : a.nodes ≤ n) (hn1 : n ≤ 1000000) :
    SbOut (side1 w (tC a pl1 cl1 pk1 ck1) (tC b pl2 cl2 pk2 ck2)) G jd pt (sbF jd pt n [a] [b]) n (.slice (some ⟨w.heap.size + 1 + 1 + 1 + 1, 0, none⟩) 1 1)
      ((side1 w (tC a pl1 cl1 pk1 ck1) (tC b pl2 cl2 pk2 ck2)).alloc (.cells #[.slice (some ⟨w.heap.size + 1 + 1, 0, none⟩) 1 1, .slice (some ⟨w.heap.size + 1 + 1 + 1, 0, none⟩) 1 1] 69)) := by
  have hB := side1_below w (tC a pl1 cl1 pk1 ck1) (tC b pl2 cl2 pk2 ck2)
  have hz := side1_size w (tC a pl1 cl1 pk1 ck1) (tC b pl2 cl2 pk2 ck2)
  refine ⟨[((.slice (some ⟨w.heap.size + 1 + 1, 0, none⟩) 1 1, .slice (some ⟨w.heap.size + 1 + 1 + 1, 0, none⟩) 1 1), ([a], [b]))], ?_, ?_, ?_, hn1, ?_, ?_⟩
  · have := World.ownsRow_lit (base := (side1 w (tC a pl1 cl1 pk1 ck1) (tC b pl2 cl2 pk2 ck2)).heap.size) (e := 69) (size := 2) (side1 w (tC a pl1 cl1 pk1 ck1) (tC b pl2 cl2 pk2 ck2)) #[.slice (some ⟨w.heap.size + 1 + 1, 0, none⟩) 1 1, .slice (some ⟨w.heap.size + 1 + 1 + 1, 0, none⟩) 1 1] 1 (Nat.le_refl _) (by decide) rfl
    unfold WaitP
    rw [← hz]
    exact this
  · intro p hp
    simp only [List.mem_singleton] at hp
    subst hp
    refine ⟨?_, ?_, rfl, by simp, fun t ht => by simp at ht; rw [ht]; exact ga, fun t ht => by simp at ht; rw [ht]; exact gb⟩
    · refine Ts.lit1 ?_ (ha.under hB)
      have := heap_alloc_new ((w.alloc (.cells (tC a pl1 cl1 pk1 ck1) 27)).alloc (.cells (tC b pl2 cl2 pk2 ck2) 27)) (.cells (tC a pl1 cl1 pk1 ck1) 27)
      rw [World.size_alloc, World.size_alloc] at this
      have h3 := ((Below.refl (w.heap.size + 1 + 1 + 1) (((w.alloc (.cells (tC a pl1 cl1 pk1 ck1) 27)).alloc (.cells (tC b pl2 cl2 pk2 ck2) 27)).alloc (.cells (tC a pl1 cl1 pk1 ck1) 27))).alloc (by simp) (.cells (tC b pl2 cl2 pk2 ck2) 27)).block (w.heap.size + 1 + 1) (by omega)
      exact h3.trans this
    · refine Ts.lit1 ?_ (hb.under hB)
      have := heap_alloc_new (((w.alloc (.cells (tC a pl1 cl1 pk1 ck1) 27)).alloc (.cells (tC b pl2 cl2 pk2 ck2) 27)).alloc (.cells (tC a pl1 cl1 pk1 ck1) 27)) (.cells (tC b pl2 cl2 pk2 ck2) 27)
      rw [World.size_alloc, World.size_alloc, World.size_alloc] at this
      exact this
  · show nodesL ([a] ++ []) ≤ n
    simp [nodesL]; omega
  · rfl
  · exact (Below.refl _ _).alloc (Nat.le_refl _) _

theorem Ts.cut1 {w : World} {b off ca : Nat} {x : Tm} {xs : List Tm} (h : Ts w (.slice (some ⟨b, off, none⟩) (x :: xs).length ca) (x :: xs)) : Ts w (.slice (if ca = 1 then some ⟨b, off, none⟩ else some ⟨b, off + 6, none⟩) xs.length (ca - 1)) xs := by
  obtain ⟨_, _, he, hc, -⟩ := h.shape
  simp only [Value.slice.injEq, true_and] at he
  obtain ⟨-, rfl⟩ := he
  simp only [List.length_cons] at hc
  by_cases h1 : ca = 1
  · subst h1
    obtain rfl : xs = [] := List.eq_nil_of_length_eq_zero (by omega)
    exact ⟨_, 0, fun _ => .bool false, rfl, ⟨Nat.le_refl _, by decide, fun e => (by cases e), fun h => absurd h (by simp)⟩, fun i h => absurd h (by simp)⟩
  · have := h.cut (q := 1) (by simp)
    rw [if_neg h1]
    simpa using this
theorem sbOut_of {w1 w' : World} {G : Tm → Prop} {jd : Tm → Tm → Int} {pt : Tm → List Tm} {ps qs : List Pr} {x y : Tm} {xs ys : List Tm} {R : Int} {gk : Nat} {v : Value} (h : RestP w1 G ps (pt x) (pt y) v w') (e1 : stA ps = xs ++ stA qs) (e2 : stB ps = ys ++ stB qs)
    (hr : sbF jd pt (gk - 1) (pt x ++ (xs ++ stA qs)) (pt y ++ (ys ++ stB qs)) = R) (hpt : nodesL (pt x) < x.nodes) (hrem : nodesL (x :: xs) + nodesL (stA qs) ≤ gk) (hgk : gk ≤ 1000000) (hB : Below w1.heap.size w1 w') : SbOut w1 G jd pt R (gk - 1) v w' := by
  obtain ⟨rs, hW, hT, f1, f2, -⟩ := h
  refine ⟨rs, hW, hT, ?_, by omega, ?_, hB⟩
  · rw [f1, e1, nodesL_app, nodesL_app]
    simp only [nodesL] at hrem
    omega
  · rw [f1, f2, e1, e2]; exact hr
end Go.Proofs.YtfcdocgjmgpmkaaDoor
